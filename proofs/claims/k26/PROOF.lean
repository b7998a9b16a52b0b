import PyProof.Rows.All
import KE.KItem
import KE.KRevIter
import KE.IntBitsLaws
import PySem.Challenge.RW_skylanes_k26_papers_of_partings
set_option Elab.async false
set_option linter.all false
set_option maxRecDepth 100000
set_option maxHeartbeats 0
abbrev km:=@List
abbrev kj:=PySem.Value
abbrev ki:=PySem.Shared
abbrev kf:=PySem.Addr
abbrev ke:=@Option
abbrev kd:=PySem.Expr
abbrev kc:=Bool
abbrev gn:=PySem.Program
abbrev fe:=PySem.World
abbrev da:=PySem.Heap
abbrev Wf:=PySem.Around
abbrev AAX:=@PySem.wpAny_bind
abbrev AAY:=PySem.W.Frag
abbrev AAZ:=@PySem.wpAny_pure
abbrev AAa:=@if_neg
abbrev AAb:=@if_pos
abbrev AAc:=@List.mem_cons
abbrev AAd:=@PySem.Heap.lt_size
abbrev AAe:=@PySem.Heap.get?_push_of_some
abbrev AAf:=@Nat.le_refl
abbrev AAg:=@List.pairwise_cons
abbrev AAh:=@Nat.ne_of_lt
abbrev AAi:=@List.map_cons
abbrev AAj:=@PySem.Heap.get?_push_size
abbrev AAk:=@List.length_map
abbrev AAl:=@List.mem_map
abbrev AAm:=@decide_eq_false
abbrev AAn:=@List.mem_append
abbrev AAo:=@PySem.wpAny_field
abbrev AAp:=@List.size_toArray
abbrev AAq:=@List.not_mem_nil
abbrev AAr:=@or_false
abbrev AAs:=@Bool.false_ne_true
abbrev AAt:=@decide_eq_true
abbrev AAu:=@List.map_append
abbrev AAv:=@PySem.PassesOwn.never
abbrev AAw:=@Option.some.inj
abbrev AAx:=@PyProof.Rows.boot_tuple
abbrev AAy:=@List.mem_append_right
abbrev AAz:=@List.length_cons
abbrev AA0:=@Nat.lt_of_lt_of_le
abbrev AA1:=@Nat.le_trans
abbrev AA4:=@PySem.boot_len
abbrev ABC:=@List.getElem?_eq_some_iff
abbrev ABD:=@List.getElem?_eq_getElem
abbrev ABE:=@if_false
abbrev ABF:=@PySem.wpAny_of_eq
abbrev ABG:=@PySem.isSubtype_type
abbrev ABH:=@Nat.zero_le
abbrev ABI:=@List.getElem?_map
abbrev ABJ:=@PySem.wpAny_call_entry
abbrev ABK:=@Nat.ne_of_gt
abbrev ABL:=@List.getElem?_set_ne
abbrev ABM:=@PySem.wpAny_newObj_type
abbrev ABN:=@List.mem_of_getElem?
abbrev ABO:=@Bool.false_eq_true
abbrev ABP:=@PySem.wpAny_seqItems
abbrev ABQ:=@List.getElem?_append_left
abbrev ABR:=@List.length_append
abbrev ABS:=@Bool.and_eq_true
abbrev ABT:=@PySem.wpAny_rule
abbrev ABU:=@if_true
abbrev ABV:=@PySem.wpAny_holding
abbrev ABW:=@Ne.symm
abbrev ABY:=@List.nil_append
abbrev ABZ:=@List.mem_singleton
abbrev ABa:=@PySem.wpAny_mono
abbrev ABb:=@PySem.W.mg_none_of
abbrev ABc:=@PySem.wpAny_specialOf
abbrev ABd:=@PySem.Heap.size_push
abbrev ABe:=@PySem.wpAny_callSpecial?_slot
abbrev ABf:=@List.map_map
abbrev ABg:=@List.any_cons
abbrev ABh:=@List.getElem?_append_right
abbrev ABi:=@List.all_eq_true
abbrev ABj:=@Nat.lt_of_le_of_lt
abbrev ABk:=@List.filter_cons
abbrev ABl:=@PyProof.Rows.boot_isinstance
abbrev ABn:=@List.mem_cons_of_mem
abbrev ABo:=@List.mem_filter
abbrev ABp:=@PySem.wpAny_standAt
abbrev ABq:=@PySem.Heap.get?_update_self
abbrev ABr:=@PySem.wpAny_setField_rec
abbrev ABs:=@PySem.wpAny_attempt
abbrev ABv:=@Rat.num_divInt_den
abbrev ABw:=@of_decide_eq_true
abbrev ABx:=@List.mem_of_getLast?
abbrev ABy:=@PySem.wpAny_isInstance
abbrev ABz:=@Nat.lt_irrefl
abbrev ACN:=@PySem.Calls.spliced_cons
abbrev ACO:=@of_decide_eq_false
abbrev ACP:=@Nat.le_of_ble_eq_true
abbrev ACQ:=@List.foldl_cons
abbrev ACR:=@Rat.intCast_lt_intCast
abbrev ACS:=@Bool.not_true
abbrev ACT:=@PySem.wpAny_truthy_bool
abbrev ACU:=@PyProof.Rows.callWith_type1
abbrev ACV:=@List.length_replicate
abbrev ACW:=@PyProof.Rows.slot_tuple_getitem
abbrev ACX:=@List.length_filter_le
abbrev ACY:=@PySem.F.slot_list_append
abbrev ACZ:=@PySem.F.type_list_append
abbrev ACa:=@Bool.eq_iff_iff
abbrev ACb:=@List.append_nil
abbrev ACc:=@List.of_mem_zip
abbrev ACd:=@List.getElem?_replicate
abbrev ACe:=@PySem.wpAny_setField
abbrev ACf:=@PySem.Heap.SameBut.update
abbrev ACg:=@PySem.F.slot_zip_next
abbrev ACh:=@List.map_drop
abbrev ACi:=@List.find?_cons
abbrev ACj:=@PyProof.Rows.boot_abs
abbrev ACk:=@PyProof.Rows.boot_int
abbrev ACl:=@PyProof.Rows.boot_list
abbrev ACm:=@Array.length_toList
abbrev ACn:=@List.mem_cons_self
abbrev ACo:=@PySem.wpAny_passesOwn
abbrev ACp:=@PySem.Calls.spliced_nil
abbrev ACq:=@List.length_take
abbrev ACr:=@PySem.wpAny_typeOf
abbrev ACs:=@PySem.Heap.get?_update_other
abbrev ACt:=@Nat.lt_trans
abbrev ACu:=@Int.fdiv_eq_ediv_of_nonneg
abbrev ACv:=@PySem.Obj.data_mapFields
abbrev ACw:=@PySem.wpAny_onRaise
abbrev ACx:=@List.drop_eq_getElem_cons
abbrev ACy:=@List.map_congr_left
abbrev ACz:=@List.set_cons_succ
abbrev AC0:=@PySem.typeLookup_type
abbrev AC1:=@PySem.builtinLookup_eq_fast
abbrev AC2:=@Bool.or_eq_true
abbrev AC3:=@decide_eq_true_iff
abbrev AC4:=@List.mem_flatMap
abbrev AC5:=@Rat.intCast_le_intCast
abbrev AC6:=@List.any_eq_false
abbrev AC7:=@Int.toNat_natCast
abbrev AC8:=@Prod.ext
abbrev AC9:=@List.lookup_cons
abbrev ADA:=@List.forIn_cons
abbrev ADB:=@PySem.wpAny_letGo
abbrev ADC:=@Int.natAbs_mul
abbrev ADD:=@Nat.gcd_comm
abbrev ADE:=@Nat.gcd_pos_of_pos_right
abbrev ADF:=@List.map_take
abbrev ADG:=@List.getElem?_drop
abbrev ADH:=@List.getLast?_eq_some_getLast
abbrev ADI:=@List.getLast?_cons_cons
abbrev ADJ:=@Option.map_eq_some_iff
abbrev ADK:=@Rat.div_lt_iff
abbrev ADL:=@Rat.not_lt
abbrev ADM:=@Rat.mul_le_mul_of_nonneg_left
abbrev ADN:=@Rat.le_refl
abbrev ADO:=@List.mem_of_mem_take
abbrev ADP:=@List.mem_of_mem_drop
abbrev ADQ:=@List.set_cons_zero
abbrev ADR:=@PySem.Paired.length
abbrev ADS:=@Int.fmod_eq_emod_of_nonneg
abbrev ADT:=@PySem.codeAny_mono
abbrev ADU:=@PySem.mem_of_lookup
abbrev ADV:=@List.length_drop
abbrev ADW:=@List.map_nil
abbrev ADX:=@List.take_of_length_le
abbrev ADY:=@PySem.Obj.isFreed_of_fields
abbrev ADZ:=@List.forIn_nil
abbrev ADa:=@PySem.wpAny_updateSeq_pair
abbrev ADb:=@decide_eq_true_eq
abbrev ADc:=@List.getElem?_set
abbrev ADd:=@List.drop_eq_nil_of_le
abbrev ADe:=@List.take_succ_cons
abbrev ADf:=@Nat.div_le_self
abbrev ADg:=@Int.natAbs_neg
abbrev ADh:=@Nat.gcd_dvd_right
abbrev ADi:=@Int.natCast_ediv
abbrev ADj:=@List.sum_cons
abbrev ADk:=@decide_eq_decide
abbrev ADl:=@Int.mul_assoc
abbrev ADm:=@Nat.le_succ
abbrev ADn:=@List.length_nil
abbrev ADo:=@Option.isSome_map
abbrev ADp:=@PySem.F.slot_dict_keyiterator_next
abbrev ADq:=@Bool.or_false
abbrev ADr:=@PySem.wpAny_updateSeq
abbrev ADs:=@List.append_assoc
abbrev ADt:=@List.pairwise_map
abbrev ADu:=@List.foldl_append
abbrev ADv:=@Rat.mul_lt_mul_of_pos_left
abbrev ADw:=@Int.emod_nonneg
abbrev ADx:=@Int.emod_lt_of_pos
abbrev ADy:=@PySem.F.slot_tuple_hash
abbrev ADz:=@PySem.wpAny_forIn_list
abbrev AD0:=@PySem.F.slot_tuple_eq
abbrev AD1:=@List.mem_range
abbrev AD2:=@Nat.le_of_lt
abbrev AD3:=@List.mem_append_left
abbrev AD4:=@PySem.wpAny_execs_nil
abbrev AD5:=@Int.mul_one
abbrev AD6:=@PySem.wpAny_Call_Name_kw
abbrev AD7:=@List.nodup_cons
abbrev AD8:=@List.reverse_cons
abbrev AD9:=@PySem.codeAny_loop
abbrev AEA:=@PySem.wpAny_noted
abbrev AEB:=@PySem.wpAny_comprehension_free
abbrev AEC:=@List.getElem_mem
abbrev AED:=@PySem.wpAny_pyIter_list
abbrev AEE:=@Nat.min_eq_left
abbrev AEF:=@PySem.F.slot_tuple_iterator_next
abbrev AEG:=@List.zipIdx_cons
abbrev AEH:=@List.zipIdx_nil
abbrev AEI:=@PySem.callType_new
abbrev AEJ:=@PySem.F.entry_zip_next
abbrev AEK:=@PySem.F.args_zip_next_1
abbrev AEL:=@PySem.wpAny_pyIter_zip
abbrev AEM:=@Rat.num_divInt
abbrev AEN:=@Rat.divInt_mul_divInt
abbrev AEO:=@Rat.div_def
abbrev AEP:=@Nat.le_of_dvd
abbrev AEQ:=@Int.natCast_mul
abbrev AER:=@List.cons_append
abbrev AES:=@List.length_reverse
abbrev AET:=@PySem.wpAny_typeNameOfWhole_keyiter
abbrev AEU:=@Array.getElem?_eq_getElem
abbrev AEV:=@Bool.eq_false_iff
abbrev AEW:=@Int.natAbs_natCast
abbrev AEX:=@Rat.intCast_mul
abbrev AEY:=@Rat.intCast_sub
abbrev AEZ:=@Rat.intCast_neg
abbrev AEa:=@List.tail_cons
abbrev AEb:=@PySem.wpAny_tupleItemsOf
abbrev AEc:=@Array.forIn_toList
abbrev AEd:=@Nat.add_assoc
abbrev AEe:=@PySem.isSubtype_tuple_tuple
abbrev AEf:=@beq_eq_false_iff_ne
abbrev AEg:=@List.filterMap_cons
abbrev AEh:=@Bool.false_and
abbrev AEi:=@PySem.noFill_tuple_add
abbrev AEj:=@PySem.F.slot_tuple_add
abbrev AEk:=@PySem.F.entry_tuple_add
abbrev AEl:=@PySem.F.args_tuple_add_2
abbrev AEm:=@PySem.codeAny_compStart_list
abbrev AEn:=@List.getD_eq_getElem?_getD
abbrev AEo:=@Rat.den_divInt
abbrev AEp:=@Rat.divInt_add_divInt
abbrev AEq:=@Int.sign_eq_one_of_pos
abbrev AEr:=@Bool.and_true
abbrev AEs:=@Rat.divInt_eq_divInt_iff
abbrev AEt:=@Int.mul_comm
abbrev AEu:=@List.pairwise_append
abbrev AEv:=@Int.lt_of_le_of_lt
abbrev AEw:=@Int.ofNat_le
abbrev AEx:=@PySem.wpAny_dictEntries
abbrev AEy:=@PySem.wpAny_dictEpoch
abbrev AEz:=@Option.bind_eq_some_iff
abbrev AE0:=@List.pairwise_singleton
abbrev AE1:=@Prod.mk.injEq
abbrev AE2:=@List.any_eq_true
abbrev AE3:=@List.flatMap_cons
abbrev AE4:=@Rat.lt_div_iff
abbrev AE5:=@List.filter_append
abbrev AE6:=@Classical.byContradiction
abbrev AE7:=@List.getLast?_eq_some_iff
abbrev AE8:=@Bool.and_false
abbrev AE9:=@PySem.W.mg_of
abbrev AFA:=@List.getElem?_eq_none_iff
abbrev AFB:=@List.getElem?_set_self
abbrev AFC:=@PySem.W.cellsFrom_some
abbrev AFD:=@PyProof.Rows.callWith_builtin1
abbrev AFE:=@List.length_singleton
abbrev AFF:=@PyProof.noPylong_of_log2
abbrev AFG:=@PySem.F.entry_tuple_iterator_next
abbrev AFH:=@PySem.F.args_tuple_iterator_next_1
abbrev AFI:=@List.getElem?_zipWith
abbrev AFJ:=@Int.gcd_eq_natAbs_gcd_natAbs
abbrev AFK:=@Int.fdiv_eq_ediv_of_dvd
abbrev AFL:=@Int.sign_eq_neg_one_of_neg
abbrev AFM:=@List.getLast?_eq_getElem?
abbrev AFN:=@List.pairwise_iff_getElem
abbrev AFO:=@List.getElem?_reverse
abbrev AFP:=@PySem.F.slot_dict_get
abbrev AFQ:=@PySem.F.entry_dict_keyiterator_next
abbrev AFR:=@PySem.F.args_dict_keyiterator_next_1
abbrev AFS:=@List.getElem?_eq_none
abbrev AFT:=@Rat.mul_lt_mul_of_pos_right
abbrev AFU:=@List.getLast?_eq_none_iff
abbrev AFV:=@PySem.F.slot_list_insert
abbrev AFW:=@PySem.F.type_list_insert
section
namespace L2
open PySem
def HJ (s:Stmt):Arguments:=match s with
 | .FunctionDef _ a _ _ _ _ _ _ _ _=>a
 | _=>{posonlyargs:= [],args:= [],vararg:=none,kwonlyargs:= [],kw_defaults:= [],kwarg:=none,defaults:= [] }
def Ep (s:Stmt):km Stmt:=match s with
 | .FunctionDef _ _ b _ _ _ _ _ _ _=>b
 | _=> []
def Be (s:Stmt):Scope:=match s with
 | .FunctionDef _ _ _ _ _ _ sc _ _ _=>sc
 | _=>{kind:= .function,names:= [],isGenerator:=false,isCoroutine:=false}
end L2
namespace K26
open PySem L2 PyProof.Rows
abbrev pwA:=PySem.Challenge.pw_skylanes_k26_papers_of_partings
def top (i:Nat):Stmt:=K26.pwA.main.body.getD i (.Pass ⟨0,0,0,0⟩)
abbrev F9:Stmt:=top 45
abbrev HX:Stmt:=top 55
abbrev JE:Stmt:=top 46
abbrev Ko:Stmt:=top 48
abbrev HY:Stmt:=top 57
abbrev Kk:Stmt:=top 49
abbrev HZ:Stmt:=top 52
abbrev JG:Stmt:=top 53
abbrev JF:Stmt:=top 54
abbrev Fs:Stmt:=top 50
abbrev GI:Stmt:=top 58
abbrev JB:Stmt:=top 47
abbrev GN:Stmt:=top 63
abbrev GL:Stmt:=top 64
abbrev GK:Stmt:=top 65
abbrev Ha:Stmt:=top 51
abbrev JH:Stmt:=top 56
abbrev JD:Stmt:=top 61
abbrev GO:Stmt:=top 59
abbrev Hd:Stmt:=top 60
abbrev Ej:Stmt:=top 66
abbrev Hc:Stmt:=top 67
abbrev QR:Stmt:=top 9
abbrev QS:Stmt:=top 2
abbrev YU:Stmt:=top 3
abbrev UT:Stmt:=top 6
abbrev NU:Stmt:=top 28
abbrev YT:Stmt:=top 8
abbrev YV:Stmt:=top 5
abbrev UU:Stmt:=top 7
abbrev Ft:Stmt:=top 17
abbrev NV:Stmt:=top 18
abbrev EM:Stmt:=top 19
abbrev GQ:Stmt:=top 14
abbrev QY:Stmt:=top 15
abbrev UV:Stmt:=top 27
abbrev UW:Stmt:=top 4
abbrev US:Stmt:=top 41
abbrev Kq:Stmt:=top 1
abbrev NN:Stmt:=top 12
abbrev QU:Stmt:=top 40
abbrev NM:Stmt:=top 11
abbrev QV:Stmt:=top 10
abbrev Ku:Stmt:=top 26
abbrev FD:Stmt:=top 42
abbrev EL:Stmt:=top 72
abbrev GM:Stmt:=top 62
abbrev GJ:Stmt:=top 71
abbrev JC:Stmt:=top 69
abbrev GP:Stmt:=top 70
abbrev GA:Stmt:=top 44
abbrev Ek:Stmt:=top 68
abbrev FC:Stmt:=top 13
abbrev Kr:Stmt:=top 30
abbrev NQ:Stmt:=top 29
abbrev QX:Stmt:=top 31
abbrev NO:Stmt:=top 37
abbrev JI:Stmt:=top 32
abbrev QZ:Stmt:=top 36
abbrev NT:Stmt:=top 38
abbrev NP:Stmt:=top 33
abbrev He:Stmt:=top 21
abbrev QW:Stmt:=top 22
abbrev NL:Stmt:=top 23
abbrev Kv:Stmt:=top 24
abbrev Kx:Stmt:=top 34
abbrev NR:Stmt:=top 39
abbrev R7:Stmt:=top 73
def m0:String:="law_skylanes_k26_papers_of_partings"
def m1:String:="skylanes.fractions"
def m2:String:="skylanes.nearness"
def m3:String:="skylanes.plans"
def m4:String:="skylanes.partings"
def m5:String:="skylanes.stretches"
def eN (P:Params)(x:String)(i:Nat)(v:kj):DictEntry:=⟨PyData.keyHash P (Str.ofString x), .str (Str.ofString x) i,v⟩
abbrev eR (P:Params)(x:String)(i f:Nat):=eN P x i (.ref f)
def fO (x:String)(s:Stmt)(m:String)(i c:Nat):Obj:=⟨.type "function",none, .func (PySem.W.fnOf (Str.ofString x) (Str.ofString x) (HJ s) (Ep s) (Be s) .none .none .none (.str (Str.ofString m) i) none (.ref c) .none), #[]⟩
def rV:Nat->kj
 | 0=> .none
 | n+1=> .ref (n+1)
def fc (x:String)(s:Stmt)(m:String)(a c f i l n g b d e h j u:Nat)(r:AAY):AAY:=
 (c,⟨.type "code",none, .fields #[.str (Str.ofString x) i, .str (Str.ofString x) (i+1), .str (Str.ofString "/claim/cut.py") (i+2), .int l 0, .int n 0, .int 0 0, .int 0 0, .int g 0,rV b, .bool true, .int 181 0,rV d, .none,rV e,rV h,rV j, .int u 0, .int l 0, .str (Str.ofString "/claim/cut.py") (u+1)], #[]⟩) ::
 (f,fO x s m a c)::r
def w4 (P:Params):Obj:=⟨.type "dict",none, .dict #[eN P "__name__" 165 (.str (Str.ofString "law_skylanes_k26_papers_of_partings") 544),eN P "__doc__" 166 .none,eN P "__package__" 167 .none,eN P "__loader__" 168 (.builtin "__main__.__loader__#opaque"),eN P "__spec__" 169 .none,eR P "__annotations__" 170 6,eR P "__builtins__" 171 4,eN P "__file__" 173 (.str (Str.ofString "/claim/cut.py") 172),eN P "__cached__" 174 .none,eR P "is_whole" 195 21,eR P "common" 203 28,eR P "part" 212 35,eR P "whole" 219 42,eR P "plus" 227 49,eR P "minus" 235 56,eR P "times" 243 63,eR P "over" 251 70,eR P "before" 259 77,eR P "lesser" 267 84,eR P "greater" 275 91,eR P "is_part" 284 98,eR P "shared_bottom" 294 105,eR P "count_below" 305 112,eR P "rising" 315 119,eR P "spot_between" 323 124,eR P "spot_at" 332 131,eR P "corners_between" 338 136,eR P "steps_of" 353 143,eR P "levels" 359 148,eR P "counted" 372 155,eR P "told_set" 379 162,eR P "together" 391 169,eR P "turns" 397 174,eR P "size_of" 405 181,eR P "offs_at" 411 186,eR P "lines_of" 425 193,eR P "pieces" 431 198,eR P "moment_at" 440 205,eR P "near_in" 457 212,eR P "too_near" 463 217,eR P "row_of" 475 224,eR P "longest" 488 231,eR P "rows_of" 494 236,eR P "parting" 500 241,eR P "is_row" 511 248,eR P "holds" 527 255,eR P "shows_parting" 543 262,eR P "_law_tape" 555 269,eR P "_law_draw" 565 276,eR P "_law_part" 576 283,eR P "_law_less" 584 290,eR P "_law_sum" 592 297,eR P "_law_off" 600 304,eR P "_law_product" 608 311,eR P "_law_ratio" 616 318,eR P "_law_place" 624 325,eR P "_law_span" 632 332,eR P "_law_plan" 644 339,eR P "_law_apart" 652 346,eR P "_law_spot" 658 351,eR P "_law_moved" 664 356,eR P "_law_beside" 670 361,eR P "_law_rising" 676 366,eR P "_law_turns" 682 371,eR P "_law_offs" 688 376,eR P "_law_middle" 696 383,eR P "_law_number" 703 390,eR P "_law_lowest" 710 397,eR P "_law_is_row" 717 404,eR P "_law_row_holds" 723 409,eR P "_law_shows" 729 414,eR P "_law_wide_pair" 735 419,eR P "_law_made" 750 426,eR P "_law_spoilt" 769 433,eR P "_law_dented" 786 440,eR P "_law_dent_right" 800 447,eR P "law" 806 452] 77, #[]⟩
def KK (P:Params):AAY:=(3,w4 P)::(fc "_law_draw" F9 m0 544 275 276 556 226 2 3 270 271 272 273 274 563 <| fc "_law_apart" HX m0 544 345 346 645 278 1 3 340 341 342 343 344 650 <| fc "_law_part" JE m0 544 282 283 566 234 2 3 277 278 279 280 281 574 <| fc "_law_sum" Ko m0 544 296 297 585 242 2 3 291 292 293 294 295 590 <| fc "_law_moved" HY m0 544 355 356 659 290 3 3 352 353 0 0 354 662 <| fc "_law_off" Kk m0 544 303 304 593 244 2 3 298 299 300 301 302 598 <| fc "_law_place" HZ m0 544 324 325 617 250 1 3 319 320 321 322 323 622 <| fc "_law_span" JG m0 544 331 332 625 257 1 3 326 327 328 329 330 630 <| fc "_law_plan" JF m0 544 338 339 633 262 1 3 333 334 335 336 337 642 <| fc "_law_product" Fs m0 544 310 311 601 246 2 3 305 306 307 308 309 606 <| fc "_law_beside" GI m0 544 360 361 665 292 3 3 357 358 0 0 359 668 <| fc "_law_less" JB m0 544 289 290 577 240 2 3 284 285 286 287 288 582 <| fc "_law_number" GN m0 544 389 390 697 336 1 3 384 385 386 387 388 701 <| fc "_law_lowest" GL m0 544 396 397 704 338 1 3 391 392 393 394 395 708 <| fc "_law_is_row" GK m0 544 403 404 711 344 1 3 398 399 400 401 402 715 <| fc "_law_ratio" Ha m0 544 317 318 609 248 2 3 312 313 314 315 316 614 <| fc "_law_spot" JH m0 544 350 351 653 281 2 3 347 348 0 0 349 656 <| fc "_law_offs" JD m0 544 375 376 683 330 4 3 372 373 0 0 374 686 <| fc "_law_rising" GO m0 544 365 366 671 316 1 3 362 363 0 0 364 674 <| fc "_law_turns" Hd m0 544 370 371 677 323 2 3 367 368 0 0 369 680 <| fc "_law_row_holds" Ej m0 544 408 409 718 350 4 3 405 406 0 0 407 721 <| fc "_law_shows" Hc m0 544 413 414 724 358 4 3 410 411 0 0 412 727 <| fc "before" QR m1 187 76 77 252 23 2 3 71 72 73 74 75 257 <| fc "common" QS m1 187 27 28 196 4 2 3 22 23 24 25 26 201 <| fc "part" YU m1 187 34 35 204 8 2 3 29 30 31 32 33 210 <| fc "minus" UT m1 187 55 56 228 17 2 3 50 51 52 53 54 233 <| fc "size_of" NU m2 380 180 181 398 113 2 3 175 176 177 178 179 403 <| fc "over" YT m1 187 69 70 244 21 2 3 64 65 66 67 68 249 <| fc "plus" YV m1 187 48 49 220 15 2 3 43 44 45 46 47 225 <| fc "times" UU m1 187 62 63 236 19 2 3 57 58 59 60 61 241 <| fc "spot_between" Ft m3 316 123 124 318 59 3 3 120 121 0 0 122 321 <| fc "spot_at" NV m3 316 130 131 324 62 2 3 125 126 127 128 129 330 <| fc "corners_between" EM m3 316 135 136 333 69 3 3 132 133 0 0 134 336 <| fc "count_below" GQ m1 187 111 112 295 41 2 3 106 107 108 109 110 303 <| fc "rising" QY m1 187 118 119 306 51 1 3 113 114 115 116 117 313 <| fc "turns" UV m2 380 173 174 392 110 4 3 170 171 0 0 172 395 <| fc "whole" UW m1 187 41 42 213 13 1 3 36 37 38 39 40 217 <| fc "holds" US m4 464 254 255 512 194 4 3 249 250 251 252 253 525 <| fc "is_whole" Kq m1 187 20 21 189 2 1 3 15 16 17 18 19 193 <| fc "is_part" NN m1 187 97 98 276 29 1 3 92 93 94 95 96 282 <| fc "is_row" QU m4 464 247 248 501 187 1 3 242 243 244 245 246 509 <| fc "greater" NM m1 187 90 91 268 27 2 3 85 86 87 88 89 273 <| fc "lesser" QV m1 187 83 84 260 25 2 3 78 79 80 81 82 265 <| fc "together" Ku m2 380 168 169 382 106 2 3 163 164 165 166 167 389 <| fc "shows_parting" FD m4 464 261 262 528 201 4 3 256 257 258 259 260 541 <| fc "_law_dent_right" EL m0 544 446 447 787 432 3 3 441 442 443 444 445 798 <| fc "_law_middle" GM m0 544 382 383 689 334 2 3 377 378 379 380 381 694 <| fc "_law_dented" GJ m0 544 439 440 770 418 3 3 434 435 436 437 438 784 <| fc "_law_made" JC m0 544 425 426 736 381 3 3 420 421 422 423 424 748 <| fc "_law_spoilt" GP m0 544 432 433 751 390 2 3 427 428 429 430 431 767 <| fc "_law_tape" GA m0 544 268 269 546 220 2 3 263 264 265 266 267 553 <| fc "_law_wide_pair" Ek m0 544 418 419 730 369 2 3 415 416 0 0 417 733 <| fc "shared_bottom" FC m1 187 104 105 285 36 1 3 99 100 101 102 103 292 <| fc "lines_of" Kr m2 380 192 193 412 119 2 3 187 188 189 190 191 423 <| fc "offs_at" NQ m2 380 185 186 406 115 4 3 182 183 0 0 184 409 <| fc "pieces" QX m2 380 197 198 426 128 3 3 194 195 0 0 196 429 <| fc "longest" NO m4 464 230 231 476 165 2 3 225 226 227 228 229 486 <| fc "moment_at" JI m2 380 204 205 432 139 3 3 199 200 201 202 203 438 <| fc "row_of" QZ m4 464 223 224 466 162 3 3 218 219 220 221 222 473 <| fc "rows_of" NT m4 464 235 236 489 173 1 3 232 233 0 0 234 492 <| fc "near_in" NP m2 380 211 212 441 141 1 3 206 207 208 209 210 455 <| fc "steps_of" He m5 339 142 143 341 72 1 3 137 138 139 140 141 351 <| fc "levels" QW m5 339 147 148 354 81 1 3 144 145 0 0 146 357 <| fc "counted" NL m5 339 154 155 360 91 2 3 149 150 151 152 153 370 <| fc "told_set" Kv m5 339 161 162 373 103 1 3 156 157 158 159 160 377 <| fc "too_near" Kx m2 380 216 217 458 159 3 3 213 214 0 0 215 461 <| fc "parting" NR m4 464 240 241 495 181 3 3 237 238 0 0 239 498 <| fc "law" R7 m0 544 451 452 801 441 1 3 448 449 0 0 450 804 <| [])
def KA:km kf:= [3,275,276,345,346,282,283,296,297,355,356,303,304,324,325,331,332,338,339,310,311,360,361,289,290,389,390,396,397,403,404,317,318,350,351,375,376,365,366,370,371,408,409,413,414,76,77,27,28,34,35,55,56,180,181,69,70,48,49,62,63,123,124,130,131,135,136,111,112,118,119,173,174,41,42,254,255,20,21,97,98,247,248,90,91,83,84,168,169,261,262,446,447,382,383,439,440,425,426,432,433,268,269,418,419,104,105,192,193,185,186,197,198,230,231,204,205,223,224,235,236,211,212,142,143,147,148,154,155,161,162,216,217,240,241,451,452]
def q:gn:={K26.pwA with main:={K26.pwA.main with body:= [top 1,top 2,top 3,top 4,top 5,top 6,top 7,top 8,top 9,top 10,top 11,top 12,top 13,top 14,top 15,top 17,top 18,top 19,top 21,top 22,top 23,top 24,top 26,top 27,top 28,top 29,top 30,top 31,top 32,top 33,top 34,top 36,top 37,top 38,top 39,top 40,top 41,top 42,top 44,top 45,top 46,top 47,top 48,top 49,top 50,top 51,top 52,top 53,top 54,top 55,top 56,top 57,top 58,top 59,top 60,top 61,top 62,top 63,top 64,top 65,top 66,top 67,top 68,top 69,top 70,top 71,top 72,top 73] }}
end K26
open PySem PySem.W PyProof.Rows
def K26.se (s:ki):=openSeen K26.q [] (importedModules (K26.pwA).main.body) (λs=>xlAt K26.q [] s&&recOk [] s) true s
def K26.go:=openGood K26.q []
def K26.rn (w:fe):=openEnds treeTable K26.pwA w 6000
def K26.l0:∀w,(K26.rn w).map (λs=>(K26.se s).1)=some (K26.go.1):=by intro w;kernel_rfl
def K26.l1:∀w,(K26.rn w).map (λs=>(K26.se s).2.1)=some (K26.go.2.1):=by intro w;kernel_rfl
def K26.l2:∀w,(K26.rn w).map (λs=>(K26.se s).2.2.1)=some (K26.go.2.2.1):=by intro w;kernel_rfl
def K26.l3:∀w,(K26.rn w).map (λs=>(K26.se s).2.2.2.1)=some (K26.go.2.2.2.1):=by intro w;kernel_rfl
def K26.l4:∀w,(K26.rn w).map (λs=>(K26.se s).2.2.2.2)=some (K26.go.2.2.2.2):=by intro w;kernel_rfl
def K26.l5:∀w,(K26.rn w).map (λs=>K26.KA.map s.heap.get?)=some ((K26.KK w.params).map λp=>some p.2):=by intro w;kernel_rfl
def K26.w1:PySem.Challenge.rw_skylanes_k26_papers_of_partings.wellSaid=true:=by
 kernel_rfl
def K26.w0:PySem.Challenge.rw_skylanes_k26_papers_of_partings.row.wellSaid=true:=by
 kernel_rfl
end
namespace PySem
open Sem (wp)
abbrev FK:=(Int×Int)×Int
section
variable {prog:gn}{w:fe}
def KC (prog:gn)(w:fe)(h:da)(k:FK)(a:kf):Prop:=∃o items n b u,h.get? a=some o/\o.cls= .type "tuple" /\o.data= .seq items n/\items.toList= [.ref b, .int k.2 u] /\IsTupleKey (intKind prog w) h [k.1.1,k.1.2] b
def KC.typeIs {s:ki}{k:FK}{a:kf}(x:KC prog w s.heap k a):s.TypeIs (.ref a) "tuple" :=let ⟨o,_,_,_,_,b,hc,_⟩:=x;⟨o,b,hc⟩
def KC.inj {h:da}{a:kf}{x y:FK}(hx:KC prog w h x a)(hy:KC prog w h y a):x=y:=by obtain⟨o,items,n,b,u,j,_,hd,hi,hk⟩:=hx;obtain⟨k,c,m,p,r,l,_,f,g,e⟩:=hy;obtain rfl:o=k:=AAw (j.symm.trans l);rw[hd] at f;injection f with h1 _;subst h1;rw[hi] at g;injection g with h1 h2;injection h1 with h1;subst h1;injection h2 with h2 _;injection h2 with h2 _;have:=hk.inj e;obtain⟨⟨s,t⟩,v⟩:=x;obtain⟨⟨y1,y2⟩,y3⟩:=y;injection this with i d;injection d with d _;simp only at h2 i d;subst h2;subst i;subst d;rfl
def KC.keeps {h h':da}{k:FK}{a d:kf}{o:Obj}{es ep}(x:KC prog w h k a)(e:h.get? d=some o)(hd:o.data= .dict es ep)(hs:Heap.SameBut d h h'):KC prog w h' k a:=by
 obtain⟨f,items,n,b,u,g,hc,c,hi,hk⟩:=x;have i:a≠d:=by rintro rfl;obtain rfl:f=o:=AAw (g.symm.trans e);rw[hd] at c;exact nomatch c
 exact⟨f,items,n,b,u,(hs.2 a i).trans g,hc,c,hi,hk.keeps e hd hs⟩
def Xc (prog:gn)(w:fe)(k:FK):Int:=reduceHash (Builtin.Tuple.tupleHashOf [tupleKeyHash (intKind prog w) [k.1.1,k.1.2],hashInt k.2])
variable {A:Wf}{E:kj->ki->Prop}{s:ki}
def OU {k:FK}{a:kf}{Q:Int->ki->Prop}(hu:A.units+1<cLine)(hk:KC prog w s.heap k a)(h:Q (Xc prog w k) {s with toks:=s.toks+5}):wpAny (model prog w) A (pyHash (.ref a)) Q E s:=by
 have f:=hk.typeIs;obtain⟨o,items,n,b,u,i,_,hd,hi,j⟩:=hk;unfold pyHash;first | unfold pyHashByItsType|skip
 first | refine AAX (wpAny_cRoomFor_or (.inr (by omega)) ?_)|skip
 refine AAX (ABc f ADy.lookup ?_);show wpAny _ _ (if (some (Value.builtin "tuple.__hash__")==some Value.none)=true then _ else _) Q E s;rw[AAa (by rw[beq_builtin_none];exact AAs)];refine AAX (ABc f ADy.lookup ?_);show wpAny _ _ (callSpecialIfBoundUnlessNone? (.ref a) "__hash__" _ >>= _) Q E s;refine AAX (wpAny_callSpecialIfBoundUnlessNone?_slot f ADy (ABJ ADy f F.entry_tuple_hash ?_ (F.args_tuple_hash_1 _)));show wpAny _ _ (Builtin.Tuple.tupleItemsOf (.ref a) >>= _) _ _ s;refine AAX (AEb i hd ?_);refine AAX ?_;rw[<-AEc,hi];refine ADz _
  (λrest (r:Array Int) d=>(rest= [.ref b, .int k.2 u] /\r.toList= [] /\d=s)\/(rest= [.int k.2 u] /\r.toList= [tupleKeyHash (intKind prog w) [k.1.1,k.1.2]] /\d={s with toks:=s.toks+3})\/
    (rest= [] /\r.toList= [tupleKeyHash (intKind prog w) [k.1.1,k.1.2],hashInt k.2] /\d={s with toks:=s.toks+4}))
  _ ?_ ?_ _ _ (.inl ⟨rfl,rfl,rfl⟩)
 .rintro x rest r d (⟨c,e,rfl⟩|⟨c,e,rfl⟩|⟨c,_⟩)
  .cases c;refine AAX (wpAny_pyHash_tuple (knd:=intKind prog w) (by first | exact hu|omega) j ?_);exact AAZ (.inr (.inl ⟨rfl,by simp[e],rfl⟩))
  .cases c;refine AAX (wpAny_pyHash_int ?_);exact AAZ (.inr (.inr ⟨rfl,by simp[e],by simp[AEd]⟩))
  .cases c
 .rintro r d (⟨c,_⟩|⟨c,_⟩|⟨_,e,rfl⟩)
  .cases c
  .cases c
  .show wpAny _ _ (retInt (Builtin.Tuple.tupleHashOf r.toList)) _ _ _;rw[e];refine wpAny_ret_mkInt ?_;show wpAny _ _ (if (decide (-(2:Int)^63<=Builtin.Tuple.tupleHashOf [tupleKeyHash (intKind prog w) [k.1.1,k.1.2],hashInt k.2])&&decide (Builtin.Tuple.tupleHashOf [tupleKeyHash (intKind prog w) [k.1.1,k.1.2],hashInt k.2] < 2^63))=true then _ else _) Q E _;unfold Xc reduceHash at h;by_cases g:(decide (-(2:Int)^63<=Builtin.Tuple.tupleHashOf [tupleKeyHash (intKind prog w) [k.1.1,k.1.2],hashInt k.2])&&decide (Builtin.Tuple.tupleHashOf [tupleKeyHash (intKind prog w) [k.1.1,k.1.2],hashInt k.2] < 2^63))=true
   .rw [AAb g];rw[AAb g] at h;exact AAZ (by simpa[AEd] using h)
   .rw [AAa g];rw[AAa g] at h;exact AAX (ABT (AAZ (by simpa[AEd] using h)))
def Xd {x y:FK}{a b:kf}{P:Fin->ki->Prop}(hu:A.units<cLine)(hx:KC prog w s.heap x a)(hy:KC prog w s.heap y b)(h:P (.done (.ret (.bool (decide (x=y))))) s):wpAny (model prog w) A (Builtin.«tuple.__eq__» ⟨[.ref a, .ref b], []⟩) P E s:=by
 have j:=hy.typeIs;obtain⟨Q,xs,R,I,D,k,_,l,F,m⟩:=hx;obtain⟨S,ys,T,J,G,n,_,hdb,H,o⟩:=hy;have K:xs.size=2:=by rw[<-ACm,F];rfl
 have L:ys.size=2:=by rw[<-ACm,H];rfl
 obtain⟨⟨e,f⟩,c⟩:=x;obtain⟨⟨y1,y2⟩,y3⟩:=y;show wpAny _ _ (isInstance (.ref b) (.type "tuple") >>= _) _ _ s;refine AAX (ABy j AEe ?_);simp only[ACS,ABO,ABE];refine AAX (AEb k l ?_);refine AAX (AEb n hdb ?_);refine AAX ?_;rw[F,H];refine ADz _
  (λrest r g=>r.1=none/\g=s/\(rest= [(.ref I, .ref J),(.int c D, .int y3 G)] \/(rest= [(.int c D, .int y3 G)] /\e=y1/\f=y2)\/(rest= [] /\e=y1/\f=y2/\c=y3)))
  _ ?_ ?_ _ _ ⟨rfl,rfl, .inl rfl⟩
 .rintro ⟨u,v⟩ rest r g ⟨p,rfl,(hz|⟨hz,t,B⟩|⟨hz,_⟩)⟩
  .cases hz;refine AAX (wpAny_eqBool_tuple (knd:=intKind prog w) (by first | exact hu|omega) m o ?_);by_cases hk:e=y1/\f=y2
   .rw [AAt (by rw[hk.1,hk.2])];simp only[ACS,ABO,ABE];exact AAZ ⟨rfl,rfl, .inr (.inl ⟨by first | trivial|rfl,hk⟩)⟩
   .rw [AAm (by intro z;injection z with i d;injection d with d _;exact hk ⟨i,d⟩)];simp only[Bool.not_false,ABU];have C:decide ((((e,f),c):FK)=((y1,y2),y3))=false:=by apply AAm;intro z;injection z with i d;injection i with M N;exact hk ⟨M,N⟩
    rw[C] at h;exact AAX (AAZ (AAZ (AAZ h)))
  .cases hz;refine AAX (wpAny_eqBool_int ?_);by_cases hk:c=y3
   .rw [show (c==y3)=true by simp[hk]];simp only[ACS,ABO,ABE];exact AAZ ⟨rfl,rfl, .inr (.inr ⟨by first | trivial|rfl,t,B,hk⟩)⟩
   .rw [show (c==y3)=false by simp[hk]];simp only[Bool.not_false,ABU];have C:decide ((((e,f),c):FK)=((y1,y2),y3))=false:=by apply AAm;intro z;injection z with i d;exact hk d
    rw[C] at h;exact AAX (AAZ (AAZ (AAZ h)))
  .cases hz
 .rintro ⟨r1,r2⟩ g ⟨p,rfl,(hz|⟨hz,_⟩|⟨_,t,B,O⟩)⟩
  .cases hz
  .cases hz
  .simp only at p;subst p;refine AAZ ?_;show P (.done (.ret (.bool (xs.size==ys.size)))) g;rw[K,L];rw[AAt (by rw[t,B,O])] at h;exact h
def OT {x y:FK}{a b:kf}{Q:kc->ki->Prop}(hu:A.units+1<cLine)(hx:KC prog w s.heap x a)(hy:KC prog w s.heap y b)(h:Q (decide (x=y)) s):wpAny (model prog w) A (eqBool (.ref a) (.ref b)) Q E s:=by
 unfold eqBool;try with_reducible refine ABV ?_
 show wpAny _ _ (if (Value.ref a==Value.ref b)=true then _ else _) Q E s;by_cases c:(Value.ref a==Value.ref b)=true
 .rw [AAb c];have e:a=b:=by have:=eq_of_beq c;injection this
  subst e;obtain rfl:=hx.inj hy;exact AAX (ABT (AAZ (by simpa using h)))
 .rw [AAa c];exact AAX (wpAny_richCompare_same_room (op:= .Eq) hx.typeIs hy.typeIs AD0
   (ABJ AD0 hx.typeIs F.entry_tuple_eq (Xd (by first | exact hu|omega) hx hy ⟨_,rfl,(λe=>nomatch e),ACT h⟩) (F.args_tuple_eq_2 _ _)) (by omega))
def Hj {K:Type}[DecidableEq K]{knd:KeyKind prog w K}{g:km K}{a:kf}{Q:kc->ki->Prop}(m:Nat)(hk:IsTupleKey knd s.heap g a)(h:Q true s):wpAny (model prog w) A (eqIsQuiet (m+1) (.ref a)) Q E s:=by
 have e:=hk.typeIs;obtain⟨o,items,n,i,_,hd,hi⟩:=hk;unfold eqIsQuiet;refine AAX (ABc e AD0.lookup ?_);show wpAny _ _ (isInstance (.ref a) (.type "tuple") >>= _) _ _ s;refine AAX (ABy e AEe ?_);simp only[ACS,ABO,ABE];refine AAX (ABP i hd ?_);refine AAX ?_;show wpAny _ _ (forIn items _ _) _ _ s;rw[<-AEc];refine ADz _ (λrest r b=>r.1=none/\b=s/\∀v∈rest,carriedByValue v=true) _ ?_ ?_ _ _ ⟨rfl,rfl,hi.byValue⟩
 .rintro v rest r b ⟨c,rfl,f⟩;rw[eqIsQuiet_byValue _ (f v ACn)];refine AAX (AAZ ?_);simp only[ACS,ABO,ABE];exact AAZ ⟨rfl,rfl,λu d=>f u (ABn _ d)⟩
 .rintro ⟨r1,r2⟩ b ⟨c,rfl,_⟩;simp only at c;subst c;exact AAZ h
def K6 {k:FK}{a:kf}{Q:kc->ki->Prop}(hk:KC prog w s.heap k a)(h:Q true s):wpAny (model prog w) A (eqIsQuiet 8 (.ref a)) Q E s:=by
 have e:=hk.typeIs;obtain⟨o,items,n,b,u,f,_,hd,hi,g⟩:=hk;unfold eqIsQuiet;refine AAX (ABc e AD0.lookup ?_);show wpAny _ _ (isInstance (.ref a) (.type "tuple") >>= _) _ _ s;refine AAX (ABy e AEe ?_);simp only[ACS,ABO,ABE];refine AAX (ABP f hd ?_);refine AAX ?_;show wpAny _ _ (forIn items _ _) _ _ s;rw[<-AEc,hi];refine ADz _ (λrest r c=>r.1=none/\c=s/\(rest= [.ref b, .int k.2 u] \/rest= [.int k.2 u] \/rest= [])) _ ?_ ?_ _ _ ⟨rfl,rfl, .inl rfl⟩
 .rintro v rest r c ⟨d,rfl,(hz|hz|hz)⟩
  .cases hz;refine AAX (Hj (knd:=intKind prog w) 6 g ?_);simp only[ACS,ABO,ABE];exact AAZ ⟨rfl,rfl, .inr (.inl (by first | trivial|rfl))⟩
  .cases hz;rw[eqIsQuiet_byValue _ rfl];refine AAX (AAZ ?_);simp only[ACS,ABO,ABE];exact AAZ ⟨rfl,rfl, .inr (.inr (by first | trivial|rfl))⟩
  .cases hz
 .rintro ⟨r1,r2⟩ c ⟨d,rfl,_⟩;simp only at d;subst d;exact AAZ h
end
def fkKind (prog:gn)(w:fe):HeapKind prog w FK where
 is:=KC prog w
 hash:=Xc prog w
 draws:=λ_=>5
 room:=λA=>A.units+1<cLine
 inj:=λhx hy=>hx.inj hy
 keeps:=λx a hd hs=>x.keeps a hd hs
 pyHash:=λhu hk h=>OU hu hk h
 eqBool:=λhu hx hy h=>OT hu hx hy h
 quiet:=λhk h=>K6 hk h
def Ds {prog:gn}{w:fe}{A:Wf}(h:A.units+2<cLine):(fkKind prog w).room A.in1:=by show A.units+1+1<cLine;omega
end PySem
namespace L2
open PySem PySem.Spec PyProof.Rows
abbrev GT:=Sum Int Str
def lf:GT->kj->kc
 | .inl k,v=>Value.isInt k v
 | .inr x,v=>Value.isStrOf x v
def wU (w:fe):GT->Int
 | .inl k=>hashInt k
 | .inr x=>hashStr w x
def CK:∀{k:GT} {v:kj},lf k v=true->(∃i t,k=Sum.inl i/\v=Value.int i t)\/(∃x t,k=Sum.inr x/\v=Value.str x t)
 | .inl i,v,h=>by obtain⟨t,e⟩:=Value.isInt_shape (k:=i) (v:=v) h;exact .inl ⟨i,t,rfl,e⟩
 | .inr x,v,h=>by obtain⟨t,e⟩:=Value.isStrOf_shape (x:=x) (v:=v) h;exact .inr ⟨x,t,rfl,e⟩
def nS (a b:Int):decide ((Sum.inl a:GT)=Sum.inl b)=(a==b):=by
 by_cases e:a=b
 .subst e;simp
 .have h:¬(Sum.inl a:GT)=Sum.inl b:=λq=>e (Sum.inl.inj q);rw[AAm h];exact(AEf.mpr e).symm
def nW (a b:Str):decide ((Sum.inr a:GT)=Sum.inr b)=decide (a=b):=by
 by_cases e:a=b
 .subst e;simp
 .have h:¬(Sum.inr a:GT)=Sum.inr b:=λq=>e (Sum.inr.inj q);rw[AAm h,AAm e]
def nU (a:Int)(b:Str):decide ((Sum.inl a:GT)=Sum.inr b)=false:=AAm (λq=>nomatch q)
def nV (a:Str)(b:Int):decide ((Sum.inr a:GT)=Sum.inl b)=false:=AAm (λq=>nomatch q)
def Tu (prog:gn)(w:fe):PySem.KeyKind prog w GT where
 is:=lf
 hash:=wU w
 inj:=λv a b ha hb=>by
  rcases CK ha with⟨i,t,rfl,rfl⟩|⟨x,t,rfl,rfl⟩
  .rcases CK hb with⟨j,u,rfl,e⟩|⟨y,u,rfl,e⟩
   .injection e with c _;rw[c]
   .exact nomatch e
  .rcases CK hb with⟨j,u,rfl,e⟩|⟨y,u,rfl,e⟩
   .exact nomatch e
   .injection e with c _;rw[c]
 byValue:=λk v h=>by rcases CK h with⟨i,t,rfl,rfl⟩|⟨x,t,rfl,rfl⟩ <;> rfl
 pyHash:=λhv h=>by
  rcases CK hv with⟨i,t,rfl,rfl⟩|⟨x,t,rfl,rfl⟩
  .exact wpAny_pyHash_int h
  .exact wpAny_pyHash_str h
 eqBool:=λhu hv h=>by
  rcases CK hu with⟨i,t,rfl,rfl⟩|⟨x,t,rfl,rfl⟩
  .rcases CK hv with⟨j,u,rfl,rfl⟩|⟨y,u,rfl,rfl⟩
   .rw [nS] at h;exact wpAny_eqBool_int h
   .rw [nU] at h;exact SeqAt.EqAt.int_str i t y u _ _ _ _ h
  .rcases CK hv with⟨j,u,rfl,rfl⟩|⟨y,u,rfl,rfl⟩
   .rw [nV] at h;exact SeqAt.EqAt.str_int x t j u _ _ _ _ h
   .rw [nW] at h;exact wpAny_eqBool_str h
 «strs»:=λk x t v h=>by
  rcases CK h with⟨i,u,rfl,e⟩|⟨y,u,rfl,e⟩
  .exact nomatch e
  .injection e with c _;subst c;cases v <;> rfl
inductive V where
 | non|bl (b:Bool)|int (i:Int)|str (x:Str)|byt (b:Array UInt8)|flt (b:UInt64)|ref (a:Addr)|ty (n:String)
 deriving DecidableEq
def RelV:V->kj->Prop
 | .non,u=>u=Value.none
 | .bl b,u=>u=Value.bool b
 | .int i,u=>∃t,u=Value.int i t
 | .str x,u=>∃t,u=Value.str x t
 | .byt b,u=>∃t,u=Value.bytes b t
 | .flt b,u=>∃t,u=Value.float b t
 | .ref a,u=>u=Value.ref a
 | .ty n,u=>u=Value.type n
abbrev A7:km V->km kj->Prop:=Paired RelV
def A7.length {xs:km V}{a:km kj}(r:A7 xs a):xs.length=a.length:=ADR r
theorem A7.get:∀{xs:km V} {a:km kj} {i:Nat} {x:V},A7 xs a->xs[i]? =some x->∃u,a[i]? =some u/\RelV x u
 | _,_,_,_, .nil,e=>by simp at e
 | _,_,0,_, .cons r _,e=>by simp at e;subst e;exact⟨_,rfl,r⟩
 | _,_,i+1,x, .cons _ t,e=>by obtain⟨u,h1,h2⟩:=A7.get (i:=i) (x:=x) t (by simpa using e);exact⟨u,by simpa using h1,h2⟩
theorem A7.set {x:V}{u:kj}(r:RelV x u):∀{xs:km V} {a:km kj} (i:Nat),A7 xs a->A7 (xs.set i x) (a.set i u)
 | _,_,_, .nil=> .nil
 | _,_,0, .cons _ t=> .cons r t
 | _,_,i+1, .cons q t=> .cons q (A7.set r i t)
theorem A7.append:∀{xs ys:km V} {a b:km kj},A7 xs a->A7 ys b->A7 (xs++ys) (a++b)
 | _,_,_,_, .nil,s=>s
 | _,_,_,_, .cons r t,s=> .cons r (A7.append t s)
theorem A7.take:∀{xs:km V} {a:km kj} (n:Nat),A7 xs a->A7 (xs.take n) (a.take n)
 | _,_,0,_=> .nil
 | _,_,_+1, .nil=> .nil
 | _,_,n+1, .cons r t=> .cons r (A7.take n t)
theorem A7.drop:∀{xs:km V} {a:km kj} (n:Nat),A7 xs a->A7 (xs.drop n) (a.drop n)
 | _,_,0,r=>r
 | _,_,_+1, .nil=> .nil
 | _,_,n+1, .cons _ t=>A7.drop n t
def A7.none_of:∀{xs:km V} {a:km kj} {i:Nat},A7 xs a->xs[i]? =none->a[i]? =none:=λ{xs a i} r e=>by have h1:=r.length;have h2:xs.length<=i:=AFA.mp e;exact AFA.mpr (by omega)
def LV:ke V->ke kj->Prop
 | some v,some u=>RelV v u
 | none,none=>True
 | _,_=>False
def KV {a:Type}:km (a×V)->km (a×kj)->Prop:=Paired λ(p:a×V) (q:a×kj)=>p.1=q.1/\RelV p.2 q.2
def kV:GT->V
 | .inl i=> .int i
 | .inr x=> .str x
inductive HO where
 | lst (xs:List V)
 | tup (xs:List V)
 | dK (kvs:List (GT×V))|dT (kvs:List (List GT×V))|dN (K:AAY) (kvs:List (PySem.FK×V))
 | set (S:Int->Bool) (n:Nat)
 | ins (C dx:Addr) (fs:List (Str×V))
 | own (x:Addr)
 | xd (fs:List (Str×V))
 | met (f x:Addr)
 | rng (lo hi:Int)
 | frz (o:Obj) (u:HO)
 | tbl (ps:Array Value)
 | ext (φ:Heap->Prop)
abbrev Hp:=kf->ke HO
def upd (H:Hp)(a:kf)(o:HO):Hp:=λb=>if b=a then some o else H b
def Ap {H:Hp}{a:kf}{o:HO}:upd H a o a=some o:=by unfold upd;rw[AAb rfl]
def Ao {H:Hp}{a b:kf}{o:HO}(h:b≠a):upd H a o b=H b:=by unfold upd;rw[AAa h]
def sS {H:Hp}{a b:kf}{o u:HO}(h:H a=some o)(h':H b=some u)(d:o≠u):a≠b:=by intro e;subst e;rw[h] at h';exact d (AAw h')
def A5 {H:Hp}{a b:kf}{o:HO}(h:H a=some o)(h':H b=none):a≠b:=by intro e;subst e;rw[h] at h';cases h'
def dE (K:AAY)(H:Hp)(b:kf)(t d:Int):Prop:=H b=some (.tup [.int t, .int d])\/∃(o:Obj) (a:Array kj) (n:Nat),K.lookup b=some o/\o.cls= .type "tuple" /\o.data= .seq a n/\A7 [.int t, .int d] a.toList
def HG (K:AAY)(H:Hp)(a:kf)(k:PySem.FK):Prop:=∃b,H a=some (.tup [.ref b, .int k.2])/\dE K H b k.1.1 k.1.2
def HG.stay {K:AAY}{H c:Hp}{a:kf}{k:PySem.FK}(x:HG K H a k)(d:∀b xs,H b=some (.tup xs)->c b=some (.tup xs)):HG K c a k:=let ⟨b,h1,h2⟩:=x;⟨b,d _ _ h1,h2.elim (λz=> .inl (d _ _ z)) .inr⟩
section
variable (P:gn)(w:fe)
def DR (H:Hp)(h:da)(a:kf):HO->Prop
 | .lst xs=>xs.length<=sizeLine/\∃(c:km kj) (n:Nat),A7 xs c/\h.get? a=some {cls:= .type "list",data:= .seq c.toArray n}
 | .tup xs=>xs.length<=sizeLine/\∃c:km kj,A7 xs c/\IsTup h a c.toArray
 | .dK b=>b.length<=sizeLine/\(a==sysModules)=false/\∃vs,KV b vs/\h.DictOf (Tu P w) a vs
 | .dT b=>b.length<=sizeLine/\(a==sysModules)=false/\∃xs:km (km GT×kf×kj),
     Paired (λ(p:km GT×V) (q:km GT×kf×kj)=>p.1=q.1/\H q.2.1=some (.tup (p.1.map kV))/\RelV p.2 q.2.2) b xs/\
     ∃o es ep,h.get? a=some o/\o.ExactDict/\o.data= .dict es ep/\es.toList=xs.map (entryOfKey (tupleKind (Tu P w)))/\(xs.map (·.1)).Nodup
 | .dN K b=>b.length<=sizeLine/\(a==sysModules)=false/\∃xs:km (PySem.FK×kf×kj),Paired (λ(p:PySem.FK×V) (q:PySem.FK×kf×kj)=>p.1=q.1/\HG K H q.2.1 p.1/\RelV p.2 q.2.2) b xs/\∃o es ep,h.get? a=some o/\o.ExactDict/\o.data= .dict es ep/\es.toList=xs.map (entryOfKey (PySem.fkKind P w))/\(xs.map (·.1)).Nodup
 | .set S n=>h.SetOf (intKind P w) a S n
 | .ins C g e=>H g=some (.own a)/\e.length<=1000/\g≠a/\h.get? a=some (PySem.W.instObj C g)/\
     ∃d,h.Ns1 g d/\(∀f,LV (e.lookup f) (d f))/\PySem.Within d (e.map (·.1))
 | .own _=>∃o,h.get? a=some o
 | .xd e=>∃d,h.Ns1 a d/\∀f,LV (e.lookup f) (d f)
 | .rng lo hi=>∃t u v,h.get? a=some {cls:= .type "range",data:= .fields #[.int lo t, .int hi u, .int 1 v] }
 | .frz o u=>h.get? a=some o/\DR H h a u
 | .tbl j=>h.get? a=some {cls:= .none,data:= .fields j}
 | .met f x=>h.get? a=some (PySem.W.methodObj (.ref f) (.ref x))
 | .ext i=>i h/\(∃o,h.get? a=some o)/\∀h1 h2:da,i h1->(∀o,h1.get? a=some o->h2.get? a=some o)->i h2
def OE (H:Hp)(h:da):Prop:=∀a o,H a=some o->DR P w H h a o
end
section
variable {P:gn}{w:fe}{H H':Hp}{h h':da}{a:kf}{o:HO}
def DR.lt (x:DR P w H h a o):a<h.objs.size:=by
 cases o with
 | lst xs=>obtain⟨_,_,_,_,e⟩:=x;exact AAd e
 | tup xs=>obtain⟨_,_,_,p⟩:=x;exact p.lt
 | dK b=>obtain⟨_,_,_,_,o,_,_,e,_⟩:=x;exact AAd e
 | dT b=>obtain⟨_,_,_,_,o,_,_,e,_⟩:=x;exact AAd e
 | dN K b=>obtain⟨_,_,_,_,o,_,_,e,_⟩:=x;exact AAd e
 | set S n=>obtain⟨o,_,_,_,e,_⟩:=x;exact AAd e
 | ins C d c=>obtain⟨_,_,_,e,_⟩:=x;exact AAd e
 | own y=>obtain⟨_,e⟩:=x;exact AAd e
 | xd c=>obtain⟨_,⟨_,_,_,e,_⟩,_⟩:=x;exact AAd e
 | rng lo hi=>obtain⟨_,_,_,e⟩:=x;exact AAd e
 | frz g u=>obtain⟨e,_⟩:=x;exact AAd e
 | tbl i=>exact AAd (show h.get? a=some _ from x)
 | met f y=>exact AAd (show h.get? a=some _ from x)
 | ext j=>obtain⟨_,⟨_,e⟩,_⟩:=x;exact AAd e
theorem Paired.mapP {d e:Type}{F G:d->e->Prop}:∀{l₁:km d} {c:km e},Paired F l₁ c->(∀a b,F a b->G a b)->Paired G l₁ c
 | _,_, .nil,_=> .nil
 | _,_, .cons r t,f=> .cons (f _ _ r) (Paired.mapP t f)
def DR.stay (x:DR P w H h a o)(k:∀b u,(b=a\/H b=some (.own a))->h.get? b=some u->h'.get? b=some u)(B:∀b,H b=some (.own a)->H' b=some (.own a))(s:∀b xs,H b=some (.tup xs)->H' b=some (.tup xs)):DR P w H' h' a o:=by
 induction o with
 | lst xs=>obtain⟨z,i,n,r,e⟩:=x;exact⟨z,i,n,r,k _ _ (.inl rfl) e⟩
 | tup xs=>obtain⟨z,i,r,g,e,c⟩:=x;exact⟨z,i,r,g,k _ _ (.inl rfl) e,c⟩
 | dK j=>obtain⟨z,y,vs,r,g,es,ep,e,c⟩:=x;exact⟨z,y,vs,r,g,es,ep,k _ _ (.inl rfl) e,c⟩
 | dT j=> obtain⟨z,y,xs,r,g,es,ep,e,c⟩:=x;exact⟨z,y,xs,Paired.mapP r λp q z=>⟨z.1,s _ _ z.2.1,z.2.2⟩,g,es,ep,k _ _ (.inl rfl) e,c⟩
 | dN K j=> obtain⟨z,y,xs,r,g,es,ep,e,c⟩:=x;exact⟨z,y,xs,Paired.mapP r λp q z=>⟨z.1,z.2.1.stay s,z.2.2⟩,g,es,ep,k _ _ (.inl rfl) e,c⟩
 | set S n=>obtain⟨g,es,ep,t,e,c⟩:=x;exact⟨g,es,ep,t,k _ _ (.inl rfl) e,c⟩
 | ins C G D=> obtain⟨d,z,E,e,l,⟨m,es,ep,F,c⟩,r⟩:=x;exact⟨B _ d,z,E,k _ _ (.inl rfl) e,l,⟨m,es,ep,k _ _ (.inr d) F,c⟩,r⟩
 | own y=>obtain⟨g,e⟩:=x;exact⟨g,k _ _ (.inl rfl) e⟩
 | xd D=>obtain⟨l,⟨m,es,ep,e,c⟩,r⟩:=x;exact⟨l,⟨m,es,ep,k _ _ (.inl rfl) e,c⟩,r⟩
 | rng lo hi=>obtain⟨t,u,v,e⟩:=x;exact⟨t,u,v,k _ _ (.inl rfl) e⟩
 | frz g u ih=>obtain⟨e,q⟩:=x;exact⟨k _ _ (.inl rfl) e,ih q⟩
 | tbl A=> have e:h.get? a=some {cls:= .none,data:= .fields A}:=x;show h'.get? a=some {cls:= .none,data:= .fields A};exact k a _ (.inl rfl) e
 | met f y=> have e:h.get? a=some (PySem.W.methodObj (.ref f) (.ref y)):=x;show h'.get? a=some (PySem.W.methodObj (.ref f) (.ref y));exact k a _ (.inl rfl) e
 | ext I=>obtain⟨p,⟨o,e⟩,st⟩:=x;exact⟨st _ _ p λo q=>k _ _ (.inl rfl) q,⟨o,k _ _ (.inl rfl) e⟩,st⟩
def OE.lt (x:OE P w H h)(e:H a=some o):a<h.objs.size:=(x a o e).lt
def OE.fresh (x:OE P w H h)(e:h.objs.size<=a):H a=none:=by
 cases q:H a with
 | none=>rfl
 | some u=>exact absurd (AA0 (x.lt q) e) (ABz _)
def OE.kept (x:OE P w H h)(k:∀b u,h.get? b=some u->h'.get? b=some u):OE P w H h':=λa o e=>
 (x a o e).stay (λb u _ q=>k b u q) (λ_ q=>q) λ_ _ q=>q
def OE.laid (x:OE P w H h)(k:∀b u,h.get? b=some u->h'.get? b=some u)(hp:h.objs.size<=a)(new:DR P w (upd H a o) h' a o):OE P w (upd H a o) h':=λb u e=>by
 have hn:=x.fresh hp;by_cases hb:b=a
 .subst hb;rw[Ap] at e;cases e;exact new
 .rw [Ao hb] at e;exact(x b u e).stay (λc v _ q=>k c v q) (λc q=>by rw[Ao (A5 q hn)];exact q) λc xs q=>by rw[Ao (A5 q hn)];exact q
end
def Rd (H:Hp)(a:kf)(u:HO):Prop:=H a=some u\/∃o,H a=some (.frz o u)
def Rd.of {H:Hp}{a:kf}{u:HO}(h:H a=some u):Rd H a u:= .inl h
def Rd.ok {P:gn}{w:fe}{H:Hp}{h:da}{a:kf}{u:HO}(r:Rd H a u)(x:OE P w H h):DR P w H h a u:=by
 rcases r with r|⟨o,r⟩
 .exact x a u r
 .obtain ⟨_,q⟩:=x a _ r;exact q
def qd:ke HO->Prop
 | some (.lst _)=>True
 | some (.dK _)=>True
 | some (.dT _)=>True
 | some (.dN _ _)=>True
 | some (.set _ _)=>True
 | some (.ins _ _ _)=>True
 | some (.ext _)=>True
 | _=>False
section
variable {P:gn}{w:fe}{H:Hp}{h h':da}{x e:kf}{o':HO}
def OE.write (ok:OE P w H h)(f:qd (H x))(he:e=x\/H e=some (.own x))(k:∀b u,b≠e->h.get? b=some u->h'.get? b=some u)(j:∃u,h'.get? e=some u)(new:DR P w (upd H x o') h' x o'):OE P w (upd H x o') h':=λb u q=>by
 have a:∀c y,H c=some (.own y)->c≠x:=λc y r z=>by subst z;rw[r] at f;exact f
 have d:∀c xs,H c=some (.tup xs)->c≠x:=λc xs r z=>by subst z;rw[r] at f;exact f
 by_cases hb:b=x
 .subst hb;rw[Ap] at q;cases q;exact new
 .rw [Ao hb] at q;by_cases g:b=e
  .have i:H b=some (.own x):=by
    rcases he with z|z
    .exact absurd (g.trans z) hb
    .rw [g];exact z
   rw[q] at i;cases i;obtain⟨v,hv⟩:=j;exact⟨v,by rw[g];exact hv⟩
  .refine (ok b u q).stay (λc v hc r=>k c v ?_ r) (λc r=>by rw[Ao (a c b r)];exact r) λc xs r=>by rw[Ao (d c xs r)];exact r
   rcases hc with rfl|hc
   .exact g
   .rintro rfl;rcases he with z|z
    .exact a c b hc z
    .rw [hc] at z;cases z;exact hb rfl
end
structure Un (fs ex:List Addr) (H H':Hp) (h h':Heap):Prop where
 keep:∀b o,h.get? b=some o->H b=none->b ∉ fs->b ∉ ex->h'.get? b=some o
 slot:∀b o,h.get? b=some o->H b=none->b∈fs->b ∉ ex->∃sl,h'.get? b=some {o with slots:=sl}
 free:∀b o,h.get? b=some o->H b=none->b ∉ ex->H' b=none
 there:∀b o,h.get? b=some o->b ∉ ex->∃o',h'.get? b=some o'
 tups:∀b xs,H b=some (.tup xs)->H' b=some (.tup xs)
 frzs:∀b o u,H b=some (.frz o u)->H' b=some (.frz o u)
 tbls:∀b ps,H b=some (.tbl ps)->∃more,H' b=some (.tbl (ps++more))
section
variable {fs fs' ex ex':km kf}{H H1 H2:Hp}{h h1 h2 h':da}{a x e:kf}{o:HO}
def Un.any (u:Un fs ex H H1 h h1){b:kf}{c:Obj}(q:h.get? b=some c)(n:H b=none)(hx:b ∉ ex):∃d,h1.get? b=some {c with slots:=d}:=by
 by_cases hb:b∈fs
 .exact u.slot b c q n hb hx
 .exact ⟨c.slots,u.keep b c q n hb hx⟩
def Un.trans (a:Un fs ex H H1 h h1)(b:Un fs ex H1 H2 h1 h2):Un fs ex H H2 h h2 where
 keep:=λc d q n hc hx=>b.keep c d (a.keep c d q n hc hx) (a.free c d q n hx) hc hx
 slot:=λc d q n hc hx=>by obtain⟨l,f⟩:=a.slot c d q n hc hx;obtain⟨g,i⟩:=b.slot c _ f (a.free c d q n hx) hc hx;exact⟨g,i⟩
 free:=λc d q n hx=>by obtain⟨j,f⟩:=a.there c d q hx;exact b.free c j f (a.free c d q n hx) hx
 there:=λc d q hx=>by obtain⟨j,f⟩:=a.there c d q hx;exact b.there c j f hx
 tups:=λc xs q=>b.tups c xs (a.tups c xs q)
 frzs:=λc d xs q=>b.frzs c d xs (a.frzs c d xs q)
 tbls:=λc k q=>by obtain⟨m1,f⟩:=a.tbls c k q;obtain⟨m2,i⟩:=b.tbls c _ f;exact⟨m1++m2,by rw[i,Array.append_assoc]⟩
def Un.kept (k:∀b u,h.get? b=some u->h'.get? b=some u):Un fs ex H H h h':=
 ⟨λb c q _ _ _=>k b c q,λb c q _ _ _=>⟨c.slots,k b c q⟩,λ_ _ _ n _=>n,λb c q _=>⟨c,k b c q⟩,λ_ _ q=>q,λ_ _ _ q=>q,λ_ d q=>⟨#[],by rw[q];simp⟩⟩
def Un.refl:Un fs ex H H h h:=Un.kept λ_ _ q=>q
def Un.laid (k:∀b u,h.get? b=some u->h'.get? b=some u)(hp:h.objs.size<=a)(hn:H a=none):Un fs ex H (upd H a o) h h' where
 keep:=λb u q _ _ _=>k b u q
 slot:=λb u q _ _ _=>⟨u.slots,k b u q⟩
 free:=λb u q n _=>by rw[Ao (AAh (AA0 (AAd q) hp))];exact n
 there:=λb u q _=>⟨u,k b u q⟩
 tups:=λb xs q=>by rw[Ao (A5 q hn)];exact q
 frzs:=λb u xs q=>by rw[Ao (A5 q hn)];exact q
 tbls:=λb c q=>⟨#[],by rw[Ao (A5 q hn),q];simp⟩
def Un.write (c:qd (H x))(he:e=x\/H e=some (.own x))(k:∀b u,b≠e->h.get? b=some u->h'.get? b=some u)(f:∃u,h'.get? e=some u):Un fs ex H (upd H x o) h h':=by
 have hx:∀b,H b=none->b≠x:=λb n z=>by subst z;rw[n] at c;exact c
 have hb:∀b,H b=none->b≠e:=λb n z=>by
  subst z;rcases he with r|r
  .exact hx b n r
  .rw [n] at r;cases r
 have hm:∀b u,H b=some u->¬qd (some u)->b≠x:=λb u q g z=>by subst z;rw[q] at c;exact g c
 refine⟨λb u q n _ _=>k b u (hb b n) q,λb u q n _ _=>⟨u.slots,k b u (hb b n) q⟩,λb u q n _=>by rw[Ao (hx b n)];exact n,λb u q _=> ?_,
  λb xs q=>by rw[Ao (hm b _ q λz=>z)];exact q,λb u xs q=>by rw[Ao (hm b _ q λz=>z)];exact q,λb i q=>⟨#[],by rw[Ao (hm b _ q λz=>z),q];simp⟩⟩
 by_cases d:b=e
 .subst d;exact f
 .exact ⟨u,k b u d q⟩
def Un.mono (u:Un fs ex H H1 h h1)(hs:∀b∈fs,b∈fs')(hx:∀b∈ex,b∈ex'):Un fs' ex' H H1 h h1:=
 ⟨λb c q n hb he=>u.keep b c q n (λz=>hb (hs b z)) λz=>he (hx b z),λ_ _ q n _ he=>u.any q n λz=>he (hx _ z),λb c q n he=>u.free b c q n λz=>he (hx b z),λb c q he=>u.there b c q λz=>he (hx b z),u.tups,u.frzs,u.tbls⟩
end
def uz (h:da)(H:Hp):km kf:=(List.range h.objs.size).filter λa=>(H a).isSome
def Th (h:da)(H:Hp):da:=PySem.W.hideAll h (uz h H)
def aw (h:da)(H:Hp):(Th h H).objs.size=h.objs.size:=PySem.W.hideAll_size _ _
def d9 {h:da}{H:Hp}{b:kf}{o:Obj}(e:h.get? b=some o)(n:H b=none):(Th h H).get? b=some o:=
 PySem.W.hideAll_get _ e λhm=>by have q:(H b).isSome=true:=(ABo.mp hm).2;rw[n] at q;simp at q
def jb {h:da}{H:Hp}{b:kf}{o:Obj}(e:(Th h H).get? b=some o):h.get? b=some o/\H b=none:=by
 have a:h.get? b=some o:=PySem.W.of_hideAll (uz h H) e;refine⟨a, ?_⟩;cases q:H b with
 | none=>rfl
 | some x=> have hm:b∈uz h H:=ABo.mpr ⟨AD1.mpr (AAd a),by simp[q]⟩;have z:(Th h H).get? b=none:=PySem.W.hideAll_none (uz h H) hm;rw[z] at e;cases e
def iq (g h:da)(L:kf):km (kf×Obj):=(List.range h.objs.size).filterMap λa=>if a=L\/(g.get? a).isSome=true then none else (h.get? a).map λo=>(a,o)
def rest (g h:da)(L d:kf):km (kf×Obj):=(iq g h L).filter λp=>decide (p.1≠d)
structure Mod (K:AAY) (mg:Str->Option Value) (base:Heap):Prop where
 kin:K.In base
 glob:base.Ns mainGlobals mg
 blt:∃mb,base.Ns builtinsNs mb/\∀x:Str,x≠"__name__" ->mb x=bootBuiltins x
 nolimit:base.NoLimit
structure Cx where
 prog:Program
 w:World
 K:AAY
 mg:Str->Option Value
 base:Heap
 A:Around
 N:List Str
 s₀:Shared
 H₀:Hp
 env:Env
 outer:List Env
 stack:List Env
 ex:List Addr
 fn:Str->Bool
 calm:Bool
 pn:List (Addr×Obj)
 xe:Value->Shared->Prop
def cX (l:km Env):km kf:=l.filterMap (·.frame)
abbrev Cx.fs (X:Cx):km kf:=cX X.outer
def lH (sc:Scope)(x:Str):Prop:=sc.names.lookup x=some .local\/sc.names.lookup x=some .cell\/sc.names.lookup x=some .free
def Loc (sc:Scope)(x:Str):Prop:=sc.names.lookup x=some .local\/sc.names.lookup x=some .cell
def Look (env:Env)(h:da)(m:Str->ke kj)(x:Str)(u:kj):Prop:=
 (env.kindOf x=some .local/\m x=some u)\/((env.kindOf x=some .cell\/env.kindOf x=some .free)/\∃c,env.cells.lookup x=some c/\h.IsCell c (some u))
structure Cx.Ok (X:Cx):Prop where
 mod:Mod X.K X.mg X.base
 kind:X.env.scope.kind= .function
 glob:X.env.globals=mainGlobals
 blt:X.env.builtins=builtinsNs
 above:X.s₀.heap.objs.size<=X.env.locals
 inj:∀x y c,X.env.cells.lookup x=some c->X.env.cells.lookup y=some c->x=y
 has:∀x,(X.env.kindOf x=some .cell\/X.env.kindOf x=some .free)->∃c,X.env.cells.lookup x=some c
 cab:∀x c,X.fn x=true->X.env.cells.lookup x=some c->X.s₀.heap.objs.size<=c
 hd:X.calm=true->X.A.handled=none
 frames:X.A.frames=some X.stack
 stk:X.stack=X.outer\/(X.stack=X.env::X.outer/\X.env.frame=some X.env.locals)
 exf:∀b∈X.ex,b≠X.env.locals/\∀x c,X.env.cells.lookup x=some c->c≠b
 bs:∀b o,X.base.get? b=some o->X.s₀.heap.get? b=some o/\X.H₀ b=none
 bsz:X.base.objs.size<=X.s₀.heap.objs.size
 noex:∀b o,X.base.get? b=some o->b ∉ X.ex
 exfs:∀b∈X.ex,b ∉ X.fs
 funs:X.s₀.heap.FunFrames X.base X.outer
 frf:∀b∈X.fs,X.H₀ b=none
structure Inv (X:Cx) (Tb:List (Addr×Obj)) (σ:List (Option V)) (H:Hp) (s:Shared):Prop where
 ok:X.Ok
 os:s.os=X.s₀.os
 bare:AllBare s.gens
 base:Un X.fs X.ex X.H₀ H X.s₀.heap s.heap
 loc:∃m,s.heap.Ns X.env.locals m/\∀(i:Nat) (x:Str) (v:V),X.N[i]? =some x->σ[i]? =some (some v)->lH X.env.scope x->∃u,RelV v u/\Look X.env s.heap m x u
 cell:∀x c,X.env.cells.lookup x=some c->∃v,s.heap.IsCell c v
 free:H X.env.locals=none
 freeC:∀x c,X.env.cells.lookup x=some c->H c=none
 pin:∀p∈X.pn++Tb,s.heap.get? p.1=some p.2/\H p.1=none/\p.1≠X.env.locals/\p.1 ∉ X.fs/\∀v,p.2.data≠ .cell v
 hok:OE X.prog X.w H s.heap
 len:σ.length=X.N.length
section
variable {X:Cx}{Tb:km (kf×Obj)}{σ:km (ke V)}{H H':Hp}{s:ki}{h':da}
def Cx.Ok.nofr (ok:X.Ok){b:kf}{o:Obj}(e:X.base.get? b=some o):b ∉ X.fs:=λhb=>by have:=(ok.funs.mem hb).1;rw[e] at this;cases this
def Inv.bs (I:Inv X Tb σ H s):∀b o,X.base.get? b=some o->s.heap.get? b=some o/\H b=none:=λb o e=>
 ⟨I.base.keep b o (I.ok.bs b o e).1 (I.ok.bs b o e).2 (I.ok.nofr e) (I.ok.noex b o e),I.base.free b o (I.ok.bs b o e).1 (I.ok.bs b o e).2 (I.ok.noex b o e)⟩
def Inv.bk (I:Inv X Tb σ H s):∀b o,X.base.get? b=some o->s.heap.get? b=some o:=λb o e=>(I.bs b o e).1
def Inv.mod (I:Inv X Tb σ H s):Mod X.K X.mg X.base:=I.ok.mod
def Inv.kIn (I:Inv X Tb σ H s):X.K.In s.heap:=I.ok.mod.kin.keeps I.bk
def Inv.nolimit (I:Inv X Tb σ H s):s.heap.NoLimit:=I.ok.mod.nolimit.keeps I.bk
def Inv.fr (I:Inv X Tb σ H s):∃m,Fr X.base X.env.locals s.heap m:=
 let ⟨m,hn,_⟩:=I.loc
 ⟨m,hn,I.bk,AA1 I.ok.bsz I.ok.above⟩
def Inv.lt (I:Inv X Tb σ H s):X.env.locals<s.heap.objs.size:=let ⟨_,hn,_⟩:=I.loc;hn.lt
def Inv.sz (I:Inv X Tb σ H s):X.s₀.heap.objs.size<=s.heap.objs.size:=AA1 I.ok.above (AD2 I.lt)
def Inv.nofs (I:Inv X Tb σ H s){a:kf}(h:s.heap.objs.size<=a):a ∉ X.fs:=λhb=>by obtain⟨_,o,b,_⟩:=I.ok.funs.mem hb;exact absurd (AA0 (AAd b) (AA1 I.sz h)) (ABz _)
def Inv.cne (I:Inv X Tb σ H s):∀x c,X.env.cells.lookup x=some c->c≠X.env.locals:=λx c e z=>by obtain⟨v,o,a,hd⟩:=I.cell x c e;obtain⟨m,⟨f,es,ep,b,d,_⟩,_⟩:=I.loc;rw[z,b] at a;cases a;rw[d] at hd;cases hd
def Inv.funs (I:Inv X Tb σ H s):s.heap.FunFrames X.base X.outer:=by
 have all:∀(l:km Env),(∀b∈cX l,b∈X.fs)->X.s₀.heap.FunFrames X.base l->s.heap.FunFrames X.base l:=by
  intro l;induction l with
  | nil=>intro _ _;trivial
  | cons env r ih=> intro hs hl;obtain⟨hk,⟨L,o,a,hn,d,hd⟩,f⟩:=hl;have c:L∈X.fs:=hs L (by unfold cX;rw[AEg,a];exact ACn);obtain⟨g,e⟩:=I.base.slot L o d (I.ok.frf L c) c λz=>I.ok.exfs L z c;exact⟨hk,⟨L,_,a,hn,e,hd⟩,ih (λb hb=>hs b (by unfold cX;rw[AEg,a];exact ABn _ hb)) f⟩
 exact all X.outer (λ_ hb=>hb) I.ok.funs
def Inv.stack (I:Inv X Tb σ H s):s.heap.FunFrames X.base X.stack:=by
 rcases I.ok.stk with e|⟨e,a⟩
 .rw [e];exact I.funs
 .rw [e];obtain⟨m,hn,_⟩:=I.loc;refine .cons (by rw[I.ok.kind];decide) a hn ?_ I.funs;exact Heap.get?_none_of_le (AA1 I.ok.bsz I.ok.above)
def Inv.stkSub (I:Inv X Tb σ H s):∀b∈cX X.stack,b∈X.env.locals::X.fs:=λb hb=>by
 rcases I.ok.stk with e|⟨e,a⟩
 .rw [e] at hb;exact ABn _ hb
 .rw [e] at hb;unfold cX at hb;rw[AEg,a] at hb;exact hb
def Inv.stkFree (I:Inv X Tb σ H s):∀b∈cX X.stack,H b=none:=λb hb=>by
 rcases AAc.mp (I.stkSub b hb) with e|hb
 .rw [e];exact I.free
 .obtain ⟨_,o,a,_⟩:=I.ok.funs.mem hb;exact I.base.free b o a (I.ok.frf b hb) λz=>I.ok.exfs b z hb
def Inv.step {g':Array GenState}{t':Nat}{d':Drawn}{ch:km kf}(I:Inv X Tb σ H s)(j:∀b∈ch,(b∈X.ex\/X.s₀.heap.objs.size<=b)/\b≠X.env.locals/\(∀x c,X.env.cells.lookup x=some c->c≠b)/\∀p∈X.pn++Tb,p.1≠b)(keep:∀b o,b≠X.env.locals->b ∉ X.fs->b ∉ ch->s.heap.get? b=some o->H b=none->h'.get? b=some o)(slot:∀b o,b≠X.env.locals->b∈X.fs->b ∉ ch->s.heap.get? b=some o->H b=none->∃C,h'.get? b=some {o with slots:=C})(free:∀b o,b ∉ ch->s.heap.get? b=some o->H b=none->H' b=none)(there:∀b o,b ∉ ch->s.heap.get? b=some o->∃t,h'.get? b=some t)(tups:∀b xs,H b=some (.tup xs)->H' b=some (.tup xs))(frzs:∀b o u,H b=some (.frz o u)->H' b=some (.frz o u))(tbls:∀b B,H b=some (.tbl B)->∃more,H' b=some (.tbl (B++more)))(G:∀m,s.heap.Ns X.env.locals m->h'.Ns X.env.locals m)(hok:OE X.prog X.w H' h')(J:AllBare g'):Inv X Tb σ H' {s with heap:=h',gens:=g',drawn:=d',toks:=t'}:=by
 have y:∀b o,X.s₀.heap.get? b=some o->b≠X.env.locals:=λb o e=>AAh (AA0 (AAd e) I.ok.above);have f:∀b o,X.s₀.heap.get? b=some o->b ∉ X.ex->b ∉ ch:=λb o e hx hb=>by
  rcases (j b hb).1 with z|z
  .exact hx z
  .exact absurd (AA0 (AAd e) z) (ABz _)
 have cellK:∀x c,X.env.cells.lookup x=some c->∀v,s.heap.IsCell c v->h'.IsCell c v:=λx c e v ⟨o,h,hd⟩=>by
  have a:c ∉ ch:=λz=>(j c z).2.2.1 x c e rfl;by_cases hc:c∈X.fs
  .obtain ⟨C,q⟩:=slot c o (I.cne x c e) hc a h (I.freeC x c e);exact⟨_,q,hd⟩
  .exact ⟨o,keep c o (I.cne x c e) hc a h (I.freeC x c e),hd⟩
 refine⟨I.ok,I.os,J,⟨λb o e n hb hx=> ?_,λb o e n hb hx=> ?_,λb o e n hx=> ?_,λb o e hx=> ?_,λb xs e=>tups b xs (I.base.tups b xs e),λb o xs e=>frzs b o xs (I.base.frzs b o xs e),λb B e=> ?_⟩, ?_,λx c e=> ?_, ?_,λx c e=> ?_,λp hp=> ?_,hok,I.len⟩
 .exact keep b o (y b o e) hb (f b o e hx) (I.base.keep b o e n hb hx) (I.base.free b o e n hx)
 .obtain ⟨C,g⟩:=I.base.slot b o e n hb hx;obtain⟨D,A⟩:=slot b _ (y b o e) hb (f b o e hx) g (I.base.free b o e n hx);exact⟨D,A⟩
 .obtain ⟨t,g⟩:=I.base.there b o e hx;exact free b t (f b o e hx) g (I.base.free b o e n hx)
 .obtain ⟨t,g⟩:=I.base.there b o e hx;exact there b t (f b o e hx) g
 .obtain ⟨m1,g⟩:=I.base.tbls b B e;obtain⟨m2,A⟩:=tbls b _ g;exact⟨m1++m2,by rw[A,Array.append_assoc]⟩
 .obtain ⟨m,hn,hl⟩:=I.loc;refine⟨m,G m hn,λi x v g A K=> ?_⟩;obtain⟨u,r,l⟩:=hl i x v g A K;refine⟨u,r, ?_⟩;rcases l with l|⟨k,c,e,z⟩
  .exact .inl l
  .exact .inr ⟨k,c,e,cellK x c e _ z⟩
 .obtain ⟨v,z⟩:=I.cell x c e;exact⟨v,cellK x c e v z⟩
 .obtain ⟨m,⟨o,_,_,h,_⟩,_⟩:=I.loc;exact free _ o (λz=>(j _ z).2.1 rfl) h I.free
 .obtain ⟨v,o,h,hd⟩:=I.cell x c e;exact free c o (λz=>(j c z).2.2.1 x c e rfl) h (I.freeC x c e)
 .obtain ⟨e,n,E,F,d⟩:=I.pin p hp;have a:p.1 ∉ ch:=λz=>(j p.1 z).2.2.2 p hp rfl;exact⟨keep p.1 p.2 E F a e n,free p.1 p.2 a e n,E,F,d⟩
def Inv.un {t':Nat}(I:Inv X Tb σ H s)(u:Un X.fs [] H H' s.heap h')(hok:OE X.prog X.w H' h'):Inv X Tb σ H' {s with heap:=h',toks:=t'}:=by
 obtain⟨m,⟨o,es,ep,d,r⟩,_⟩:=id I.loc;obtain⟨i,g⟩:=u.any d I.free (by simp);exact I.step (g':=s.gens) (d':=s.drawn) (ch:= []) (λ_ z=>nomatch z) (λb o _ hb _ e n=>u.keep b o e n hb (by simp)) (λb o _ hb _ e n=>u.slot b o e n hb (by simp)) (λb o _ e n=>u.free b o e n (by simp)) (λb o _ e=>u.there b o e (by simp)) u.tups u.frzs u.tbls (λj hm=>by
  obtain⟨k,a,c,f,h⟩:=hm;rw[d] at f;cases f;exact⟨_,a,c,g,h⟩) hok I.bare
def Inv.call {g':Array GenState}{t':Nat}{d':Drawn}{ch:km kf}(I:Inv X Tb σ H s)(u:Un (cX X.stack) ch H H' s.heap h')(hok:OE X.prog X.w H' h')(j:AllBare g')(g:∀b∈ch,(b∈X.ex\/X.s₀.heap.objs.size<=b)/\b≠X.env.locals/\(∀x c,X.env.cells.lookup x=some c->c≠b)/\∀p∈X.pn++Tb,p.1≠b):Inv X Tb σ H' {s with heap:=h',gens:=g',drawn:=d',toks:=t'}:=by
 obtain⟨m,⟨o,es,ep,h,r⟩,_⟩:=id I.loc;obtain⟨l,a⟩:=u.any h I.free λz=>(g _ z).2.1 rfl;exact I.step (ch:=ch) g (λb o a hb hc e n=>u.keep b o e n (λz=>(AAc.mp (I.stkSub b z)).elim a hb) hc) (λb o _ _ hc e n=>u.any e n hc) (λb o hc e n=>u.free b o e n hc) (λb o hc e=>u.there b o e hc) u.tups u.frzs u.tbls (λt hm=>by
  obtain⟨v,d,f,i,k⟩:=hm;rw[h] at i;cases i;exact⟨_,d,f,a,k⟩) hok j
def Inv.turned {t':Nat}{it:kf}(I:Inv X Tb σ H s)(k:∀b o,b≠it->s.heap.get? b=some o->h'.get? b=some o)(hn:H it=none)(d:it≠X.env.locals)(h1:it∈X.ex\/X.s₀.heap.objs.size<=it)(h2:∀x c,X.env.cells.lookup x=some c->c≠it)(f:∀p∈X.pn++Tb,p.1≠it):Inv X Tb σ H {s with heap:=h',toks:=t'}:=by
 have a:∀b u,H b=some u->b≠it:=λb u e z=>by rw[z,hn] at e;cases e
 refine I.step (g':=s.gens) (d':=s.drawn) (ch:= [it]) (λb hb=> ?_) (λb o _ _ hc e _=>k b o (λz=>hc (by simp[z])) e) (λb o _ _ hc e _=>⟨o.slots,k b o (λz=>hc (by simp[z])) e⟩) (λ_ _ _ _ n=>n)
  (λb o hc e=>⟨o,k b o (λz=>hc (by simp[z])) e⟩) (λ_ _ e=>e) (λ_ _ _ e=>e) (λb h e=>⟨#[],by rw[e];simp⟩) (λm hm=> ?_) (λb u e=> ?_) I.bare
 .have e:b=it:=by simpa using hb
  subst e;exact⟨h1,d,h2,f⟩
 .obtain ⟨o,es,ep,g,r⟩:=hm;exact⟨o,es,ep,k _ o (ABW d) g,r⟩
 .refine (I.hok b u e).stay (λc v hc q=>k c v ?_ q) (λ_ q=>q) λ_ _ q=>q;rcases hc with z|z
  .rw [z];exact a b u e
  .exact a c _ z
def Inv.tok (I:Inv X Tb σ H s)(t:Nat):Inv X Tb σ H {s with toks:=t}:=I.un (h':=s.heap) (t':=t) Un.refl I.hok
def Inv.kept {t':Nat}(I:Inv X Tb σ H s)(k:∀b u,s.heap.get? b=some u->h'.get? b=some u):Inv X Tb σ H {s with heap:=h',toks:=t'}:=I.un (Un.kept k) (I.hok.kept k)
def Inv.laid {a:kf}{o:HO}{t':Nat}(I:Inv X Tb σ H s)(k:∀b u,s.heap.get? b=some u->h'.get? b=some u)(hp:s.heap.objs.size<=a)(new:DR X.prog X.w (upd H a o) h' a o):Inv X Tb σ (upd H a o) {s with heap:=h',toks:=t'}:=I.un (Un.laid k hp (I.hok.fresh hp)) (I.hok.laid k hp new)
def Inv.write {x e:kf}{o:HO}{t':Nat}(I:Inv X Tb σ H s)(a:qd (H x))(he:e=x\/H e=some (.own x))(k:∀b u,b≠e->s.heap.get? b=some u->h'.get? b=some u)(c:∃u,h'.get? e=some u)(new:DR X.prog X.w (upd H x o) h' x o):Inv X Tb σ (upd H x o) {s with heap:=h',toks:=t'}:=I.un (Un.write a he k c) (I.hok.write a he k c new)
def Inv.weak {a:km (ke V)}(I:Inv X Tb σ H s)(hl:a.length=σ.length)(w:∀(i:Nat) v,a[i]? =some (some v)->σ[i]? =some (some v)):Inv X Tb a H s:=
 ⟨I.ok,I.os,I.bare,I.base,let ⟨m,hn,b⟩:=I.loc;⟨m,hn,λi x v c d e=>b i x v c (w i v d) e⟩,I.cell,I.free,I.freeC,I.pin,I.hok,hl.trans I.len⟩
def Inv.pins_of {a:km (kf×Obj)}(I:Inv X Tb σ H s)(h:∀p∈a,s.heap.get? p.1=some p.2/\H p.1=none/\p.1≠X.env.locals/\p.1 ∉ X.fs/\∀v,p.2.data≠ .cell v):Inv X a σ H s:=
 ⟨I.ok,I.os,I.bare,I.base,I.loc,I.cell,I.free,I.freeC,λp hp=>(AAn.mp hp).elim (λz=>I.pin p (AD3 _ z)) (h p),I.hok,I.len⟩
def V7 {N:km Str}(hN:N.Nodup){i j:Nat}{x:Str}(a:N[i]? =some x)(b:N[j]? =some x):i=j:=by obtain⟨h1,c⟩:=ABC.mp a;obtain⟨h2,d⟩:=ABC.mp b;exact(List.getElem_inj hN).mp (c.trans d.symm)
def SN {M:Model}{A:Wf}{E:kj->ki->Prop}{i:Nat}{x:Str}{v:V}{u:kj}{Q:Unit->ki->Prop}(I:Inv X Tb σ H s)(hN:X.N.Nodup)(hi:X.N[i]? =some x)(hx:Loc X.env.scope x)(r:RelV v u)(h:∀F,Inv X Tb (σ.set i (some v)) H F->(∃a,Heap.SameBut a s.heap F.heap/\(a=X.env.locals\/X.env.cells.lookup x=some a))->Q () F)(hf:X.fn x=true\/X.env.scope.names.lookup x=some .local:=by first | exact .inl rfl|exact .inr rfl|assumption):wpAny M A (storeName X.env x u) Q E s:=by
 obtain⟨m,hn,hl⟩:=id I.loc;have v5:(X.env.scope.kind == .class||(X.env.scope.kind == .module&&X.env.locals != X.env.globals))=false:=by rw[I.ok.kind];rfl
 have l:i<σ.length:=by rw[I.len];exact(ABC.mp hi).1
 have t:=I.cne;have tracked:∀{a:kf} {h':da},(∃o,s.heap.get? a=some o/\H a=none)->Heap.SameBut a s.heap h'->OE X.prog X.w H h':=λ{a h'} ha hs b ob e=>by
  obtain⟨_,_,W⟩:=ha;refine(I.hok b ob e).stay (λc B hc q=>(hs.2 c ?_).trans q) (λ_ q=>q) λ_ _ q=>q;rintro rfl;rcases hc with rfl|hc
  .rw [W] at e;cases e
  .rw [W] at hc;cases hc
 rcases hx with hk|hk
 .refine wpAny_storeName_local hk hn (λh' G hs=> ?_) v5;obtain⟨oL,_,_,J,_⟩:=id hn;refine h _ ⟨I.ok,I.os,I.bare,⟨λb o e n hb hx=> ?_,λb o e n hb hx=> ?_,I.base.free,λb o e hx=> ?_,I.base.tups,I.base.frzs,I.base.tbls⟩,⟨_,G,λj y K f g L=> ?_⟩,λy c e=> ?_,I.free,I.freeC,λp hp=> ?_,tracked ⟨oL,J,I.free⟩ hs,by simpa using I.len⟩ ⟨_,hs, .inl rfl⟩
  .exact (hs.2 b (AAh (AA0 (AAd e) I.ok.above))).trans (I.base.keep b o e n hb hx)
  .obtain ⟨O,f⟩:=I.base.slot b o e n hb hx;exact⟨O,(hs.2 b (AAh (AA0 (AAd e) I.ok.above))).trans f⟩
  .obtain ⟨P,f⟩:=I.base.there b o e hx;exact⟨P,(hs.2 b (AAh (AA0 (AAd e) I.ok.above))).trans f⟩
  .by_cases hj:j=i
   .subst hj;rw[hi] at f;cases f;rw[AFB l] at g;cases g;exact⟨u,r, .inl ⟨hk,by simp⟩⟩
   .rw [ABL (ABW hj)] at g;obtain⟨R,S,q⟩:=hl j y K f g L;refine⟨R,S, ?_⟩;rcases q with⟨k,e⟩|⟨k,c,e,z⟩
    .refine .inl ⟨k, ?_⟩;have:y≠x:=λe=>hj (V7 hN f (e ▸ hi));simp[this,e]
    .exact .inr ⟨k,c,e,z.sameBut hs (t y c e)⟩
  .obtain ⟨B,z⟩:=I.cell y c e;exact⟨B,z.sameBut hs (t y c e)⟩
  .obtain ⟨e,n,C,T,d⟩:=I.pin p hp;exact⟨(hs.2 p.1 C).trans e,n,C,T,d⟩
 .have U:X.fn x=true:=by
   rcases hf with z|z
   .exact z
   .rw [z] at hk;cases hk
  obtain⟨c,hc⟩:=I.ok.has x (.inl hk);obtain⟨B,z⟩:=I.cell x c hc;refine wpAny_storeName_cell I.ok.kind hk hc z (λh' Y hs=> ?_);obtain⟨Z,yk,wG⟩:=id z;refine h {s with heap:=h'} ⟨I.ok,I.os,I.bare,⟨λb o e n hb hx=> ?_,λb o e n hb hx=> ?_,I.base.free,λb o e hx=> ?_,I.base.tups,I.base.frzs,I.base.tbls⟩,⟨m,hn.sameBut hs (ABW (t x c hc)),λj y K f g L=> ?_⟩,λy D e=> ?_,I.free,I.freeC,λp hp=> ?_,tracked ⟨Z,yk,I.freeC x c hc⟩ hs,by simpa using I.len⟩ ⟨c,hs, .inr hc⟩
  .exact (hs.2 b (AAh (AA0 (AAd e) (I.ok.cab x c U hc)))).trans (I.base.keep b o e n hb hx)
  .obtain ⟨O,f⟩:=I.base.slot b o e n hb hx;exact⟨O,(hs.2 b (AAh (AA0 (AAd e) (I.ok.cab x c U hc)))).trans f⟩
  .obtain ⟨P,f⟩:=I.base.there b o e hx;exact⟨P,(hs.2 b (AAh (AA0 (AAd e) (I.ok.cab x c U hc)))).trans f⟩
  .by_cases hj:j=i
   .subst hj;rw[hi] at f;cases f;rw[AFB l] at g;cases g;exact⟨u,r, .inr ⟨.inl hk,c,hc,Y⟩⟩
   .rw [ABL (ABW hj)] at g;obtain⟨R,S,q⟩:=hl j y K f g L;refine⟨R,S, ?_⟩;rcases q with q|⟨k,D,e,z'⟩
    .exact .inl q
    .refine .inr ⟨k,D,e,z'.sameBut hs ?_⟩;rintro rfl;exact hj (V7 hN f (I.ok.inj _ _ _ e hc ▸ hi))
  .by_cases yd:D=c
   .subst yd;exact⟨_,Y⟩
   .obtain ⟨w2,z2⟩:=I.cell y D e;exact⟨w2,z2.sameBut hs yd⟩
  .obtain ⟨e,n,C,T,d⟩:=I.pin p hp;refine⟨(hs.2 p.1 ?_).trans e,n,C,T,d⟩;intro q;rw[q,yk] at e;have q':Z=p.2:=AAw e;exact d B (by rw[<-q'];exact wG)
def JL {M:Model}{A:Wf}{E:kj->ki->Prop}{i:Nat}{x:Str}{v:V}{u:kj}{Q:Unit->ki->Prop}(I:Inv X Tb σ H s)(hN:X.N.Nodup)(hi:X.N[i]? =some x)(hx:Loc X.env.scope x)(r:RelV v u)(h:∀a,Inv X Tb (σ.set i (some v)) H a->Q () a)(b:X.fn x=true\/X.env.scope.names.lookup x=some .local:=by first | exact .inl rfl|exact .inr rfl|assumption):wpAny M A (storeName X.env x u) Q E s:=
 SN I hN hi hx r (λa c _=>h a c) b
def Inv.call' {a:ki}{ch:km kf}(I:Inv X Tb σ H s)(d:a.os=s.os)(u:Un (cX X.stack) ch H H' s.heap a.heap)(hok:OE X.prog X.w H' a.heap)(f:AllBare a.gens)(g:∀b∈ch,(b∈X.ex\/X.s₀.heap.objs.size<=b)/\b≠X.env.locals/\(∀x c,X.env.cells.lookup x=some c->c≠b)/\∀p∈X.pn++Tb,p.1≠b):Inv X Tb σ H' a:=by obtain⟨h',g',d',t',h⟩:=a;have e:h=s.os:=d;subst e;exact I.call (g':=g') (t':=t') (d':=d') u hok f g
end
abbrev XK:=kj->ke kf->Hp->Prop
abbrev St:=km (ke V)
abbrev VK:=V->Hp->Prop
abbrev TE:=St->Hp->VK->Prop
abbrev TT:=St->Hp->(kc->Hp->Prop)->Prop
abbrev TA:=St->Hp->(km V->Hp->Prop)->Prop
structure PH where
 nx:St->Hp->Prop
 rt:VK
 bk:St->Hp->Prop:=λ_ _=>False
 ct:St->Hp->Prop:=λ_ _=>False
abbrev TS:=PH->St->Hp->Prop
def EP (X:Cx)(Tb:km (kf×Obj))(b:St)(Q:VK)(u:kj)(c:ki):Prop:=∃v a,Inv X Tb b a c/\RelV v u/\Q v a
def TP (X:Cx)(Tb:km (kf×Obj))(c:St)(Q:kc->Hp->Prop)(b:kc)(d:ki):Prop:=∃a,Inv X Tb c a d/\Q b a
def AP (X:Cx)(Tb:km (kf×Obj))(b:St)(Q:km V->Hp->Prop)(c:km kj)(d:ki):Prop:=∃vs a,Inv X Tb b a d/\A7 vs c/\Q vs a
def SP (X:Cx)(Tb:km (kf×Obj))(D:PH)(f:Flow)(c:ki):Prop:=
 match f with
 | .next=>∃a b,Inv X Tb a b c/\D.nx a b
 | .brk=>∃a b,Inv X Tb a b c/\D.bk a b
 | .cont=>∃a b,Inv X Tb a b c/\D.ct a b
 | .ret u=>∃v a b,Inv X Tb a b c/\RelV v u/\D.rt v b
def PE (X:Cx)(e:kd)(t:TE):Prop:=
 ∀(Tb:km (kf×Obj)) (s:ki) (a:St) (H:Hp) (Q:VK),Inv X Tb a H s->t a H Q->wpAny (model X.prog X.w) X.A (eval e X.env) (EP X Tb a Q) X.xe s
def PT (X:Cx)(e:kd)(t:TT):Prop:=
 ∀(Tb:km (kf×Obj)) (s:ki) (a:St) (H:Hp) (Q:kc->Hp->Prop),Inv X Tb a H s->t a H Q->wpAny (model X.prog X.w) X.A (isTrue e X.env (eval e X.env)) (TP X Tb a Q) X.xe s
def PW (X:Cx)(e:kd)(t:TT):Prop:=
 ∀(whole:Sem kj) (Tb:km (kf×Obj)) (s:ki) (a:St) (H:Hp) (Q:kc->Hp->Prop),Inv X Tb a H s->t a H Q->wpAny (model X.prog X.w) X.A (isTrue e X.env whole) (TP X Tb a Q) X.xe s
def PW.pt {X:Cx}{e:kd}{t:TT}(h:PW X e t):PT X e t:=h _
def PA (X:Cx)(es:km kd)(t:TA):Prop:=
 ∀(pos:Pos) (Tb:km (kf×Obj)) (s:ki) (a:St) (H:Hp) (Q:km V->Hp->Prop),Inv X Tb a H s->t a H Q->wpAny (model X.prog X.w) X.A (spliced (backTo pos (starEach es X.env))) (AP X Tb a Q) X.xe s
def PS (X:Cx)(st:Stmt)(t:TS):Prop:=
 ∀(Tb:km (kf×Obj)) (s:ki) (a:St) (H:Hp) (D:PH),Inv X Tb a H s->t D a H->wpAny (model X.prog X.w) X.A (exec st X.env) (SP X Tb D) X.xe s
def Yu (X:Cx)(st:km Stmt)(t:TS):Prop:=
 ∀(Tb:km (kf×Obj)) (s:ki) (a:St) (H:Hp) (D:PH),Inv X Tb a H s->t D a H->wpAny (model X.prog X.w) X.A (execs st X.env) (SP X Tb D) X.xe s
def Bi {b:Type}{t:Sem b}{Q c:b->ki->Prop}{M:Model}{A:Wf}{E:kj->ki->Prop}{s:ki}(h:wpAny M A t Q E s)(hQ:∀a s,Q a s->c a s):wpAny M A t c E s:=ABa h hQ λ_ _ x=>x
section
variable {X:Cx}
def G3 (i:Nat):TE:=λa H Q=>∃v,a[i]? =some (some v)/\Q v H
def tC (v:V):TE:=λ_ H Q=>Q v H
def QH {i:Nat}{x:Str}{pos:Pos}(hN:X.N[i]? =some x)(hv:lH X.env.scope x)(hd:(x==("__debug__" :Str))=false:=by decide)(d:(x==("__classdict__" :Str))=false:=by decide):PE X (.Name x pos) (G3 i):=by
 intro Tb s f H Q I h;obtain⟨v,e,h⟩:=h;obtain⟨m,hn,hl⟩:=I.loc;obtain⟨u,r,l⟩:=hl i x v hN e hv;have a:EP X Tb f Q u s:=⟨v,H,I,r,h⟩;rcases l with⟨hk,hm⟩|⟨hk,c,hc,b⟩
 .exact wpAny_Name (wpAny_loadName_local I.ok.kind hk hn hm a) hd
 .rcases hk with hk|hk
  .exact wpAny_Name (wpAny_loadName_cell I.ok.kind hk hc b a) hd
  .exact wpAny_Name (wpAny_loadName_free I.ok.kind hk hc b a d) hd
def BM {i j pos}:PE X (.Constant (.int i) j pos) (tC (.int i)):=λ_ _ _ H _ I h=>wpAny_Constant_int ⟨.int i,H,I.tok _,⟨_,rfl⟩,h⟩
def sn {b j pos}:PE X (.Constant (.bool b) j pos) (tC (.bl b)):=λ_ _ _ H _ I h=>Constant_bool ⟨.bl b,H,I,rfl,h⟩
def gA {j pos}:PE X (.Constant .none j pos) (tC .non):=λ_ _ _ H _ I h=>Constant_none ⟨.non,H,I,rfl,h⟩
def oN {x j pos}:PE X (.Constant (.str x) j pos) (tC (.str x)):=λ_ _ _ H _ I h=>Calls.Constant_str ⟨.str x,H,I.tok _,⟨_,rfl⟩,h⟩
def Gl (X:Cx)(x:Str):Prop:=X.env.kindOf x=some .globalImplicit
def jV {E:kj->ki->Prop}{Tb:km (kf×Obj)}{s:ki}{a:St}{H:Hp}{x:Str}{u:kj}{pos:Pos}{Q:kj->ki->Prop}(I:Inv X Tb a H s)(b:Gl X x)(hm:X.mg x=some u)(h:Q u s)(hd:(x==("__debug__" :Str))=false:=by decide):wpAny (model X.prog X.w) X.A (eval (.Name x pos) X.env) Q E s:=
 Calls.Name_function_global I.ok.kind b (Calls.loadGlobal_global (by rw[I.ok.glob];exact I.mod.glob.keeps I.bk) hm h) hd
def FB {E:kj->ki->Prop}{Tb:km (kf×Obj)}{s:ki}{a:St}{H:Hp}{x:Str}{u:kj}{pos:Pos}{Q:kj->ki->Prop}(I:Inv X Tb a H s)(b:Gl X x)(hm:X.mg x=none)(hv:bootBuiltins x=some u)(h:Q u s)(hn:x≠"__name__" :=by decide)(hd:(x==("__debug__" :Str))=false:=by decide):wpAny (model X.prog X.w) X.A (eval (.Name x pos) X.env) Q E s:=by obtain⟨c,h1,h2⟩:=I.mod.blt;exact Calls.Name_function_global I.ok.kind b (Calls.loadGlobal_builtin (by rw[I.ok.glob];exact I.mod.glob.keeps I.bk) hm (by rw[I.ok.blt];exact h1.keeps I.bk) ((h2 x hn).trans hv) h) hd
def DO {x:Str}{v:V}{u:kj}{pos:Pos}(a:Gl X x)(hm:X.mg x=none)(hv:bootBuiltins x=some u)(r:RelV v u)(hn:x≠"__name__" :=by decide)(hd:(x==("__debug__" :Str))=false:=by decide):PE X (.Name x pos) (tC v):=
 λ_ _ _ H _ I h=>FB I a hm hv ⟨v,H,I,r,h⟩ hn hd
variable {a b:kd}{ta tb:TE}{pos:Pos}
def PC (X:Cx)(op:CmpOp)(a b:kd)(t:TE):Prop:=
 ∀(Tb:km (kf×Obj)) (s:ki) (e:St) (H:Hp) (Q:VK),Inv X Tb e H s->t e H Q->
  wpAny (model X.prog X.w) X.A (eval a X.env) (λv c=>wpAny (model X.prog X.w) X.A (eval b X.env) (λu d=>wpAny (model X.prog X.w) X.A (compareOp op v u) (EP X Tb e Q) X.xe d) X.xe c) X.xe s
def fQ (b:kd){op:CmpOp}(h:op≠ .In)(h2:op≠ .NotIn):behindInMarks op b=false:=by
 have c:(op==CmpOp.In)=false:=by cases op <;> first | rfl|exact absurd rfl h
 have d:(op==CmpOp.NotIn)=false:=by cases op <;> first | rfl|exact absurd rfl h2
 cases b <;> simp[behindInMarks,c,d]
def tB (t:TE):TT:=λd H Q=>t d H λx e=>∃c,x= .bl c/\Q c e
def oQ {op:CmpOp}{t:TE}(h:PC X op a b t)(h1:behindInMarks op b=false:=by first | exact fQ _ (by decide) (by decide)|rfl):PT X (.Compare a [op] [b] pos) (tB t):=by intro Tb s e H Q I hw;refine wpAny_isTrue_Compare1 (Bi (h Tb s e H _ I hw) λv j h1=>Bi h1 λu k h2=>Bi h2 λc l ⟨x,f,g,r1,i⟩=> ?_) h1;obtain⟨d,rfl,q⟩:=i;cases r1;exact ACT ⟨f,g,q⟩
def oS {e:kd}{t:TE}(h:PE X e t)(he:∀whole,isTrue e X.env whole=(do let v <-whole;standAt e.pos;holding [v] (truthy v)):=by intro _;rfl):PT X e (tB t):=by intro Tb s c H Q I hw;refine isTrue_plain (Bi (h Tb s c H _ I hw) λv j ⟨x,f,g,r1,i⟩=> ?_) (he _);obtain⟨d,rfl,q⟩:=i;cases r1;exact ACT ⟨f,g,q⟩
variable {tA tB':TT}{rest:km kd}
def wo (t u:TT):TT:=λd H Q=>t d H λc e=>if c=true then u d e Q else Q false e
def tOr (t u:TT):TT:=λd H Q=>t d H λc e=>if c=true then Q true e else u d e Q
def wu (t:TT):TT:=λd H Q=>t d H λc e=>Q (!c) e
def j7 (ha:PT X a tA):PW X (.BoolOp .And [a] pos) tA:=by
 intro f Tb s d H Q I h;refine isTrue_and (Bi (ha Tb s d H Q I h) λc g e=> ?_);cases c with
 | true=>exact isTrue_and_nil e
 | false=>exact e
def oU (ha:PT X a tA):PW X (.BoolOp .Or [a] pos) tA:=by
 intro f Tb s d H Q I h;refine isTrue_or (Bi (ha Tb s d H Q I h) λc g e=> ?_);cases c with
 | false=>exact isTrue_or_nil e
 | true=>exact e
def oT (ha:PT X a tA)(hb:PW X (.BoolOp .And (b::rest) pos) tB'):PW X (.BoolOp .And (a::b::rest) pos) (wo tA tB'):=by
 intro i Tb s d H Q I h;refine isTrue_and (Bi (ha Tb s d H _ I h) λc j ⟨e,f,g⟩=> ?_);cases c with
 | true=>exact hb i Tb j d e Q f g
 | false=>exact⟨e,f,g⟩
def tD (ha:PT X a tA)(hb:PW X (.BoolOp .Or (b::rest) pos) tB'):PW X (.BoolOp .Or (a::b::rest) pos) (tOr tA tB'):=by
 intro i Tb s d H Q I h;refine isTrue_or (Bi (ha Tb s d H _ I h) λc j ⟨e,f,g⟩=> ?_);cases c with
 | true=>exact⟨e,f,g⟩
 | false=>exact hb i Tb j d e Q f g
def oR (ha:PT X a tA):PT X (.UnaryOp .Not a pos) (wu tA):=by intro Tb s d H Q I h;exact isTrue_not (ha Tb s d H (λc e=>Q (!c) e) I h)
def uA (ta tb:TE):TE:=λd H Q=>ta d H λx e=>∃c,x= .bl c/\if c=true then tb d e Q else Q (.bl false) e
def uG (ta:TE):TE:=λd H Q=>ta d H λx e=>∃c,x= .bl c/\Q (.bl (!c)) e
def oM {op}{t:TE}(h:PE X a t):PE X (.BoolOp op [a] pos) t:=λTb s c H Q I hw=>BoolOp_one (h Tb s c H Q I hw)
def oI (ha:PE X a ta)(hb:PE X (.BoolOp .And (b::rest) pos) tb):PE X (.BoolOp .And (a::b::rest) pos) (uA ta tb):=by
 intro Tb s e H Q I h;refine BoolOp_and (Bi (ha Tb s e H _ I h) λv i ⟨x,f,g,r1,d⟩=> ?_);obtain⟨c,rfl,d⟩:=d;cases r1;refine ACT ?_;cases c with
 | true=>exact hb Tb i e f Q g d
 | false=>exact⟨.bl false,f,g,rfl,d⟩
def oK (ha:PE X a ta):PE X (.UnaryOp .Not a pos) (uG ta):=by intro Tb s e H Q I h;refine UnaryOp_ (Bi (ha Tb s e H _ I h) λv i ⟨x,f,g,r1,d⟩=> ?_);obtain⟨c,rfl,d⟩:=d;cases r1;exact not_of (ACT ⟨.bl (!c),f,g,rfl,d⟩)
def tIf (t:TT)(ta tb:TE):TE:=λd H Q=>t d H λc e=>if c=true then ta d e Q else tb d e Q
def fy {c:kd}(hc:PT X c tA)(ha:PE X a ta)(hb:PE X b tb):PE X (.IfExp c a b pos) (tIf tA ta tb):=by
 intro Tb s e H Q I h;refine wpAny_IfExp (Bi (hc Tb s e H _ I h) λd f ⟨g,i,j⟩=> ?_);cases d with
 | true=>exact ha Tb f e g Q i j
 | false=>exact hb Tb f e g Q i j
end
def Fy (K:AAY)(H:Hp)(a:kf)(xs:km V):Prop:=
 Rd H a (.lst xs)\/
  ∃(o:Obj) (b:Array kj) (n:Nat),K.lookup a=some o/\o.cls= .type "list" /\o.dict=none/\o.data= .seq b n/\b.size<=sizeLine/\A7 xs b.toList
def LZ (K:AAY)(H:Hp)(a:kf)(xs:km V):Prop:=
 Rd H a (.tup xs)\/
  ∃(o:Obj) (b:Array kj) (n:Nat),K.lookup a=some o/\o.cls= .type "tuple" /\o.data= .seq b n/\b.size<=sizeLine/\A7 xs b.toList
def vZ:kj->ke V
 | .none=>some .non
 | .bool b=>some (.bl b)
 | .int i _=>some (.int i)
 | .str x _=>some (.str x)
 | .bytes b _=>some (.byt b)
 | .float b _=>some (.flt b)
 | .ref a=>some (.ref a)
 | .type n=>some (.ty n)
 | _=>none
def RelV.abs {x:V}{u:kj}(r:RelV x u):vZ u=some x:=by
 cases x with
 | non=>cases r;rfl
 | bl _=>cases r;rfl
 | int _=>obtain⟨t,rfl⟩:=r;rfl
 | str _=>obtain⟨t,rfl⟩:=r;rfl
 | byt _=>obtain⟨t,rfl⟩:=r;rfl
 | flt _=>obtain⟨t,rfl⟩:=r;rfl
 | ref _=>cases r;rfl
 | ty _=>cases r;rfl
def RelV.inj {x y:V}{u:kj}(r:RelV x u)(q:RelV y u):x=y:=AAw (r.abs.symm.trans q.abs)
theorem A7.inj:∀{xs ys:km V} {a:km kj},A7 xs a->A7 ys a->xs=ys
 | _,_,_, .nil, .nil=>rfl
 | _,_,_, .cons r t, .cons b t'=>by rw[r.inj b,A7.inj t t']
section
variable {X:Cx}{Tb:km (kf×Obj)}{σ:St}{H:Hp}{s:ki}{a:kf}{xs ys:km V}
def Fy.of {K:AAY}(h:H a=some (.lst xs)):Fy K H a xs:= .inl (.inl h)
def LZ.of {K:AAY}(h:H a=some (.tup xs)):LZ K H a xs:= .inl (.inl h)
def Inv.list (I:Inv X Tb σ H s)(h:Fy X.K H a xs):∃b:km kj,A7 xs b/\PlainL s.heap a b.toArray/\xs.length<=sizeLine:=by
 rcases h with h|⟨o,b,n,hk,hc,hd,hs,hz,r⟩
 .obtain ⟨z,b,n,r,e⟩:=h.ok I.hok;exact⟨b,r,⟨_,n,e,rfl,rfl,rfl⟩,z⟩
 .refine ⟨b.toList,r,⟨o,n,I.kIn a o hk,hc,hd,by simpa using hs⟩, ?_⟩;have e:=r.length;simp only[ACm] at e;omega
def Inv.tuple (I:Inv X Tb σ H s)(h:LZ X.K H a xs):∃b:km kj,A7 xs b/\IsTup s.heap a b.toArray/\xs.length<=sizeLine:=by
 rcases h with h|⟨o,b,n,hk,hc,hs,hz,r⟩
 .obtain ⟨z,b,r,p⟩:=h.ok I.hok;exact⟨b,r,p,z⟩
 .refine ⟨b.toList,r,⟨o,I.kIn a o hk,hc,n,by simpa using hs⟩, ?_⟩;have e:=r.length;simp only[ACm] at e;omega
def Inv.list_inj (I:Inv X Tb σ H s)(h:Fy X.K H a xs)(h':Fy X.K H a ys):xs=ys:=by
 obtain⟨b,r,⟨o,n,e,_,_,d⟩,_⟩:=I.list h;obtain⟨its',f,⟨i,j,c,_,_,d'⟩,_⟩:=I.list h';rw[e] at c;cases c;rw[d] at d';injection d' with g _;have:b=its':=by simpa using congrArg Array.toList g
 subst this;exact r.inj f
def Inv.tuple_inj (I:Inv X Tb σ H s)(h:LZ X.K H a xs)(h':LZ X.K H a ys):xs=ys:=by
 obtain⟨b,r,⟨o,e,_,n,d⟩,_⟩:=I.tuple h;obtain⟨its',f,⟨i,c,_,j,d'⟩,_⟩:=I.tuple h';rw[e] at c;cases c;rw[d] at d';injection d' with g _;have:b=its':=by simpa using congrArg Array.toList g
 subst this;exact r.inj f
end
abbrev Cx.wish (X:Cx)(E:kj->ki->Prop):Cx:={X with xe:=E}
abbrev Cx.nox (X:Cx):Cx:=X.wish λ_ _=>False
def Cx.Ok.wish {X:Cx}(ok:X.Ok)(E:kj->ki->Prop):(X.wish E).Ok:=
 ⟨ok.mod,ok.kind,ok.glob,ok.blt,ok.above,ok.inj,ok.has,ok.cab,ok.hd,ok.frames,ok.stk,ok.exf,ok.bs,ok.bsz,ok.noex,ok.exfs,ok.funs,ok.frf⟩
def Cx.Ok.unwish {X:Cx}{E:kj->ki->Prop}(ok:(X.wish E).Ok):X.Ok:=
 ⟨ok.mod,ok.kind,ok.glob,ok.blt,ok.above,ok.inj,ok.has,ok.cab,ok.hd,ok.frames,ok.stk,ok.exf,ok.bs,ok.bsz,ok.noex,ok.exfs,ok.funs,ok.frf⟩
section
variable {X:Cx}{Tb:km (kf×Obj)}{σ:St}{H:Hp}{s:ki}{E:kj->ki->Prop}
def Inv.wish (I:Inv X Tb σ H s)(E:kj->ki->Prop):Inv (X.wish E) Tb σ H s:=⟨I.ok.wish E,I.os,I.bare,I.base,I.loc,I.cell,I.free,I.freeC,I.pin,I.hok,I.len⟩
def Inv.unwish (I:Inv (X.wish E) Tb σ H s):Inv X Tb σ H s:=⟨I.ok.unwish,I.os,I.bare,I.base,I.loc,I.cell,I.free,I.freeC,I.pin,I.hok,I.len⟩
def SP.unwish {D:PH}{f:Flow}{c:ki}(h:SP (X.wish E) Tb D f c):SP X Tb D f c:=by
 cases f with
 | next=>obtain⟨a,b,I,q⟩:=h;exact⟨a,b,I.unwish,q⟩
 | brk=>obtain⟨a,b,I,q⟩:=h;exact⟨a,b,I.unwish,q⟩
 | cont=>obtain⟨a,b,I,q⟩:=h;exact⟨a,b,I.unwish,q⟩
 | ret u=>obtain⟨v,a,b,I,r,q⟩:=h;exact⟨v,a,b,I.unwish,r,q⟩
def PE.nox {e:kd}{t:TE}(h:PE X.nox e t):PE X e t:=λTb s σ H Q I hw=>
 ABa (h Tb s σ H Q (I.wish _) hw) (λ_ _ ⟨v,a,b,r,q⟩=>⟨v,a,b.unwish,r,q⟩) λ_ _ z=>False.elim z
def PT.nox {e:kd}{t:TT}(h:PT X.nox e t):PT X e t:=λTb s σ H Q I hw=>
 ABa (h Tb s σ H Q (I.wish _) hw) (λ_ _ ⟨a,b,q⟩=>⟨a,b.unwish,q⟩) λ_ _ z=>False.elim z
def Yu.nox {st:km Stmt}{t:TS}(h:Yu X.nox st t):Yu X st t:=λTb s σ H D I hw=>
 ABa (h Tb s σ H D (I.wish _) hw) (λ_ _ q=>q.unwish) λ_ _ z=>False.elim z
end
section
variable {X:Cx}{st:Stmt}{rest:km Stmt}{t u:TS}{e:kd}{te:TE}{pos:Pos}
def mC:TS:=λD a H=>D.nx a H
def cM (t u:TS):TS:=λD a H=>t {D with nx:=u D} a H
def Ol:Yu X [] mC:=λ_ _ a H _ I h=>AD4 ⟨a,H,I,h⟩
def CL (h1:PS X st t)(h2:Yu X rest u):Yu X (st::rest) (cM t u):=by
 intro Tb s b H D I h;refine wpAny_execs_cons (Bi (h1 Tb s b H {D with nx:=u D} I h) λf c q=> ?_);cases f with
 | next=> obtain⟨a,d,g,q⟩:=q;exact h2 Tb c a d D g q
 | ret v=>exact q
 | brk=>exact q
 | cont=>exact q
def F7 (h1:PS X st t):Yu X [st] t:=by
 intro Tb s a H D I h;refine wpAny_execs_cons (Bi (h1 Tb s a H D I h) λf b q=> ?_);cases f with
 | next=>exact AD4 q
 | ret v=>exact q
 | brk=>exact q
 | cont=>exact q
def Inv.quiet {Tb:km (kf×Obj)}{a:St}{H:Hp}{s:ki}(I:Inv X Tb a H s):interactive X.env=false:=by simp[interactive,I.ok.kind]
def l9 (te:TE):TS:=λD a H=>te a H λ_ b=>D.nx a b
def j6 (he:PE X e te)(hs:swapsWith e none pos.line X.env=pure false:=by rfl):PS X (.Expr e pos) (l9 te):=by intro Tb s a H D I h;exact wpAny_Expr_any (Bi (he Tb s a H _ I h) λv f ⟨x,b,c,r1,d⟩=>⟨a,b,c,d⟩) I.quiet hs
def hJ (te:TE):TS:=λD a H=>te a H D.rt
def QJ (he:PE X e te):PS X (.Return (some e) pos) (hJ te):=by intro Tb s a H D I h;exact wpAny_Return_some (Bi (he Tb s a H _ I h) λv f ⟨x,b,c,r1,d⟩=>⟨x,a,b,c,r1,d⟩)
def uC (c:TT)(t u:TS):TS:=λD a H=>c a H λb d=>if b=true then t D a d else u D a d
def Ze {c:kd}{a b:km Stmt}{g:TT}(hc:PT X c g)(ha:Yu X a t)(hb:Yu X b u):PS X (.If c a b pos) (uC g t u):=by
 intro Tb s f H D I h;refine wpAny_If (Bi (hc Tb s f H _ I h) λd i ⟨j,k,l⟩=> ?_);cases d with
 | true=>exact ha Tb i f j D k l
 | false=>exact hb Tb i f j D k l
end
abbrev TG:=V->St->Hp->(St->Hp->Prop)->Prop
abbrev XD:=km V->St->Hp->(St->Hp->Prop)->Prop
def PG (X:Cx)(target:kd)(t:TG):Prop:=
 ∀(Tb:km (kf×Obj)) (s:ki) (b:St) (H:Hp) (v:V) (u:kj) (Q:St->Hp->Prop),Inv X Tb b H s->RelV v u->t v b H Q->
  wpAny (model X.prog X.w) X.A (assign target X.env u) (λ_ d=>∃a c,Inv X Tb a c d/\Q a c) X.xe s
def pj (X:Cx)(ts:km kd)(t:XD):Prop:=
 ∀(Tb:km (kf×Obj)) (s:ki) (b:St) (H:Hp) (vs:km V) (c:km kj) (Q:St->Hp->Prop),Inv X Tb b H s->A7 vs c->t vs b H Q->
  wpAny (model X.prog X.w) X.A (assignInOrder ((assignEach ts X.env).map (·.2)) c) (λ_ e=>∃a d,Inv X Tb a d e/\Q a d) X.xe s
abbrev mV:=V->V->V->Hp->(Hp->Prop)->Prop
def qe (X:Cx)(t:mV):Prop:=
 ∀(Tb:km (kf×Obj)) (s:ki) (a:St) (H:Hp) (o i v:V) (b c u:kj) (Q:Hp->Prop),Inv X Tb a H s->RelV o b->RelV i c->RelV v u->t o i v H Q->
  wpAny (model X.prog X.w) X.A (setItem b c u) (λ_ e=>∃d,Inv X Tb a d e/\Q d) X.xe s
abbrev qh:=V->V->Hp->VK->Prop
def pk (X:Cx)(op:Operator)(t:qh):Prop:=
 ∀(Tb:km (kf×Obj)) (s:ki) (a:St) (H:Hp) (x y:V) (v u:kj) (Q:VK),Inv X Tb a H s->RelV x v->RelV y u->t x y H Q->
  wpAny (model X.prog X.w) X.A (inplaceOp op v u) (EP X Tb a Q) X.xe s
section
variable {X:Cx}{pos:Pos}
def Di (i:Nat):TG:=λv a H Q=>Q (a.set i (some v)) H
def L5 {i:Nat}{x:Str}(hN:X.N.Nodup)(hi:X.N[i]? =some x)(hx:Loc X.env.scope x)(a:X.fn x=true\/X.env.scope.names.lookup x=some .local:=by first | exact .inl rfl|exact .inr rfl|assumption):PG X (.Name x pos) (Di i):=by intro Tb s c H v u Q I r h;exact wpAny_assign_Name (JL I hN hi hx r (λd b=>⟨_,H,b,h⟩) a)
def Vj:XD:=λvs a H Q=>vs= [] /\Q a H
def F4 (t:TG)(u:XD):XD:=λvs b H Q=>∃v r,vs=v::r/\t v b H λa c=>u r a c Q
def UK:pj X [] Vj:=by intro Tb s a H vs b Q I r h;obtain⟨e,h⟩:=h;subst e;cases r;exact assignInOrder_nil ⟨a,H,I,h⟩
def Iz {e:kd}{es:km kd}{t:TG}{u:XD}(h1:PG X e t)(h2:pj X es u)(hs:(assignEach (e::es) X.env).map (·.2)=assign e X.env::(assignEach es X.env).map (·.2):=by rfl):pj X (e::es) (F4 t u):=by
 intro Tb s b H vs k Q I r h;obtain⟨v,l,c,h⟩:=h;subst c;cases r with
 | cons r d=> rw[hs];refine assignInOrder_cons (Bi (h1 Tb s b H _ _ _ I r h) λ_ f ⟨a,g,i,j⟩=> ?_);exact h2 Tb f a g _ _ Q i d j
def vi (b c:TE)(t:mV):TG:=λv a H Q=>b a H λo d=>c a d λi e=>t o i v e λf=>Q a f
def YH {o i:kd}{d e:TE}{t:mV}(f:PE X o d)(hi:PE X i e)(hs:qe X t)(ha:∀v,assign (.Subscript o i pos) X.env v=(do
   let a <-holding [v] (eval o X.env);let b <-holding [v,a] (eval i X.env)
   standAt pos
   holding [v,a,b] (setItem a b v)
   release [v,a,b] []):=by intro _;rfl):PG X (.Subscript o i pos) (vi d e t):=by intro Tb s c H v u Q I r h;rw[ha];refine AAX (ABV (Bi (f Tb s c H _ I h) λa g ⟨x,j,k,r1,l⟩=> ?_));refine AAX (ABV (Bi (hi Tb g c j _ k l) λb m ⟨y,n,p,r2,w⟩=> ?_));refine AAX (ABp (AAX (ABV (Bi (hs Tb m c n x y v a b u _ p r1 r2 r w) λ_ C ⟨z,A,B⟩=> ?_))));exact wpAny_release ⟨c,z,A,B⟩
def Wm (te:TE)(g:TG):TS:=λD a H=>te a H λx b=>g x a b D.nx
def UL {a e:kd}{te:TE}{g:TG}(he:PE X e te)(c:PG X a g)(hs:swapsWithSole [a] e pos.line X.env=pure false:=by rfl)(hw:swappedStores [a] e X.env=pure none:=by rfl)(h1:(assignEach [a] X.env).map (·.2)= [assign a X.env] :=by rfl):PS X (.Assign [a] e pos) (Wm te g):=by intro Tb s b H D I h;refine wpAny_Assign_stores (Bi (he Tb s b H _ I h) λv d ⟨x,f,i,r1,j⟩=> ?_) hs hw;rw[h1];exact Bi (c Tb d b f x v _ i r1 j) λ_ k q=>q
def GH {i:Nat}{x:Str}{e:kd}{te:TE}{pos':Pos}(hN:X.N.Nodup)(hi:X.N[i]? =some x)(hx:Loc X.env.scope x)(he:PE X e te)(hs:swapsWith e (some (.Name x pos')) pos.line X.env=pure false:=by rfl)(a:X.fn x=true\/X.env.scope.names.lookup x=some .local:=by first | exact .inl rfl|exact .inr rfl|assumption):PS X (.Assign [.Name x pos'] e pos) (Wm te (Di i)):=by intro Tb s b H D I h;refine wpAny_Assign_Name (Bi (he Tb s b H _ I h) λv j ⟨y,c,d,r1,f⟩=> ?_) hs;exact JL d hN hi hx r1 (λk g=>⟨_,c,g,f⟩) a
def wv (i j:Nat)(b:TA):TS:=λD a H=>b a H λvs c=>∃v w,vs= [v,w] /\D.nx ((a.set i (some v)).set j (some w)) c
def oP {i j:Nat}{x y:Str}{a b:kd}{r:TA}{g k l:Pos}{kt k2 pt2}(hc:X.calm=true)(hN:X.N.Nodup)(hi:X.N[i]? =some x)(hj:X.N[j]? =some y)(B:i≠j)(hx:X.env.scope.names.lookup x=some .local)(hy:X.env.scope.names.lookup y=some .local)(ha:PA X [a,b] r)(hw:swappedStores [.Tuple [.Name x g, .Name y k] kt l] (.Tuple [a,b] k2 pt2) X.env=pure (some [x,y]))(hs:swapsWithSole [.Tuple [.Name x g, .Name y k] kt l] (.Tuple [a,b] k2 pt2) pos.line X.env=pure false:=by rfl):PS X (.Assign [.Tuple [.Name x g, .Name y k] kt l] (.Tuple [a,b] k2 pt2) pos) (wv i j r):=by
 intro Tb s t H D I h;rw[exec_Assign_arm];refine AAX (ABp ?_);rw[hs];refine AAX (AAZ ?_);rw[AAa (by decide)];refine AAX (Tuple_ (Bi (ha _ Tb s t H _ I h) λC c ⟨vs,u,E,r1,m⟩=> ?_));obtain⟨v,w,F,m⟩:=m;subst F;obtain⟨d,f,rfl,rv,n⟩:∃d f,C= [d,f] /\RelV v d/\RelV w f:=by
  cases r1 with
  | cons p q=>
    cases q with
    | cons G J=> cases J;exact⟨_,_,rfl,p,G⟩
 refine ABM ?_ (by show 2<=sizeLine;decide);have K:Inv X Tb t u {c with heap:=c.heap.push {cls:= .type "tuple",data:= .seq [d,f].toArray}}:=E.kept (t':=c.toks) λb o e=>AAe _ e;rw[hw];refine AAX (AAZ ?_);show wpAny (model X.prog X.w) X.A (do rule "assign.swapped-stores";let items <-unpackItems (.ref c.heap.objs.size) 2 none;assignInOrder [λv=>bindName X.env y v,λv=>bindName X.env x v] items.reverse;pure Flow.next) _ _ _;refine AAX (ABT (AAX (unpackItems_tuple (items:= #[d,f]) (I.ok.hd hc) (IsTup.new c.heap _) λh' L=> ?_)));have M:=K.kept (h':=h') (t':=c.toks) λb o e=>L b o (AAh (AAd e)) e;show wpAny _ _ (assignInOrder [λv=>bindName X.env y v,λv=>bindName X.env x v] [f,d] >>= λ_=>pure Flow.next) _ _ _;refine AAX (assignInOrder_cons (wpAny_bindName (JL M hN hj (.inl hy) n (λP O=> ?_) (.inr hy))));refine assignInOrder_cons (wpAny_bindName (JL O hN hi (.inl hx) rv (λQ z=>assignInOrder_nil (AAZ ?_)) (.inr hx)));rw[List.set_comm _ _ (ABW B)] at z;exact⟨_,u,z,m⟩
def wq (i:Nat)(te:TE)(b:qh):TS:=λD a H=>∃x,a[i]? =some (some x)/\te a H λy c=>b x y c λz d=>D.nx (a.set i (some z)) d
def oO {i:Nat}{x:Str}{e:kd}{te:TE}{op:Operator}{f:qh}{pos':Pos}(hN:X.N.Nodup)(hi:X.N[i]? =some x)(hx:Loc X.env.scope x)(he:PE X e te)(j:pk X op f)(n:X.fn x=true\/X.env.scope.names.lookup x=some .local:=by first | exact .inl rfl|exact .inr rfl|assumption):PS X (.AugAssign (.Name x pos') op e pos) (wq i te f):=by
 intro Tb s g H D I h;obtain⟨v,o,h⟩:=h;obtain⟨m,hn,hl⟩:=I.loc;have d:lH X.env.scope x:=by rcases hx with k|k;exact .inl k;exact .inr (.inl k)
 obtain⟨u,r,l⟩:=hl i x v hi o d;refine wpAny_AugAssign_Name ?_;have go:wpAny (model X.prog X.w) X.A (eval e X.env) (λw a=>wpAny (model X.prog X.w) X.A (inplaceOp op u w) (λr b=>wpAny (model X.prog X.w) X.A (storeName X.env x r) (λ_=>SP X Tb D .next) X.xe b) X.xe a) X.xe s:=by refine Bi (he Tb s g H _ I h) λw p ⟨y,t,B,r1,C⟩=> ?_;refine Bi (j Tb p g t v y u w _ B r r1 C) λz L ⟨M,E,F,r2,G⟩=> ?_;exact JL F hN hi hx r2 (λO J=>⟨_,E,J,G⟩) n
 rcases l with⟨hk,hm⟩|⟨hk,c,hc,K⟩
 .exact wpAny_loadName_local I.ok.kind hk hn hm go
 .rcases hk with hk|hk
  .exact wpAny_loadName_cell I.ok.kind hk hc K go
  .rcases hx with k|k
   .have:X.env.scope.names.lookup x=some .free:=hk;rw[k] at this;cases this
   .have:X.env.scope.names.lookup x=some .free:=hk;rw[k] at this;cases this
def wT (f:Int->Int->Int):qh:=λx y H Q=>∃i j,x= .int i/\y= .int j/\Q (.int (f i j)) H
def nL:pk X .Add (wT λi j=>i+j):=by intro Tb s c H x y v u Q I r1 r2 h;obtain⟨i,j,a,b,q⟩:=h;subst a;subst b;obtain⟨t,rfl⟩:=r1;obtain⟨t',rfl⟩:=r2;exact iadd_int ⟨.int _,H,I.tok _,⟨_,rfl⟩,q⟩
def pN (c:TT)(h:TS):TS:=λD a H=>∃W:Nat->St->Hp->Prop,(∃m,W m a H)/\∀m a H,W m a H->
 c a H λb e=>if b=true then ∃N:St->Hp->Prop,(∀d f,N d f->∃g,g<m/\W g d f)/\h {D with nx:=N,ct:=N,bk:=D.nx} a e else D.nx a e
def gE {c:kd}{body:km Stmt}{p:TT}{r:TS}(hp:PassesOwn (model X.prog X.w) X.A X.env X.xe)(hc:PT X c p)(hb:Yu X body r):PS X (.While c body [] pos) (pN p r):=by
 intro Tb s z H D I h;obtain⟨W,⟨m0,B⟩,turn⟩:=h;refine wpAny_While (codeAny_whileLoop (λn C=>∃e t,Inv X Tb e t C/\W n e t) ?_ m0 ⟨z,H,I,B⟩);rintro n E ⟨d,u,F,G⟩;refine ACo hp (Bi (hc Tb E d u _ F (turn n d u G)) λb J ⟨x,y,i⟩=> ?_);cases b with
 | true=>
   obtain⟨N,hN,i⟩:=i;rw[AAb rfl];refine ACo hp (Bi (hb Tb J d x _ y i) λf K j=> ?_);cases f with
   | next=> obtain⟨a,g,k,l⟩:=j;obtain⟨m,hm,o⟩:=hN a g l;exact⟨m,hm,a,g,k,o⟩
   | cont=> obtain⟨a,g,k,l⟩:=j;obtain⟨m,hm,o⟩:=hN a g l;exact⟨m,hm,a,g,k,o⟩
   | brk=>exact j
   | ret v=>exact j
 | false=> rw[AAa AAs];exact AD4 ⟨d,x,y,i⟩
end
structure It where
 go:Nat->Hp->Prop
 yld:Nat->Hp->V->Hp->Prop
 stop:Nat->Hp->Prop
def Ec (X:Cx)(Tb:km (kf×Obj))(H:Hp)(b:kf):Prop:=
 H b=none/\b≠X.env.locals/\b ∉ X.fs/\(b∈X.ex\/X.s₀.heap.objs.size<=b)/\(∀x c,X.env.cells.lookup x=some c->c≠b)/\∀p∈X.pn++Tb,p.1≠b
def Inv.fpOk {X:Cx}{Tb:km (kf×Obj)}{d:St}{H a:Hp}{s:ki}{b:kf}(I:Inv X Tb d H s)(hb:s.heap.objs.size<=b)(hn:a b=none):Ec X Tb a b:=by
 refine⟨hn,ABK (AA0 I.lt hb),I.nofs hb, .inr (AA1 I.sz hb),λx c e z=> ?_,λp hp z=> ?_⟩
 .obtain ⟨v,q⟩:=I.cell x c e;exact absurd (AA0 q.lt (by rw[z];exact hb)) (ABz _)
 .exact absurd (AA0 (AAd (I.pin p hp).1) (by rw[z];exact hb)) (ABz _)
structure La (P:Program) (w:World) (K:AAY) (tg:Expr) (J:It) (fp:List Addr) (it:Addr) (tn:Nat->Heap->Prop):Prop where
 mem:it∈fp
 obj:∀i h,tn i h->∀b∈fp,∃o,h.get? b=some o/\∀v,o.data≠ .cell v
 keep:∀i h h',tn i h->(∀b∈fp,∀o,h.get? b=some o->h'.get? b=some o)->tn i h'
 item:∀(X:Cx),X.prog=P->X.w=w->X.K=K->X.calm=true->∀(i:Nat) (Tb:List (Addr×Obj)) (s:Shared) (σ:St) (H:Hp) (E:Value->Shared->Prop),Inv X Tb σ H s->(∀b∈fp,Ec X Tb H b)->tn i s.heap->J.go i H->
  wpAny (model P w) X.A (pyNext (.ref it)) (λr s1=>∃u,r=some u/\
   wpAny (model P w) X.A (letOwnedTupleGo tg (.ref it) u) (λ_ s2=>∃x H',Inv X Tb σ H' s2/\RelV x u/\J.yld i H x H'/\tn (i+1) s2.heap/\∀b∈fp,H' b=none) E s1) E s
 done:∀(X:Cx),X.prog=P->X.w=w->X.K=K->X.calm=true->∀(i:Nat) (Tb:List (Addr×Obj)) (s:Shared) (σ:St) (H:Hp) (E:Value->Shared->Prop),Inv X Tb σ H s->(∀b∈fp,Ec X Tb H b)->tn i s.heap->J.stop i H->
  wpAny (model P w) X.A (pyNext (.ref it)) (λr s1=>r=none/\Inv X Tb σ H s1) E s
 self:∀(A:Around) (i:Nat) (s:Shared) (Q:Value->Shared->Prop) (E:Value->Shared->Prop),tn i s.heap->Q (.ref it) s->wpAny (model P w) A (pyIter (.ref it)) Q E s
abbrev TI:=St->Hp->(It->Hp->Prop)->Prop
def yS (X:Cx)(Tb:km (kf×Obj))(f:St)(g:kd)(R:It->Hp->Prop)(a:kj)(d:ki):Prop:=
 ∃(it:kf) (e:km kf) (tn:Nat->da->Prop) (J:It) (c:Hp),a= .ref it/\Inv X Tb f c d/\La X.prog X.w X.K g J e it tn/\tn 0 d.heap/\(∀b∈e,Ec X Tb c b)/\R J c
def PI (X:Cx)(b iter:kd)(c:TI):Prop:=
 ∀(Tb:km (kf×Obj)) (s:ki) (a:St) (H:Hp) (R:It->Hp->Prop),Inv X Tb a H s->c a H R->
  wpAny (model X.prog X.w) X.A (eval iter X.env) (λv d=>wpAny (model X.prog X.w) X.A (pyIter v) (yS X Tb a b R) X.xe d) X.xe s
def dn {M:Model}{A:Wf}{E:kj->ki->Prop}{s:ki}{a:kd}{it:kf}{u:kj}{o:Obj}{n:String}{vs:Array kj}{Q:Unit->ki->Prop}(b:s.heap.get? it=some o)(hc:o.cls= .type n)(hd:o.data= .fields vs)(hn: ["enumerate","zip","dict_itemiterator","dict_reverseitemiterator","odict_iterator","itertools.zip_longest","itertools.pairwise"].contains n=false)(hQ:Q () s):wpAny M A (letOwnedTupleGo a (.ref it) u) Q E s:=by
 unfold letOwnedTupleGo;cases a <;> first
  | exact AAZ hQ
  | (cases u <;> first
      | exact AAZ hQ
      | (refine AAX (wpAny_load b ?_)
         rw[hc,hd];show wpAny M A (if (["enumerate","zip","dict_itemiterator","dict_reverseitemiterator","odict_iterator","itertools.zip_longest","itertools.pairwise"].contains n&&vs[0]?==some (rawInt _))=true then _ else _) Q E s;rw[AAa (by intro h;rw[hn,AEh] at h;cases h)];exact AAZ hQ))
def vP (K:AAY)(a:kf):It:=
 ⟨λi H=>∃xs x,Fy K H a xs/\xs[i]? =some x,λi H x b=>b=H/\∀xs,Fy K H a xs->xs[i]? =some x,λi H=>∃xs,Fy K H a xs/\xs.length<=i⟩
def vQ (K:AAY)(a:kf):It:=
 ⟨λi H=>∃xs x,LZ K H a xs/\xs[i]? =some x,λi H x b=>b=H/\∀xs,LZ K H a xs->xs[i]? =some x,λi H=>∃xs,LZ K H a xs/\xs.length<=i⟩
def qZ (lo:Int)(n:Nat):It:=⟨λi _=>i<n,λi H x a=>a=H/\x= .int (lo+i),λi _=>n<=i⟩
def cP {P:gn}{w:fe}{K:AAY}{B:kd}(a it:kf):La P w K B (vP K a) [it] it (λi h=>h.IsListIter it a i) where
 mem:=by simp
 obj:=λi h st b hb=>by
  have e:b=it:=by simpa using hb
  subst e;obtain⟨o,e,c,d⟩:=st;exact⟨o,e,λv z=>by rw[d] at z;cases z⟩
 keep:=λi h h' st k=>st.at λo e=>k it (by simp) o e
 item:=by intro X j hw l hc i Tb s A H E I g st m;subst j hw l;obtain⟨xs,x,hq,hx⟩:=m;obtain⟨n,rv,p,hz⟩:=I.list hq;obtain⟨u,hu,C⟩:=rv.get hx;obtain⟨f0,f1,f2,r,t,y⟩:=g it (by simp);refine wpAny_pyNext_list_item st p.isList (x:=u) (by simpa using hu) λh' f D=> ?_;have F:Inv X Tb A H {s with heap:=h'}:=I.turned (t':=s.toks) (λb o hb e=>(D.2 b hb).trans e) f0 f1 r t y;obtain⟨o,e,c,d⟩:=id f;exact⟨u,rfl,dn (s:={s with heap:=h'}) e c d (by decide) ⟨x,H,F,C,⟨rfl,λys hy=>by rw[I.list_inj hy hq];exact hx⟩,f,λb hb=>(g b hb).1⟩⟩
 done:=by intro X j hw l hc i Tb s A H E I g st m;subst j hw l;obtain⟨xs,hq,hx⟩:=m;obtain⟨n,rv,p,hz⟩:=I.list hq;obtain⟨f0,f1,f2,r,t,y⟩:=g it (by simp);have hl:=rv.length;exact wpAny_pyNext_list_end (I.ok.hd hc) st p.isList (by simp;omega) λh' G=>⟨rfl,I.turned (t':=s.toks) (λb o hb e=>G b o hb e) f0 f1 r t y⟩
 self:=λ_ _ _ _ _ st h=>wpAny_pyIter_listiter st h
def Yk {P:gn}{w:fe}{K:AAY}{B:kd}(a it:kf):La P w K B (vQ K a) [it] it (λi h=>h.IsTupleIter it a i) where
 mem:=by simp
 obj:=λi h st b hb=>by
  have e:b=it:=by simpa using hb
  subst e;obtain⟨o,e,c,d⟩:=st;exact⟨o,e,λv z=>by rw[d] at z;cases z⟩
 keep:=λi h h' st k=>st.at λo e=>k it (by simp) o e
 item:=by intro X l hw m hc i Tb s A H E I j st n;subst l hw m;obtain⟨xs,x,hq,hx⟩:=n;obtain⟨f,rv,p,hz⟩:=I.tuple hq;obtain⟨u,hu,C⟩:=rv.get hx;obtain⟨f0,f1,f2,r,t,y⟩:=j it (by simp);refine wpAny_pyNext_tuple_item st (show s.heap.IsTuple a f.toArray from p) (x:=u) (by simpa using hu) λh' g D=> ?_;have F:Inv X Tb A H {s with heap:=h'}:=I.turned (t':=s.toks) (λb o hb e=>(D.2 b hb).trans e) f0 f1 r t y;obtain⟨o,e,c,d⟩:=id g;exact⟨u,rfl,dn (s:={s with heap:=h'}) e c d (by decide) ⟨x,H,F,C,⟨rfl,λys hy=>by rw[I.tuple_inj hy hq];exact hx⟩,g,λb hb=>(j b hb).1⟩⟩
 done:=by intro X l hw m hc i Tb s A H E I j st n;subst l hw m;obtain⟨xs,hq,hx⟩:=n;obtain⟨f,rv,p,hz⟩:=I.tuple hq;obtain⟨f0,f1,f2,r,t,y⟩:=j it (by simp);have hl:=rv.length;exact wpAny_pyNext_tuple_end (I.ok.hd hc) st (show s.heap.IsTuple a f.toArray from p) (by simp;omega) λh' G=>⟨rfl,I.turned (t':=s.toks) (λb o hb e=>G b o hb e) f0 f1 r t y⟩
 self:=λ_ _ _ _ _ st h=>wpAny_pyIter_tupleiter st h
def Yj {P:gn}{w:fe}{K:AAY}{u:kd}(it:kf)(lo:Int)(n:Nat):La P w K u (qZ lo n) [it] it (λi h=>IsRangeIter h it (lo+(i:Nat)*1) ((n:Int)-(i:Nat)) 1) where
 mem:=by simp
 obj:=λi h st b hb=>by
  have e:b=it:=by simpa using hb
  subst e;exact⟨_,st,λv z=>by
   have x:Data.fields _=Data.cell v:=z;cases x⟩
 keep:=λi h h' st k=>k it (by simp) _ st
 item:=by intro X d hw f hc i Tb s p H E I c st g;subst d hw f;obtain⟨f0,f1,f2,j,l,m⟩:=c it (by simp);have W:=Walks.range (prog:=X.prog) (w:=X.w) (I.ok.hd hc) it lo 1 n;refine W.item i s _ _ g st λv h' r hv a y=> ?_;obtain⟨t,rfl⟩:=hv;have A:Inv X Tb p H {s with heap:=h',toks:=r}:=I.turned (λb o hb e=>y b o (by simpa using hb) e) f0 f1 j l m;refine⟨_,rfl,dn (s:={s with heap:=h',toks:=r}) (n:="range_iterator") a rfl rfl (by decide) ⟨.int (lo+i),H,A,⟨t, ?_⟩,⟨rfl,rfl⟩,a,λb hb=>(c b hb).1⟩⟩;rw[AD5]
 done:=by intro X d hw f hc i Tb s p H E I c st g;subst d hw f;obtain⟨f0,f1,f2,j,l,m⟩:=c it (by simp);exact wpAny_pyNext_range_end (I.ok.hd hc) st (by have:n<=i:=g;omega) λh' B=>⟨rfl,I.turned (t':=s.toks) (λb o hb e=>B b o hb e) f0 f1 j l m⟩
 self:=λ_ _ _ _ _ st h=>wpAny_pyIter_rangeiter st h
section
variable {X:Cx}{tg:kd}
def WL {Tb:km (kf×Obj)}{a:St}{H:Hp}{s:ki}{R:It->Hp->Prop}{E:kj->ki->Prop}{lo hi:Int}{t u v:Tok}{c:Nat}(I:Inv X Tb a H s)(h1: -(2^62)<=lo)(h2:lo<2^62)(f: -(2^62)<=hi)(g:hi<2^62)(q:R (qZ lo (hi-lo).toNat) H):wpAny (model X.prog X.w) X.A (pyIter (.ref s.heap.objs.size)) (yS X Tb a tg R) E {s with heap:=s.heap.push {cls:= .type "range",data:= .fields #[.int lo t, .int hi u, .int 1 v] },toks:=c}:=by
 refine wpAny_pyIter_range (IsRange.new ..) (small_one h1 h2 f g) ?_;have d:Inv X Tb a H {s with heap:=s.heap.push {cls:= .type "range",data:= .fields #[.int lo t, .int hi u, .int 1 v] },toks:=c}:=I.kept λb o e=>AAe _ e;refine⟨(s.heap.push {cls:= .type "range",data:= .fields #[.int lo t, .int hi u, .int 1 v] }).objs.size, [(s.heap.push {cls:= .type "range",data:= .fields #[.int lo t, .int hi u, .int 1 v] }).objs.size],_,_,H,rfl,
  d.kept (t':=c) λb o e=>AAe _ e,Yj _ lo (hi-lo).toNat, ?_,λb hb=> ?_,q⟩
 .have h:lo+((0:Nat):Int)*1=lo:=by simp
  have i:(((hi-lo).toNat:Nat):Int)-((0:Nat):Int)=Builtin.Range.rangeSize lo hi 1:=by rw[rangeSize_one];split <;> omega
  show IsRangeIter _ _ (lo+((0:Nat):Int)*1) ((((hi-lo).toNat:Nat):Int)-((0:Nat):Int)) 1;rw[h,i];exact AAj _ rfl
 .have e:b=(s.heap.push {cls:= .type "range",data:= .fields #[.int lo t, .int hi u, .int 1 v] }).objs.size:=by simpa using hb
  subst e;exact d.fpOk (AAf _) (d.hok.fresh (AAf _))
def rk (a:TA):TI:=λb H R=>a b H λvs c=>∃j:Int,vs= [.int j] /\ -(2^62)<=j/\j<2^62/\R (qZ 0 j.toNat) c
def rp (a:TA):TI:=λb H R=>a b H λvs c=>∃i j:Int,vs= [.int i, .int j] /\(-(2^62)<=i/\i<2^62/\ -(2^62)<=j/\j<2^62)/\R (qZ i (j-i).toNat) c
def bj {a:kd}{c:TA}{p pos:Pos}(d:Gl X "range")(hm:X.mg "range" =none)(ha:PA X [a] c)(hs:starEach [a] X.env= [(false,eval a X.env)] :=by rfl):PI X tg (.Call (.Name "range" p) [a] [] pos) (rk c):=by
 intro Tb s f H R I h;refine Call_ (FB I d hm boot_range (ACU (Bi (ha pos Tb s f H _ I h) λl m ⟨vs,n,g,r1,b⟩=> ?_) hs rfl));obtain⟨j,e,b,i,q⟩:=b;subst e;cases r1 with
 | cons r k=> cases k;obtain⟨t,rfl⟩:=r;exact call_range_1 (WL g (by omega) (by omega) b i (by simpa using q))
def bn {a b:kd}{f:TA}{p pos:Pos}(k:Gl X "range")(hm:X.mg "range" =none)(ha:PA X [a,b] f)(hs:starEach [a,b] X.env= [(false,eval a X.env),(false,eval b X.env)] :=by rfl)(g:starEach [b] X.env= [(false,eval b X.env)] :=by rfl):PI X tg (.Call (.Name "range" p) [a,b] [] pos) (rp f):=by
 intro Tb s l H R I h;refine Call_ (FB I k hm boot_range (ACU (Bi (ha pos Tb s l H _ I h) λw x ⟨vs,y,m,r1,c⟩=> ?_) (by rw[hs,g]) (by rw[g];rfl)));obtain⟨i,j,e,⟨c,n,o,u⟩,q⟩:=c;subst e;cases r1 with
 | cons r d=>
   cases d with
   | cons v d=> cases d;obtain⟨t,rfl⟩:=r;obtain⟨t',rfl⟩:=v;exact call_range_2 (WL m c n o u q)
def uB (f:TI)(g:TG)(h:TS):TS:=λD a H=>f a H λJ j=>∃W:Nat->Nat->St->Hp->Prop,(∃m,W 0 m a j)/\∀i m a H,W i m a H->
 (J.stop i H/\D.nx a H)\/(J.go i H/\∃N:St->Hp->Prop,(∀b c,N b c->∃e,e<m/\W (i+1) e b c)/\∀x c,J.yld i H x c->g x a c λd k=>h {D with nx:=N,ct:=N,bk:=D.nx} d k)
def GG (a:km kf)(h:da):km (kf×Obj):=a.filterMap λb=>(h.get? b).map λo=>(b,o)
def CN {a:km kf}{h:da}{b:kf}{o:Obj}(hb:b∈a)(e:h.get? b=some o):(b,o)∈GG a h:=List.mem_filterMap.mpr ⟨b,hb,by rw[e];rfl⟩
def bS {a:km kf}{h:da}{p:kf×Obj}(hp:p∈GG a h):p.1∈a/\h.get? p.1=some p.2:=by
 obtain⟨b,hb,e⟩:=List.mem_filterMap.mp hp;cases q:h.get? b with
 | none=>rw[q] at e;cases e
 | some o=> rw[q] at e;have c:(b,o)=p:=AAw e;subst c;exact⟨hb,q⟩
def Inv.pinned {Tb:km (kf×Obj)}{c:St}{H:Hp}{s:ki}{a:km kf}(I:Inv X Tb c H s)(g:∀b∈a,Ec X Tb H b)(h:∀b∈a,∃o,s.heap.get? b=some o/\∀v,o.data≠ .cell v):Inv X (Tb++GG a s.heap) c H s:=
 I.pins_of λp hp=>(AAn.mp hp).elim (λz=>I.pin p (AAy _ z)) λz=>by obtain⟨hb,e⟩:=bS z;obtain⟨f0,f1,f2,_⟩:=g p.1 hb;obtain⟨o,f,d⟩:=h p.1 hb;rw[e] at f;cases f;exact⟨e,f0,f1,f2,d⟩
def Inv.unpinned {Tb b:km (kf×Obj)}{a:St}{H:Hp}{s:ki}(I:Inv X (Tb++b) a H s):Inv X Tb a H s:=I.pins_of λp hp=>I.pin p (AAy _ (AD3 _ hp))
def gD {iter:kd}{body:km Stmt}{R:TI}{g:TG}{S:TS}{pos:Pos}(hp:PassesOwn (model X.prog X.w) X.A X.env X.xe)(hc:X.calm=true)(hi:PI X tg iter R)(hg:PG X tg g)(hb:Yu X body S)(hs:∀x,foldedSetIterable iter X.env x=pure x:=by intro _;rfl):PS X (.For tg iter body [] pos) (uB R g S):=by
 intro Tb s U H D I h;refine wpAny_For (Bi (hi Tb s U H _ I h) λv s1 h1=>Bi h1 λitv s2 h2=> ?_) hs;obtain⟨it,B,tn,J,H2,e,I2,T,K,f2,W,⟨m0,w0⟩,turn⟩:=h2;subst e;have c:∀{t:Hp},(∀b∈B,t b=none)->∀b∈B,Ec X Tb t b:=λhn b hb=>⟨hn b hb,(f2 b hb).2⟩;refine codeAny_forLoop_any (λn Y=>∃i j t,Inv X Tb j t Y/\tn i Y.heap/\(∀b∈B,t b=none)/\W i n j t) ?_ m0 ⟨0,U,H2,I2,K,λb hb=>(f2 b hb).1,w0⟩;rintro n Z ⟨i,k,G,I3,C,E,w3⟩;rcases turn i n k G w3 with⟨stop,qn⟩|⟨go,N,hN,step⟩
 .refine ACo hp (Bi (T.done X rfl rfl rfl hc i Tb Z k G X.xe I3 (c E) C stop) λr s4 ⟨L,I4⟩=> ?_);subst L;exact AD4 ⟨k,G,I4,qn⟩
 .refine ACo hp (Bi (T.item X rfl rfl rfl hc i Tb Z k G X.xe I3 (c E) C go) λr s4 ⟨u,L,h4⟩=> ?_);subst L;refine ACo hp (Bi h4 λ_ s5 ⟨x,H5,I5,r5,y5,z,M⟩=> ?_);have O:=I5.pinned (c M) (T.obj _ _ z);refine ACo hp (Bi (hg _ s5 k H5 x u _ O r5 (step x H5 y5)) λ_ s6 ⟨P,H6,I6,q6⟩=> ?_);refine ACo hp (Bi (hb _ s6 P H6 _ I6 q6) λf Q y=> ?_);have again:∀{a:St} {l:Hp},Inv X (Tb++GG B s5.heap) a l Q->N a l->∃m,m<n/\∃i j t,Inv X Tb j t Q/\tn i Q.heap/\(∀b∈B,t b=none)/\W i m j t:=λ{a l} p F=>by obtain⟨m',hm,w7⟩:=hN a l F;refine⟨m',hm,i+1,a,l,p.unpinned,T.keep _ _ _ z λb hb o e=>(p.pin (b,o) (AAy _ (AAy _ (CN hb e)))).1,λb hb=> ?_,w7⟩;obtain⟨o,e,d⟩:=T.obj _ _ z b hb;exact(p.pin (b,o) (AAy _ (AAy _ (CN hb e)))).2.1
  cases f with
  | next=>obtain⟨a,l,p,F⟩:=y;exact again p F
  | cont=>obtain⟨a,l,p,F⟩:=y;exact again p F
  | brk=>obtain⟨a,l,p,y⟩:=y;exact⟨a,l,p.unpinned,y⟩
  | ret v=>obtain⟨x7,a,l,p,r7,y⟩:=y;exact⟨x7,a,l,p.unpinned,r7,y⟩
end
abbrev R2:=V->V->Hp->VK->Prop
def Ee (X:Cx)(f:kj->kj->Sem kj)(r:R2):Prop:=
 ∀(Tb:km (kf×Obj)) (s:ki) (a:St) (H:Hp) (x y:V) (v u:kj) (Q:VK),Inv X Tb a H s->RelV x v->RelV y u->r x y H Q->
  wpAny (model X.prog X.w) X.A (f v u) (EP X Tb a Q) X.xe s
def vX (X:Cx)(f:kj->Sem kj)(r:V->Hp->VK->Prop):Prop:=
 ∀(Tb:km (kf×Obj)) (s:ki) (a:St) (H:Hp) (x:V) (v:kj) (Q:VK),Inv X Tb a H s->RelV x v->r x H Q->
  wpAny (model X.prog X.w) X.A (f v) (EP X Tb a Q) X.xe s
def Cf (X:Cx)(f:kj)(r:km V->Hp->VK->Prop):Prop:=
 ∀(Tb:km (kf×Obj)) (s:ki) (a:St) (H:Hp) (xs:km V) (b:km kj) (Q:VK),Inv X Tb a H s->A7 xs b->r xs H Q->
  wpAny (model X.prog X.w) X.A (call f b) (EP X Tb a Q) X.xe s
def vW (X:Cx)(r:V->Hp->(kc->Hp->Prop)->Prop):Prop:=
 ∀(Tb:km (kf×Obj)) (s:ki) (a:St) (H:Hp) (x:V) (v:kj) (Q:kc->Hp->Prop),Inv X Tb a H s->RelV x v->r x H Q->
  wpAny (model X.prog X.w) X.A (truthy v) (TP X Tb a Q) X.xe s
def kb (r:R2)(b c:TE):TE:=λa H Q=>b a H λx d=>c a d λy e=>r x y e Q
def tUn (r:V->Hp->VK->Prop)(a:TE):TE:=λb H Q=>a b H λx c=>r x c Q
def rI (C:Int->Int->Prop)(g:Int->Int->V):R2:=λx y H Q=>∃i j,x= .int i/\y= .int j/\C i j/\Q (g i j) H
def QK (g:Int->Int->V):R2:=λx y H Q=>∃i j,x= .int i/\y= .int j/\Q (g i j) H
def rU (g:Int->V):V->Hp->VK->Prop:=λx H Q=>∃i,x= .int i/\Q (g i) H
section
variable {X:Cx}{a b c:kd}{ta tb tc:TE}{pos:Pos}
def ma (ha:PE X a ta)(hb:PE X b tb){Tb:km (kf×Obj)}{s:ki}{d:St}{H:Hp}{R:V->V->Hp->Prop}(I:Inv X Tb d H s)(h:ta d H λx k=>tb d k λy e=>R x y e){Q:kj->ki->Prop}{f:kj->kj->Sem kj}(l:∀v u j x y e,Inv X Tb d e j->RelV x v->RelV y u->R x y e->wpAny (model X.prog X.w) X.A (f v u) Q X.xe j):wpAny (model X.prog X.w) X.A (eval a X.env) (λv g=>wpAny (model X.prog X.w) X.A (eval b X.env) (λu i=>wpAny (model X.prog X.w) X.A (f v u) Q X.xe i) X.xe g) X.xe s:=by refine Bi (ha Tb s d H _ I h) λv m ⟨x,k,n,r1,o⟩=> ?_;refine Bi (hb Tb m d k _ n o) λu j ⟨y,e,p,r2,r⟩=> ?_;exact l v u j x y e p r1 r2 r
def CZ {op:Operator}{r:R2}(d:Ee X (binaryOp op) r)(ha:PE X a ta)(hb:PE X b tb):PE X (.BinOp a op b pos) (kb r ta tb):=by intro Tb s e H Q I h;exact wpAny_BinOp (ma ha hb I h λv u f x y g i j k q=>d Tb f e g x y v u Q i j k q)
def sw {op:UnaryOp}{r:V->Hp->VK->Prop}(e:vX X (unaryOp op) r)(ha:PE X a ta):PE X (.UnaryOp op a pos) (tUn r ta):=by intro Tb s d H Q I h;exact UnaryOp_ (Bi (ha Tb s d H _ I h) λv f ⟨x,g,i,r1,j⟩=>e Tb f d g x v Q i r1 j)
def oA {f:kj->kj->Sem kj}{C:Int->Int->Prop}{g:Int->Int->Int}(rule:∀(i j:Int) (t u:Tok) (s:ki) (Q:kj->ki->Prop) (E:kj->ki->Prop),C i j->Q (.int (g i j) s.toks) {s with toks:=s.toks+1}->wpAny (model X.prog X.w) X.A (f (.int i t) (.int j u)) Q E s):Ee X f (rI C λi j=> .int (g i j)):=by intro Tb s k H x y v u Q I d e h;obtain⟨i,j,rfl,rfl,hc,q⟩:=h;obtain⟨t,rfl⟩:=d;obtain⟨t',rfl⟩:=e;exact rule i j t t' s _ _ hc ⟨.int (g i j),H,I.tok _,⟨_,rfl⟩,q⟩
def sW {f:kj->kj->Sem kj}{g:Int->Int->Int}(rule:∀(i j:Int) (t u:Tok) (s:ki) (Q:kj->ki->Prop) (E:kj->ki->Prop),Q (.int (g i j) s.toks) {s with toks:=s.toks+1}->wpAny (model X.prog X.w) X.A (f (.int i t) (.int j u)) Q E s):Ee X f (QK λi j=> .int (g i j)):=by intro Tb s k H x y v u Q I d e h;obtain⟨i,j,rfl,rfl,q⟩:=h;obtain⟨t,rfl⟩:=d;obtain⟨t',rfl⟩:=e;exact rule i j t t' s _ _ ⟨.int (g i j),H,I.tok _,⟨_,rfl⟩,q⟩
def jj {f:kj->kj->Sem kj}{g:Int->Int->kc}(rule:∀(i j:Int) (t u:Tok) (s:ki) (Q:kj->ki->Prop) (E:kj->ki->Prop),Q (.bool (g i j)) s->wpAny (model X.prog X.w) X.A (f (.int i t) (.int j u)) Q E s):Ee X f (QK λi j=> .bl (g i j)):=by intro Tb s k H x y v u Q I d e h;obtain⟨i,j,rfl,rfl,q⟩:=h;obtain⟨t,rfl⟩:=d;obtain⟨t',rfl⟩:=e;exact rule i j t t' s _ _ ⟨.bl (g i j),H,I,rfl,q⟩
def vG (i j:Int):Prop:=0<=j/\j<=1000000/\i.natAbs<2^64
def LN (i j:Int):Prop:=(-(2^64)<i/\i<2^64)\/(-(2^64)<j/\j<2^64)
def LN.ok {i j:Int}(h:LN i j):IntMulOk i j:=by
 rcases h with⟨h1,h2⟩|⟨h1,h2⟩
 .exact .of_left (intBits_le_64 h1 h2)
 .exact .of_right (intBits_le_64 h1 h2)
def KZ:Ee X (binaryOp .Add) (QK λi j=> .int (i+j)):=sW λ_ _ _ _ _ _ _ q=>add_int q
def YE:Ee X (binaryOp .Sub) (QK λi j=> .int (i-j)):=sW λ_ _ _ _ _ _ _ q=>sub_int q
def HV:Ee X (binaryOp .Mod) (rI (λ_ j=>0<j) λi j=> .int (i % j)):=oA λi j _ _ _ _ _ hc q=>by have h1:(0:Int)<j:=hc;exact mod_int' (by omega) (by rw[ADS i (by omega)];exact q)
def jm:Ee X (binaryOp .Mod) (rI (λ_ j=>j≠0) λi j=> .int (i.fmod j)):=oA λ_ _ _ _ _ _ _ hc q=>mod_int' hc q
def oF:Ee X (binaryOp .Pow) (rI vG λi j=> .int (i^j.toNat)):=oA λ_ _ _ _ _ _ _ hc q=>pow_int_small hc.1 hc.2.1 hc.2.2 q
def unI {f:kj->Sem kj}{g:Int->Int}(rule:∀(i:Int) (t:Tok) (s:ki) (Q:kj->ki->Prop) (E:kj->ki->Prop),Q (.int (g i) s.toks) {s with toks:=s.toks+1}->wpAny (model X.prog X.w) X.A (f (.int i t)) Q E s):vX X f (rU λi=> .int (g i)):=by intro Tb s e H x v Q I d h;obtain⟨i,rfl,q⟩:=h;obtain⟨t,rfl⟩:=d;exact rule i t s _ _ ⟨.int (g i),H,I.tok _,⟨_,rfl⟩,q⟩
def pS:vX X (unaryOp .USub) (rU λi=> .int (-i)):=unI λ_ _ _ _ _ q=>neg_int q
end
def o6:V->V->kc
 | .non, .non=>true | .non, .int _=>true | .int _, .non=>true | .non, .bl _=>true | .bl _, .non=>true | .non, .str _=>true | .str _, .non=>true
 | .int _, .int _=>true | .bl _, .bl _=>true | .str _, .str _=>true | .byt _, .byt _=>true
 | .int _, .str _=>true | .str _, .int _=>true | .bl _, .str _=>true | .str _, .bl _=>true
 | _,_=>false
def y9:R2:=λx y H Q=>o6 x y=true/\Q (.bl (decide (x=y))) H
def zE:R2:=λx y H Q=>o6 x y=true/\Q (.bl (!decide (x=y))) H
def Y8 {i j:Int}:decide (V.int i=V.int j)=(i==j):=by rw[ACa];simp
def db {i j:kc}:decide (V.bl i=V.bl j)=(i==j):=by rw[ACa];simp
def Y9 {i j:Str}:decide (V.str i=V.str j)=(i==j):=by rw[ACa];simp
def Y7 {i j:Array UInt8}:decide (V.byt i=V.byt j)=(i.toList==j.toList):=by rw[ACa];cases i;cases j;simp
section
variable {X:Cx}{a b c:kd}{ta tb tc:TE}{pos:Pos}
def BO {Tb:km (kf×Obj)}{d:St}{H:Hp}{s:ki}{Q:VK}{k f:kc}(I:Inv X Tb d H s)(q:Q (.bl k) H)(e:k=f):EP X Tb d Q (.bool f) s:=by subst e;exact⟨.bl k,H,I,rfl,q⟩
def sX:Ee X (compareOp .Eq) y9:=by
 intro Tb s f H x y v u Q I e d h;obtain⟨hs,q⟩:=h;cases x with
 | non=>
   cases e;cases y with
   | non=>cases d;exact PySem.EqNone.eq_none_none (BO I q (by simp))
   | bl j=>cases d;exact PySem.EqNone.eq_none_bool (BO I q (by simp))
   | int j=>obtain⟨t',rfl⟩:=d;exact PySem.EqNone.eq_none_int (BO I q (by simp))
   | str j=>obtain⟨t',rfl⟩:=d;exact PySem.EqNone.eq_none_str (BO I q (by simp))
   | _=>exact absurd (show false=true from hs) AAs
 | bl i=>
   cases e;cases y with
   | non=>cases d;exact PySem.EqNone.eq_bool_none (BO I q (by simp))
   | bl j=>cases d;exact eq_bool (BO I q db)
   | str j=>obtain⟨t',rfl⟩:=d;exact PySem.EqMixed.eq_bool_str (BO I q (by simp))
   | _=>exact absurd (show false=true from hs) AAs
 | int i=>
   obtain⟨t,rfl⟩:=e;cases y with
   | non=>cases d;exact PySem.EqNone.eq_int_none (BO I q (by simp))
   | int j=>obtain⟨t',rfl⟩:=d;exact eq_int (BO I q Y8)
   | str j=>obtain⟨t',rfl⟩:=d;exact PySem.EqMixed.eq_int_str (BO I q (by simp))
   | _=>exact absurd (show false=true from hs) AAs
 | str i=>
   obtain⟨t,rfl⟩:=e;cases y with
   | non=>cases d;exact PySem.EqNone.eq_str_none (BO I q (by simp))
   | bl j=>cases d;exact PySem.EqMixed.eq_str_bool (BO I q (by simp))
   | int j=>obtain⟨t',rfl⟩:=d;exact PySem.EqMixed.eq_str_int (BO I q (by simp))
   | str j=>obtain⟨t',rfl⟩:=d;exact eq_str (BO I q Y9)
   | _=>exact absurd (show false=true from hs) AAs
 | byt i=>
   obtain⟨t,rfl⟩:=e;cases y with
   | byt j=>obtain⟨t',rfl⟩:=d;exact PySem.W.eq_bytes (BO I q Y7)
   | _=>exact absurd (show false=true from hs) AAs
 | _=>cases y <;> exact absurd (show false=true from hs) AAs
def sZ:Ee X (compareOp .NotEq) zE:=by
 intro Tb s f H x y v u Q I e d h;obtain⟨hs,q⟩:=h;cases x with
 | non=>
   cases e;cases y with
   | non=>cases d;exact PySem.EqNone.ne_none_none (BO I q (by simp))
   | bl j=>cases d;exact PySem.EqNone.ne_none_bool (BO I q (by simp))
   | int j=>obtain⟨t',rfl⟩:=d;exact PySem.EqNone.ne_none_int (BO I q (by simp))
   | str j=>obtain⟨t',rfl⟩:=d;exact PySem.EqNone.ne_none_str (BO I q (by simp))
   | _=>exact absurd (show false=true from hs) AAs
 | bl i=>
   cases e;cases y with
   | non=>cases d;exact PySem.EqNone.ne_bool_none (BO I q (by simp))
   | bl j=>cases d;exact ne_bool (BO I q (congrArg not db))
   | str j=>obtain⟨t',rfl⟩:=d;exact PySem.EqMixed.ne_bool_str (BO I q (by simp))
   | _=>exact absurd (show false=true from hs) AAs
 | int i=>
   obtain⟨t,rfl⟩:=e;cases y with
   | non=>cases d;exact PySem.EqNone.ne_int_none (BO I q (by simp))
   | int j=>obtain⟨t',rfl⟩:=d;exact ne_int (BO I q (congrArg not Y8))
   | str j=>obtain⟨t',rfl⟩:=d;exact PySem.EqMixed.ne_int_str (BO I q (by simp))
   | _=>exact absurd (show false=true from hs) AAs
 | str i=>
   obtain⟨t,rfl⟩:=e;cases y with
   | non=>cases d;exact PySem.EqNone.ne_str_none (BO I q (by simp))
   | bl j=>cases d;exact PySem.EqMixed.ne_str_bool (BO I q (by simp))
   | int j=>obtain⟨t',rfl⟩:=d;exact PySem.EqMixed.ne_str_int (BO I q (by simp))
   | str j=>obtain⟨t',rfl⟩:=d;exact ne_str (BO I q (congrArg not Y9))
   | _=>exact absurd (show false=true from hs) AAs
 | byt i=>
   obtain⟨t,rfl⟩:=e;cases y with
   | byt j=>obtain⟨t',rfl⟩:=d;exact PySem.W.ne_bytes (BO I q (congrArg not Y7))
   | _=>exact absurd (show false=true from hs) AAs
 | _=>cases y <;> exact absurd (show false=true from hs) AAs
def lp:Ee X (compareOp .Lt) (QK λi j=> .bl (decide (i<j))):=jj λ_ _ _ _ _ _ _ q=>lt_int q
def sY:Ee X (compareOp .LtE) (QK λi j=> .bl (decide (i<=j))):=jj λ_ _ _ _ _ _ _ q=>le_int q
def ln:Ee X (compareOp .Gt) (QK λi j=> .bl (decide (j<i))):=jj λ_ _ _ _ _ _ _ q=>gt_int q
def lj:Ee X (compareOp .GtE) (QK λi j=> .bl (decide (j<=i))):=jj λ_ _ _ _ _ _ _ q=>ge_int q
def oD:Ee X (compareOp .Is) (λx y H Q=>y= .non/\Q (.bl (decide (x= .non))) H):=by
 intro Tb s f H x y v u Q I d e h;obtain⟨rfl,q⟩:=h;cases e;refine is_none_gen (BO I q ?_);cases x <;> first
  | (cases d;rfl)
  | (obtain⟨t,rfl⟩:=d;rfl)
def ZZ:Ee X (compareOp .IsNot) (λx y H Q=>y= .non/\Q (.bl (!decide (x= .non))) H):=by
 intro Tb s f H x y v u Q I d e h;obtain⟨rfl,q⟩:=h;cases e;refine isnot_none_gen (BO I q ?_);cases x <;> first
  | (cases d;rfl)
  | (obtain⟨t,rfl⟩:=d;rfl)
def Ee.or {f:kj->kj->Sem kj}{r d:R2}(h:Ee X f r)(h':Ee X f d):Ee X f (λx y H Q=>r x y H Q\/d x y H Q):=by
 intro Tb s e H x y v u Q I g i q;rcases q with q|q
 .exact h Tb s e H x y v u Q I g i q
 .exact h' Tb s e H x y v u Q I g i q
def CY (b:kd){op:CmpOp}(h:op≠ .In:=by decide)(h2:op≠ .NotIn:=by decide):behindInMarks op b=false:=by
 have d:(op==CmpOp.In)=false:=by cases op <;> first | rfl|exact absurd rfl h
 have e:(op==CmpOp.NotIn)=false:=by cases op <;> first | rfl|exact absurd rfl h2
 cases b <;> simp[behindInMarks,d,e]
def Zd {op:CmpOp}{r:R2}(d:Ee X (compareOp op) r)(ha:PE X a ta)(hb:PE X b tb)(hm:behindInMarks op b=false):PE X (.Compare a [op] [b] pos) (kb r ta tb):=by intro Tb s e H Q I h;exact wpAny_Compare1 (ma ha hb I h λv u f x y g i j k q=>d Tb f e g x y v u Q i j k q) hm
def Z0 (t:TE):TT:=λd H Q=>t d H λx e=>∃k,x= .bl k/\Q k e
def Om {op:CmpOp}{r:R2}(f:Ee X (compareOp op) r)(ha:PE X a ta)(hb:PE X b tb)(hm:behindInMarks op b=false):PT X (.Compare a [op] [b] pos) (Z0 (kb r ta tb)):=by
 intro Tb s d H Q I h;refine wpAny_isTrue_Compare1 (Bi (ha Tb s d H _ I h) λv g ⟨x,i,j,r1,l⟩=>Bi (hb Tb g d i _ j l) λu m ⟨y,n,o,r2,p⟩=>
  Bi (f Tb m d n x y v u _ o r1 r2 p) λc C ⟨z,t,w,A,k,e,B⟩=> ?_) hm
 subst e;cases A;exact ACT ⟨t,w,B⟩
def g6 (r f:R2)(ta tb tc:TE):TE:=λd H Q=>ta d H λx g=>tb d g λy h=>r x y h λz e=>∃k,z= .bl k/\
 (if k=true then tc d e λi j=>f y i j Q else Q (.bl false) e)
def gF {op f:CmpOp}{r i:R2}(n:Ee X (compareOp op) r)(o:Ee X (compareOp f) i)(ha:PE X a ta)(hb:PE X b tb)(hc:PE X c tc)(hm:lastMarks [op,f] [b,c] =false:=by with_unfolding_all rfl):PT X (.Compare a [op,f] [b,c] pos) (Z0 (g6 r i ta tb tc)):=by
 intro Tb s g H Q I h;refine isTrue_chain (Bi (ha Tb s g H _ I h) λv p ⟨x,t,w,r1,A⟩=>test_link (Bi (hb Tb p g t _ w A) λu B ⟨y,C,D,r2,E⟩=>
  Bi (n Tb B g C x y v u _ D r1 r2 E) λd F ⟨z,j,l,G,k,e,m⟩=> ?_)) hm
 subst e;cases G;refine ACT ?_;cases k with
 | false=> obtain⟨k',J,K⟩:=m;cases J;exact ite_ff ⟨j,l,K⟩
 | true=> refine ite_tt (test_last (Bi (hc Tb F g j _ l m) λL M ⟨N,O,P,R,S⟩=>Bi (o Tb M g O y N u L _ P r2 R S) λd' s5 ⟨z2,T,U,W,k2,Y,Z⟩=> ?_));subst Y;cases W;exact ACT ⟨T,U,Z⟩
def qj (K:AAY)(x:V)(H:Hp)(k:kc):Prop:=
 match x with
 | .non=>k=false
 | .bl b=>k=b
 | .int i=>k=(i != 0)
 | .str y=>y.length<=sizeLine/\k=((y.length:Int) != 0)
 | .byt y=>y.size<=sizeLine/\k=((y.size:Int) != 0)
 | .ref p=>(∃xs,Fy K H p xs/\k= !xs.isEmpty)\/(∃xs,LZ K H p xs/\k= !xs.isEmpty)\/∃d,H p=some (.dK d)/\k= !d.isEmpty
 | _=>False
def Xp {e:Type}{d:km (e×V)}{vs:km (e×kj)}(r:KV d vs):(!vs.isEmpty)= !d.isEmpty:=by cases r <;> rfl
def Pq {xs:km V}{d:km kj}(r:A7 xs d):(!d.toArray.isEmpty)= !xs.isEmpty:=by cases r <;> simp
def M7:(sizeLine:Nat)<2^63:=by rw[sizeLine_eq];decide
def pO:vW X (λx H Q=>∃k,qj X.K x H k/\Q k H):=by
 intro Tb s u H x v Q I g h;obtain⟨k,e,q⟩:=h;have hl:=M7;have hs:sizeLine=16777216:=sizeLine_eq;cases x with
 | non=> cases g;have d:k=false:=e;subst d;exact truthy_none ⟨H,I,q⟩
 | bl b=> cases g;have d:k=b:=e;subst d;exact ACT ⟨H,I,q⟩
 | int i=> obtain⟨t,rfl⟩:=g;have d:k=(i != 0):=e;subst d;exact PySem.P.truthy_int ⟨H,I,q⟩
 | str y=> obtain⟨t,rfl⟩:=g;obtain⟨hy,d⟩:y.length<=sizeLine/\k=((y.length:Int) != 0):=e;subst d;exact PySem.P.truthy_str (by omega) ⟨H,I.tok _,q⟩
 | byt y=> obtain⟨t,rfl⟩:=g;obtain⟨hy,d⟩:y.size<=sizeLine/\k=((y.size:Int) != 0):=e;subst d;exact PySem.W.truthy_bytes (by omega) ⟨H,I.tok _,q⟩
 | ref p=>
   cases g;have d:(∃xs,Fy X.K H p xs/\k= !xs.isEmpty)\/(∃xs,LZ X.K H p xs/\k= !xs.isEmpty)\/∃f,H p=some (.dK f)/\k= !f.isEmpty:=e;rcases d with⟨xs,hx,d⟩|⟨xs,hx,d⟩|⟨f,hx,d⟩
   .subst d;obtain⟨j,r,l,hz⟩:=I.list hx;have n:=r.length;exact wpAny_truthy_list l.isList (by simp only[AAp];omega) ⟨H,I.tok _,by rw[Pq r];exact q⟩
   .subst d;obtain⟨j,r,l,hz⟩:=I.tuple hx;have n:=r.length;exact truthy_tuple l (by simp only[AAp];omega) ⟨H,I.tok _,by rw[Pq r];exact q⟩
   .subst d;obtain⟨hz,o,vs,r,m⟩:f.length<=sizeLine/\(p==sysModules)=false/\∃vs,KV f vs/\s.heap.DictOf (Tu X.prog X.w) p vs:=I.hok p _ hx;have n:f.length=vs.length:=ADR r;exact wpAny_truthy_dict o m (by omega) ⟨H,I.tok _,by rw[Xp r];exact q⟩
 | _=>exact(show False from e).elim
def gG (ha:PE X a ta)(he:∀whole,isTrue a X.env whole=(do let v <-whole;standAt a.pos;holding [v] (truthy v))):
 PT X a (λd H Q=>ta d H λx e=>∃k,qj X.K x e k/\Q k e):=by intro Tb s d H Q I h;exact isTrue_plain (Bi (ha Tb s d H _ I h) λv f ⟨x,g,i,r1,j⟩=>pO Tb f d g x v Q i r1 j) (he _)
def vals1 {x:V}{d:km kj}(r:A7 [x] d):∃u,d= [u] /\RelV x u:=by
 cases r with
 | cons r1 r2=>cases r2;exact⟨_,rfl,r1⟩
def vals2 {x y:V}{d:km kj}(r:A7 [x,y] d):∃u e,d= [u,e] /\RelV x u/\RelV y e:=by
 cases r with
 | cons r1 r2=>
   cases r2 with
   | cons f g=>cases g;exact⟨_,_,rfl,r1,f⟩
def PZ:Cf X (.builtin "abs") (λxs H Q=>∃i,xs= [.int i] /\Q (.int (if i<0 then -i else i)) H):=by intro Tb s d H xs e Q I r h;obtain⟨i,rfl,q⟩:=h;obtain⟨u,rfl,t,rfl⟩:=vals1 r;exact call_abs_int λu f=>⟨.int (if i<0 then -i else i),H,I.tok _,⟨_,rfl⟩,q⟩
def aP (hc:X.calm=true):Cf X (.builtin "min") (λxs H Q=>∃i j,xs= [.int i, .int j] /\Q (.int (if j<i then j else i)) H):=by
 intro Tb s d H xs e Q I r h;obtain⟨i,j,rfl,q⟩:=h;obtain⟨u,f,rfl,⟨t,rfl⟩,⟨t',rfl⟩⟩:=vals2 r;refine min_two_ints (I.ok.hd hc) λh' g k=>⟨_,H,I.kept k, ?_,q⟩;by_cases hj:j<i
 .rw [AAb hj,AAb hj];exact⟨_,rfl⟩
 .rw [AAa hj,AAa hj];exact⟨_,rfl⟩
def Rl:Cf X (.type "int") (λxs H Q=>(∃i,xs= [.int i] /\Q (.int i) H)\/∃k,xs= [.bl k] /\Q (.int (if k then 1 else 0)) H):=by
 intro Tb s d H xs e Q I r h;rcases h with⟨i,rfl,q⟩|⟨k,rfl,q⟩
 .obtain ⟨u,rfl,t,rfl⟩:=vals1 r;exact call_int_int ⟨.int i,H,I,⟨_,rfl⟩,q⟩
 .obtain ⟨u,rfl,r1⟩:=vals1 r;cases r1;exact call_int_bool ⟨.int (if k then 1 else 0),H,I.tok _,⟨_,rfl⟩,q⟩
end
structure mQ (h:Heap) (x dx C:Addr) (mA:Str->Option Value):Prop where
 obj:h.get? x=some (PySem.W.instObj C dx)
 ns:h.Ns1 dx mA
 ne:dx≠x
def bM {h:da}{b:kf}{c:Str->ke kj}(n:h.Ns1 b c):∃d,h.get? b=some d/\∀name,PySem.W.lookIn name d=some (c name):=by
 obtain⟨o,es,ep,f,hd,hk,_,hm⟩:=n;refine⟨o,f,λname=> ?_⟩;have e:=hm name;unfold nsFind findBy at e;rw[<-Array.find?_toList] at e;unfold PySem.W.lookIn;rw[hd];dsimp only;split
 .rename_i y q;rw[q] at e;exact congrArg some e
 .rename_i q;rw[q] at e;have a:es.toList.any (·.refKey)=false:=by rw[AC6];intro y hy;obtain⟨z,t,g⟩:=hk y (Array.mem_toList_iff.mp hy);simp[DictEntry.refKey,g]
  have i:¬es.toList.any (·.refKey)=true:=by rw[a];exact AAs
  rw[AAa i];exact congrArg some e
def mQ.look {h:da}{x b C:kf}{c:Str->ke kj}(I:mQ h x b C c):∃a,PySem.W.InstAt h x (PySem.W.instObj C b) C (some a)/\∀name,PySem.W.lookIn name a=some (c name):=
 let ⟨a,d,hl⟩:=bM I.ns
 ⟨a,⟨I.obj,rfl,rfl,d⟩,hl⟩
section
variable {prog:gn}{w:fe}{A:Wf}{E:kj->ki->Prop}{s:ki}{K:AAY}{x dx C f:kf}{mA:Str->ke kj}{name:Str}{v:kj}
def HK {expr:kc}{Q:kj->ki->Prop}(X:K.In s.heap)(I:mQ s.heap x dx C mA)(a:PySem.W.plainGet K C name=true)(b:PySem.W.hasDictIn K C=true)(ha:PySem.W.findIn K (.ref C) name=some none)(hv:mA name=some v)(c:PySem.W.handedIn v=true)(h:Q v {s with toks:=s.toks+1}):wpAny (model prog w) A (getAttr (.ref x) name expr) Q E s:=by obtain⟨d,J,hl⟩:=I.look;exact PySem.W.get_value X J (PySem.W.plainGet_of a).1 (PySem.W.findObj_own b ha rfl (by rw[hl,hv])) c h
end
def LV.some_of {v:V}{o:ke kj}(r:LV (some v) o):∃u,o=some u/\RelV v u:=by
 cases o with
 | none=>exact(show False from r).elim
 | some u=>exact⟨u,rfl,r⟩
def LV.none_of {o:ke kj}(r:LV none o):o=none:=by
 cases o with
 | none=>rfl
 | some u=>exact(show False from r).elim
structure vH (K:AAY) (C:Addr):Prop where
 pg:PySem.W.plainGet K C Str.empty=true
 hd:PySem.W.hasDictIn K C=true
 po:PySem.W.plainOver K C=true
 sa:PySem.W.findIn K (.ref C) "__setattr__" =some (some (.builtin "object.__setattr__"))
def vH.get {K:AAY}{C:kf}(c:vH K C)(f:Str):PySem.W.plainGet K C f=true:=c.pg
structure Con (K:AAY) (C:Addr) (f:Str) (v:V) (u:Value):Prop where
 at_:PySem.W.findIn K (.ref C) f=some (some u)
 rel:RelV v u
 get:PySem.W.specialIn K u "__get__" =some none
 cp:PySem.W.copiedNames.contains f=false
structure AA2 (K:AAY) (C:Addr) (m:Str) (f:Addr):Prop where
 at_:PySem.W.findIn K (.ref C) m=some (some (.ref f))
 fn:PySem.W.isFn K (.ref f)=true
 kp:PySem.W.keepIn K (.ref f)=true
section
variable {X:Cx}{Tb:km (kf×Obj)}{σ:St}{H:Hp}{s:ki}{a C dx:kf}{fs:km (Str×V)}{f:Str}{v:V}{A:Wf}{E:kj->ki->Prop}
def Inv.made (I:Inv X Tb σ H s):Inv X Tb σ (upd (upd H s.heap.objs.size (.own (s.heap.objs.size+1))) (s.heap.objs.size+1) (.ins C s.heap.objs.size [])) {s with heap:=(s.heap.push PySem.W.emptyDict).push (PySem.W.instObj C s.heap.objs.size)}:=by
 have c:(s.heap.push PySem.W.emptyDict).get? s.heap.objs.size=some PySem.W.emptyDict:=AAj s.heap rfl;have g:((s.heap.push PySem.W.emptyDict).push (PySem.W.instObj C s.heap.objs.size)).get? (s.heap.objs.size+1)=some (PySem.W.instObj C s.heap.objs.size):=by
  have:=AAj (s.heap.push PySem.W.emptyDict) (o:=PySem.W.instObj C s.heap.objs.size) rfl
  rwa [ABd] at this
 have h:(s.heap.push PySem.W.emptyDict).Ns s.heap.objs.size (λ_=>none):=⟨PySem.W.emptyDict, #[],_,c,rfl,(λe he=>absurd he (by simp)),λ_=>rfl⟩;have i:=I.laid (a:=s.heap.objs.size) (o:= .own (s.heap.objs.size+1)) (h':=s.heap.push PySem.W.emptyDict) (t':=s.toks) (λb u q=>AAe _ q) (AAf _) ⟨_,c⟩;refine i.laid (a:=s.heap.objs.size+1) (o:= .ins C s.heap.objs.size []) (t':=s.toks) (λb u q=>AAe _ q) (Nat.le_of_eq (ABd _ _)) ?_;have d:s.heap.objs.size≠s.heap.objs.size+1:=AAh (Nat.lt_succ_self _);refine⟨by rw[Ao d,Ap],ABH _,d,g,λ_=>none,(Heap.Ns1.of_empty h).at λo q=>AAe _ q,λ_=>True.intro,λy hy=>absurd rfl hy⟩
end
section
variable {X:Cx}{Tb:km (kf×Obj)}{σ:St}{H:Hp}{s:ki}{A:Wf}{E:kj->ki->Prop}{Q:kj->ki->Prop}{c:kj}{b:kc}
inductive PQ (K:AAY) (H:Hp):V->Value->Prop where
 | non:PQ K H .non (.type "NoneType")
 | bl (x:Bool):PQ K H (.bl x) (.type "bool")
 | int (i:Int):PQ K H (.int i) (.type "int")
 | str (x:Str):PQ K H (.str x) (.type "str")
 | flt (x:UInt64):PQ K H (.flt x) (.type "float")
 | lst {a:Addr} {xs:List V} (e:H a=some (.lst xs)):PQ K H (.ref a) (.type "list")
 | frz {a:Addr} {o:Obj} {xs:List V} (e:H a=some (.frz o (.lst xs))):PQ K H (.ref a) (.type "list")
 | tup {a:Addr} {xs:List V} (e:H a=some (.tup xs)):PQ K H (.ref a) (.type "tuple")
 | dK {a:Addr} {kvs:List (GT×V)} (e:H a=some (.dK kvs)):PQ K H (.ref a) (.type "dict")
 | dT {a:Addr} {kvs:List (List GT×V)} (e:H a=some (.dT kvs)):PQ K H (.ref a) (.type "dict")
 | ins {a C dx:Addr} {fs:List (Str×V)} (e:H a=some (.ins C dx fs)) (cl:vH K C) (ha:PySem.W.findIn K (.ref C) "__class__" =some (some (.builtin "object.__class__")))
    (hn:PySem.W.specialIn K (.builtin "object.__class__") "__get__" =some (some (.builtin "getset_descriptor.__get__"))) (htk:PySem.W.takesIn K (.builtin "object.__class__")=some true)
    (hm:PySem.W.mroIn K C (.type "object")=some true):PQ K H (.ref a) (.ref C)
end
structure Room (k:Nat) (A:Around):Prop where
 hd:A.handled=none
 dp:A.depth+3*k+5<recursionLimit
 un:A.units+16*k+200<cLine
 gd:A.guards=some []
def Room.mono {j k:Nat}{A:Wf}(r:Room k A)(h:j<=k):Room j A:=⟨r.hd,by have:=r.dp;omega,by have:=r.un;omega,r.gd⟩
def Room.deeper {k:Nat}{A:Wf}(r:Room (k+1) A)(env:Env):Room k (A.deeper env):=
 ⟨r.hd,by have:=r.dp;show A.depth+1+3*k+5<_;omega,by have:=r.un;show A.units+3+16*k+200<_;omega,r.gd⟩
def Room.in1 {k:Nat}{A:Wf}(r:Room (k+1) A):Room k A.in1:=
 ⟨r.hd,by have:=r.dp;show A.depth+3*k+5<_;omega,by have:=r.un;show A.units+1+16*k+200<_;omega,r.gd⟩
def Xu {A:Wf}{C:kf}{a:km kj}{b:km (Str×kj)}:(A.under (.builtin "type.__call__" ⟨.ref C::a,b⟩)).depth=A.depth+1:=by first | rfl|simp[Around.under,Code.weight,Code.isCreation,Code.isGuard,Code.isCaller,Code.frames,Code.isFrame,guardIds]
def Xv {A:Wf}{C:kf}{a:km kj}{b:km (Str×kj)}:(A.under (.builtin "type.__call__" ⟨.ref C::a,b⟩)).units=A.units+1:=by first | rfl|simp[Around.under,Code.cUnits,Code.frames,Code.isFrame]
def Room.make {k:Nat}{A:Wf}(r:Room (k+1) A)(C:kf)(a:km kj)(b:km (Str×kj)):Room k (A.under (.builtin "type.__call__" ⟨.ref C::a,b⟩)):=
 ⟨r.hd,by have:=r.dp;rw[Xu];omega,by have:=r.un;rw[Xv];omega,by first | exact r.gd|simpa[Around.under,pushGuards,Code.guards,Code.isGuard,guardIds] using r.gd⟩
def Room.depth {k:Nat}{A:Wf}(r:Room k A):A.depth<recursionLimit:=by have:=r.dp;omega
def Room.units {k:Nat}{A:Wf}(r:Room k A):A.units+64<cLine:=by have:=r.un;omega
def hG:TA:=λ_ H Q=>Q [] H
def ML (b:TE)(c:TA):TA:=λa H Q=>b a H λx d=>c a d λxs e=>Q (x::xs) e
section
variable {X:Cx}{e:kd}{es:km kd}{te:TE}{t:TA}{pos:Pos}
def DY:PA X [] hG:=λ_ _ _ _ H Q I h=>ACp ⟨[],H,I, .nil,h⟩
def BK (ha:PE X e te)(b:PA X es t)(hs:starEach (e::es) X.env=(false,eval e X.env)::starEach es X.env:=by rfl):PA X (e::es) (ML te t):=by intro pos Tb s a H Q I h;rw[hs];show wpAny _ _ (spliced ((false,eval e X.env)::backTo pos (starEach es X.env))) _ _ s;refine ACN (Bi (ha Tb s a H _ I h) λu c ⟨x,d,f,r1,g⟩=> ?_);exact Bi (b pos Tb c a d _ f g) λl m ⟨xs,i,j,r2,k⟩=>⟨x::xs,i,j, .cons r1 r2,k⟩
def kg (t:TA):TE:=λb H Q=>t b H λxs a=>xs.length<=sizeLine/\∀p,a p=none->Q (.ref p) (upd a p (.tup xs))
def wt (t:TA):TE:=λb H Q=>t b H λxs a=>xs.length<=sizeLine/\∀p,a p=none->Q (.ref p) (upd a p (.lst xs))
def QG {x1}(h:PA X es t):PE X (.Tuple es x1 pos) (kg t):=by intro Tb s f H Q I hq;refine wpAny_Tuple_spliced (Bi (h pos Tb s f H _ I hq) λg a ⟨xs,c,d,r,z,q⟩=>⟨by rw[<-r.length];exact z, ?_⟩);have i:c a.heap.objs.size=none:=d.hok.fresh (AAf _);refine⟨.ref a.heap.objs.size,upd c a.heap.objs.size (.tup xs),d.laid (t':=a.toks) (λb u e=>AAe _ e) (AAf _) ?_,rfl,q _ i⟩;exact⟨z,g,r,⟨_,AAj _ rfl,rfl,_,rfl⟩⟩
def fz (h:PA X es t):PE X (.List es pos) (wt t):=by intro Tb s f H Q I hq;refine wpAny_List_spliced (Bi (h pos Tb s f H _ I hq) λg a ⟨xs,c,d,r,z,q⟩=>⟨by rw[<-r.length];exact z, ?_⟩);have i:c a.heap.objs.size=none:=d.hok.fresh (AAf _);refine⟨.ref a.heap.objs.size,upd c a.heap.objs.size (.lst xs),d.laid (t':=a.toks) (λb u e=>AAe _ e) (AAf _) ?_,rfl,q _ i⟩;exact⟨z,g,0,r,AAj _ rfl⟩
end
abbrev Sp:=km V->Hp->VK->XK->Prop
abbrev aB:=km Env->Hp->ki->XK->kj->ki->Prop
structure Qw (P:Program) (w:World) (K:AAY) (mg:Str->Option Value) (base:Heap) (A:Around) (outer:List Env) (s:Shared) (H:Hp):Prop where
 frames:A.frames=some outer
 mod:Mod K mg base
 bs:∀b o,base.get? b=some o->s.heap.get? b=some o/\H b=none
 bsz:base.objs.size<=s.heap.objs.size
 funs:s.heap.FunFrames base outer
 frf:∀b∈cX outer,H b=none
 hok:OE P w H s.heap
 bare:AllBare s.gens
def CE (outer:km Env)(P:gn)(w:fe)(H:Hp)(s:ki)(Q:VK)(u:kj)(a:ki):Prop:=
 ∃v b,a.os=s.os/\AllBare a.gens/\Un (cX outer) [] H b s.heap a.heap/\OE P w b a.heap/\RelV v u/\Q v b
def CR (CX:aB)(outer:km Env)(P:gn)(w:fe)(H:Hp)(s:ki)(Q:VK)(E:XK)(r:Result)(a:ki):Prop:=
 match r with
 | .ok (.ret u)=>CE outer P w H s Q u a
 | .ok _=>False
 | .error e=>CX outer H s E e a
structure Fi (P:Program) (w:World) (K:AAY) (mg:Str->Option Value) (base:Heap) (CX:aB) (k:Nat) (f:Addr) (fd:FuncData) (ps:List Str) (sp:Sp):Prop where
 len:∀vs H Q E,sp vs H Q E->vs.length=ps.length
 run:∀(A:Around) (outer:List Env) (s:Shared) (H:Hp) (args:Args) (us:List Value) (vs:List V) (Q:VK) (E:XK),Room k A->Qw P w K mg base A outer s H->BindsTo s fd args (ps.zip us)->A7 vs us->sp vs H Q E->
  codeAny (model P w) A (.call (.ref f) args) (CR CX outer P w H s Q E) s
def Fi.mono {P:gn}{w:fe}{K:AAY}{mg:Str->ke kj}{base:da}{CX:aB}{j k:Nat}{f:kf}{a:FuncData}{b:km Str}{sp:Sp}(F:Fi P w K mg base CX j f a b sp)(h:j<=k):Fi P w K mg base CX k f a b sp:=⟨F.len,λA outer s H args c vs Q E d=>F.run A outer s H args c vs Q E (d.mono h)⟩
def Fi.imp {P:gn}{w:fe}{K:AAY}{mg:Str->ke kj}{base:da}{CX:aB}{k:Nat}{f:kf}{b:FuncData}{c:km Str}{sp a:Sp}(F:Fi P w K mg base CX k f b c sp)(h:∀vs H Q E,a vs H Q E->sp vs H Q E):Fi P w K mg base CX k f b c a:=
 ⟨λvs H Q E q=>F.len vs H Q E (h _ _ _ _ q),λA outer s H args d vs Q E e he hb hv hs=>F.run A outer s H args d vs Q E e he hb hv (h _ _ _ _ hs)⟩
def Qw.make {P:gn}{w:fe}{K:AAY}{mg:Str->ke kj}{base:da}{A:Wf}{outer:km Env}{s:ki}{H:Hp}(e:Qw P w K mg base A outer s H)(C:kf)(a:km kj)(b:km (Str×kj)):Qw P w K mg base (A.under (.builtin "type.__call__" ⟨.ref C::a,b⟩)) outer s H:=⟨by first | exact e.frames|(simpa[Around.under,Code.envs,Code.isFrame,pushEnvs] using e.frames),e.mod,e.bs,e.bsz,e.funs,e.frf,e.hok,e.bare⟩
def Qw.in1 {P:gn}{w:fe}{K:AAY}{mg:Str->ke kj}{base:da}{A:Wf}{outer:km Env}{s:ki}{H:Hp}(e:Qw P w K mg base A outer s H):Qw P w K mg base A.in1 outer s H:=⟨e.frames,e.mod,e.bs,e.bsz,e.funs,e.frf,e.hok,e.bare⟩
section
variable {X:Cx}{Tb:km (kf×Obj)}{σ:St}{H:Hp}{s s':ki}
def Inv.env0 (I:Inv X Tb σ H s):Qw X.prog X.w X.K X.mg X.base X.A X.stack s H:=
 ⟨I.ok.frames,I.ok.mod,I.bs,AA1 I.ok.bsz I.sz,I.stack,I.stkFree,I.hok,I.bare⟩
def Inv.after {Q:VK}{u:kj}(I:Inv X Tb σ H s)(h:CE X.stack X.prog X.w H s Q u s'):EP X Tb σ Q u s':=by obtain⟨v,c,os,bare,un,hok,r,q⟩:=h;obtain⟨e,g,d,t,a⟩:=s';obtain rfl:a=s.os:=os;exact⟨v,c,I.call (h':=e) (g':=g) (d':=d) (t':=t) (ch:= []) un hok bare (λb z=>absurd z (by simp)),r,q⟩
end
def l8 (sp:Sp)(a:km V)(E:XK)(t:TA):TE:=λb H Q=>t b H λvs c=>sp (vs++a) c Q E
def Binds (K:AAY)(c:FuncData)(b:km Str)(ds:km kj):Prop:=
 ∀(s:ki) (a:km kj),K.In s.heap->(a++ds).length=b.length->BindsTo s c ⟨a, []⟩ (b.zip (a++ds))
def Binds.all {K:AAY}{c:FuncData}{b:km Str}(h:∀a:km kj,a.length=b.length->bindArgs c ⟨a, []⟩=pure (b.zip a)):Binds K c b [] :=λs a _ hl=>by rw[ACb] at hl ⊢;exact .of_eq (h a hl)
def Passes (CX:aB)(X:Cx)(E:XK):Prop:=∀(Tb:km (kf×Obj)) (b:St) (H:Hp) (s:ki) (e:kj) (a:ki),Inv X Tb b H s->CX X.stack H s E e a->X.xe e a
section
variable {X:Cx}{CX:aB}{k:Nat}{f C:kf}{fd:FuncData}{ps:km Str}{sp:Sp}{dvs:km V}{ds:km kj}{E:XK}{x m:Str}{p pos apos:Pos}{e o:kd}{es:km kd}{ta:TE}{t:TA}
theorem og {Tb:km (kf×Obj)}{b:St}{H:Hp}{s:ki}{Q:VK}{a:km kj}{vs:km V}(F:Fi X.prog X.w X.K X.mg X.base CX k f fd ps sp)(c:Room k X.A)(hb:Binds X.K fd ps ds)(hd:A7 dvs ds)(hx:Passes CX X E)(I:Inv X Tb b H s)(r:A7 vs a)(h:sp (vs++dvs) H Q E):wpAny (model X.prog X.w) X.A (call (.ref f) a) (EP X Tb b Q) X.xe s:=by
 have r2:A7 (vs++dvs) (a++ds):=r.append hd;have hl:(a++ds).length=ps.length:=by rw[<-r2.length];exact F.len _ _ _ _ h
 refine wpAny_call (ADT (F.run X.A X.stack s H ⟨a, []⟩ (a++ds) (vs++dvs) Q E c I.env0 (hb s a I.kIn hl) r2 h) λr d hq=> ?_);cases r with
 | error e=>exact hx Tb b H s e d I hq
 | ok g=>
   cases g with
   | ret u=>exact I.after hq
   | next=>exact False.elim hq
   | brk=>exact False.elim hq
   | cont=>exact False.elim hq
theorem jo (F:Fi X.prog X.w X.K X.mg X.base CX k f fd ps sp)(b:Room k X.A)(c:Gl X x)(hm:X.mg x=some (.ref f))(hk:PySem.W.keepIn X.K (.ref f)=true)(hb:Binds X.K fd ps ds)(hd:A7 dvs ds)(hx:Passes CX X E)(ha:PA X (e::es) t)(hdb:(x==("__debug__" :Str))=false:=by decide)(he:starEach (e::es) X.env=(false,eval e X.env)::starEach es X.env:=by rfl)(hpl:(backTo pos (starEach es X.env)).any (·.1)=false:=by rfl):PE X (.Call (.Name x p) (e::es) [] pos) (l8 sp dvs E t):=by intro Tb s d H Q I h;refine AD6 (jV I c hm ?_ hdb);refine PySem.W.callWith_K (h₀:=X.base) I.ok.mod.kin hk (Bi (ha pos Tb s d H _ I h) λg i ⟨vs,j,a,r,q⟩=>⟨a.kIn, ?_⟩) he hpl;exact og F b hb hd hx a r q
structure Mk (K:AAY) (C f:Addr):Prop where
 makes:PySem.W.makesIn K C=true
 init:PySem.W.findIn K (.ref C) "__init__" =some (some (.ref f))
 fn:PySem.W.isFn K (.ref f)=true
 kp:PySem.W.keepIn K (.ref C)=true
end
section
variable {X:Cx}{CX:aB}{k:Nat}{f C:kf}{fd:FuncData}{ps ks:km Str}{sp:Sp}{E:XK}{x m:Str}{p pos apos kpos:Pos}{e o:kd}{es:km kd}{kws:km Keyword}{te ta:TE}{t tk:TA}{nm:ke Str}
structure vT (K:AAY) (fd:FuncData) (ps ks:List Str) (g:List Value->List Value->List Value) (gV:List V->List V->List V):Prop where
 to:∀(s:Shared) (us ws:List Value),K.In s.heap->(g us ws).length=ps.length->BindsTo s fd ⟨us,ks.zip ws⟩ (ps.zip (g us ws))
 rel:∀{vs:List V} {us:List Value} {zs:List V} {ws:List Value},A7 vs us->A7 zs ws->A7 (gV vs zs) (g us ws)
variable {g:km kj->km kj->km kj}{gV:km V->km V->km V}
end
structure FS (N P:List Str) (sc:Scope):Prop where
 kind:sc.kind= .function
 co:sc.isCoroutine=false
 gen:sc.isGenerator=false
 nd:N.Nodup
 pre:N.take P.length=P
 par:∀x∈P,sc.names.lookup x=some .local\/sc.names.lookup x=some .cell
 nofree:∀y∈sc.names,y.2≠ .free
theorem Rk {kindOf:Str->ke NameKind}{x:Str}:∀{binds:km (Str×kj)} {m:Str->ke kj},(∀v,(x,v) ∉ binds)->bindL kindOf binds m x=m x
 | [],_,_=>rfl
 | (n,v)::r,m,h=>by
   unfold bindL;rw[Rk λw hw=>h w (ABn _ hw)];split
   .have:x≠n:=by rintro rfl;exact h v ACn
    simp[this]
   .rfl
theorem Ri {kindOf:Str->ke NameKind}{x:Str}:∀{binds:km (Str×kj)} {m:Str->ke kj},(∀v,(x,v) ∉ binds)->bindC kindOf binds m x=m x
 | [],_,_=>rfl
 | (n,v)::r,m,h=>by
   unfold bindC;rw[Ri λw hw=>h w (ABn _ hw)];split
   .rfl
   .have:x≠n:=by rintro rfl;exact h v ACn
    simp[this]
theorem Rj {kindOf:Str->ke NameKind}{x:Str}{v:kj}:∀{P:km Str} {vs:km kj} {i:Nat} {m:Str->ke kj},P.Nodup->P[i]? =some x->vs[i]? =some v->kindOf x=some .local-> bindL kindOf (P.zip vs) m x=some v
 | [],_,_,_,_,h,_,_=>by simp at h
 | _::_, [],_,_,_,_,h,_=>by simp at h
 | p::P,w::vs,0,m,nd,h1,h2,hk=>by simp at h1 h2;subst h1;subst h2;show bindL kindOf ((p,w)::P.zip vs) m p=_;unfold bindL;rw[Rk λv hv=>(AD7.mp nd).1 (ACc hv).1,AAb hk];simp
 | p::P,w::vs,i+1,m,nd,h1,h2,hk=>by show bindL kindOf ((p,w)::P.zip vs) m x=_;unfold bindL;exact Rj (i:=i) (AD7.mp nd).2 (by simpa using h1) (by simpa using h2) hk
theorem Rh {kindOf:Str->ke NameKind}{x:Str}{v:kj}:∀{P:km Str} {vs:km kj} {i:Nat} {m:Str->ke kj},P.Nodup->P[i]? =some x->vs[i]? =some v->kindOf x≠some .local-> bindC kindOf (P.zip vs) m x=some v
 | [],_,_,_,_,h,_,_=>by simp at h
 | _::_, [],_,_,_,_,h,_=>by simp at h
 | p::P,w::vs,0,m,nd,h1,h2,hk=>by simp at h1 h2;subst h1;subst h2;show bindC kindOf ((p,w)::P.zip vs) m p=_;unfold bindC;rw[Ri λv hv=>(AD7.mp nd).1 (ACc hv).1,AAa hk];simp
 | p::P,w::vs,i+1,m,nd,h1,h2,hk=>by show bindC kindOf ((p,w)::P.zip vs) m x=_;unfold bindC;exact Rh (i:=i) (AD7.mp nd).2 (by simpa using h1) (by simpa using h2) hk
def start (N:km Str)(vs:km V):St:=vs.map some++List.replicate (N.length-vs.length) none
def Vf (CX:aB)(P:gn)(w:fe)(K:AAY)(mg:Str->ke kj)(base:da)(N:km Str)(qual:Str)(scope:Scope)(f:kf)(b:kj)(A:Wf)(outer:km Env)(s:ki)(H:Hp)(E:XK):Cx where
 prog:=P
 w:=w
 K:=K
 mg:=mg
 base:=base
 A:=A.deeper (envOfC qual scope s.heap.objs.size f b)
 N:=N
 s₀:=s
 H₀:=H
 env:=envOfC qual scope s.heap.objs.size f b
 outer:=outer
 stack:=envOfC qual scope s.heap.objs.size f b::outer
 ex:= []
 calm:=true
 fn:=λ_=>true
 pn:= []
 xe:=λe c=>wpAny (model P w) (A.deeper (envOfC qual scope s.heap.objs.size f b)) (leaving (envOfC qual scope s.heap.objs.size f b) e) (λ_ a=>CX outer H s E e a) (λd a=>CX outer H s E d a) c
def Va {sc:Scope}{n:Nat}{x:Str}(h:sc.names.lookup x=some .cell):∃c,(cellsFrom n sc.names []).lookup x=some c:=by have q:=AFC sc.names n [] (.inl h);exact Option.isSome_iff_exists.mp q
def bB {CX:aB}{P:gn}{w:fe}{K:AAY}{mg:Str->ke kj}{base:da}{N g:km Str}{qual:Str}{scope:Scope}{f:kf}{m:kj}{A:Wf}{outer:km Env}{s t:ki}{H:Hp}{E:XK}{o:km kj}{vs:km V}(S:FS N g scope)(hd:A.handled=none)(d:Qw P w K mg base A outer s H)(hl:vs.length=g.length)(r:A7 vs o)(x:InCallC s s.heap.objs.size (bindL (envOfC qual scope s.heap.objs.size f m).kindOf (g.zip o) λ_=>none) (cellsFrom (s.heap.objs.size+1) scope.names []) (bindC (envOfC qual scope s.heap.objs.size f m).kindOf (g.zip o) λ_=>none) t):Inv (Vf CX P w K mg base N qual scope f m A outer s H E) [] (start N vs) H t:=by
 have hpl:g.length<=N.length:=by have:=congrArg List.length S.pre;rw[ACq] at this;omega
 obtain⟨h1,B,rfl,hk⟩:=x.done;have j:∀b:kf,b ∉ (Vf CX P w K mg base N qual scope f m A outer s H E).ex:=λb z=>absurd (show b∈([] :km kf) from z) (by simp);refine⟨⟨d.mod,S.kind,rfl,rfl,AAf _,λy z c h1 h2=> ?_,λy hy=> ?_,λy c _ h=> ?_,λ_=>hd,Around.frames_deeper d.frames, .inr ⟨rfl,rfl⟩,λb z=>absurd z (j b),d.bs,d.bsz,λb _ _=>j b,λb z=>absurd z (j b),d.funs,d.frf⟩,
  rfl,d.bare,Un.kept hk,⟨_,x.toInCall.ns,λi y v h1 h2 C=> ?_⟩,λy c h=>⟨_,x.cell y c h⟩,d.hok.fresh (AAf _),λy c h=> ?_,λp hp=>absurd (show p∈([] :km (kf×Obj)) from hp) (by simp),d.hok.kept hk, ?_⟩
 .exact name_of_addr x.apart (ADU h1) (ADU h2)
 .have hy:scope.names.lookup y=some .cell\/scope.names.lookup y=some .free:=hy;rcases hy with hy|hy
  .exact Va hy
  .exact absurd rfl (S.nofree _ (ADU hy))
 .exact AD2 (x.above y c (ADU h))
 .have hi:i<vs.length:=by
   unfold start at h2;by_cases hi:i<vs.length
   .exact hi
   .rw [ABh (by simpa using hi)] at h2;rw[ACd] at h2;split at h2 <;> cases h2
  have ha:vs[i]? =some v:=by
   unfold start at h2;rw[ABQ (by simpa using hi),ABI] at h2;cases e:vs[i]? with
   | none=>rw[e] at h2;cases h2
   | some a=>rw[e] at h2;cases h2;rfl
  obtain⟨u,hu,rv⟩:=r.get ha;have hp:g[i]? =some y:=by rw[<-S.pre,List.getElem?_take_of_lt (by omega)];exact h1
  have l:g.Nodup:=by rw[<-S.pre];exact S.nd.sublist (List.take_sublist _ _)
  refine⟨u,rv, ?_⟩;rcases S.par y (ABN hp) with k|k
  .exact .inl ⟨k,Rj l hp hu k⟩
  .obtain ⟨c,e⟩:=Va (n:=s.heap.objs.size+1) k;refine .inr ⟨.inl k,c,e, ?_⟩;have q:=x.cell y c e;rw[Rh l hp hu (by show scope.names.lookup y≠_;rw[k];decide)] at q;exact q
 .exact d.hok.fresh (AD2 (x.above y c (ADU h)))
 .unfold start;show _=N.length;rw[ABR,AAk,ACV];omega
def q0 {CX:aB}{P:gn}{w:fe}{K:AAY}{mg:Str->ke kj}{base:da}{k:Nat}{f:kf}{name qual:Str}{params:Arguments}{body:km Stmt}{scope:Scope}{B kV g C a ct M:kj}{D O:ke kf}{l:Array (ke kj)}{N j:km Str}{sp:Sp}(R:K.lookup f=some ⟨M,O, .func (PySem.W.fnOf name qual params body scope B kV g C D a ct),l⟩)(T:PySem.W.codeIn K a qual=true)(S:FS N j scope)(len:∀vs H Q E,sp vs H Q E->vs.length=j.length)(U:∀(A:Wf) (outer:km Env) (s:ki) (H:Hp) (vs:km V) (Q:VK) (E:XK),Room k (A.deeper (envOfC qual scope s.heap.objs.size f a))->sp vs H Q E-> ∃t,Yu (Vf CX P w K mg base N qual scope f a A outer s H E) body t/\t {nx:=λ_ d=>Q .non d,rt:=Q} (start N vs) H):Fi P w K mg base CX (k+1) f (PySem.W.fnOf name qual params body scope B kV g C D a ct) j sp:=by
 refine⟨len,λA outer s H args X vs Q E m h hb r F=> ?_⟩;have hl:=len _ _ _ _ F;have G:K.In s.heap:=h.mod.kin.keeps λb o e=>(h.bs b o e).1;have p:s.heap.NoLimit:=h.mod.nolimit.keeps λb o e=>(h.bs b o e).1;have Y:∀y∈j.zip X,scope.names.lookup y.1=some .local\/(scope.names.lookup y.1=some .cell/\((cellsFrom (s.heap.objs.size+1) scope.names []).lookup y.1).isSome=true):=λ⟨n,v⟩ hy=>by
  rcases S.par n (ACc hy).1 with q|q
  .exact .inl q
  .exact .inr ⟨q,AFC _ _ _ (.inl q)⟩
 refine codeAny_call_function m.depth (G _ _ R) rfl S.co S.gen rfl (PySem.W.codeRec_of G T) (hb _ _ _ _ ?_);refine wpAny_newFunctionEnv_cells S.kind Y λenv he L x=> ?_;subst he;refine⟨p.keeps x.toInCall.keep,codeAny_func ?_⟩;obtain⟨t,Z,hq⟩:=U A outer s H vs Q E (m.deeper _) F;have I:Inv (Vf CX P w K mg base N qual scope f a A outer s H E) [] (start N vs) H L:=bB S m.hd h hl r x;refine ABa (Z [] L (start N vs) H _ I hq) (λfl z hs=> ?_) λe z hs=>hs;have i:∀{c:St} {d:Hp} {v:V} {u:kj},Inv (Vf CX P w K mg base N qual scope f a A outer s H E) [] c d z->RelV v u->Q v d->CE outer P w H s Q u z:=
  λ{c d v u} J rv q=>⟨v,d,J.os,J.bare,J.base,J.hok,rv,q⟩
 cases fl with
 | ret u=> obtain⟨v,c,d,J,rv,q⟩:=hs;exact i J rv q
 | next=> obtain⟨c,d,J,q⟩:=hs;exact i (v:=V.non) (u:=Value.none) J rfl q
 | brk=> obtain⟨_,_,_,q⟩:=hs;exact False.elim q
 | cont=> obtain⟨_,_,_,q⟩:=hs;exact False.elim q
section
variable {X:Cx}{x:Str}{p pos:Pos}{e:kd}{es:km kd}{t:TA}{id T:String}{r:km V->Hp->VK->Prop}
def wr (r:km V->Hp->VK->Prop)(t:TA):TE:=λa H Q=>t a H λvs b=>r vs b Q
def L4 (hc:Cf X (.builtin id) r)(b:Gl X x)(hm:X.mg x=none)(hv:bootBuiltins x=some (.builtin id))(ha:PA X (e::es) t)(hn:x≠"__name__" :=by decide)(hdb:(x==("__debug__" :Str))=false:=by decide)(he:starEach (e::es) X.env=(false,eval e X.env)::starEach es X.env:=by rfl)(hpl:(backTo pos (starEach es X.env)).any (·.1)=false:=by rfl):PE X (.Call (.Name x p) (e::es) [] pos) (wr r t):=by intro Tb s a H Q I h;refine AD6 (FB I b hm hv ?_ hn hdb);exact AFD (Bi (ha pos Tb s a H _ I h) λc d ⟨vs,f,g,r1,i⟩=>hc Tb d a f vs c Q g r1 i) he hpl
def JW (hc:Cf X (.type T) r)(b:Gl X x)(hm:X.mg x=none)(hv:bootBuiltins x=some (.type T))(ha:PA X (e::es) t)(hn:x≠"__name__" :=by decide)(hdb:(x==("__debug__" :Str))=false:=by decide)(he:starEach (e::es) X.env=(false,eval e X.env)::starEach es X.env:=by rfl)(hpl:(backTo pos (starEach es X.env)).any (·.1)=false:=by rfl):PE X (.Call (.Name x p) (e::es) [] pos) (wr r t):=by intro Tb s a H Q I h;refine AD6 (FB I b hm hv ?_ hn hdb);exact ACU (Bi (ha pos Tb s a H _ I h) λc d ⟨vs,f,g,r1,i⟩=>hc Tb d a f vs c Q g r1 i) he hpl
end
end L2
namespace HT
open PySem PyProof.Rows
section
variable {prog:gn}{w:fe}{A:Wf}{E:kj->ki->Prop}{s:ki}
def cat_tup {t b:kf}{vs a:km kj}{Q:kj->ki->Prop}(o:IsTup s.heap t vs.toArray)(hb:IsTup s.heap b a.toArray)(hv:vs≠ [])(h1:a= [] ->Q (.ref t) s)(h2:a≠ [] ->Q (.ref s.heap.objs.size) {s with heap:=s.heap.push {cls:= .type "tuple",data:= .seq (vs++a).toArray}})(hsz:vs.length+a.length<=sizeLine):wpAny (model prog w) A (binaryOp .Add (.ref t) (.ref b)) Q E s:=by
 obtain⟨⟨cls,h,data,i⟩,f,hc,n,hd⟩:=id o;obtain⟨⟨j,c,data2,d⟩,g,k,l,m⟩:=id hb;simp only at hc hd k m;subst hc hd k m;have e:vs.toArray++a.toArray=(vs++a).toArray:=by simp
 by_cases hw:a= []
 .exact concat_meets ⟨_,f,rfl⟩ ⟨_,g,rfl⟩ AEi seq_tuple_add AEj AEk (AEl _ _)
   (tuple_addW1 t b vs.toArray a.toArray n l h c i d (by simpa using hv) (by simp[hw])) ⟨f,g,h1 hw⟩
 .refine concat_meets ⟨_,f,rfl⟩ ⟨_,g,rfl⟩ AEi seq_tuple_add AEj AEk (AEl _ _)
   (tuple_addW2 t b vs.toArray a.toArray n l h c i d (by simpa using hv) (by simpa using hw) (by rw[AAp,AAp];exact hsz)) ⟨f,g, ?_⟩
  rw[e];exact h2 hw
def sIx (n d:Nat):ke Int->Nat
 | none=>d
 | some v=>if v<0 then (v+(n:Int)).toNat else min v.toNat n
def sIx_none (n d:Nat):sIx n d none=d:=rfl
def sIx_nat (n d k:Nat):sIx n d (some (k:Int))=min k n:=by show (if (k:Int)<0 then ((k:Int)+(n:Int)).toNat else min (k:Int).toNat n)=min k n;rw[AAa (by omega),AC7]
def oh (n d:Nat)(hd:d<=n)(o:ke Int):sIx n d o<=n:=by
 cases o with
 | none=>exact hd
 | some v=>
   show (if v<0 then (v+(n:Int)).toNat else min v.toNat n)<=n;by_cases hv:v<0
   .rw [AAb hv];omega
   .rw [AAa hv];exact Nat.min_le_right _ _
def Y3 (v:Int)(n d:Nat):(if v<0 then max (v+(n:Int)) 0 else min v (n:Int))=((sIx n d (some v):Nat):Int):=by
 show (if v<0 then max (v+(n:Int)) 0 else min v (n:Int))=(((if v<0 then (v+(n:Int)).toNat else min v.toNat n):Nat):Int);by_cases hv:v<0
 .simp only[AAb hv];omega
 .simp only[AAa hv];omega
def XG (lo hi:ke Int)(n:Nat):Builtin.Slice.sliceAdjust lo hi 1 (n:Int)=(((sIx n 0 lo:Nat):Int),((sIx n n hi:Nat):Int)):=by
 have h1:¬((1:Int)<0):=by omega
 unfold Builtin.Slice.sliceAdjust;simp only[h1,ABE];refine AC8 ?_ ?_
 .cases lo with
  | none=>rfl
  | some v=>exact Y3 v n 0
 .cases hi with
  | none=>rfl
  | some v=>exact Y3 v n n
def YJ (i j:Nat):Builtin.Slice.slicePlaces (i:Int) (j:Int) 1=j-i:=by
 unfold Builtin.Slice.slicePlaces;have h1:(1:Int)>0:=by omega
 simp only[h1,ABU,Int.ediv_one];split <;> omega
def Qg {v:kj}{o:ke Int}{Q:ke Int->ki->Prop}(p:IsPart v o)(h:Q o s):wpAny (model prog w) A (Builtin.Slice.slicePartIndex v) Q E s:=by
 cases p with
 | none=>exact slicePart_none h
 | int i t=>exact slicePart_int h
def sliceApplied_gen {e:kf}{a b:kj}{lo hi:ke Int}{n:Nat}{Q:Int×Int×Nat->ki->Prop}(hs:s.heap.IsSliceOf e a b .none)(f:IsPart a lo)(g:IsPart b hi)(h:Q (((sIx n 0 lo:Nat):Int),1,sIx n n hi-sIx n 0 lo) s):wpAny (model prog w) A (Builtin.Slice.sliceApplied (.ref e) (pure (n:Int))) Q E s:=by obtain⟨os,c,i,d⟩:=id hs;unfold Builtin.Slice.sliceApplied Builtin.Slice.sliceFields;refine AAX (AAX (AAo c d (x:=a) rfl (AAX (AAo c d (x:=b) rfl (AAX (AAo c d (x:= .none) rfl (AAZ ?_)))))));refine AAX (slicePart_none ?_);show wpAny _ _ (if ((1:Int)==0)=true then _ else _) _ _ s;rw[AAa (by decide)];refine AAX (Qg f (AAX (Qg g (AAX (AAZ ?_)))));show wpAny _ _ (match Builtin.Slice.sliceAdjust lo hi 1 (n:Int) with | (lo,hi)=>pure (lo,(1:Int),Builtin.Slice.slicePlaces lo hi 1)) _ _ s;rw[XG lo hi n];show wpAny _ _ (pure (((sIx n 0 lo:Nat):Int),(1:Int),Builtin.Slice.slicePlaces ((sIx n 0 lo:Nat):Int) ((sIx n n hi:Nat):Int) 1)) _ _ s;rw[YJ];exact AAZ h
def gC (xs:Array kj)(i k:Nat):((List.range k).filterMap λ(m:Nat)=>xs[((i:Int)+(m:Int)*1).toNat]?).toArray=((xs.toList.drop i).take k).toArray:=by
 have e:(λ(m:Nat)=>xs[((i:Int)+(m:Int)*1).toNat]?)=λm=>xs[i+m]? :=by
  funext m
  have:((i:Int)+(m:Int)*1).toNat=i+m:=by omega
  rw[this]
 rw[e];have:=pick_run xs i k;rw[List.filterMap_map] at this;have a:((λx=>xs[x]?) ∘ λx=>i+x)=λm=>xs[i+m]? :=rfl;rw[a] at this;rw[this]
def getItem_tuple_cut {t c:kf}{items:Array kj}{d e:kj}{lo hi:ke Int}{Q:kj->ki->Prop}(a:IsTup s.heap t items)(hs:s.heap.IsSliceOf c d e .none)(f:IsPart d lo)(g:IsPart e hi)(hw:¬(sIx items.size 0 lo=0/\sIx items.size items.size hi=items.size))(h:Q (.ref s.heap.objs.size) {s with heap:=s.heap.push {cls:= .type "tuple",data:= .seq ((items.toList.drop (sIx items.size 0 lo)).take (sIx items.size items.size hi-sIx items.size 0 lo)).toArray}})(hsz:items.size<=sizeLine):wpAny (model prog w) A (getItem (.ref t) (.ref c)) Q E s:=by
 have b:sizeOk (.seq ((items.toList.drop (sIx items.size 0 lo)).take (sIx items.size items.size hi-sIx items.size 0 lo)).toArray):=by show ((items.toList.drop (sIx items.size 0 lo)).take (sIx items.size items.size hi-sIx items.size 0 lo)).toArray.size<=sizeLine;rw[AAp,ACq,ADV,ACm];omega
 have hj:sIx items.size items.size hi<=items.size:=oh _ _ (AAf _) hi;obtain⟨os,i,j,n⟩:=id hs;have k:s.TypeIs (.ref c) "slice" :=⟨os,i,j⟩;unfold getItem;try with_reducible refine ABV ?_
 first | refine AAX (AAZ ?_)|skip
 refine AAX (wpAny_sequenceKey a.typeIs (by decide) ?_);refine AAX (ABe (name:=Str.ofString "__getitem__") a.typeIs ACW
  (ABJ ACW a.typeIs entry_tuple_getitem ?_ (args_tuple_getitem _ _)))
 show wpAny _ _ (Builtin.Tuple.tupleItemsOf (.ref t) >>= _) _ _ s;refine AAX (tupleItemsOf_ a ?_);refine AAX (ACr k ?_);rw[AAb (by decide)];refine AAX (sliceApplied_gen hs f g ?_);have l:¬((((sIx items.size 0 lo:Nat):Int)==0&&(1:Int)==1&&(sIx items.size items.size hi-sIx items.size 0 lo)==items.size)=true):=by intro q;rw[ABS,ABS] at q;have o:((sIx items.size 0 lo:Nat):Int)=0:=eq_of_beq q.1.1;have p:sIx items.size items.size hi-sIx items.size 0 lo=items.size:=eq_of_beq q.2;exact hw ⟨by omega,by omega⟩
 show wpAny _ _ (if (((sIx items.size 0 lo:Nat):Int)==0&&(1:Int)==1&&(sIx items.size items.size hi-sIx items.size 0 lo)==items.size)=true then _ else _) _ _ s;rw[AAa l,gC];first
  | exact AAX (m:=Builtin.Tuple.tupleExact _) (ABM (AAZ ⟨_,rfl,AAZ h⟩) b)
  | exact AAX (m:=Builtin.Tuple.tupleExact _) (ABM (AAX (AAZ (AAZ ⟨_,rfl,AAZ h⟩))) b)
  | exact AAX (AAX (m:=Builtin.Tuple.tupleExact _) (ABM (AAZ (AAZ ⟨_,rfl,AAZ h⟩)) b))
  | exact AAX (AAX (m:=Builtin.Tuple.tupleExact _) (ABM (AAZ ⟨_,rfl,AAZ h⟩) b))
end
end HT
namespace L2
open PySem PySem.Spec PyProof.Rows
abbrev TO:=St->Hp->(ke Int->Hp->Prop)->Prop
def PO (X:Cx)(e:ke kd)(t:TO):Prop:=
 ∀(Tb:km (kf×Obj)) (s:ki) (a:St) (H:Hp) (Q:ke Int->Hp->Prop),Inv X Tb a H s->t a H Q->
  wpAny (model X.prog X.w) X.A (evalPart e X.env) (λu c=>∃o b,Inv X Tb a b c/\IsPart u o/\Q o b) X.xe s
def ka:TO:=λ_ H Q=>Q none H
def uH (t:TE):TO:=λa H Q=>t a H λx b=>∃i,x= .int i/\Q (some i) b
section
variable {X:Cx}{e:kd}{te:TE}{lo hi:ke kd}{tl th:TO}{pos p2:Pos}
def j0:PO X none ka:=by intro Tb s a H Q I h;rw[evalPart_none];exact AAZ ⟨none,H,I, .none,h⟩
def j3 (h:PE X e te):PO X (some e) (uH te):=by intro Tb s a H Q I hw;rw[evalPart_some];refine Bi (h Tb s a H _ I hw) λu f ⟨x,b,c,r1,d⟩=> ?_;obtain⟨i,rfl,q⟩:=d;obtain⟨t,rfl⟩:=r1;exact⟨some i,b,c, .int i t,q⟩
def lG (X:Cx)(r:V->ke Int->ke Int->Hp->VK->Prop):Prop:=
 ∀(Tb:km (kf×Obj)) (s:ki) (a:St) (H:Hp) (x:V) (v b c:kj) (lo hi:ke Int) (d:kf) (Q:VK),Inv X Tb a H s->RelV x v->s.heap.IsSliceOf d b c .none->IsPart b lo->IsPart c hi->r x lo hi H Q->
  ∃T id,typeLookup (.type T) "__getitem__" =pure (some (.builtin id))/\s.TypeIs v T/\wpAny (model X.prog X.w) X.A (getItem v (.ref d)) (EP X Tb a Q) X.xe s
def lG.or {r a:V->ke Int->ke Int->Hp->VK->Prop}(h:lG X r)(h':lG X a):lG X (λx lo hi H Q=>r x lo hi H Q\/a x lo hi H Q):=by
 intro Tb s b H x v c d lo hi f Q I g hs i j q;rcases q with q|q
 .exact h Tb s b H x v c d lo hi f Q I g hs i j q
 .exact h' Tb s b H x v c d lo hi f Q I g hs i j q
def tSl (r:V->ke Int->ke Int->Hp->VK->Prop)(te:TE)(tl th:TO):TE:=λa H Q=>te a H λx b=>tl a b λl c=>th a c λu d=>r x l u d Q
def gB {r:V->ke Int->ke Int->Hp->VK->Prop}(i:lG X r)(he:PE X e te)(hl:PO X lo tl)(hu:PO X hi th):PE X (.Subscript e (.Slice lo hi none p2) pos) (tSl r te tl th):=by intro Tb s c H Q I h;refine Subscript_ (Bi (he Tb s c H _ I h) λv j ⟨x,k,m,r1,n⟩=> ?_);refine wpAny_Slice (Bi (hl Tb j c k _ m n) λd o ⟨l,p,t,y,z⟩=>Bi (hu Tb o c p _ t z) λf a ⟨u,g,B,C,D⟩=> ?_);rw[evalPart_none];refine AAZ ?_;have E:Inv X Tb c g {a with heap:=a.heap.push {cls:= .type "slice",data:= .fields #[d,f, .none] }}:=B.kept (t':=a.toks) λb K q=>AAe _ q;obtain⟨T,id,F,G,J⟩:=i Tb {a with heap:=a.heap.push {cls:= .type "slice",data:= .fields #[d,f, .none] }} c g x v d f l u a.heap.objs.size Q E r1 (Heap.IsSliceOf.new ..) y C D;show wpAny (model X.prog X.w) X.A (subscriptTail e (.Slice lo hi none p2) v (.ref a.heap.objs.size)) (EP X Tb c Q) X.xe {a with heap:=a.heap.push {cls:= .type "slice",data:= .fields #[d,f, .none] }};exact tail_any (ops:= [.ref a.heap.objs.size,v]) G F J (by with_unfolding_all rfl)
def Q5 (xs:km V)(lo hi:ke Int):km V:=(xs.drop (HT.sIx xs.length 0 lo)).take (HT.sIx xs.length xs.length hi-HT.sIx xs.length 0 lo)
def Nk (xs:km V)(lo hi:ke Int):(Q5 xs lo hi).length<=xs.length:=by unfold Q5;rw[ACq,ADV];omega
def we (K:AAY):V->ke Int->ke Int->Hp->VK->Prop:=λx lo hi H Q=>∃a xs,x= .ref a/\LZ K H a xs/\
 ¬(HT.sIx xs.length 0 lo=0/\HT.sIx xs.length xs.length hi=xs.length)/\∀p,H p=none->Q (.ref p) (upd H p (.tup (Q5 xs lo hi)))
def pG:lG X (we X.K):=by
 intro Tb s k H x v l m lo hi n Q I g hs i j h;obtain⟨a,xs,rfl,hx,hw,q⟩:=h;cases g;obtain⟨c,r,f,hz⟩:=I.tuple hx;have d:c.toArray.size=xs.length:=by rw[AAp];exact r.length.symm
 refine⟨"tuple",_,ACW.lookup,f.typeIs, ?_⟩;refine HT.getItem_tuple_cut f hs i j (by rw[d];exact hw) ?_ (by rw[d];exact hz);rw[d];refine⟨.ref s.heap.objs.size,_,I.laid (t':=s.toks) (o:= .tup (Q5 xs lo hi)) (λb p q=>AAe _ q) (AAf _) ?_,rfl,q _ (I.hok.fresh (AAf _))⟩;exact⟨AA1 (Nk xs lo hi) hz,_,(r.drop (HT.sIx xs.length 0 lo)).take (HT.sIx xs.length xs.length hi-HT.sIx xs.length 0 lo),IsTup.new _ _⟩
def lw (K:AAY):R2:=λx y H Q=>∃a b xs ys,x= .ref a/\y= .ref b/\LZ K H a xs/\LZ K H b ys/\xs≠ [] /\xs.length+ys.length<=sizeLine/\
 (ys= [] ->Q (.ref a) H)/\(ys≠ [] ->∀p,H p=none->Q (.ref p) (upd H p (.tup (xs++ys))))
def A7.nil_iff {xs:km V}{a:km kj}(r:A7 xs a):a= [] ↔xs= [] :=by
 cases r with
 | nil=>simp
 | cons _ _=>simp
def jl:Ee X (binaryOp .Add) (lw X.K):=by intro Tb s k H x y v u Q I d f h;obtain⟨a,b,xs,ys,rfl,rfl,ha,hb,hx,hz,g,i⟩:=h;cases d;cases f;obtain⟨j,r1,p1,_⟩:=I.tuple ha;obtain⟨c,r2,p2,_⟩:=I.tuple hb;refine HT.cat_tup p1 p2 (λz=>hx (r1.nil_iff.mp z)) (λz=>⟨.ref a,H,I,rfl,g (r2.nil_iff.mp z)⟩) (λz=> ?_) (by rw[<-r1.length,<-r2.length];exact hz);refine⟨.ref s.heap.objs.size,_,I.laid (t':=s.toks) (o:= .tup (xs++ys)) (λb l q=>AAe _ q) (AAf _) ?_,rfl,i (λw=>z (r2.nil_iff.mpr w)) _ (I.hok.fresh (AAf _))⟩;exact⟨by rw[ABR];exact hz,_,r1.append r2,IsTup.new _ _⟩
end
def Pt (n:Nat)(i:Int):ke Nat:=if 0<=i then (if i<n then some i.toNat else none) else if -(n:Int)<=i then some (i+n).toNat else none
def Im {a:Type}(xs:km a)(i:Int):ke a:=(Pt xs.length i).bind λj=>xs[j]?
def ZP {n:Nat}{i:Int}{j:Nat}(h:Pt n i=some j):seqIndex? i n=some j/\j<n/\ -(n:Int)<=i/\i<n:=by
 unfold Pt at h;by_cases a:0<=i
 .rw [AAb a] at h;by_cases h1:i<n
  .rw [AAb h1] at h;have e:i.toNat=j:=AAw h;exact⟨by rw[seqIndex_of a h1,e],by omega,by omega,h1⟩
  .rw [AAa h1] at h;cases h
 .rw [AAa a] at h;by_cases h1: -(n:Int)<=i
  .rw [AAb h1] at h;have e:(i+n).toNat=j:=AAw h;exact⟨by rw[seqIndex_neg (by omega) h1,e],by omega,h1,by omega⟩
  .rw [AAa h1] at h;cases h
def Yx {a:Type}{xs:km a}{i:Int}{v:a}(h:Im xs i=some v):∃j,seqIndex? i xs.length=some j/\xs[j]? =some v/\j<xs.length/\ -(xs.length:Int)<=i/\i<xs.length:=by
 unfold Im at h;cases e:Pt xs.length i with
 | none=>rw[e] at h;cases h
 | some j=> rw[e] at h;obtain⟨h1,h2,b,c⟩:=ZP e;exact⟨j,h1,h,h2,b,c⟩
def Cj {a:Type}{xs:km a}{j:Nat}{v:a}(h:xs[j]? =some v):Im xs (j:Int)=some v:=by
 have hj:j<xs.length:=(ABC.mp h).1;have e:Pt xs.length (j:Int)=some j:=by unfold Pt;rw[AAb (by omega),AAb (by omega)];simp
 unfold Im;rw[e];exact h
def TH (b:kd):Prop:=∀o i,subscripted b false o i=operate [o,i] (getItem o i)
def ia (X:Cx)(r:R2):Prop:=
 ∀(value slice:kd) (Tb:km (kf×Obj)) (s:ki) (a:St) (H:Hp) (x y:V) (v u:kj) (Q:VK),Inv X Tb a H s->RelV x v->RelV y u->r x y H Q->
  subscripted slice false v u=operate [v,u] (getItem v u)->wpAny (model X.prog X.w) X.A (subscriptTail value slice v u) (EP X Tb a Q) X.xe s
def qc (X:Cx)(id:String)(r:V->km V->Hp->VK->Prop):Prop:=
 ∀(Tb:km (kf×Obj)) (s:ki) (a:St) (H:Hp) (x:V) (xs:km V) (v:kj) (b:km kj) (Q:VK),Inv X Tb a H s->RelV x v->A7 xs b->r x xs H Q->
  wpAny (model X.prog X.w) X.A (call (.builtin id) (v::b)) (EP X Tb a Q) X.xe s
section
variable {X:Cx}{a b:kd}{ta tb:TE}{pos:Pos}
def ia.or {r c:R2}(h:ia X r)(h':ia X c):ia X (λx y H Q=>r x y H Q\/c x y H Q):=by
 intro value slice Tb s d H x y v u Q I e f q hs;rcases q with q|q
 .exact h value slice Tb s d H x y v u Q I e f q hs
 .exact h' value slice Tb s d H x y v u Q I e f q hs
def qc.or {id:String}{r c:V->km V->Hp->VK->Prop}(h:qc X id r)(h':qc X id c):qc X id (λx xs H Q=>r x xs H Q\/c x xs H Q):=by
 intro Tb s d H x xs v e Q I f rs q;rcases q with q|q
 .exact h Tb s d H x xs v e Q I f rs q
 .exact h' Tb s d H x xs v e Q I f rs q
def Nw {r:R2}(c:ia X r)(ha:PE X a ta)(hb:PE X b tb)(hs:TH b):PE X (.Subscript a b pos) (kb r ta tb):=by intro Tb s d H Q I h;exact Subscript_ (ma ha hb I h λv u e x y f g i j q=>c a b Tb e d f x y v u Q g i j q (hs _ _))
def tG (K:AAY):R2:=λx y H Q=>∃p xs i v,x= .ref p/\y= .int i/\Fy K H p xs/\Im xs i=some v/\Q v H
def tI (K:AAY):R2:=λx y H Q=>∃p xs i v,x= .ref p/\y= .int i/\LZ K H p xs/\Im xs i=some v/\Q v H
def F5:ia X (tG X.K):=by
 intro value slice Tb s g H x y v u Q I l m h hs;obtain⟨p,xs,i,z,rfl,rfl,hq,he,q⟩:=h;cases l;obtain⟨t,rfl⟩:=m;obtain⟨d,r,e,hz⟩:=I.list hq;obtain⟨j,h1,h2,B,n,o⟩:=Yx he;obtain⟨w,ew,f⟩:=r.get h2;have hl:=r.length;have hn:=M7;have c:EP X Tb g Q w s:=⟨z,H,I,f,q⟩;by_cases k:0<=i
 .have hj:i.toNat=j:=by rw[seqIndex_of k o] at h1;exact AAw h1
  exact item_listR e.isList k (by omega) (by rw[hj];simpa using ew) c hs
 .have hj:(i+(d.toArray.size:Int)).toNat=j:=by rw[seqIndex_neg (by omega) n] at h1;rw[AAp,<-hl];exact AAw h1
  exact subscriptTail_builtinR (x:=w) e.isList.typeIs slot_list_getitem.lookup
   (wpAny_getItem_list_neg (Q:=λr A=>r=w/\EP X Tb g Q r A) e.isList (by omega) (by rw[AAp] <;> omega) (by omega) (by rw[hj];simpa using ew) ⟨rfl,c⟩) hs
def nQ:ia X (tI X.K):=by
 intro value slice Tb s e H x y v u Q I g k h hs;obtain⟨p,xs,i,z,rfl,rfl,hq,he,q⟩:=h;cases g;obtain⟨t,rfl⟩:=k;obtain⟨l,r,f,hz⟩:=I.tuple hq;obtain⟨j,h1,h2,n,o,A⟩:=Yx he;obtain⟨w,ew,c⟩:=r.get h2;have hl:=r.length;have hn:=M7;have d:EP X Tb e Q w s:=⟨z,H,I,c,q⟩;exact subscriptTail_builtinR (x:=w) f.typeIs slot_tuple_getitem.lookup
  (getItem_tuple (j:=j) (Q:=λr m=>r=w/\EP X Tb e Q r m) f (by omega) (by omega) (by rw[AAp,<-hl];exact h1) (by simpa using ew) ⟨rfl,d⟩) hs
def Xw (c:km kj)(n j:Nat)(u:kj):Obj.mapSeq (·.setIfInBounds j u) {cls:= .type "list",data:= .seq c.toArray n}={cls:= .type "list",data:= .seq (c.set j u).toArray n}:=by simp[Obj.mapSeq]
def Inv.lst {Tb:km (kf×Obj)}{d:St}{H:Hp}{s:ki}{p:kf}{xs:km V}(I:Inv X Tb d H s)(h:H p=some (.lst xs)):∃(c:km kj) (n:Nat),A7 xs c/\s.heap.get? p=some {cls:= .type "list",data:= .seq c.toArray n}/\xs.length<=sizeLine:=by obtain⟨z,c,n,r,e⟩:=I.hok p _ h;exact⟨c,n,r,e,z⟩
def Inv.lstUpd {Tb:km (kf×Obj)}{g:St}{H:Hp}{s:ki}{p:kf}{xs ys:km V}{c its':km kj}{n d:Nat}{f:Obj->Obj}(I:Inv X Tb g H s)(h:H p=some (.lst xs))(j:s.heap.get? p=some {cls:= .type "list",data:= .seq c.toArray n})(i:f {cls:= .type "list",data:= .seq c.toArray n}={cls:= .type "list",data:= .seq its'.toArray d})(r:A7 ys its')(hz:ys.length<=sizeLine)(t:Nat):Inv X Tb g (upd H p (.lst ys)) {s with heap:=s.heap.update p f,toks:=t}:=by
 have e:(s.heap.update p f).get? p=some {cls:= .type "list",data:= .seq its'.toArray d}:=by rw[ABq f j (by rw[i] <;> rfl),i]
 refine I.write (x:=p) (e:=p) (by rw[h];trivial) (.inl rfl) (λb u hb q=>(ACs _ _ (ABW hb)).trans q) ⟨_,e⟩ ?_;exact⟨hz,its',d,r,e⟩
def tL:V->V->V->Hp->(Hp->Prop)->Prop:=λo i v H Q=>∃p xs k j,o= .ref p/\i= .int k/\H p=some (.lst xs)/\Pt xs.length k=some j/\Q (upd H p (.lst (xs.set j v)))
def Qe:qe X tL:=by
 intro Tb s m H o i v y z u Q I w x rv h;obtain⟨p,xs,k,j,rfl,rfl,hp,hj,q⟩:=h;cases w;obtain⟨t,rfl⟩:=x;obtain⟨c,n,r,d,hz⟩:=I.lst hp;obtain⟨h1,h2,e,f⟩:=ZP hj;have hl:=r.length;have hn:=M7;have g:Inv X Tb m (upd H p (.lst (xs.set j v))) {s with heap:=s.heap.update p (Obj.mapSeq (·.setIfInBounds j u))}:=
  I.lstUpd hp d (Xw c n j u) (r.set rv j) (by rw[List.length_set];exact hz) s.toks
 by_cases l:0<=k
 .have hk:k.toNat=j:=by rw[seqIndex_of l f] at h1;exact AAw h1
  exact PySem.W.ki_setAt d l (by omega) (by rw[AAp,<-hl];exact f) (by rw[hk];exact⟨_,g,q⟩)
 .have hk:(k+(c.toArray.size:Int)).toNat=j:=by rw[seqIndex_neg (by omega) e] at h1;rw[AAp,<-hl];exact AAw h1
  exact PySem.W.ki_setBack d (by omega) (by rw[AAp,<-hl];exact e) (by omega) (by rw[hk];exact⟨_,g,q⟩)
def Ug (lo hi:ke Int)(n:Nat):(sliceBounds lo hi none n).1=((HT.sIx n 0 lo:Nat):Int)/\(sliceBounds lo hi none n).2.1=((HT.sIx n n hi:Nat):Int)/\(sliceBounds lo hi none n).2.2=1:=by
 refine⟨?_, ?_,rfl⟩
 .cases lo with
  | none=>simp[sliceBounds,HT.sIx]
  | some i=>
    simp only[sliceBounds,HT.sIx,Option.getD_none,show (1:Int)>0 by decide,ABU];by_cases h:i<0
    .simp only[h,ABU] <;> omega
    .simp only[h,ABE] <;> omega
 .cases hi with
  | none=>simp[sliceBounds,HT.sIx]
  | some i=>
    simp only[sliceBounds,HT.sIx,Option.getD_none,show (1:Int)>0 by decide,ABU];by_cases h:i<0
    .simp only[h,ABU] <;> omega
    .simp only[h,ABE] <;> omega
def RR (c:km kj)(lo hi:ke Int):slicePick c.toArray lo hi none=((c.drop (HT.sIx c.length 0 lo)).take (HT.sIx c.length c.length hi-HT.sIx c.length 0 lo)).toArray:=by obtain⟨h1,h2,d⟩:=Ug lo hi c.toArray.size;unfold slicePick;rw[h1,h2,d];simp only[sliceRange_one,pick_run,AAp] <;> rfl
def wd (K:AAY):V->ke Int->ke Int->Hp->VK->Prop:=λx lo hi H Q=>∃a xs,x= .ref a/\Fy K H a xs/\∀p,H p=none->Q (.ref p) (upd H p (.lst (Q5 xs lo hi)))
def kU:lG X (wd X.K):=by intro Tb s j H x v k l lo hi m Q I d hs e f h;obtain⟨a,xs,rfl,hx,q⟩:=h;cases d;obtain⟨g,r,c,hz⟩:=I.list hx;have i:=r.length;refine⟨"list",_,slot_list_getitem.lookup,c.isList.typeIs, ?_⟩;refine wpAny_getItem_list_slice c.isList hs e f .none (by simp) ?_ (by rw[AAp] <;> omega);rw[RR,<-i];refine⟨.ref s.heap.objs.size,_,I.laid (t':=s.toks) (o:= .lst (Q5 xs lo hi)) (λb n q=>AAe _ q) (AAf _) ?_,rfl,q _ (I.hok.fresh (AAf _))⟩;exact⟨AA1 (Nk xs lo hi) hz,_,0,(r.drop (HT.sIx xs.length 0 lo)).take (HT.sIx xs.length xs.length hi-HT.sIx xs.length 0 lo),AAj _ rfl⟩
def Lg:Cf X (.builtin "len") (λxs H Q=>∃p ys,xs= [.ref p] /\(Fy X.K H p ys\/LZ X.K H p ys)/\Q (.int ys.length) H):=by
 intro Tb s i H xs j Q I r h;obtain⟨p,ys,rfl,hq,q⟩:=h;obtain⟨u,rfl,g⟩:=vals1 r;cases g;have hn:=M7;rcases hq with hq|hq
 .obtain ⟨c,d,e,hz⟩:=I.list hq;have f:=d.length;exact Calls.call_len_list e.isList (by simp only[AAp] <;> omega) ⟨.int ys.length,H,I.tok _,⟨s.toks+1,by rw[AAp,f]⟩,q⟩
 .obtain ⟨c,d,e,hz⟩:=I.tuple hq;have f:=d.length;exact len_tuple e (by simp only[AAp] <;> omega) ⟨.int ys.length,H,I.tok _,⟨s.toks+1,by rw[AAp,f]⟩,q⟩
def Cf.or {f:kj}{r c:km V->Hp->VK->Prop}(h:Cf X f r)(h':Cf X f c):Cf X f (λxs H Q=>r xs H Q\/c xs H Q):=by
 intro Tb s d H xs e Q I rs q;rcases q with q|q
 .exact h Tb s d H xs e Q I rs q
 .exact h' Tb s d H xs e Q I rs q
def TX:Cf X (.type "list") (λxs H Q=>∃p ys,xs= [.ref p] /\(Fy X.K H p ys\/LZ X.K H p ys)/\∀l,H l=none->Q (.ref l) (upd H l (.lst ys))):=by
 intro Tb s t H xs y Q I r h;obtain⟨p,ys,rfl,hq,q⟩:=h;obtain⟨u,rfl,v⟩:=vals1 r;cases v;have g:∀(c:km kj),A7 ys c->ys.length<=sizeLine->∀(h':da) (d:Nat),(∀b m,s.heap.get? b=some m->h'.get? b=some m)->
  h'.get? s.heap.objs.size=some {cls:= .type "list",dict:=none,data:= .seq c.toArray d,slots:= #[] }->EP X Tb t Q (.ref s.heap.objs.size) {s with heap:=h'}:=λc f hz h' d i e=>
  ⟨.ref s.heap.objs.size,_,I.laid (t':=s.toks) i (AAf _) (show DR X.prog X.w _ h' _ (.lst ys) from⟨hz,c,d,f,e⟩),rfl,q _ (I.hok.fresh (AAf _))⟩
 rcases hq with hq|hq
 .obtain ⟨c,f,j,hz⟩:=I.list hq;have x:=f.length;obtain⟨o,k,hc,n,hd⟩:=j.isList;exact call_list_seq p (.inl rfl) k hc hd (λh' d i e=>g c f hz h' d i e) (by simp only[AAp] <;> omega)
 .obtain ⟨c,f,j,hz⟩:=I.tuple hq;have x:=f.length;obtain⟨o,k,hc,n,hd⟩:=j;exact call_list_seq p (.inr rfl) k hc hd (λh' d i e=>g c f hz h' d i e) (by simp only[AAp] <;> omega)
def Q4:Cf X (.type "tuple") (λxs H Q=>∃p ys,xs= [.ref p] /\((Fy X.K H p ys/\∀l,H l=none->Q (.ref l) (upd H l (.tup ys)))\/(LZ X.K H p ys/\Q (.ref p) H))):=by
 intro Tb s g H xs n Q I r h;obtain⟨p,ys,rfl,h⟩:=h;obtain⟨u,rfl,j⟩:=vals1 r;cases j;rcases h with⟨hq,q⟩|⟨hq,q⟩
 .obtain ⟨c,d,f,hz⟩:=I.list hq;have t:=d.length;refine call_tuple_list f.isList (λh' k=> ?_) (by simp only[AAp] <;> omega);have i:Inv X Tb g H {s with heap:=h'}:=I.kept (t':=s.toks) k;have m:Inv X Tb g (upd H h'.objs.size (.tup ys)) {s with heap:=h'.push {cls:= .type "tuple",data:= .seq c.toArray}}:=
   i.laid (t':=s.toks) (λb o e=>AAe _ e) (AAf _) (show DR X.prog X.w _ _ _ (.tup ys) from⟨hz,c,d,IsTup.new _ _⟩)
  exact⟨.ref h'.objs.size,_,m,rfl,q _ (i.hok.fresh (AAf _))⟩
 .obtain ⟨c,d,f,hz⟩:=I.tuple hq;exact call_tuple_same f ⟨.ref p,H,I,rfl,q⟩
def zH (K:AAY)(T:String)(x:V)(H:Hp):Prop:=match x with
 | .str _=>T="str"
 | .int _=>T="int"
 | .ref p=>(T="list" /\∃xs,Fy K H p xs)\/(T="tuple" /\∃o,K.lookup p=some o/\o.cls= .type "tuple" /\o.dict=none)\/
     (T="dict" /\((∃c,H p=some (.dK c))\/∃c,H p=some (.dT c)))\/(T="set" /\∃S n,H p=some (.set S n))
 | _=>False
def pQ {Tb:km (kf×Obj)}{k:St}{H:Hp}{s:ki}{T:String}{x:V}{v:kj}(I:Inv X Tb k H s)(r:RelV x v)(d:zH X.K T x H):s.TypeIs v T/\∀a,v= .ref a->∃h,s.heap.get? a=some h/\h.dict=none:=by
 cases x with
 | str z=> obtain⟨t,rfl⟩:=r;cases (show T="str" from d);exact⟨typeIs_str s z t,λ_ e=>nomatch e⟩
 | int i=> obtain⟨t,rfl⟩:=r;cases (show T="int" from d);exact⟨typeIs_int s i t,λ_ e=>nomatch e⟩
 | ref p=>
   cases r;rcases d with⟨rfl,xs,hq⟩|⟨rfl,o,hk,hc,hd⟩|⟨rfl,hk⟩|⟨rfl,S,n,hk⟩
   .obtain ⟨l,_,j,_⟩:=I.list hq;refine⟨j.isList.typeIs,λa e=> ?_⟩;cases e;obtain⟨o,n,e,c,hd,_⟩:=j;exact⟨o,e,hd⟩
   .refine ⟨⟨o,I.kIn p o hk,hc⟩,λa e=> ?_⟩;cases e;exact⟨o,I.kIn _ o hk,hd⟩
   .have z:∃o,s.heap.get? p=some o/\o.ExactDict:=by
     rcases hk with⟨f,hk⟩|⟨f,hk⟩
     .obtain ⟨_,_,_,_,o,_,_,e,ex,_⟩:=I.hok p _ hk;exact⟨o,e,ex⟩
     .obtain ⟨_,_,_,_,o,_,_,e,ex,_⟩:=I.hok p _ hk;exact⟨o,e,ex⟩
    obtain⟨o,e,ex⟩:=z;refine⟨⟨o,e,ex.1⟩,λa g=> ?_⟩;cases g;exact⟨o,e,ex.2.1⟩
   .obtain ⟨o,_,_,_,e,ex,_⟩:=I.hok p _ hk;refine⟨⟨o,e,ex.1⟩,λa g=> ?_⟩;cases g;exact⟨o,e,ex.2.1⟩
 | _=>exact False.elim d
def zG (K:AAY)(T:String)(r:V->km V->Hp->VK->Prop)(e:TE)(t:TA):TE:=λc H Q=>e c H λx d=>zH K T x d/\t c d λxs f=>r x xs f Q
variable {o e:kd}{es:km kd}{to:TE}{t:TA}{name:Str}{apos cpos:Pos}{T id:String}{r:V->km V->Hp->VK->Prop}
def so (g:PlainAttrs T)(slot:Slot T name id)(i:typeOf (.builtin id)=pure (.type "method_descriptor"))(hm:qc X id r)(j:PE X o to)(ha:PA X (e::es) t)(k:attributeBase o name X.env (eval o X.env)=eval o X.env:=by rfl)(l:((backTo cpos (starEach (e::es) X.env)).all (λx=> !x.1)&&(backToKw cpos (keywordEach [] X.env)).all (λx=>x.1.isSome) && decide ((e::es).length+([] :km Keyword).length+(if ([] :km Keyword).isEmpty then 0 else 1)<30))=true:=by rfl)(m:(apos.endLine==cpos.line)=true:=by rfl)(hs:starEach (e::es) X.env=(false,eval e X.env)::starEach es X.env:=by rfl)(n:(backTo cpos (starEach es X.env)).any (·.1)=false:=by rfl):PE X (.Call (.Attribute o name apos) (e::es) [] cpos) (zG X.K T r to t):=by intro Tb s c H Q I h;refine wpAny_Call_method_late k l m rfl (Bi (j Tb s c H _ I h) λv p ⟨x,u,d,r1,w,y⟩=> ?_);obtain⟨h1,h2⟩:=pQ d r1 w;refine⟨T,id,g,slot,i,h1,h2, ?_⟩;have f:=ha cpos Tb p c u _ d y;rw[hs] at f ⊢;refine Calls.callWith_builtin (by show (false||(backTo cpos (starEach es X.env)).any (·.1))=false;rw[n] <;> rfl) (Calls.evalArgs_plain ?_);exact Bi f λz A ⟨vs,B,C,r2,D⟩=>hm Tb A c B x vs v z Q C r1 r2 D
end
def qb (X:Cx)(id:String)(r:V->km V->Hp->VK->Prop):Prop:=
 ∀(Tb:km (kf×Obj)) (s:ki) (a:St) (H:Hp) (x:V) (xs:km V) (v:kj) (b:km kj) (Q:VK),Inv X Tb a H s->RelV x v->A7 xs b->r x xs H Q->
  wpAny (model X.prog X.w) X.A (call (.builtin id) (v::b)) (EP X Tb a Q) X.xe s
def A7.one:∀{x:V} {a:km kj},A7 [x] a->∃u,a= [u] /\RelV x u
 | _,_, .cons r .nil=>⟨_,rfl,r⟩
def A7.two:∀{x y:V} {a:km kj},A7 [x,y] a->∃u v,a= [u,v] /\RelV x u/\RelV y v
 | _,_,_, .cons r (.cons q .nil)=>⟨_,_,rfl,r,q⟩
def A7.zero:∀{a:km kj},A7 [] a->a= []
 | _, .nil=>rfl
def A7.dropLast {xs:km V}{a:km kj}(h:A7 xs a):A7 xs.dropLast a.dropLast:=by
 induction h with
 | nil=>exact .nil
 | cons r t ih=>
   cases t with
   | nil=>exact .nil
   | cons q t'=>exact .cons r ih
def A7.reverse {xs:km V}{a:km kj}(h:A7 xs a):A7 xs.reverse a.reverse:=by
 induction h with
 | nil=>exact .nil
 | cons r t ih=>rw[AD8,AD8];exact A7.append ih (.cons r .nil)
section
variable {X:Cx}{Tb:km (kf×Obj)}{σ:St}{H:Hp}{s:ki}{l b:kf}{xs ys zs:km V}
def Inv.lset {a its':km kj}{n:Nat}{f:Array kj->Array kj}{t':Nat}(I:Inv X Tb σ H s)(c:H l=some (.lst xs))(e:s.heap.get? l=some {cls:= .type "list",data:= .seq a.toArray n})(d:f a.toArray=its'.toArray)(hv:A7 ys its')(hz:ys.length<=sizeLine):Inv X Tb σ (upd H l (.lst ys)) {s with heap:=s.heap.update l (Obj.mapSeq f),toks:=t'}:=by have q:=PySem.IsL.update e f;rw[d] at q;refine I.write (x:=l) (e:=l) (by rw[c];exact trivial) (.inl rfl) (λg u hb hu=>(ACs s.heap (Obj.mapSeq f) (ABW hb)).trans hu) ⟨_,q⟩ ?_;exact⟨hz,its',_,hv,q⟩
def Inv.lnew {a:km kj}{t':Nat}(I:Inv X Tb σ H s)(hv:A7 ys a)(hz:ys.length<=sizeLine):Inv X Tb σ (upd H s.heap.objs.size (.lst ys)) {s with heap:=s.heap.push {cls:= .type "list",data:= .seq a.toArray},toks:=t'}:=
 I.laid (λ_ _ q=>AAe _ q) (AAf _) ⟨hz,a,0,hv,AAj _ rfl⟩
def Inv.fresh (I:Inv X Tb σ H s):H s.heap.objs.size=none:=I.hok.fresh (AAf _)
def Inv.lstM (I:Inv X Tb σ H s)(c:H l=some (.lst xs)):xs.length<=sizeLine/\∃(a:km kj) (n:Nat),A7 xs a/\xs.length=a.length/\s.heap.get? l=some {cls:= .type "list",data:= .seq a.toArray n}:=by obtain⟨z,a,n,r,e⟩:=I.hok l _ c;exact⟨z,a,n,r,r.length,e⟩
end
section
variable {X:Cx}
def UM:V->km V->Hp->VK->Prop:=λx vs H Q=>∃l xs y,x= .ref l/\vs= [y] /\H l=some (.lst xs)/\xs.length<sizeLine/\Q .non (upd H l (.lst (xs ++ [y])))
def JU:qb X "list.append" UM:=by intro Tb s f H x vs v g Q I c rv h;obtain⟨l,xs,y,rfl,rfl,b,hz,q⟩:=h;cases c;obtain⟨u,rfl,d⟩:=rv.one;obtain⟨z,a,n,r,hl,e⟩:=I.lstM b;refine call_meets F.slot_list_append ⟨_,e,rfl⟩ F.entry_list_append (F.args_list_append_2 _ _) (PySem.list_append l a.toArray n u (by rw[AAp];omega)) ⟨e, ?_⟩;refine⟨.non,_,I.lset (its':=a ++ [u]) b e (by simp) (r.append (.cons d .nil)) ?_,rfl,q⟩;rw[ABR,AFE];omega
def tE:R2:=λx y H Q=>∃l b xs a,x= .ref l/\y= .ref b/\H l=some (.lst xs)/\H b=some (.lst a)/\xs.length+a.length<=sizeLine/\∀p,H p=none->Q (.ref p) (upd H p (.lst (xs++a)))
def fg:Ee X (binaryOp .Add) tE:=by
 intro Tb s m H x y v u Q I d f h;obtain⟨l,b,xs,o,rfl,rfl,g,i,hz,q⟩:=h;cases d;cases f;obtain⟨z,c,n,r,hl,e⟩:=I.lstM g;obtain⟨p,a,t,r2,w,j⟩:=I.lstM i;refine PySem.P.add_list e j ?_ (by rw[AAp,AAp];omega);have k:c.toArray++a.toArray=(c++a).toArray:=by simp
 rw[k];exact⟨.ref _,_,I.lnew (t':=s.toks) (r.append r2) (by rw[ABR];omega),rfl,q _ I.fresh⟩
end
section
variable {prog:gn}{w:fe}{A:Wf}{E:kj->ki->Prop}{s:ki}
set_option maxRecDepth 100000 in
end
end L2
namespace Att
open PySem PySem.W PySem.Calls PyProof.Rows
def OI {P:Params}{h:da}:∀(c:km Int) (vs:km kj),WellAll P h vs (c.map WData.int)->IntsAre vs c:=by
 intro c;induction c with
 | nil=> intro vs w;rw[ADW] at w;cases w;exact .nil
 | cons n c ih=>
   intro vs w;rw[AAi] at w;cases w with
   | cons a b=> cases a;exact .cons _ _ (ih _ b)
def cG {l:OpenLaw}{n:Nat}(hn:l.most=some n){P:Params}{h:da}{args:km WData}{vals:km kj}(g:l.row.toRowW.claim.pre args=true)(i:WellAll P h vals args):∃a vs b,vals= [Value.ref a] /\args= [WData.list (b.map WData.int)] /\h.get? a=some {cls:= .type "list",data:= .seq vs.toArray}/\IntsAre vs b/\b.length<=n:=by
 have f:WShape.hasAll [] args [.list .int] =true:=(pre_splitW g).1;have hc:l.pre.holds [] {args:=args}=true:=(pre_splitW g).2;obtain⟨d,r,rfl,h1,h2⟩:=hasAllW_cons f;obtain rfl:=hasAllW_nil h2;obtain⟨xs,rfl,j⟩:=hasW_list h1;obtain⟨b,rfl⟩:=items_int j;have k:b.length<=n:=by
  unfold OpenLaw.pre at hc;have c:(WTm.not (.lt (.lit (.int (n:Int))) (.len (.arg 0)))).holds [] {args:= [.list (b.map .int)] }=true:=by have c:=(holds_andW hc).1;rw[hn] at c;exact c
  have e:=condW_of c (w_not (w_lt w_lit (w_len_list (w_arg rfl))));rw[AAk] at e;refine Nat.le_of_not_lt λq=> ?_;have m:(n:Int)<((b.length:Nat):Int):=by omega
  first
   | (rw[AAt m] at e;exact absurd e (by decide))
   | (simp at e;omega)
 cases i with
 | cons o p=>
   cases p;cases o with
   | list s t=>exact⟨_,_,b,rfl,rfl,s,OI b _ t,k⟩
def bq (l:OpenLaw)(args:km WData):l.row.toRowW.claim.post args (.bool true) args=true:=
 postW_of (r:=l.row.toRowW) (X:=(true==true))
  (show WShape.has [] (.bool true) .bool=true by first | rfl|decide|simp[WShape.has,WShape.arms,WShape.armsAll])
  (show (WTm.eq .res (.lit (.bool true))).value [] {args:=args,res:=some (.bool true),after:=args}=some (.bool (true==true)) from w_eq_bool (w_res rfl) w_lit) rfl
def attach_call {l:OpenLaw}{n:Nat}{q:gn}{loose:km Str}{XP:(Str->ke kj)->da->Prop}{YP:fe->da->Prop}{d:DefRec}(hn:l.most=some n)(p:d.params.defaults= [])(call:∀(w:fe) (s₀ b:ki) (mg j:Str->ke kj) (e:kf) (o:Obj) (k g c:kj) (a:kf) (vs:km kj) (h:km Int),Ground q loose [] XP w s₀ mg j b.heap->YP w b.heap-> b.heap.get? e=some o->o.data= .func (docDef d.name d.params d.body d.scope k g c)->b.heap.CodeRec g d.name->mg d.name=some (.ref e)-> b.heap.get? a=some {cls:= .type "list",data:= .seq vs.toArray}->IntsAre vs h->h.length<=n->b.gens= #[] -> codeAny (model l.prog w) callerA (.call (.ref e) ⟨[.ref a], []⟩) (λr i=>r= .ok (.ret (.bool true))/\OldK b.heap i.heap/\i.os=b.os/\AllBare i.gens) b):WalkO q loose XP YP l.row.toRowW d [] (λf vs=>PySem.call f vs):=by intro w s₀ b mg j G Y e o k g c s kV t hd u m v x args vals as y z A B C;obtain rfl:s= .none:=Dflts.none m p;obtain rfl:kV= .none:=Dflts.noKw m;obtain⟨a,vs,h,rfl,rfl,D,E,F⟩:=cG hn y B;refine enter_call (ADT (call w s₀ b mg j e o k g c a vs h G Y t (fd_plain hd) u v D E F x) λr i hq=> ?_);obtain⟨rfl,h2,H,I⟩:=hq;exact⟨.inl ⟨.bool true, .bool true, [],rfl,λ_=>rfl, .bool true,bq l _,λ_=>⟨List.Pairwise.nil,λ_ hm=>(nomatch hm)⟩⟩,h2,H,I⟩
section
variable {prog:gn}{w:fe}{A:Wf}{E:kj->ki->Prop}{s:ki}{K:Frag}
def wV (h:da)(L d:kf):km (kf×Obj):=(List.range h.objs.size).filterMap λa=>if a=L\/a=d then none else (h.get? a).map λo=>(a,o)
end
end Att
namespace L2
open PySem PySem.Spec PyProof.Rows
theorem SQ:∀{vs:km kj} {a:km Int},IntsAre vs a->A7 (a.map V.int) vs
 | _,_, .nil=> .nil
 | _,_, .cons n t h=> .cons ⟨t,rfl⟩ (SQ h)
def mR (H:Hp):Prop:=∀b,H b=none\/∃o xs,H b=some (.frz o (.lst xs))
def fA {P:gn}{w:fe}{K:AAY}{mg t:Str->ke kj}{CX:aB}{k:Nat}{y a:kf}{D:FuncData}{x:Str}{sp:Sp}{c:ki}{vs:km kj}{j:km Int}(E:K.In c.heap)(G:c.heap.Ns mainGlobals mg)(hb:c.heap.Ns builtinsNs t)(A:∀x:Str,x≠"__name__" ->t x=bootBuiltins x)(N:c.heap.NoLimit)(O:c.gens= #[])(ha:c.heap.get? a=some {cls:= .type "list",data:= .seq vs.toArray})(hi:IntsAre vs j)(hl:j.length<=sizeLine)(Q:Room k callerA)(F:∀base:da,K.In base->base.Ns mainGlobals mg->Fi P w K mg base CX k y D [x] sp)(R:∀(s:ki) (u:kj),BindsTo s D ⟨[u], []⟩ [(x,u)])(S:∀H:Hp,mR H->Fy K H a (j.map V.int)->sp [.ref a] H (λv _=>v= .bl true) λ_ _ _=>False)(T:∀H e g,CX [] H c (λ_ _ _=>False) e g->False):codeAny (model P w) callerA (.call (.ref y) ⟨[.ref a], []⟩) (λr g=>r= .ok (.ret (.bool true))/\OldK c.heap g.heap/\g.os=c.os/\AllBare g.gens) c:=by
 have rv:=SQ hi;have l:=hi.length;have core:∀H:Hp,mR H->Fy K H a (j.map V.int)->OE P w H c.heap->(∀b,H b≠none->b=a)->(H a≠none->K.lookup a=none)->
  codeAny (model P w) callerA (.call (.ref y) ⟨[.ref a], []⟩) (λr g=>r= .ok (.ret (.bool true))/\OldK c.heap g.heap/\g.os=c.os/\AllBare g.gens) c:=by
  intro H I U hok J W;have f:∀{b:kf} {o:Obj},c.heap.get? b=some o->H b=none->(Th c.heap H).get? b=some o:=λe n=>d9 e n;have B:∀{b:kf} {o:Obj} {es:Array DictEntry} {ep:Nat},c.heap.get? b=some o->o.data= .dict es ep->H b=none:=λ{b o es ep} e d=>by
   cases q:H b with
   | none=>rfl
   | some u=> have C:b=a:=J b (by rw[q];simp);subst C;rw[ha] at e;cases e;have d':Data.seq vs.toArray _=Data.dict es ep:=d;cases d'
  have i:∀{b:kf} {m:Str->ke kj},c.heap.Ns b m->(Th c.heap H).Ns b m:=λ{b m} ⟨o,es,ep,e,d,r⟩=>⟨o,es,ep,f e (B e d),d,r⟩;have L:K.In (Th c.heap H):=λb o e=>f (E b o e) (by
   cases q:H b with
   | none=>rfl
   | some u=>
     have C:b=a:=J b (by rw[q];simp);subst C;rw[W (by rw[q];simp)] at e;cases e)
  have hM:Mod K mg (Th c.heap H):=⟨L,i G,⟨t,i hb,A⟩,let ⟨X,h1,h2⟩:=N;⟨X,i h1,h2⟩⟩;have Y:Qw P w K mg (Th c.heap H) callerA [] c H:=⟨rfl,hM,λb o e=>jb e,Nat.le_of_eq (aw _ _),trivial,λb hb=>absurd (show b∈([] :km kf) from hb) (by simp),hok, .of_eq O⟩;refine ADT ((F _ L (i G)).run callerA [] c H ⟨[.ref a], []⟩ [.ref a] [.ref a] _ _ Q Y (R c (.ref a)) (.cons rfl .nil) (S H I U)) λr g h=> ?_;cases r with
  | error e=>exact(T H e g h).elim
  | ok Z=>
    cases Z with
    | next=>exact False.elim h
    | brk=>exact False.elim h
    | cont=>exact False.elim h
    | ret u=>
      obtain⟨v,H',os,bare,un,wH,r',q⟩:=h;have q':v= .bl true:=q;subst q';obtain rfl:u=Value.bool true:=r';refine⟨rfl,OldK.of_keep λb o e=> ?_,os,bare⟩;cases q:H b with
      | none=>exact un.keep b o e q (by intro z;exact absurd (show b∈([] :km kf) from z) (by simp)) (by simp)
      | some u=>
        rcases I b with z|⟨ob,xs,z⟩
        .rw [q] at z;cases z
        .have z2:=un.frzs b ob _ z;obtain⟨M,_⟩:=hok b _ z;obtain⟨e2,_⟩:=wH b _ z2;rw[e] at M;cases M;exact e2
 cases hk:K.lookup a with
 | some o=> have e:=E a o hk;rw[ha] at e;cases e;refine core (λ_=>none) (λ_=> .inl rfl) (.inr ⟨_,vs.toArray,_,hk,rfl,rfl,rfl,by rw[AAp,l];exact hl,by simpa using rv⟩) (λb u z=>by have p:(none:ke HO)=some u:=z;cases p) (λb z=>absurd rfl z) λz=>absurd rfl z
 | none=>
   refine core (λb=>if b=a then some (.frz {cls:= .type "list",data:= .seq vs.toArray} (.lst (j.map V.int))) else none) (λb=> ?_) (.inl (.inr ⟨{cls:= .type "list",data:= .seq vs.toArray},AAb rfl⟩)) (λb u z=> ?_) (λb z=> ?_) λ_=>hk
   .by_cases hb:b=a
    .exact .inr ⟨_,_,AAb hb⟩
    .exact .inl (AAa hb)
   .by_cases hb:b=a
    .have p:=(AAb hb).symm.trans z;cases p;subst hb;exact⟨ha,by rw[AAk];exact hl,vs,_,rv,ha⟩
    .have p:=(AAa hb).symm.trans z;cases p
   .by_cases hb:b=a
    .exact hb
    .exact absurd (AAa hb) z
abbrev KOf {K:AAY}{h:da}(_:K.In h):AAY:=K
def walk_of {l:PySem.W.OpenLaw}{n k:Nat}{q:gn}{loose:km Str}{XP:(Str->ke kj)->da->Prop}{YP:fe->da->Prop}{d:DefRec}{K:Params->AAY}{CX:fe->aB}{sp:fe->Sp}{x:Str}(hn:l.most=some n)(m:n<=sizeLine)(z:d.params.defaults= [])(A:Room k callerA)(B:∀(w:fe) (h:da),YP w h->(K w.params).In h)(F:∀(w:fe) (mg:Str->ke kj) (i:kf) (h:da),(K w.params).In h->h.Ns mainGlobals mg->mg d.name=some (.ref i)-> ∃p:FuncData,(∀(s:ki) (u:kj),BindsTo s p ⟨[u], []⟩ [(x,u)])/\ ∀base:da,(K w.params).In base->base.Ns mainGlobals mg->Fi l.prog w (K w.params) mg base (CX w) k i p [x] (sp w))(C:∀(w:fe) (H:Hp) (a:kf) (j:km Int),j.length<=n->mR H->Fy (K w.params) H a (j.map V.int)->sp w [.ref a] H (λv _=>v= .bl true) λ_ _ _=>False)(D:∀(w:fe) (H:Hp) (s:ki) (e:kj) (r:ki),CX w [] H s (λ_ _ _=>False) e r->False):PySem.W.WalkO q loose XP YP l.row.toRowW d [] (λf vs=>PySem.call f vs):=by refine Att.attach_call hn z λw s₀ c mg Q i o R S E a vs j G Y U hd X I J L t M=> ?_;have y:=B w _ Y;obtain⟨p,hb,N⟩:=F w mg i _ y G.T.g I;exact fA y G.T.g G.T.b G.T.builtins G.T.nolimit M J L (AA1 t m) A N hb (λH O P=>C w H a j t O P) λH e r=>D w H c e r
abbrev VJ:aB:=λ_ _ _ _ _ _=>False
abbrev E0:XK:=λ_ _ _=>False
def sf {X:Cx}:Passes VJ X E0:=λ_ _ _ _ _ _ _ h=>h.elim
structure XB (K:AAY) (x qual:Str) (st:Stmt) (f:Addr) (fd:FuncData):Prop where
 ex:∃(oc:Value) (od:Option Addr) (kV doc pm:Value) (an:Option Addr) (cdv ct:Value) (osl:Array (Option Value)),
  fd=PySem.W.fnOf x qual (HJ st) (Ep st) (Be st) .none kV doc pm an cdv ct/\K.lookup f=some ⟨oc,od, .func fd,osl⟩/\PySem.W.codeIn K cdv qual=true
 kp:PySem.W.keepIn K (.ref f)=true
section
variable {P:gn}{w:fe}{K:AAY}{mg:Str->ke kj}{base:da}
def XB.ok {x qual:Str}{st:Stmt}{f:kf}{c:FuncData}{N b:km Str}{k:Nat}{sp:Sp}(F:XB K x qual st f c)(S:FS N b (Be st))(len:∀vs H Q E,sp vs H Q E->vs.length=b.length)(d:∀(a:kj) (A:Wf) (outer:km Env) (s:ki) (H:Hp) (vs:km V) (Q:VK) (E:XK),Room k (A.deeper (envOfC qual (Be st) s.heap.objs.size f a))->sp vs H Q E-> ∃t,Yu (Vf VJ P w K mg base N qual (Be st) f a A outer s H E).nox (Ep st) t/\t {nx:=λ_ e=>Q .non e,rt:=Q} (start N vs) H):Fi P w K mg base VJ (k+1) f c b sp:=by obtain⟨o,p,kV,g,r,u,a,ct,i,rfl,j,l⟩:=F.ex;refine q0 j l S len λA outer s H vs Q E m n=> ?_;obtain⟨t,h,q⟩:=d a A outer s H vs Q E m n;exact⟨t,h.nox,q⟩
def XB.binds {x qual:Str}{st:Stmt}{f:kf}{i:FuncData}{c:km Str}(F:XB K x qual st f i)(h:∀(kV a d:kj) (e:ke kf) (b ct:kj) (g:km kj),g.length=c.length->bindArgs (PySem.W.fnOf x qual (HJ st) (Ep st) (Be st) .none kV a d e b ct) ⟨g, []⟩=pure (c.zip g)):Binds K i c [] :=by obtain⟨k,l,kV,a,d,e,b,ct,j,rfl,m,n⟩:=F.ex;exact .all (h kV a d e b ct)
def di {x qual:Str}{st:Stmt}{f:kf}{h:kj}{i e:ke kf}{d:Array (ke kj)}{kV b g a ct:kj}(l:K.lookup f=some ⟨h,i, .func (PySem.W.fnOf x qual (HJ st) (Ep st) (Be st) .none kV b g e a ct),d⟩)(c:PySem.W.codeIn K a qual=true)(k:PySem.W.keepIn K (.ref f)=true):XB K x qual st f (PySem.W.fnOf x qual (HJ st) (Ep st) (Be st) .none kV b g e a ct):=⟨⟨h,i,kV,b,g,e,a,ct,d,rfl,l,c⟩,k⟩
end
section
variable {X:Cx}
def pv (i:Nat){x:Str}{pos:Pos}(hN:X.N[i]? =some x:=by rfl)(hv:lH X.env.scope x:=by first | exact Or.inl rfl|exact Or.inr (Or.inl rfl)|exact Or.inr (Or.inr rfl))(hd:(x==("__debug__" :Str))=false:=by decide)(a:(x==("__classdict__" :Str))=false:=by decide):PE X (.Name x pos) (G3 i):=QH hN hv hd a
end
def sC {c A B:Prop}[Decidable c](h1:c->A)(h2:¬c->B):if c then A else B:=by
 by_cases h:c
 .rw [AAb h];exact h1 h
 .rw [AAa h];exact h2 h
def LW (H a:Hp):Prop:=∀b o,H b=some o->a b=some o
def LW.refl (H:Hp):LW H H:=λ_ _ h=>h
def LW.trans {H d e:Hp}(a:LW H d)(b:LW d e):LW H e:=λc o h=>b c o (a c o h)
def LW.free {H a:Hp}(e:LW H a){l:kf}(h:a l=Option.none):H l=Option.none:=by
 cases q:H l with
 | none=>rfl
 | some o=> rw[e l o q] at h;cases h
def LW.seq {K:AAY}{H b:Hp}{a:kf}{xs:km V}(e:LW H b)(h:Fy K H a xs):Fy K b a xs:=by
 rcases h with(h|⟨o,h⟩)|h
 .exact .inl (.inl (e _ _ h))
 .exact .inl (.inr ⟨o,e _ _ h⟩)
 .exact .inr h
theorem Iv {c d:Type}[BEq c][LawfulBEq c]{k:c}{a:d}:∀{l:km (c×d)},l.lookup k=some a->(k,a)∈l
 | [],h=>by simp at h
 | (n,b)::r,h=>by
   rw[AC9] at h;cases e:k==n with
   | true=>
     rw[e] at h;have f:k=n:=by simpa using e
     have hb:b=a:=by simpa using h
     subst f hb;exact ACn
   | false=> rw[e] at h;exact ABn _ (Iv h)
theorem R0 {c d:Type}[BEq c][LawfulBEq c]{k:c}{a:d}:∀{l:km (c×d)},(k,a)∈l->∃b,l.lookup k=some b
 | [],h=>nomatch h
 | (n,b)::r,h=>by
   rw[AC9];cases e:k==n with
   | true=>exact⟨b,rfl⟩
   | false=>
     rcases AAc.mp h with z|z
     .have:k=n:=congrArg Prod.fst z;rw[this] at e;simp at e
     .exact R0 z
theorem Iq {env:Env}{F:Str×NameKind->km (Str×kf)->Sem (ForInStep (km (Str×kf)))}(h1:∀n r c,env.cells.lookup n=some c->F (n, .free) r=pure (.yield ((n,c)::r)))(h2:∀n k r,k≠NameKind.free->F (n,k) r=pure (.yield r)):∀(names:km (Str×NameKind)) (f:km (Str×kf)),(∀x∈names,x.2= .free->∃c,env.cells.lookup x.1=some c)-> ∃cl,(forIn names f F:Sem _)=pure cl/\(∀p∈cl,p∈f\/env.cells.lookup p.1=some p.2)/\(∀p∈f,p∈cl)/\∀x∈names,x.2= .free->∃c,(x.1,c)∈cl
 | [],f,_=>⟨f,rfl,λp hp=> .inl hp,λp hp=>hp,λx hx=>nomatch hx⟩
 | (n,k)::r,f,h=>by
   by_cases hk:k= .free
   .subst hk;obtain⟨c,hc⟩:=h (n, .free) ACn rfl;obtain⟨cl,e,a,b,d⟩:=Iq h1 h2 r ((n,c)::f) (λx hx=>h x (ABn _ hx));refine⟨cl, ?_,λp hp=> ?_,λp hp=>b p (ABn _ hp),λx hx g=> ?_⟩
    .rw [ADA,h1 n f c hc];exact e
    .rcases a p hp with z|z
     .rcases AAc.mp z with z|z
      .subst z;exact .inr hc
      .exact .inl z
     .exact .inr z
    .rcases AAc.mp hx with z|z
     .subst z;exact⟨c,b _ ACn⟩
     .exact d x z g
   .obtain ⟨cl,e,a,b,d⟩:=Iq h1 h2 r f (λx hx=>h x (ABn _ hx));refine⟨cl, ?_,a,b,λx hx g=> ?_⟩
    .rw [ADA,h2 n k f hk];exact e
    .rcases AAc.mp hx with z|z
     .subst z;exact absurd g hk
     .exact d x z g
def HI {env:Env}{scope:Scope}(h:∀x∈scope.names,x.2= .free->∃c,env.cells.lookup x.1=some c):∃cl,closureFor scope env=pure cl/\(∀y c,cl.lookup y=some c->env.cells.lookup y=some c)/\∀y,(y,NameKind.free)∈scope.names->∃c,cl.lookup y=some c:=by
 obtain⟨cl,e,a,_,d⟩:=Iq (env:=env) (F:=λx cs=>match x with | (name,kind)=>if (kind==NameKind.free)=true then do let a <-cellOf env name;pure (ForInStep.yield ((name,a)::cs)) else pure (ForInStep.yield cs))
  (λn r c hc=>by
    show (do let a <-cellOf env n;pure (ForInStep.yield ((n,a)::r)):Sem _)=_;unfold cellOf;rw[hc];rfl)
  (λn k r hk=>by
    have:(k==NameKind.free)=false:=by simpa using hk
    simp[this]) scope.names [] h
 refine⟨cl, ?_,λy c q=> ?_,λy hy=> ?_⟩
 .unfold closureFor;have b:(forIn scope.names ([] :km (Str×kf)) λx cs=>match x with | (name,kind)=>if (kind==NameKind.free)=true then do let a <-cellOf env name;pure (ForInStep.yield ((name,a)::cs)) else pure (ForInStep.yield cs):Sem _) >>= (λr=>pure r)=pure cl:=by rw[e];rfl
  exact b
 .rcases a _ (Iv q) with z|z
  .exact nomatch z
  .exact z
 .obtain ⟨c,hc⟩:=d (y, .free) hy rfl;exact R0 hc
def GD (env:Env)(sc:Scope)(cl:km (Str×kf))(C:kf):Env:=
 {scope:=sc,locals:=C,globals:=env.globals,cells:=cl,qual:=env.qual,func:=none,code:=env.code,frame:=env.frame,builtins:=env.builtins}
def blk (X:Cx)(sc:Scope)(N:km Str)(cl:km (Str×kf))(C:kf)(s:ki)(H:Hp)(ex:km kf)(pn:km (kf×Obj)):Cx where
 prog:=X.prog
 w:=X.w
 K:=X.K
 mg:=X.mg
 base:=X.base
 A:=X.A
 N:=N
 s₀:=s
 H₀:=H
 env:=GD X.env sc cl C
 outer:=X.stack
 stack:=X.stack
 ex:=ex
 fn:=λ_=>false
 calm:=X.calm
 pn:=pn
 xe:=λ_ _=>False
section
variable {X:Cx}{Tb:km (kf×Obj)}{σ:St}{H:Hp}{s:ki}{fp:km kf}{sc:Scope}{N:km Str}{cl:km (Str×kf)}
def Inv.notStk (I:Inv X Tb σ H s){b:kf}(h1:b≠X.env.locals)(h2:b ∉ X.fs):b ∉ cX X.stack:=λz=>by
 rcases AAc.mp (I.stkSub b z) with e|e
 .exact h1 e
 .exact h2 e
def Inv.szLt (I:Inv X Tb σ H s){x:Str}{c:kf}(e:X.env.cells.lookup x=some c):c<s.heap.objs.size:=by obtain⟨v,q⟩:=I.cell x c e;exact q.lt
def md (I:Inv X Tb σ H s)(d:∀b∈fp,Ec X Tb H b)(f:∀b∈fp,b<s.heap.objs.size)(hk:sc.kind= .function)(h1:∀y c,cl.lookup y=some c->X.env.cells.lookup y=some c)(h2:∀y,(sc.names.lookup y=some .cell\/sc.names.lookup y=some .free)->∃c,cl.lookup y=some c):(blk X sc N cl s.heap.objs.size s H fp (X.pn++Tb)).Ok where
 mod:=I.ok.mod
 kind:=hk
 glob:=I.ok.glob
 blt:=I.ok.blt
 above:=AAf _
 inj:=λx y c a b=>I.ok.inj x y c (h1 x c a) (h1 y c b)
 has:=λx hx=>h2 x hx
 cab:=λx c z=>nomatch z
 hd:=I.ok.hd
 frames:=I.ok.frames
 stk:= .inl rfl
 exf:=λb hb=>⟨AAh (f b hb),λx c e=>(d b hb).2.2.2.2.1 x c (h1 x c e)⟩
 bs:=I.bs
 bsz:=AA1 I.ok.bsz I.sz
 noex:=λb o e hb=>by
  rcases (d b hb).2.2.2.1 with z|z
  .exact I.ok.noex b o e z
  .exact absurd (AA0 (AAd (I.ok.bs b o e).1) z) (ABz _)
 exfs:=λb hb=>I.notStk (d b hb).2.1 (d b hb).2.2.1
 funs:=I.stack
 frf:=I.stkFree
def CJ (own:Nat)(ix:km Nat)(σ:St):St:=List.replicate own none++ix.map λi=>(σ[i]?).getD none
def Mt {own:Nat}{ix:km Nat}{σ:St}:(CJ own ix σ).length=own+ix.length:=by simp[CJ]
def Fn {own:Nat}{ix:km Nat}{σ:St}{j:Nat}{v:V}(h:(CJ own ix σ)[j]? =some (some v)):own<=j/\∃i,ix[j-own]? =some i/\σ[i]? =some (some v):=by
 unfold CJ at h;by_cases hj:j<own
 .rw [ABQ (by simpa using hj),ACd] at h;simp[hj] at h
 .have ax:own<=j:=by omega
  rw[ABh (by simpa using ax),ACV,ABI] at h;refine⟨ax, ?_⟩;cases e:ix[j-own]? with
  | none=>rw[e] at h;simp at h
  | some i=>
    rw[e] at h;refine⟨i,rfl, ?_⟩;have h':(σ[i]?).getD none=some v:=by simpa using h
    cases a:σ[i]? with
    | none=>rw[a] at h';simp at h'
    | some o=>
      rw[a] at h';have:o=some v:=by simpa using h'
      rw[this]
structure Rb (X:Cx) (sc:Scope) (own:Nat) (ix:List Nat) (N:List Str):Prop where
 len:N.length=own+ix.length
 out:∀j i,ix[j]? =some i->∃x,N[own+j]? =some x/\X.N[i]? =some x/\X.env.scope.names.lookup x=some .cell/\sc.names.lookup x=some .cell
def dL {own:Nat}{ix:km Nat}{h':da}{m:Str->ke kj}{t':Nat}(I:Inv X Tb σ H s)(B:∀b∈fp,Ec X Tb H b)(C:∀b∈fp,b<s.heap.objs.size)(hk:sc.kind= .function)(h1:∀y c,cl.lookup y=some c->X.env.cells.lookup y=some c)(h2:∀y,(sc.names.lookup y=some .cell\/sc.names.lookup y=some .free)->∃c,cl.lookup y=some c)(F:Rb X sc own ix N)(hn:h'.Ns s.heap.objs.size m)(k:∀b o,s.heap.get? b=some o->h'.get? b=some o):Inv (blk X sc N cl s.heap.objs.size s H fp (X.pn++Tb)) [] (CJ own ix σ) H {s with heap:=h',toks:=t'} where
 ok:=md I B C hk h1 h2
 os:=rfl
 bare:=I.bare
 base:=Un.kept k
 loc:=by
  refine⟨m,hn,λi x v D E R=> ?_⟩;obtain⟨ax,G,J,es⟩:=Fn E;obtain⟨y,n,K,t,w⟩:=F.out _ _ J;have g:x=y:=by have h:N[i]? =some x:=D;rw[show own+(i-own)=i by omega,h] at n;exact AAw n
  subst g;obtain⟨m0,L,M⟩:=I.loc;obtain⟨u,r,l⟩:=M G x v K es (.inr (.inl t));refine⟨u,r, ?_⟩;rcases l with⟨z,_⟩|⟨_,c,O,z⟩
  .have A:X.env.scope.names.lookup x=some .local:=z;rw[t] at A;cases A
  .obtain ⟨P,f⟩:=h2 x (.inl w);have:=h1 x P f;rw[O] at this;cases this;obtain⟨o,j,hd⟩:=z;exact .inr ⟨.inl w,c,f,o,k c o j,hd⟩
 cell:=λx c e=>by obtain⟨v,o,j,hd⟩:=I.cell x c (h1 x c e);exact⟨v,o,k c o j,hd⟩
 free:=I.hok.fresh (AAf _)
 freeC:=λx c e=>I.freeC x c (h1 x c e)
 pin:=λp hp=>by
  have Q:p∈X.pn++Tb:=by simpa[blk] using hp
  obtain⟨a,b,c,d,e⟩:=I.pin p Q;exact⟨k _ _ a,b,AAh (AAd a),I.notStk c d,e⟩
 hok:=I.hok.kept k
 len:=by rw[Mt];exact F.len.symm
def Yz {own:Nat}{ix:km Nat}{d:St}{e:Hp}{f:ki}{a:km (kf×Obj)}(I:Inv X Tb σ H s)(c:∀b∈fp,Ec X Tb H b)(g:∀b∈fp,b<s.heap.objs.size)(B:Inv (blk X sc N cl s.heap.objs.size s H fp (X.pn++Tb)) a d e f):Inv X Tb σ e f:=
 I.call' (ch:=fp) B.os B.base B.hok B.bare λb hb=>⟨(c b hb).2.2.2.1,(c b hb).2.1,(c b hb).2.2.2.2.1,(c b hb).2.2.2.2.2⟩
def PY {f:Hp}{a:St}{d:ki}{C:kf}{h':da}(I:Inv X Tb σ H s)(g:C=s.heap.objs.size)(h:Inv X Tb a f d)(hn:f C=none)(hs:Heap.SameBut C d.heap h'):Inv X Tb a f {d with heap:=h'}:=by subst g;refine h.turned (t':=d.toks) (it:=s.heap.objs.size) (λb o hb e=>(hs.2 b hb).trans e) hn (ABK I.lt) (.inr I.sz) (λx c e=>AAh (I.szLt e)) λp hp=>AAh (AAd (I.pin p hp).1)
end
def Yt (X:Cx)(a:km kd)(t:TT):Prop:=
 ∀(Tb:km (kf×Obj)) (s:ki) (b:St) (H:Hp) (Q:kc->Hp->Prop),Inv X Tb b H s->t b H Q->
  wpAny (model X.prog X.w) X.A (forIn a true λc r=>if r=true then do let ok <-isTrue c X.env (eval c X.env);pure (ForInStep.yield ok) else pure (ForInStep.yield r)) (TP X Tb b Q) X.xe s
def ww:TT:=λ_ H Q=>Q true H
def jx {X:Cx}:Yt X [] ww:=λ_ _ _ H _ I h=>wpAny_tests_nil ⟨H,I,h⟩
def jy {X:Cx}{c:kd}{t:TT}(hc:PT X c t):Yt X [c] t:=λTb s a H Q I h=>wpAny_tests_one (hc Tb s a H Q I h)
def Ij (own:Nat)(g:TG):Prop:=∀v b H Q,g v b H Q->g v b H λa c=>Q a c/\a.length=b.length/\∀j,own<=j->a[j]? =b[j]?
def PM (own:Nat)(g:XD):Prop:=∀vs b H Q,g vs b H Q->g vs b H λa c=>Q a c/\a.length=b.length/\∀j,own<=j->a[j]? =b[j]?
def jB {own i:Nat}(h:i<own):Ij own (Di i):=λv a H Q q=>⟨q,by simp,λj hj=>ABL (by omega)⟩
def jC {own:Nat}:PM own Vj:=λvs a H Q q=>⟨q.1,q.2,rfl,λ_ _=>rfl⟩
def dk {own:Nat}{t:TG}{u:XD}(h1:Ij own t)(m1:∀v b H Q d,(∀a c,Q a c->d a c)->t v b H Q->t v b H d)(h2:PM own u)(m2:∀v b H Q d,(∀a c,Q a c->d a c)->u v b H Q->u v b H d):PM own (F4 t u):=by intro vs b H Q q;obtain⟨v,r,e,q⟩:=q;refine⟨v,r,e,m1 _ _ _ _ _ (λa c z=> ?_) (h1 _ _ _ _ q)⟩;obtain⟨z,l,g⟩:=z;refine m2 _ _ _ _ _ (λh m f=> ?_) (h2 _ _ _ _ z);obtain⟨f,i,k⟩:=f;exact⟨f,i.trans l,λj hj=>(k j hj).trans (g j hj)⟩
def jD {i:Nat}:∀v b H Q c,(∀a d,Q a d->c a d)->Di i v b H Q->Di i v b H c:=λ_ _ _ _ _ m q=>m _ _ q
def jE:∀v b H Q c,(∀a d,Q a d->c a d)->Vj v b H Q->Vj v b H c:=λ_ _ _ _ _ m q=>⟨q.1,m _ _ q.2⟩
def dm {t:TG}{u:XD}(m1:∀v b H Q c,(∀a d,Q a d->c a d)->t v b H Q->t v b H c)(m2:∀v b H Q c,(∀a d,Q a d->c a d)->u v b H Q->u v b H c):∀v b H Q c,(∀a d,Q a d->c a d)->F4 t u v b H Q->F4 t u v b H c:=λ_ _ _ _ _ m ⟨v,r,e,q⟩=>⟨v,r,e,m1 _ _ _ _ _ (λ_ _ z=>m2 _ _ _ _ _ m z) q⟩
def KF (J:It)(D:kf)(c:St)(g:TG)(h:TT)(te:TE)(Q:Hp->Prop)(W:Nat->Nat->Hp->Prop):Prop:=
 ∀i m H,W i m H->(J.stop i H/\Q H)\/(J.go i H/\∀x d,J.yld i H x d->g x c d λa j=>h a j λok e=>
  if ok=true then te a e λy f=>∃ys,f D=some (.lst ys)/\ys.length<sizeLine/\∃b,b<m/\W (i+1) b (upd f D (.lst (ys ++ [y]))) else ∃b,b<m/\W (i+1) b e)
def Zz (c:TI)(own:Nat)(ix:km Nat)(g:TG)(d:TT)(te:TE):TE:=λa H Q=>c a H λJ b=>∀D,b D=none->
 ∃W:Nat->Nat->Hp->Prop,(∃m,W 0 m (upd b D (.lst [])))/\KF J D (CJ own ix a) g d te (Q (.ref D)) W
section
variable {X:Cx}{tg elt iter:kd}{ifs:km kd}{scope:Scope}{pos:Pos}{wi:TI}{own:Nat}{ix:km Nat}{N:km Str}{g:TG}{tt:TT}{te:TE}
structure Mm (X:Cx) (tg elt:Expr) (ifs:List Expr) (scope:Scope) (own:Nat) (ix:List Nat) (N:List Str) (g:TG) (tt:TT) (te:TE):Prop where
 kind:scope.kind= .function
 nocell:∀y∈scope.names,y.2≠ .cell
 names:∀y∈scope.names,y.2= .local->scope.names.lookup y.1=some .local
 frees:∀y∈scope.names,y.2= .free->X.env.scope.names.lookup y.1=some .cell
 ins:Rb X (relabel scope X.env) own ix N
 keep:Ij own g
 tgt:∀cl C s H ex pn,PG (blk X (relabel scope X.env) N cl C s H ex pn) tg g
 tst:∀cl C s H ex pn,Yt (blk X (relabel scope X.env) N cl C s H ex pn) ifs tt
 val:∀cl C s H ex pn,PE (blk X (relabel scope X.env) N cl C s H ex pn) elt te
def F8 {env:Env}{y:Str}{k:NameKind}(b:∀y∈scope.names,y.2≠ .cell)(h:(y,k)∈(relabel scope env).names)(hk:k= .cell\/k= .free):(y,NameKind.free)∈scope.names:=by
 obtain⟨⟨n,a⟩,hm,e⟩:=AAl.mp (show (y,k)∈scope.names.map _ from h);dsimp only at e;split at e
 .rename_i hc;cases e;have:a= .free:=by cases a <;> simp_all
  subst this;exact hm
 .cases e;rcases hk with z|z
  .subst z;exact absurd rfl (b _ hm)
  .subst z;exact hm
def aU {Tb:km (kf×Obj)}{M:St}{H:Hp}{s:ki}{k:km kf}{cl:km (Str×kf)}{it:kf}{tn:Nat->da->Prop}{J:It}{D:kf}{R:Result->ki->Prop}{Qh:Hp->Prop}{W:Nat->Nat->Hp->Prop}(hc:X.calm=true)(O:Mm X tg elt ifs scope own ix N g tt te)(T:La X.prog X.w X.K tg J k it tn)(I:Inv X Tb M H s)(hf:∀b∈k,Ec X Tb H b)(Er:∀b∈k,b<s.heap.objs.size)(hW:KF J D (CJ own ix M) g tt te Qh W)(hR:∀σ' a P,Inv (blk X (relabel scope X.env) N cl s.heap.objs.size s H k (X.pn++Tb)) [] σ' a P->Qh a->R (.ok .next) P)(n:Nat)(s0:ki)(h0:∃i a,Inv (blk X (relabel scope X.env) N cl s.heap.objs.size s H k (X.pn++Tb)) [] (CJ own ix M) a s0/\tn i s0.heap/\(∀b∈k,a b=none)/\W i n a):codeAny (model X.prog X.w) X.A (.compLoop (.ListComp elt [⟨tg,iter,ifs,0⟩] scope pos) 0 (.ref it) (.ref D) (GD X.env (relabel scope X.env) cl s.heap.objs.size)) R s0:=by
 refine AD9 rfl (λn P=>∃i a,Inv (blk X (relabel scope X.env) N cl s.heap.objs.size s H k (X.pn++Tb)) [] (CJ own ix M) a P/\tn i P.heap/\(∀b∈k,a b=none)/\W i n a) (λn s1 h1=> ?_) n h0;obtain⟨i,H1,B1,S,U,w1⟩:=h1;generalize f:blk X (relabel scope X.env) N cl s.heap.objs.size s H k (X.pn++Tb)=Y at *;have eA:Y.A=X.A:=by rw[<-f];rfl
 have Z:Y.prog=X.prog:=by rw[<-f];rfl
 have eW:Y.w=X.w:=by rw[<-f];rfl
 have eK:Y.K=X.K:=by rw[<-f];rfl
 have eE:GD X.env (relabel scope X.env) cl s.heap.objs.size=Y.env:=by rw[<-f];rfl
 have eX:Y.xe=λ_ _=>False:=by rw[<-f];rfl
 have eC:Y.calm=true:=by rw[<-f];exact hc
 have hg:PG Y tg g:=by rw[<-f];exact O.tgt _ _ _ _ _ _
 have ht:Yt Y ifs tt:=by rw[<-f];exact O.tst _ _ _ _ _ _
 have hv:PE Y elt te:=by rw[<-f];exact O.val _ _ _ _ _ _
 have l:∀{a:Hp},(∀b∈k,a b=none)->∀b∈k,Ec Y [] a b:=λ{a} hn b hb=>by
  obtain⟨_,a1,a2,a3,a4,a5⟩:=hf b hb;refine⟨hn b hb, ?_, ?_, ?_, ?_, ?_⟩
  .rw [<-f];exact AAh (Er b hb)
  .rw [<-f];exact I.notStk a1 a2
  .rw [<-f];exact .inl hb
  .intro x c e;exact(B1.ok.exf b (by rw[<-f];exact hb)).2 x c e
  .intro p hp;have:p∈X.pn++Tb:=by rw[<-f] at hp;simpa[blk] using hp
   exact a5 p this
 rw[eE,<-eA,<-Z,<-eW];show wpAny _ _ ((compTurn (.ListComp elt [⟨tg,iter,ifs,0⟩] scope pos) 0 (.ref it) (.ref D) Y.env).onRaise (λx=>do noteFrame x Y.env;theTreesLotGoes x)) _ _ s1;refine AEA ?_;rw[compTurn_list];have ff:∀{α:Type} {t:Sem α} {Q:α->ki->Prop} {E:kj->ki->Prop} {s:ki},wpAny (model Y.prog Y.w) Y.A t Q Y.xe s->wpAny (model Y.prog Y.w) Y.A t Q E s:=λh=>ABa h (λ_ _ q=>q) λ_ _ z=>by rw[eX] at z;exact z.elim
 refine AAX (ABp (AAX ?_));rcases hW i n H1 w1 with⟨stop,qn⟩|⟨go,step⟩
 .have zd:=λE=>T.done Y Z eW eK eC i [] s1 _ H1 E B1 (l U) S stop;rw[<-Z,<-eW] at zd;refine Bi (zd _) λr s4 ⟨hr,I4⟩=> ?_;subst hr;exact AAZ (hR _ _ _ I4 qn)
 .have zi:=λE=>T.item Y Z eW eK eC i [] s1 _ H1 E B1 (l U) S go;rw[<-Z,<-eW] at zi;refine Bi (zi _) λr s4 ⟨u,hr,h4⟩=> ?_;subst hr;refine AAX (Bi h4 λ_ s5 ⟨x,H5,I5,r5,y5,C,fr5⟩=> ?_);have I5':=I5.pinned (l fr5) (T.obj _ _ C);refine AAX (Bi (ff (hg _ s5 _ H5 x u _ I5' r5 (O.keep _ _ _ _ (step x H5 y5)))) λ_ s6 ⟨B,H6,I6,q6,l6,k6⟩=> ?_);refine AAX (Bi (ff (ht _ s6 B H6 _ I6 q6)) λok s7 ⟨H7,I7,q7⟩=> ?_);have back:∀{F:Hp} {G:ki} {L:Nat},Inv Y ([] ++ GG k s5.heap) B F G->L<n->W (i+1) L F->
   ∃m,m<n/\∃i a,Inv Y [] (CJ own ix M) a G/\tn i G.heap/\(∀b∈k,a b=none)/\W i m a:=λ{F G L} I8 hm w8=>by
   refine⟨L,hm,i+1,F,I8.unpinned.weak l6.symm (λj v hj=> ?_),T.keep _ _ _ C λb hb o e=>(I8.pin (b,o) (AAy _ (AAy _ (CN hb e)))).1,λb hb=> ?_,w8⟩
   .rw [k6 j (Fn hj).1];exact hj
   .obtain ⟨o,e,d⟩:=T.obj _ _ C b hb;exact(I8.pin (b,o) (AAy _ (AAy _ (CN hb e)))).2.1
  cases ok with
  | false=> obtain⟨L,hm,w8⟩:=q7;exact AAZ ⟨rfl,back I7 hm w8⟩
  | true=> refine AAX (AAX (Bi (ff (hv _ s7 B H7 _ I7 q7)) λyv G ⟨y,F,I8,r8,ys,hD,hz,L,hm,w8⟩=> ?_));refine AAX (Bi (ff (JU _ G B F (.ref D) [y] (.ref D) [yv] (λ_ H9=>H9=upd F D (.lst (ys ++ [y]))) I8 rfl (.cons r8 .nil) ⟨D,ys,y,rfl,rfl,hD,hz,rfl⟩)) λ_ s9 ⟨_,H9,I9,_,e9⟩=> ?_);subst e9;exact AAZ (AAZ ⟨rfl,back I9 hm w8⟩)
def Vc {Tb:km (kf×Obj)}{u:St}{H:Hp}{s:ki}{use:ke (kj->Sem Unit)}{Q:kj->ki->Prop}{it:kf}{j:km kf}{cl:km (Str×kf)}{tn:Nat->da->Prop}{J:It}{Qd:kf->Hp->Prop}(hc:X.calm=true)(O:Mm X tg elt ifs scope own ix N g tt te)(T:La X.prog X.w X.K tg J j it tn)(I:Inv X Tb u H s)(M:∀b∈j,Ec X Tb H b)(st:tn 0 s.heap)(h1:∀y c,cl.lookup y=some c->X.env.cells.lookup y=some c)(h2:∀y,(y,NameKind.free)∈scope.names->∃c,cl.lookup y=some c)(hq:∀D,H D=none->∃W:Nat->Nat->Hp->Prop,(∃m,W 0 m (upd H D (.lst [])))/\KF J D (CJ own ix u) g tt te (Qd D) W)(P:∀D C i k,(∃m,k.heap.Ns C m)->Inv X Tb u i k->(∀f v,Inv X Tb f i v->∀h',Heap.SameBut C v.heap h'->Inv X Tb f i {v with heap:=h'})->C≠X.env.locals->(∀x c,X.env.cells.lookup x=some c->C≠c)->Qd D i-> compPost (model X.prog X.w) X.A X.xe use Q (.ref D) C (.ok .next) k):wpAny (model X.prog X.w) X.A (newList []) (λl n=>wpAny (model X.prog X.w) X.A (newFunctionEnv scope X.env.globals cl [] X.env.qual none .none (some X.env)) (λd p=> codeAny (model X.prog X.w) X.A (.compStart (.ListComp elt [⟨tg,iter,ifs,0⟩] scope pos) 0 (.ref it) l {d with scope:=relabel scope X.env}) (compPost (model X.prog X.w) X.A X.xe use Q l d.locals) p) X.xe n) X.xe s:=by
 refine ABM ?_ (by simp[sizeOk]);have h:Inv X Tb u (upd H s.heap.objs.size (.lst [])) {s with heap:=s.heap.push {cls:= .type "list",data:= .seq ([] :km kj).toArray}}:=I.lnew (t':=s.toks) .nil (ABH _);have R:=I.fresh;obtain⟨W,⟨m0,S⟩,hW⟩:=hq _ R;have U:∀b∈j,b<s.heap.objs.size:=λb hb=>by obtain⟨o,e,_⟩:=T.obj _ _ st b hb;exact AAd e
 have E:∀b∈j,Ec X Tb (upd H s.heap.objs.size (.lst [])) b:=λb hb=>by obtain⟨Y,Z⟩:=M b hb;exact⟨by rw[Ao (AAh (U b hb))];exact Y,Z⟩
 generalize rZ:({s with heap:=s.heap.push {cls:= .type "list",data:= .seq ([] :km kj).toArray}}:ki)=s3 at h;have r:tn 0 s3.heap:=T.keep _ _ _ st λb hb o e=>by rw[<-rZ];exact AAe _ e
 have F:∀b∈j,b<s3.heap.objs.size:=λb hb=>by obtain⟨o,e,_⟩:=T.obj _ _ r b hb;exact AAd e
 refine wpAny_newFunctionEnv O.nocell (by intro y hy;simp at hy) (λa lV wK=> ?_) O.kind;have L:∀b o,s3.heap.get? b=some o->a.get? b=some o:=λb o e=>wK.extBut b o (AAh (AAd e)) (AAe _ e);have rO:∀y,((relabel scope X.env).names.lookup y=some .cell\/(relabel scope X.env).names.lookup y=some .free)->∃c,cl.lookup y=some c:=λy hy=>by
  rcases hy with z|z
  .exact h2 y (F8 O.nocell (Iv z) (.inl rfl))
  .exact h2 y (F8 O.nocell (Iv z) (.inr rfl))
 have B:=dL (N:=N) (t':=s3.toks+([] :km (Str×kj)).length) h E F (sc:=relabel scope X.env) O.kind h1 rO O.ins lV L;have t:tn 0 a:=T.keep _ _ _ r λb hb o e=>L b o e;have loop:∀G:ki,G={s3 with heap:=a,toks:=s3.toks+([] :km (Str×kj)).length}->
  codeAny (model X.prog X.w) X.A (.compLoop (.ListComp elt [⟨tg,iter,ifs,0⟩] scope pos) 0 (.ref it) (.ref s.heap.objs.size) (GD X.env (relabel scope X.env) cl s3.heap.objs.size)) (compPost (model X.prog X.w) X.A X.xe use Q (.ref s.heap.objs.size) s3.heap.objs.size) G:=by rintro G rfl;refine aU (cl:=cl) (Qh:=Qd s.heap.objs.size) hc O T h E F hW (λσ' i k B' q'=> ?_) m0 _ ⟨0,_,B,t,λb hb=>(E b hb).1,S⟩;refine P _ _ i k (let ⟨m,hm,_⟩:=B'.loc;⟨m,hm⟩) (Yz (own:=own) (ix:=ix) h E F B') (λf v I2 h' hs=>PY h rfl I2 B'.free hs) (ABK h.lt) (λx c e=>ABK (h.szLt e)) q'
 exact AEm (loop _ rfl) (T.self _ 0 _ _ _ t (loop _ rfl))
def jp (hc:X.calm=true)(hi:PI X tg iter wi)(O:Mm X tg elt ifs scope own ix N g tt te)(hs:∀x,foldedSetIterable iter X.env x=pure x:=by intro _;rfl):PE X (.ListComp elt [⟨tg,iter,ifs,0⟩] scope pos) (Zz wi own ix g tt te):=by intro Tb s c H Q I h;obtain⟨cl,d,h1,h2⟩:=HI (env:=X.env) (scope:=scope) λy hy e=>I.ok.has y.1 (.inl (O.frees y hy e));rw[eval_ListComp];refine AEB (use:=none) rfl hs d O.kind O.names (Bi (hi Tb s c H _ I h) λv o hv=>Bi hv λf p i=> ?_);obtain⟨it,r,tn,J,t,rfl,j,T,a,f2,q⟩:=i;exact Vc (Qd:=λD b=>Q (.ref D) b) hc O T j f2 a h1 h2 q λD C b k hn l gone u w n=>by obtain⟨m,hm⟩:=hn;exact⟨m,hm,λh' hs=>⟨.ref D,b,gone c k l h' hs,rfl,n⟩⟩
def j5 {i:Nat}{x:Str}{pos' b:Pos}(hc:X.calm=true)(hN:X.N.Nodup)(n:X.N[i]? =some x)(hx:Loc X.env.scope x)(hi:PI X tg iter wi)(O:Mm X tg elt ifs scope own ix N g tt te)(o:swapsWith (.ListComp elt [⟨tg,iter,ifs,0⟩] scope pos) (some (.Name x pos')) b.line X.env=pure true:=by rfl)(hs:∀x,foldedSetIterable iter X.env x=pure x:=by intro _;rfl)(p:X.fn x=true\/X.env.scope.names.lookup x=some .local:=by first | exact .inl rfl|exact .inr rfl|assumption):PS X (.Assign [.Name x pos'] (.ListComp elt [⟨tg,iter,ifs,0⟩] scope pos) b) (Wm (Zz wi own ix g tt te) (Di i)):=by
 intro Tb s l H D I h;obtain⟨cl,r,h1,h2⟩:=HI (env:=X.env) (scope:=scope) λy hy e=>I.ok.has y.1 (.inl (O.frees y hy e));rw[exec_Assign_Name_used _ _ _ _ o];refine AAX (ABp (AAX ?_));show wpAny _ _ (do let _ <-comprehension (.ListComp elt [⟨tg,iter,ifs,0⟩] scope pos) scope X.env _ (newList []) false (eval iter X.env) (some (assign (.Name x pos') X.env))) _ _ s;refine AAX (Bi (AEB (use:=some (assign (.Name x pos') X.env)) (Q:=λ_ c=>SP X Tb D .next c) rfl hs r O.kind O.names (Bi (hi Tb s l H _ I h) λv M hv=>Bi hv λt P u=> ?_)) λ_ c hq=>AAZ (AAZ hq));obtain⟨it,R,tn,J,S,rfl,w,T,f,f2,q⟩:=u;refine Vc (Qd:=λd j=>Di i (.ref d) l j D.nx) hc O T w f2 f h1 h2 q λd C j c hn A gone B E F=> ?_;obtain⟨m,hm⟩:=hn;show wpAny _ _ (assign (.Name x pos') X.env (.ref d)) _ _ c;refine wpAny_assign_Name (SN (v:= .ref d) A hN n hx rfl (λG K ⟨a,L,ha⟩=> ?_) p);have k:C≠a:=by
  rcases ha with z|z
  .rw [z];exact B
  .exact E x a z
 exact⟨m,hm.sameBut L k,λh' hs=>⟨_,j,gone _ G K h' hs,F⟩⟩
end
def Lz {n k:Nat}(h:n<2^k)(hk:0<k):n.log2<k:=by
 by_cases e:n=0
 .subst e;simpa using hk
 .exact (Nat.log2_lt e).mpr h
def JS {i:Int}{k:Nat}(h:i.natAbs<2^k):Builtin.Int.intBits i<=k:=by
 unfold Builtin.Int.intBits;by_cases e:i=0
 .subst e;simp
 .have a:(i==0)=false:=by simpa using e
  rw[a];simp only[ABO,ABE];have b:i.natAbs≠0:=by omega
  have:=(Nat.log2_lt b).mpr h;omega
section
variable {X:Cx}
def vF (i j:Int):Prop:=i.natAbs<2^8000/\j.natAbs<2^8000
def qU (i j:Int):Prop:=LN i j\/vF i j
def JV:Ee X (binaryOp .Mult) (rI qU λi j=> .int (i*j)):=oA λ_ _ _ _ _ _ _ hc q=>mul_int q (by
 rcases hc with z|z
 .exact z.ok
 .exact .of_le (JS z.1) (JS z.2) (by decide))
def qT (_ j:Int):Prop:=0<j/\j.natAbs<2^8000
def fi:Ee X (binaryOp .FloorDiv) (rI qT λi j=> .int (i/j)):=oA λi j _ _ _ _ _ hc q=>by have h1:(0:Int)<j:=hc.1;refine floordiv_int (by omega) ?_ (.inl (AFF (ACt (Lz hc.2 (by decide)) (by decide))));rw[ACu _ (Int.le_of_lt h1)];exact q
inductive Kd where
 | int|bl|non|str|lst|tup
 deriving DecidableEq
def qa (K:AAY)(x:V)(H:Hp):Kd->Prop
 | .int=>∃i,x= .int i
 | .bl=>∃b,x= .bl b
 | .non=>x= .non
 | .str=>∃z,x= .str z
 | .lst=>∃a ys,x= .ref a/\Fy K H a ys
 | .tup=>∃a ys,x= .ref a/\LZ K H a ys
def Jm:Kd->String->kc
 | .int,T=>T == "int"
 | .bl,T=>T == "bool" || T == "int"
 | .non,_=>false
 | .str,_=>false
 | .lst,T=>T == "list"
 | .tup,T=>T == "tuple"
def Ir (T:String):Prop:=T="int" \/T="bool" \/T="tuple" \/T="list"
def oV (K:AAY):km V->Hp->VK->Prop:=λxs H Q=>∃x T k,xs= [x, .ty T] /\Ir T/\qa K x H k/\Q (.bl (Jm k T)) H
def dO:Cf X (.builtin "isinstance") (oV X.K):=by
 intro Tb s n H xs p Q I r h;obtain⟨x,T,k,rfl,f,hk,q⟩:=h;cases r with
 | cons g m=>
 cases m with
 | cons rt m=>
 cases m;cases rt;have c:Q (.bl true) H->EP X Tb n Q (.bool true) s:=λz=>⟨.bl true,H,I,rfl,z⟩;have b:Q (.bl false) H->EP X Tb n Q (.bool false) {s with toks:=s.toks+1}:=λz=>⟨.bl false,H,I.tok _,rfl,z⟩;cases k with
 | int=>
   obtain⟨i,rfl⟩:=hk;obtain⟨t,rfl⟩:=g;rcases f with rfl|rfl|rfl|rfl
   .exact IsiPair.int_int (c q)
   .exact IsiPair.int_bool (b q)
   .exact IsiPair.int_tuple (b q)
   .exact IsiPair.int_list (b q)
 | bl=>
   obtain⟨i,rfl⟩:=hk;cases g;rcases f with rfl|rfl|rfl|rfl
   .exact IsiPair.bool_int (c q)
   .exact IsiPair.bool_bool (c q)
   .exact IsiPair.bool_tuple (b q)
   .exact IsiPair.bool_list (b q)
 | non=>
   have e:x= .non:=hk;subst e;cases g;rcases f with rfl|rfl|rfl|rfl
   .exact IsiPair.NoneType_int (b q)
   .exact IsiPair.NoneType_bool (b q)
   .exact IsiPair.NoneType_tuple (b q)
   .exact IsiPair.NoneType_list (b q)
 | str=>
   obtain⟨i,rfl⟩:=hk;obtain⟨t,rfl⟩:=g;rcases f with rfl|rfl|rfl|rfl
   .exact IsiPair.str_int (b q)
   .exact IsiPair.str_bool (b q)
   .exact IsiPair.str_tuple (b q)
   .exact IsiPair.str_list (b q)
 | lst=>
   obtain⟨a,ys,rfl,hq⟩:=hk;cases g;obtain⟨l,o,j,hz⟩:=I.list hq;rcases f with rfl|rfl|rfl|rfl
   .exact IsiPair.isList_int j.isList (λ_ _ e=>e) (b q)
   .exact IsiPair.isList_bool j.isList (λ_ _ e=>e) (b q)
   .exact IsiPair.isList_tuple j.isList (λ_ _ e=>e) (b q)
   .exact IsiPair.isList_list j.isList (λ_ _ e=>e) (c q)
 | tup=>
   obtain⟨a,ys,rfl,hq⟩:=hk;cases g;obtain⟨l,o,j,hz⟩:=I.tuple hq;have d:s.heap.IsTuple a l.toArray:=j;rcases f with rfl|rfl|rfl|rfl
   .exact IsiPair.isTuple_int d (λ_ _ e=>e) (b q)
   .exact IsiPair.isTuple_bool d (λ_ _ e=>e) (b q)
   .exact IsiPair.isTuple_tuple d (λ_ _ e=>e) (c q)
   .exact IsiPair.isTuple_list d (λ_ _ e=>e) (b q)
def b6 (bs:km kc):(List.range bs.length).all (λi=>bs.getD i true)=bs.all id:=by
 rw[ACa,ABi,ABi];constructor
 .intro h b hb;obtain⟨i,hi,e⟩:=List.mem_iff_getElem.mp hb;have:=h i (AD1.mpr hi);rw[AEn,ABD hi] at this;subst e;simpa using this
 .intro h i hi;have a:=AD1.mp hi;rw[AEn,ABD a];simpa using h _ (AEC a)
def Inv.walked {Tb:km (kf×Obj)}{h:St}{H:Hp}{s c:ki}{o:Obj}(I:Inv X Tb h H s)(m:Moved [s.heap.objs.size] (λa b=>b=a) {s with heap:=s.heap.push o} c):Inv X Tb h H c:=by
 obtain⟨h',g',d',t',i⟩:=c;obtain⟨hk,d,hd,f,_⟩:=m;have g:∀b u,s.heap.get? b=some u->h'.get? b=some u:=λb u e=>hk b u (by
  intro z;have j:b=s.heap.objs.size:=by simpa using z
  exact absurd (AAd e) (by rw[j];exact ABz _)) (AAe _ e)
 have d:g'=s.gens:=d;have hd:d'=s.drawn:=hd;have f:i=s.os:=f;subst d hd f;exact I.kept (t':=t') g
def iC {bs:km kc}{a:km kj}{A:Wf}(r:A7 (bs.map V.bl) a):TruthOf X.prog X.w A (λi v=>a.toArray[i]? =some v) (λi=>bs.getD i true):=by
 intro i v s Q E hv hQ;have c:a[i]? =some v:=by simpa using hv
 cases e:(bs.map V.bl)[i]? with
 | none=>rw[r.none_of e] at c;cases c
 | some x=>
   obtain⟨u,hu,f⟩:=r.get e;rw[c] at hu;cases hu;rw[ABI] at e;cases d:bs[i]? with
   | none=>rw[d] at e;cases e
   | some b=>
     rw[d] at e;cases e;cases f
     replace hQ:Q (bs.getD i true) s:=hQ
     rw[AEn,d] at hQ;unfold truthy;exact AAZ hQ
def j8 (K:AAY)(f:km kc->kc):km V->Hp->VK->Prop:=λxs H Q=>∃p bs,xs= [.ref p] /\Fy K H p (bs.map V.bl)/\Q (.bl (f bs)) H
def aO (hc:X.calm=true):Cf X (.builtin "all") (j8 X.K λbs=>bs.all id):=by
 intro Tb s k H xs l Q I r h;obtain⟨p,bs,rfl,hq,q⟩:=h;obtain⟨u,rfl,e⟩:=vals1 r;cases e;obtain⟨a,b,c,hz⟩:=I.list hq;obtain⟨ol,d,f⟩:=id c.isList;have g:p≠s.heap.objs.size:=AAh (AAd d);have j:a.toArray.size=bs.length:=by have:=b.length;simp at this;simp[this]
 refine call_all_walkS (AED c.isList ?_);refine⟨_,_,_,_,_,_,_,λi=>bs.getD i true,rfl,(Walks.list (A:=X.A.in1) (show X.A.in1.handled=none from I.ok.hd hc) s.heap.objs.size p g a.toArray).toS,⟨⟨_,AAj _ rfl,rfl,rfl⟩,⟨ol,AAe _ d,f⟩⟩,iC b,λn m=> ?_⟩;rw[j,b6];exact⟨.bl (bs.all id),H,I.walked m,rfl,q⟩
def jQ (xs:km V)(k:Nat)(y:V):km V:=xs.take k++y::xs.drop k
def A7.ins {xs:km V}{a:km kj}{y:V}{u:kj}(r:A7 xs a)(b:RelV y u)(k:Nat):A7 (jQ xs k y) (a.take k++u::a.drop k):=A7.append (r.take k) (.cons b (r.drop k))
def UN:V->km V->Hp->VK->Prop:=λx vs H Q=>∃l xs i y,x= .ref l/\vs= [.int i,y] /\H l=some (.lst xs)/\0<=i/\i<=(xs.length:Int)/\xs.length<sizeLine/\Q .non (upd H l (.lst (jQ xs i.toNat y)))
def bO:qb X "list.insert" UN:=by
 intro Tb s o H x vs v p Q I f rv h;obtain⟨l,xs,i,y,rfl,rfl,c,u,h1,hz,q⟩:=h;cases f;cases rv with
 | cons g b=>
 cases b with
 | cons j b=>
 cases b;rename_i d;obtain⟨t,rfl⟩:=g;obtain⟨z,a,n,r,hl,e⟩:=I.lstM c;have w:=M7;have m:¬(!Builtin.List.listFitsIndex i)=true:=by have:=fitsIndex_both (k:=i) (by omega) (by omega);simp[this]
 refine call_meets F.slot_list_insert ⟨_,e,rfl⟩ F.entry_list_insert (F.args_list_insert_3 _ _ _) (AutoSeq1.list_insert_list_int_val_1 l a.toArray n i t d m (by rw[AAp];omega)) ⟨e, ?_⟩;refine⟨.non,_,I.lset (ys:=jQ xs i.toNat y) (its':=a.take i.toNat++d::a.drop i.toNat) c e ?_ (r.ins j _) ?_,rfl,q⟩
 .dsimp only;rw[AAa (by omega),AAp,AEE (by omega)];apply Array.toList_inj.mp;simp;exact ADX (by simp)
 .unfold jQ;simp;omega
end
def Qx:kc->da->kf->kf->Nat->Prop
 | true,h,q,l,k=>h.IsListIter q l k
 | false,h,q,l,k=>h.IsTupleIter q l k
def OX:kc->da->kf->Array kj->Prop
 | true,h,l,xs=>h.IsList l xs
 | false,h,l,xs=>h.IsTuple l xs
def Qx.mv {b:kc}{h h':da}{q l:kf}{k:Nat}(x:Qx b h q l k)(e:∀o,h.get? q=some o->h'.get? q=some o):Qx b h' q l k:=by
 cases b with
 | true=>obtain⟨o,a,r⟩:=x;exact⟨o,e o a,r⟩
 | false=>obtain⟨o,a,r⟩:=x;exact⟨o,e o a,r⟩
def Qx.obj {b:kc}{h:da}{q l:kf}{k:Nat}(x:Qx b h q l k):∃o,h.get? q=some o/\∀v,o.data≠ .cell v:=by
 cases b with
 | true=> obtain⟨o,a,_,d⟩:=x;exact⟨o,a,λv z=>by rw[d] at z;cases z⟩
 | false=> obtain⟨o,a,_,d⟩:=x;exact⟨o,a,λv z=>by rw[d] at z;cases z⟩
def OX.mv {b:kc}{h h':da}{l:kf}{xs:Array kj}(x:OX b h l xs)(e:∀o,h.get? l=some o->h'.get? l=some o):OX b h' l xs:=by
 cases b with
 | true=>obtain⟨o,a,r⟩:=x;exact⟨o,e o a,r⟩
 | false=>obtain⟨o,a,r⟩:=x;exact⟨o,e o a,r⟩
section
variable {prog:gn}{w:fe}{A:Wf}{E:kj->ki->Prop}{s:ki}
def Lj {b:kc}{q l:kf}{k:Nat}{xs:Array kj}{x:kj}{Q:kj->ki->Prop}(hq:Qx b s.heap q l k)(hl:OX b s.heap l xs)(hx:xs[k]? =some x)(hQ:∀h',Qx b h' q l (k+1)->Heap.SameBut q s.heap h'->Q x {s with heap:=h'}):wpAny (model prog w) A (Builtin.SmallTypes.nextOf (.ref q)) Q E s:=by
 cases b with
 | true=>exact wpAny_nextOf_list_item hq hl hx hQ
 | false=> have d:s.heap.IsTupleIter q l k:=hq;obtain⟨f,c,e,a⟩:=id d;obtain⟨ol,gl,_,g,dl⟩:=hl;unfold Builtin.SmallTypes.nextOf;refine AAX (ABe (name:=Str.ofString "__next__") d.typeIs AEF (ABJ AEF d.typeIs AFG ?_ (AFH _)));show wpAny _ _ (field (.ref q) 0 >>= _) _ _ _;refine AAX (AAo c a (x:= .ref l) rfl ?_);show wpAny _ _ (if (Value.ref l==Value.none)=true then _ else _) _ _ _;rw[AAa (by intro z;cases z)];show wpAny _ _ (field (.ref q) 1 >>= _) _ _ _;refine AAX (AAo c a (x:= .int k 0) rfl ?_);show wpAny _ _ (seqItems? (.ref l) >>= _) _ _ _;refine AAX (ABP gl dl ?_);simp only[AC7,hx];refine AAX (ACe c a (by simp) (AAZ ⟨x,rfl,AAZ (hQ _ ?_ (ACf ..))⟩));refine⟨_,ABq _ c (ADY (ACv a _)),(Obj.cls_mapFields ..).trans e, ?_⟩;rw[ACv a];simp[rawInt]
def Mz {b:kc}{q l:kf}{k:Nat}{xs:Array kj}{Q:kj->ki->Prop}(c:A.handled=none)(hq:Qx b s.heap q l k)(hl:OX b s.heap l xs)(hx:xs[k]? =none)(h:∀h' e,Heap.ExtBut q s.heap h'->(∃o,h'.get? e=some o/\o.cls= .type "StopIteration")->E (.ref e) {s with heap:=h'}):wpAny (model prog w) A (Builtin.SmallTypes.nextOf (.ref q)) Q E s:=by
 cases b with
 | true=>exact wpAny_nextOf_list_end c hq hl hx h
 | false=>
   have d:s.heap.IsTupleIter q l k:=hq;obtain⟨i,f,j,g⟩:=id d;obtain⟨ol,gl,_,n,dl⟩:=hl;unfold Builtin.SmallTypes.nextOf;refine AAX (ABe (name:=Str.ofString "__next__") d.typeIs AEF (ABJ AEF d.typeIs AFG ?_ (AFH _)));show wpAny _ _ (field (.ref q) 0 >>= _) _ _ _;refine AAX (AAo f g (x:= .ref l) rfl ?_);show wpAny _ _ (if (Value.ref l==Value.none)=true then _ else _) _ _ _;rw[AAa (by intro z;cases z)];show wpAny _ _ (field (.ref q) 1 >>= _) _ _ _;refine AAX (AAo f g (x:= .int k 0) rfl ?_);show wpAny _ _ (seqItems? (.ref l) >>= _) _ _ _;refine AAX (ABP gl dl ?_);simp only[AC7,hx];refine AAX (ABT (AAX (ACe f g (by simp) ?_)));refine AAX (m:=newExc (.type "StopIteration") []) ?_;simp only[newExc,newTuple];refine AAX (ABM ?_ (by size_fits));refine AAX (m:=firstArgMember _ _) (ABF (a:=Value.none) (by first | rfl|(simp only[firstArgMember];rfl)) (ABM ?_ (by size_fits)));simp only[raiseNew];refine AAX (wpAny_handled ?_);first | rw[show A.in1.handled=none from c] | rw[c]
   exact AAX (AAZ (wpAny_throw (h _ _ (((ACf ..).extBut.push _).push _) ⟨_,AAj _ rfl,rfl⟩)))
structure mW (b c:Bool) (z TI TO i j l m:Addr) (k:Nat) (f:Value) (h:Heap):Prop where
 zip:IsZip h z TI TO f
 its:IsPair h TI (.ref i) (.ref j)
 own:∃x y,IsPair h TO x y
 one:Qx b h i l k
 two:Qx c h j m k
def mW.mv {b c:kc}{z TI TO i j l m:kf}{k:Nat}{f:kj}{h h':da}(Z:mW b c z TI TO i j l m k f h)(e:∀p∈ [z,TI,TO,i,j],∀o,h.get? p=some o->h'.get? p=some o):mW b c z TI TO i j l m k f h':=by obtain⟨a,d,⟨x,y,g⟩,n,r⟩:=Z;exact⟨e z (by simp) _ a,e TI (by simp) _ d,⟨x,y,e TO (by simp) _ g⟩,n.mv (e i (by simp)),r.mv (e j (by simp))⟩
variable {b c:kc}{z TI TO i j l m:kf}{k:Nat}{xs ys:Array kj}
def uP {x y:kj}{Q:kj->ki->Prop}(D:ZipApart z TI TO i j l m)(Z:mW b c z TI TO i j l m k .none s.heap)(hl:OX b s.heap l xs)(hm:OX c s.heap m ys)(hx:xs[k]? =some x)(hy:ys[k]? =some y)(hQ:∀h',IsZip h' z TI TO (rawInt s.heap.objs.size)->IsPair h' TI (.ref i) (.ref j)->IsPair h' TO x y->Qx b h' i l (k+1)->Qx c h' j m (k+1)->IsPair h' s.heap.objs.size x y-> (∀p o,p≠z->p≠TO->p≠i->p≠j->s.heap.get? p=some o->h'.get? p=some o)->Q (.ref s.heap.objs.size) {s with heap:=h'}):wpAny (model prog w) A (Builtin.«zip.__next__» ⟨[.ref z], []⟩) (λJ s'=>∃v,J= .done (.ret v)/\Q v s') E s:=by
 obtain⟨h,R,⟨x0,K,zo⟩,z1,z2⟩:=Z;show wpAny _ _ (field (.ref z) 2 >>= _) _ _ _;refine AAX (AAo h rfl (x:= .bool false) rfl ?_);show wpAny _ _ (field (.ref z) 3 >>= _) _ _ _;refine AAX (AAo h rfl (x:= .ref TI) rfl (AAX (ABP R rfl ?_)));refine AAX (m:=Builtin.SmallTypes.ownedTupleIsFree (.ref z)) ?_;unfold Builtin.SmallTypes.ownedTupleIsFree;refine AAX (AAo h rfl (x:= .none) rfl (AAZ ?_));simp only[ABU];refine AAX (ABT (AAX (AAo h rfl (x:= .ref TO) rfl (AAX (ABr h (by simp) λg1 L b1=> ?_)))));have L:IsZip g1 z TI TO .ellipsis:=L;refine AAX ?_;simp only[AEG,AEH,ADA,ADZ];refine AAX (AAX (ACw ?_));refine AAX (m:=Builtin.SmallTypes.nextOf (.ref i)) (Lj (z1.mv λo=>b1.extBut _ o D.i1z) (hl.mv λo=>b1.extBut _ o D.l1z) hx λg2 e2 b2=>AAZ ?_);have S:IsPair g2 TO x0 K:=b2.extBut _ _ D.TOi1 (b1.extBut _ _ D.TOz zo);refine AAX (ABP S rfl (AAX (ADa S λg3 M g=>AAX (ADB (AAZ ?_)))));have M:IsPair g3 TO x K:=M;refine AAX (AAX (ACw ?_));refine AAX (m:=Builtin.SmallTypes.nextOf (.ref j)) (Lj (((z2.mv λo=>b1.extBut _ o D.i2z).mv λo=>b2.extBut _ o D.i12.symm).mv λo=>g.extBut _ o D.TOi2.symm)
  (((hm.mv λo=>b1.extBut _ o D.l2z).mv λo=>b2.extBut _ o D.l2i1).mv λo=>g.extBut _ o D.l2TO) hy λg4 e4 n=>AAZ ?_)
 have T:IsPair g4 TO x K:=n.extBut _ _ D.TOi2 M;refine AAX (ABP T rfl (AAX (ADa T λa C r=>AAX (ADB (AAZ (AAZ ?_))))));have C:IsPair a TO x y:=C;refine AAX (ABP C rfl (AAX (wpAny_newTuple ?_)));have U:a.objs.size=s.heap.objs.size:=by rw[r.1,n.1,g.1,b2.1,b1.1]
 have W:IsZip a z TI TO .ellipsis:=r.extBut _ _ D.TOz.symm (n.extBut _ _ D.i2z.symm (g.extBut _ _ D.TOz.symm (b2.extBut _ _ D.i1z.symm L)));have d:∀p o,p≠z->p≠TO->p≠i->p≠j->s.heap.get? p=some o->a.get? p=some o:=λp o F G N O e=>
  r.extBut _ _ G (n.extBut _ _ O (g.extBut _ _ G (b2.extBut _ _ N (b1.extBut _ _ F e))))
 have t:Qx b a i l (k+1):=((e2.mv λo=>g.extBut _ o D.TOi1.symm).mv λo=>n.extBut _ o D.i12).mv λo=>r.extBut _ o D.TOi1.symm;have u:Qx c a j m (k+1):=e4.mv λo=>r.extBut _ o D.TOi2.symm;have B:z<a.objs.size:=AAd W;refine AAX (m:=Builtin.SmallTypes.ownedTupleHandOut (.ref z) (.ref a.objs.size)) ?_;unfold Builtin.SmallTypes.ownedTupleHandOut;have k6:IsZip (a.push {cls:= .type "tuple",data:= .seq #[x,y] }) z TI TO .ellipsis:=AAe _ W;refine AAX (ABr k6 (by simp) λg7 P X=> ?_);have P:IsZip g7 z TI TO (rawInt a.objs.size):=P;refine ABr P (by simp) λH I Y=> ?_;have I:IsZip H z TI TO (rawInt a.objs.size):=I;have up:∀p o,p≠z->a.get? p=some o->H.get? p=some o:=λp o q e=>Y.extBut _ _ q (X.extBut _ _ q (AAe _ e));have f:IsPair H a.objs.size x y:=Y.extBut _ _ (ABK B) (X.extBut _ _ (ABK B) (AAj _ rfl));rw[U] at I f;refine AAZ ⟨_,rfl, ?_⟩;show Q (.ref a.objs.size) _;rw[U];exact hQ H I (up _ _ D.TIz (d _ _ D.TIz D.TITO D.TIi1 D.TIi2 R)) (up _ _ D.TOz C) (t.mv λo=>up _ o D.i1z) (u.mv λo=>up _ o D.i2z) f λp o F G N O e=>up p o F (d p o F G N O e)
def yB {Q:Fin->ki->Prop}(y:A.handled=none)(D:ZipApart z TI TO i j l m)(Z:mW b c z TI TO i j l m k .none s.heap)(hl:OX b s.heap l xs)(hm:OX c s.heap m ys)(L:xs[k]? =none\/ys[k]? =none)(B:∀h' e,(∀p o,p≠z->p≠TO->p≠i->p≠j->s.heap.get? p=some o->h'.get? p=some o)->(∃o,h'.get? e=some o/\o.cls= .type "StopIteration")->E (.ref e) {s with heap:=h'}):wpAny (model prog w) A (Builtin.«zip.__next__» ⟨[.ref z], []⟩) Q E s:=by
 obtain⟨f,M,⟨N,O,P⟩,C,R⟩:=Z;show wpAny _ _ (field (.ref z) 2 >>= _) _ _ _;refine AAX (AAo f rfl (x:= .bool false) rfl ?_);show wpAny _ _ (field (.ref z) 3 >>= _) _ _ _;refine AAX (AAo f rfl (x:= .ref TI) rfl (AAX (ABP M rfl ?_)));refine AAX (m:=Builtin.SmallTypes.ownedTupleIsFree (.ref z)) ?_;unfold Builtin.SmallTypes.ownedTupleIsFree;refine AAX (AAo f rfl (x:= .none) rfl (AAZ ?_));simp only[ABU];refine AAX (ABT (AAX (AAo f rfl (x:= .ref TO) rfl (AAX (ABr f (by simp) λS n b1=> ?_)))));have n:IsZip S z TI TO .ellipsis:=n;refine AAX ?_;simp only[AEG,AEH,ADA,ADZ];refine AAX (AAX (ACw ?_));cases hx:xs[k]? with
 | none=>
   refine AAX (m:=Builtin.SmallTypes.nextOf (.ref i)) (Mz y (C.mv λo=>b1.extBut _ o D.i1z) (hl.mv λo=>b1.extBut _ o D.l1z) hx λr e b2 he=> ?_);obtain⟨t,a,g⟩:=he;have F:IsZip r z TI TO .ellipsis:=b2 _ _ D.i1z.symm n;have u:e≠z:=λq=>by subst q;rw[F] at a;cases a;simp at g
   refine ABr F (by simp) λG _ d=>B G e (λp o h _ v _ q=>d.extBut _ _ h (b2 _ _ v (b1.extBut _ _ h q))) ⟨t,d.extBut _ _ u a,g⟩
 | some x=>
   have hy:ys[k]? =none:=by
    rcases L with q|q
    .rw [hx] at q;cases q
    .exact q
   refine AAX (m:=Builtin.SmallTypes.nextOf (.ref i)) (Lj (C.mv λo=>b1.extBut _ o D.i1z) (hl.mv λo=>b1.extBut _ o D.l1z) hx λr Y b2=>AAZ ?_);have H:IsPair r TO N O:=b2.extBut _ _ D.TOi1 (b1.extBut _ _ D.TOz P);refine AAX (ABP H rfl (AAX (ADa H λG o3 d=>AAX (ADB (AAZ ?_)))));refine AAX (AAX (ACw ?_));refine AAX (m:=Builtin.SmallTypes.nextOf (.ref j)) (Mz y (((R.mv λo=>b1.extBut _ o D.i2z).mv λo=>b2.extBut _ o D.i12.symm).mv λo=>d.extBut _ o D.TOi2.symm)
    (((hm.mv λo=>b1.extBut _ o D.l2z).mv λo=>b2.extBut _ o D.l2i1).mv λo=>d.extBut _ o D.l2TO) hy λT e I he=> ?_)
   obtain⟨t,a,g⟩:=he;have J:IsZip T z TI TO .ellipsis:=I _ _ D.i2z.symm (d.extBut _ _ D.TOz.symm (b2.extBut _ _ D.i1z.symm n));have u:e≠z:=λq=>by subst q;rw[J] at a;cases a;simp at g
   refine ABr J (by simp) λU _ K=>B U e (λp o h W v X q=>K.extBut _ _ h (I _ _ X (d.extBut _ _ W (b2.extBut _ _ v (b1.extBut _ _ h q))))) ⟨t,K.extBut _ _ u a,g⟩
end
def bI (b:kc)(l:kf):Obj:={cls:= .type (match b with | true=>"list_iterator" | false=>"tuple_iterator"),data:= .fields #[.ref l, .int 0 0] }
abbrev zA (b:kc)(h:da)(l:kf):da:=h.push (bI b l)
abbrev zB (b c:kc)(h:da)(l m:kf):da:=(zA b h l).push (bI c m)
abbrev zC (b c:kc)(h:da)(l m:kf):da:=(zB b c h l m).push {cls:= .type "tuple",data:= .seq #[.ref h.objs.size, .ref (zA b h l).objs.size] }
abbrev zD (b c:kc)(h:da)(l m:kf):da:=(zC b c h l m).push {cls:= .type "tuple",data:= .seq #[.none, .none] }
abbrev zF (b c:kc)(h:da)(l m:kf):da:=(zD b c h l m).push {cls:= .type "zip",data:= .fields #[.none, .bool false, .bool false, .ref (zB b c h l m).objs.size, .ref (zC b c h l m).objs.size] }
def Xq {prog:gn}{w:fe}{A:Wf}{E:kj->ki->Prop}{h:da}{g:Array GenState}{d:Drawn}{a:Nat}{os:OsState}{b:kc}{l:kf}{xs:Array kj}{Q:kj->ki->Prop}(hl:OX b h l xs)(q:Q (.ref h.objs.size) ⟨h.push (bI b l),g,d,a,os⟩):wpAny (model prog w) A (pyIter (.ref l)) Q E ⟨h,g,d,a,os⟩:=by
 cases b with
 | true=>exact AED (s:=⟨h,g,d,a,os⟩) hl q
 | false=>exact wpAny_pyIter_tuple (s:=⟨h,g,d,a,os⟩) hl q
def cU (b c:kc)(l m:kf)(xs ys:Array kj):Meets (Builtin.«zip.__new__» ⟨[.type "zip", .ref l, .ref m], []⟩) (λ_ R s=>OX b s.heap l xs/\OX c s.heap m ys/\R (.ok (.ret (.ref (zD b c s.heap l m).objs.size))) {s with heap:=zF b c s.heap l m}):=
 .of_wp λprog w A R s h=>by
   obtain⟨hp,g,d,i,os⟩:=s;obtain⟨hl,hm,h⟩:=h;have j:=sub_zip;have a:OX b hp l xs:=hl;have f:OX c (hp.push (bI b l)) m ys:=hm.mv λo e=>AAe _ e
   wp_walk using Xq a,Xq f
   exact⟨_,rfl,h⟩
section
variable {prog:gn}{w:fe}{A:Wf}{E:kj->ki->Prop}{s:ki}{b c:kc}{l m:kf}{xs ys:Array kj}
def eY {h:da}{q:kf}(e:h.get? q=some (bI b l)):Qx b h q l 0:=by
 cases b with
 | true=>exact⟨_,e,rfl,rfl⟩
 | false=>exact⟨_,e,rfl,rfl⟩
def pX (hl:OX b s.heap l xs)(hm:OX c s.heap m ys){Q:kj->ki->Prop}(h:∀h',mW b c (s.heap.objs.size+4) (s.heap.objs.size+2) (s.heap.objs.size+3) s.heap.objs.size (s.heap.objs.size+1) l m 0 .none h'->(∀p o,s.heap.get? p=some o->h'.get? p=some o)->Q (.ref (s.heap.objs.size+4)) {s with heap:=h'}):wpAny (model prog w) A (call (.type "zip") [.ref l, .ref m]) Q E s:=by
 refine AEI F.called_zip (by decide) (F.typeCall_zip_2 _ _) (F.newCall_zip_2 _ _) (λobj=>F.args_object_init_3 obj _ _) F.entry_zip_new (cU b c l m xs ys) ⟨hl,hm, ?_⟩;have a:(zA b s.heap l).objs.size=s.heap.objs.size+1:=ABd ..;have d:(zB b c s.heap l m).objs.size=s.heap.objs.size+2:=by rw[ABd,a]
 have f:(zC b c s.heap l m).objs.size=s.heap.objs.size+3:=by rw[ABd,d]
 have i:(zD b c s.heap l m).objs.size=s.heap.objs.size+4:=by rw[ABd,f]
 have g:(zF b c s.heap l m).get? (zD b c s.heap l m).objs.size=some _:=AAj _ rfl;have j:(zF b c s.heap l m).get? (zC b c s.heap l m).objs.size=some _:=AAe _ (AAj _ rfl);have k:(zF b c s.heap l m).get? (zB b c s.heap l m).objs.size=some _:=AAe _ (AAe _ (AAj _ rfl));have p2:(zF b c s.heap l m).get? (zA b s.heap l).objs.size=some (bI c m):=AAe _ (AAe _ (AAe _ (AAj _ rfl)));have p1:(zF b c s.heap l m).get? s.heap.objs.size=some (bI b l):=AAe _ (AAe _ (AAe _ (AAe _ (AAj _ rfl))));rw[d,f,i] at g;rw[a,d] at k;rw[f] at j;rw[a] at p2;show _/\_;rw[i];exact⟨⟨_,g,rfl⟩,h _ ⟨g,k,⟨_,_,j⟩,eY p1,eY p2⟩ λp o e=>AAe _ (AAe _ (AAe _ (AAe _ (AAe _ e))))⟩
end
def Sq (K:AAY):kc->Hp->kf->km V->Prop
 | true,H,a,xs=>Fy K H a xs
 | false,H,a,xs=>LZ K H a xs
section
variable {X:Cx}{Tb:km (kf×Obj)}{σ:St}{H:Hp}{s:ki}{a:kf}{ys xs:km V}{b:kc}{h':da}
def Inv.sq (I:Inv X Tb σ H s)(h:Sq X.K b H a xs):∃c:km kj,A7 xs c/\OX b s.heap a c.toArray/\xs.length<=sizeLine:=by
 cases b with
 | true=> obtain⟨c,r,p,z⟩:=I.list h;exact⟨c,r,p.isList,z⟩
 | false=> obtain⟨c,r,p,z⟩:=I.tuple h;exact⟨c,r,p,z⟩
def Inv.sq_inj (I:Inv X Tb σ H s)(h:Sq X.K b H a xs)(h2:Sq X.K b H a ys):xs=ys:=by
 cases b with
 | true=>exact I.list_inj h h2
 | false=>exact I.tuple_inj h h2
def Inv.turnedL {ch:km kf}{t':Nat}(I:Inv X Tb σ H s)(c:∀p∈ch,Ec X Tb H p)(k:∀p o,p ∉ ch->s.heap.get? p=some o->h'.get? p=some o):Inv X Tb σ H {s with heap:=h',toks:=t'}:=by
 have d:∀p u,H p=some u->p ∉ ch:=λp u e z=>by rw[(c p z).1] at e;cases e
 refine I.step (g':=s.gens) (d':=s.drawn) (ch:=ch) (λp hp=>⟨(c p hp).2.2.2.1,(c p hp).2.1,(c p hp).2.2.2.2.1,(c p hp).2.2.2.2.2⟩) (λp o _ _ hc e _=>k p o hc e) (λp o _ _ hc e _=>⟨o.slots,k p o hc e⟩)
  (λ_ _ _ _ n=>n) (λp o hc e=>⟨o,k p o hc e⟩) (λ_ _ e=>e) (λ_ _ _ e=>e) (λp h e=>⟨#[],by rw[e];simp⟩) (λm hm=> ?_) (λp u e=> ?_) I.bare
 .obtain ⟨o,es,ep,f,r⟩:=hm;exact⟨o,es,ep,k _ o (λz=>(c _ z).2.1 rfl) f,r⟩
 .refine (I.hok p u e).stay (λq v hq g=>k q v ?_ g) (λ_ q=>q) λ_ _ q=>q;rcases hq with z|z
  .rw [z];exact d p u e
  .exact d q _ z
def Inv.turnedN {ch:km kf}{t':Nat}{n:kf}{o:HO}(I:Inv X Tb σ H s)(c:∀p∈ch,Ec X Tb H p)(h:∀p∈ch,p<s.heap.objs.size)(k:∀p o,p ∉ ch->s.heap.get? p=some o->h'.get? p=some o)(hn:s.heap.objs.size<=n)(new:DR X.prog X.w (upd H n o) h' n o):Inv X Tb σ (upd H n o) {s with heap:=h',toks:=t'}:=by
 have f:Inv X Tb σ H {s with heap:=h',toks:=t'}:=I.turnedL c k;have d:H n=none:=I.hok.fresh hn;have hx:∀p u,s.heap.get? p=some u->p≠n:=λp u e=>AAh (AA0 (AAd e) hn);refine I.step (g':=s.gens) (d':=s.drawn) (ch:=ch) (λp hp=>⟨(c p hp).2.2.2.1,(c p hp).2.1,(c p hp).2.2.2.2.1,(c p hp).2.2.2.2.2⟩) (λp o _ _ hc e _=>k p o hc e) (λp o _ _ hc e _=>⟨o.slots,k p o hc e⟩)
  (λp u _ e z=>by rw[Ao (hx p u e)];exact z) (λp o hc e=>⟨o,k p o hc e⟩) (λp xs e=>by rw[Ao (A5 e d)];exact e) (λp o xs e=>by rw[Ao (A5 e d)];exact e)
  (λp i e=>⟨#[],by rw[Ao (A5 e d),e];simp⟩) (λm hm=> ?_) (λp u e=> ?_) I.bare
 .obtain ⟨o,es,ep,g,r⟩:=hm;exact⟨o,es,ep,k _ o (λz=>(c _ z).2.1 rfl) g,r⟩
 .by_cases hp:p=n
  .subst hp;rw[Ap] at e;cases e;exact new
  .rw [Ao hp] at e;exact(f.hok p u e).stay (λ_ _ _ q=>q) (λq hq=>by rw[Ao (A5 hq d)];exact hq) λq xs hq=>by rw[Ao (A5 hq d)];exact hq
end
def vS (K:AAY)(b c:kc)(l m:kf):It:=
 ⟨λi H=>∃xs ys x y,Sq K b H l xs/\Sq K c H m ys/\xs[i]? =some x/\ys[i]? =some y,
  λi H v a=>∃T x y,v= .ref T/\H T=none/\a=upd H T (.tup [x,y])/\(∀xs,Sq K b H l xs->xs[i]? =some x)/\∀ys,Sq K c H m ys->ys[i]? =some y,
  λi H=>∃xs ys,Sq K b H l xs/\Sq K c H m ys/\(xs.length<=i\/ys.length<=i)⟩
def iE {P:gn}{w:fe}{K:AAY}{es:km kd}{J:Nat}{pos:Pos}{b c:kc}{z TI TO i j l m:kf}(D:ZipApart z TI TO i j l m):La P w K (.Tuple es J pos) (vS K b c l m) [z,TI,TO,i,j] z (λk h=>mW b c z TI TO i j l m k .none h) where
 mem:=by simp
 obj:=λk h Z p hp=>by
  have a:p=z\/p=TI\/p=TO\/p=i\/p=j:=by simpa using hp
  rcases a with e|e|e|e|e
  .subst e;exact⟨_,Z.zip,λv q=>nomatch q⟩
  .subst e;exact⟨_,Z.its,λv q=>nomatch q⟩
  .subst e;obtain⟨x,y,q⟩:=Z.own;exact⟨_,q,λv q=>nomatch q⟩
  .subst e;exact Z.one.obj
  .subst e;exact Z.two.obj
 keep:=λk h h' Z e=>Z.mv e
 item:=by
  intro X n hw r hc k Tb s F H E I g Z t;subst n hw r;obtain⟨xs,ys,x,y,hl,hm,hx,hy⟩:=t;obtain⟨G,A,B,_⟩:=I.sq hl;obtain⟨vs,rv,sv,_⟩:=I.sq hm;obtain⟨u,hu,L⟩:=A.get hx;obtain⟨v,hv,M⟩:=rv.get hy;have f:s.TypeIs (.ref z) "zip" :=⟨_,Z.zip,rfl⟩;unfold pyNext;refine AAX (ABs (ABe (name:=Str.ofString "__next__") f ACg (ABJ ACg f AEJ
   (uP D Z B sv (x:=u) (y:=v) (by simpa using hu) (by simpa using hv) λh1 N O Q R S U W=>AAZ ?_) (AEK _))))
  refine⟨_,rfl,wpAny_letOwnedTupleGo_zip (s:={s with heap:=h1}) N λh2 c1 c2=> ?_⟩;have C:∀p∈ [z,TI,TO,i,j],p<s.heap.objs.size:=λp hp=>by
   have a:p=z\/p=TI\/p=TO\/p=i\/p=j:=by simpa using hp
   rcases a with e|e|e|e|e
   .subst e;exact AAd Z.zip
   .subst e;exact AAd Z.its
   .subst e;obtain⟨x,y,q⟩:=Z.own;exact AAd q
   .subst e;obtain⟨o,q,_⟩:=Z.one.obj;exact AAd q
   .subst e;obtain⟨o,q,_⟩:=Z.two.obj;exact AAd q
  have d:∀p o,p≠z->h1.get? p=some o->h2.get? p=some o:=λp o q e=>c2.extBut _ _ q e;have Y:∀p o,p ∉ [z,TI,TO,i,j] ->s.heap.get? p=some o->h2.get? p=some o:=λp o hp e=>by
   have a:p≠z/\p≠TI/\p≠TO/\p≠i/\p≠j:=by simpa using hp
   exact d p o a.1 (W p o a.1 a.2.2.1 a.2.2.2.1 a.2.2.2.2 e)
  have wQ:s.heap.objs.size≠z:=ABK (C z (by simp));have I2:Inv X Tb F (upd H s.heap.objs.size (.tup [x,y])) {s with heap:=h2,toks:=s.toks}:=I.turnedN g C Y (AAf _)
   ⟨(by show 2<=sizeLine;decide), [u,v], .cons L (.cons M .nil),⟨_,d _ _ wQ U,rfl,_,rfl⟩⟩
  have Vt:H s.heap.objs.size=none:=I.fresh;refine⟨.ref s.heap.objs.size,upd H s.heap.objs.size (.tup [x,y]),I2,rfl,⟨_,x,y,rfl,Vt,rfl,λxs' h'=> ?_,λys' h'=> ?_⟩, ?_,λp hp=> ?_⟩
  .rw [I.sq_inj h' hl];exact hx
  .rw [I.sq_inj h' hm];exact hy
  .exact ⟨c1,d _ _ D.TIz O,⟨_,_,d _ _ D.TOz Q⟩,R.mv λo=>d _ o D.i1z,S.mv λo=>d _ o D.i2z⟩
  .rw [Ao (AAh (C p hp))];exact(g p hp).1
 done:=by
  intro X n hw r hc k Tb s F H E I g Z t;subst n hw r;obtain⟨xs,ys,hl,hm,he⟩:=t;obtain⟨G,A,B,_⟩:=I.sq hl;obtain⟨vs,rv,sv,_⟩:=I.sq hm;have e1:=A.length;have e2:=rv.length;have nC:G.toArray[k]? =none\/vs.toArray[k]? =none:=by
   rcases he with q|q
   .exact .inl (by simp;omega)
   .exact .inr (by simp;omega)
  have f:s.TypeIs (.ref z) "zip" :=⟨_,Z.zip,rfl⟩;unfold pyNext;refine AAX (ABs (ABe (name:=Str.ofString "__next__") f ACg (ABJ ACg f AEJ
   (yB (I.ok.hd hc) D Z B sv nC λh1 e hk he=> ?_) (AEK _))))
  obtain⟨o,ho,nB⟩:=he;refine AAX (ABy (T:="StopIteration") (b:=true) ⟨o,ho,nB⟩ isSubtype_stop (AAZ ⟨rfl, ?_⟩));exact I.turnedL (t':=s.toks) g λp o hp e=>by
   have a:p≠z/\p≠TI/\p≠TO/\p≠i/\p≠j:=by simpa using hp
   exact hk p o a.1 a.2.2.1 a.2.2.2.1 a.2.2.2.2 e
 self:=λ_ _ _ _ _ Z h=>AEL Z.zip h
structure Has (P:Program) (w:World) (K:AAY) (mg:Str->Option Value) (base:Heap) (k:Nat) (x:Str) (ps:List Str) (sp:Sp):Prop where
 ex:∃f fd,mg x=some (.ref f)/\PySem.W.keepIn K (.ref f)=true/\Binds K fd ps [] /\Fi P w K mg base VJ k f fd ps sp
def Has.mono {P:gn}{w:fe}{K:AAY}{mg:Str->ke kj}{base:da}{j k:Nat}{x:Str}{e:km Str}{sp:Sp}(h:Has P w K mg base j x e sp)(hk:j<=k):Has P w K mg base k x e sp:=by obtain⟨f,g,a,b,c,d⟩:=h.ex;exact⟨f,g,a,b,c,d.mono hk⟩
section
variable {X:Cx}{x:Str}{p pos:Pos}{e:kd}{es:km kd}{t:TA}{k:Nat}{ps:km Str}{sp:Sp}
def oJ (D:Has X.prog X.w X.K X.mg X.base k x ps sp)(a:Room k X.A)(b:Gl X x)(ha:PA X (e::es) t)(hs:starEach (e::es) X.env=(false,eval e X.env)::starEach es X.env:=by rfl)(hpl:(backTo pos (starEach es X.env)).any (·.1)=false:=by rfl)(hd:(x==("__debug__" :Str))=false:=by decide):PE X (.Call (.Name x p) (e::es) [] pos) (l8 sp [] E0 t):=by obtain⟨f,h,c,d,g,G⟩:=D.ex;exact jo G a b c d g .nil sf ha (hdb:=hd) (he:=hs) (hpl:=hpl)
end
section
variable {X:Cx}{tg elt:kd}{ifs:km kd}{scope:Scope}{own:Nat}{ix:km Nat}{N:km Str}{g:TG}{tt:TT}{te:TE}
def Pf (X:Cx)(sc:Scope)(own:Nat)(ix:km Nat)(N:km Str):kc:=
 (List.range ix.length).all λj=>match ix[j]? with
   | none=>false
   | some i=>match N[own+j]?,X.N[i]? with
     | some x,some y=>decide (x=y)&&decide (X.env.scope.names.lookup x=some .cell)&&decide (sc.names.lookup x=some .cell)
     | _,_=>false
def Vi {sc:Scope}(h1:N.length=own+ix.length)(h2:Pf X sc own ix N=true):Rb X sc own ix N:=by
 refine⟨h1,λj i hj=> ?_⟩;have c:j<ix.length:=(ABC.mp hj).1;have h:=ABi.mp h2 j (AD1.mpr c);rw[hj] at h;dsimp only at h;cases a:N[own+j]? with
 | none=>rw[a] at h;simp at h
 | some x=>
   cases b:X.N[i]? with
   | none=>rw[a,b] at h;simp at h
   | some y=> rw[a,b] at h;simp only[ABS,ADb] at h;obtain⟨⟨d,e⟩,f⟩:=h;subst d;exact⟨x,rfl,rfl,e,f⟩
def Y4 (h1:scope.kind= .function)(h2:(scope.names.all λy=> !decide (y.2= .cell))=true)(c:(scope.names.all λy=> !decide (y.2= .local)||decide (scope.names.lookup y.1=some .local))=true)(d:(scope.names.all λy=> !decide (y.2= .free)||decide (X.env.scope.names.lookup y.1=some .cell))=true)(f:N.length=own+ix.length)(h:Pf X (relabel scope X.env) own ix N=true)(hk:Ij own g)(a:∀cl C s H ex pn,PG (blk X (relabel scope X.env) N cl C s H ex pn) tg g)(b:∀cl C s H ex pn,Yt (blk X (relabel scope X.env) N cl C s H ex pn) ifs tt)(val:∀cl C s H ex pn,PE (blk X (relabel scope X.env) N cl C s H ex pn) elt te):Mm X tg elt ifs scope own ix N g tt te:=by
 refine⟨h1,λy hy e=> ?_,λy hy e=> ?_,λy hy e=> ?_,Vi f h,hk,a,b,val⟩
 .have:=ABi.mp h2 y hy;simp[e] at this
 .have:=ABi.mp c y hy;simpa[e] using this
 .have:=ABi.mp d y hy;simpa[e] using this
end
def LW.new {H:Hp}{p:kf}{o:HO}(h:H p=none):LW H (upd H p o):=λb u q=>by rw[Ao (A5 q h)];exact q
def iT (p:kf)(H a:Hp):Prop:=∀b o,b≠p->H b=some o->a b=some o
def iT.refl {p:kf}{H:Hp}:iT p H H:=λ_ _ _ h=>h
def iT.trans {p:kf}{H d e:Hp}(a:iT p H d)(b:iT p d e):iT p H e:=λc o n h=>b c o n (a c o n h)
def LW.but {p:kf}{H b:Hp}(a:LW H b):iT p H b:=λc o _ h=>a c o h
def iT.upd {p:kf}{H:Hp}{o:HO}:iT p H (upd H p o):=λb u n q=>by rw[Ao n];exact q
end L2
namespace PL
open PySem PySem.Spec PyProof.Rows L2
inductive PV where
 | non|bl (b:Bool)|int (i:Int)|str (x:Str)|ty (n:String)
 | tup (xs:List PV)|lst (xs:List PV)|tape|scr (ns:List Int)|dct (kvs:List (FK×Int))
def Fk (H:Hp)(p:kf):Prop:=∃d x:Int,H p=some (.lst [.int d, .int x])/\0<=d/\0<=x/\x<2147483647
def Mp (o:HO):Prop:=(∀vs,o≠ .tup vs)/\∀q u,o≠ .frz q u
def Mp.lst {xs:km V}:Mp (.lst xs):=⟨(λ_ e=>nomatch e),(λ_ _ e=>nomatch e)⟩
def Fk.mut {H:Hp}{p:kf}(h:Fk H p):∃o,H p=some o/\Mp o:=by obtain⟨d,x,e,_⟩:=h;exact⟨_,e,Mp.lst⟩
def uV (K:AAY)(H:Hp)(a:kf)(xs:km V):Prop:=H a=some (.tup xs)\/∃(o:Obj) (b:Array kj) (n:Nat),K.lookup a=some o/\o.cls= .type "tuple" /\o.data= .seq b n/\b.size<=sizeLine/\A7 xs b.toList
def uV.sq {K:AAY}{H:Hp}{a:kf}{xs:km V}(h:uV K H a xs):LZ K H a xs:=h.elim (λz=> .inl (.inl z)) .inr
def CO (a:km (FK×Int)):km (FK×V):=a.map λp=>(p.1,V.int p.2)
mutual
inductive Ce (K:AAY) (T M:Addr->Prop) (H:Hp):V->PV->Prop where
 | non:Ce K T M H .non .non
 | bl (b:Bool):Ce K T M H (.bl b) (.bl b)
 | int (i:Int):Ce K T M H (.int i) (.int i)
 | str (x:Str):Ce K T M H (.str x) (.str x)
 | ty (n:String):Ce K T M H (.ty n) (.ty n)
 | tup {a:Addr} {vs:List V} {xs:List PV} (h:uV K H a vs) (r:A9 K T M H vs xs):Ce K T M H (.ref a) (.tup xs)
 | lst {a:Addr} {vs:List V} {xs:List PV} (h:H a=some (.lst vs)) (t:¬T a) (m:¬M a) (r:A9 K T M H vs xs):Ce K T M H (.ref a) (.lst xs)
 | tape {a:Addr} (t:T a):Ce K T M H (.ref a) .tape
 | dct {a:Addr} {kvs:List (FK×Int)} (h:H a=some (.dN K (CO kvs))) (t:¬T a) (m:¬M a):Ce K T M H (.ref a) (.dct kvs)
 | scr {a:Addr} {ns:List Int} (h:(Rd H a (.lst (ns.map V.int))/\¬T a/\¬M a)\/∀H,Fy K H a (ns.map V.int)):Ce K T M H (.ref a) (.scr ns)
inductive A9 (K:AAY) (T M:Addr->Prop) (H:Hp):List V->List PV->Prop where
 | nil:A9 K T M H [] []
 | cons {v:V} {x:PV} {vs:List V} {xs:List PV} (h:Ce K T M H v x) (t:A9 K T M H vs xs):A9 K T M H (v::vs) (x::xs)
end
structure IH (T M:Addr->Prop) (H:Hp):Prop where
 tp:∀a,T a->Fk H a
 mu:∀a,M a->∃o,H a=some o/\Mp o
def IH.noTup {T M:kf->Prop}{H:Hp}(v:IH T M H){a:kf}{vs:km V}(r:Rd H a (.tup vs)):¬T a/\¬M a:=by
 have go:∀o,H a=some o->Mp o->False:=λo e m=>by
  rcases r with r|⟨q,r⟩
  .rw [e] at r;cases r;exact m.1 _ rfl
  .rw [e] at r;cases r;exact m.2 _ _ rfl
 exact⟨λt=>let ⟨o,e,m⟩:=(v.tp a t).mut;go o e m,λt=>let ⟨o,e,m⟩:=v.mu a t;go o e m⟩
structure Mv (K:AAY) (T M:Addr->Prop) (H:Hp) (T' M':Addr->Prop) (H':Hp):Prop where
 va:IH T M H
 keep:∀b o,¬T b->¬M b->H b=some o->H' b=some o
 sub:∀b,T b->T' b
 tn:∀b,H b≠none->T' b->T b
 mn:∀b,H b≠none->M' b->M b
def Zg {H:Hp}{a:kf}{u:HO}(r:Rd H a u):H a≠none:=by rcases r with r|⟨o,r⟩ <;> rw[r] <;> exact λe=>nomatch e
def tM {H b:Hp}{a:kf}{u:HO}(r:Rd H a u)(k:∀o,H a=some o->b a=some o):Rd b a u:=by
 rcases r with r|⟨o,r⟩
 .exact .inl (k _ r)
 .exact .inr ⟨o,k _ r⟩
section
variable {K:AAY}{T M T' M':kf->Prop}{H H':Hp}
mutual
theorem Ce.mv (m:Mv K T M H T' M' H'):∀{v:V} {x:PV},Ce K T M H v x->Ce K T' M' H' v x
 | _,_, .non=> .non
 | _,_, .bl b=> .bl b
 | _,_, .int i=> .int i
 | _,_, .str x=> .str x
 | _,_, .ty n=> .ty n
 | _,_, .tup (a:=a) (vs:=vs) h r=>by
   refine .tup (vs:=vs) ?_ (A9.mv m r);rcases h with h|h
   .obtain ⟨t,u⟩:=m.va.noTup (.inl h);exact .inl (m.keep _ _ t u h)
   .exact .inr h
 | _,_, .lst (a:=a) h t u r=> .lst (m.keep _ _ t u h) (λz=>t (m.tn a (by rw[h];exact λe=>nomatch e) z)) (λz=>u (m.mn a (by rw[h];exact λe=>nomatch e) z)) (A9.mv m r)
 | _,_, .tape t=> .tape (m.sub _ t)
 | _,_, .dct (a:=a) h t u=> .dct (m.keep _ _ t u h) (λz=>t (m.tn a (by rw[h];exact λe=>nomatch e) z)) (λz=>u (m.mn a (by rw[h];exact λe=>nomatch e) z))
 | _,_, .scr (a:=a) (.inl ⟨h,t,u⟩)=> .scr (.inl ⟨tM h λo e=>m.keep _ o t u e,λz=>t (m.tn a (Zg h) z),λz=>u (m.mn a (Zg h) z)⟩)
 | _,_, .scr (.inr h)=> .scr (.inr h)
theorem A9.mv (m:Mv K T M H T' M' H'):∀{vs:km V} {xs:km PV},A9 K T M H vs xs->A9 K T' M' H' vs xs
 | _,_, .nil=> .nil
 | _,_, .cons h t=> .cons (Ce.mv m h) (A9.mv m t)
end
end
def A9.length {K:AAY}{T M:kf->Prop}{H:Hp}:∀{vs:km V} {xs:km PV},A9 K T M H vs xs->vs.length=xs.length
 | _,_, .nil=>rfl
 | _,_, .cons _ t=>by simp[t.length]
theorem A9.get {K:AAY}{T M:kf->Prop}{H:Hp}:∀{vs:km V} {xs:km PV} {i:Nat} {x:PV},A9 K T M H vs xs->xs[i]? =some x->∃v,vs[i]? =some v/\Ce K T M H v x
 | _,_,_,_, .nil,e=>by simp at e
 | _,_,0,_, .cons h _,e=>by simp at e;subst e;exact⟨_,rfl,h⟩
 | _,_,i+1,x, .cons _ t,e=>by obtain⟨u,h1,h2⟩:=A9.get (i:=i) (x:=x) t (by simpa using e);exact⟨u,by simpa using h1,h2⟩
def A9.get' {K:AAY}{T M:kf->Prop}{H:Hp}{vs:km V}{xs:km PV}{i:Nat}{v:V}(h:A9 K T M H vs xs)(e:vs[i]? =some v):∃x,xs[i]? =some x/\Ce K T M H v x:=by have hl:=h.length;have hi:i<vs.length:=(ABC.mp e).1;obtain⟨w,a,r⟩:=h.get (i:=i) (x:=xs[i]'(by omega)) (ABD (by omega));rw[e] at a;cases a;exact⟨_,ABD (by omega),r⟩
def A9.append {K:AAY}{T M:kf->Prop}{H:Hp}:∀{vs a:km V} {xs ys:km PV},A9 K T M H vs xs->A9 K T M H a ys->A9 K T M H (vs++a) (xs++ys)
 | _,_,_,_, .nil,s=>s
 | _,_,_,_, .cons h t,s=> .cons h (t.append s)
def A9.take {K:AAY}{T M:kf->Prop}{H:Hp}:∀{vs:km V} {xs:km PV} (n:Nat),A9 K T M H vs xs->A9 K T M H (vs.take n) (xs.take n)
 | _,_,0,_=> .nil
 | _,_,_+1, .nil=> .nil
 | _,_,n+1, .cons r t=> .cons r (t.take n)
def A9.drop {K:AAY}{T M:kf->Prop}{H:Hp}:∀{vs:km V} {xs:km PV} (n:Nat),A9 K T M H vs xs->A9 K T M H (vs.drop n) (xs.drop n)
 | _,_,0,r=>r
 | _,_,_+1, .nil=> .nil
 | _,_,n+1, .cons _ t=>t.drop n
theorem A9.set {K:AAY}{T M:kf->Prop}{H:Hp}{v:V}{x:PV}(r:Ce K T M H v x):∀{vs:km V} {xs:km PV} (i:Nat),A9 K T M H vs xs->A9 K T M H (vs.set i v) (xs.set i x)
 | _,_,_, .nil=> .nil
 | _,_,0, .cons _ t=> .cons r t
 | _,_,i+1, .cons q t=> .cons q (A9.set r i t)
def A9.nil_iff {K:AAY}{T M:kf->Prop}{H:Hp}{vs:km V}{xs:km PV}(h:A9 K T M H vs xs):vs= [] ↔xs= [] :=by cases h <;> simp
def A9.reverse {K:AAY}{T M:kf->Prop}{H:Hp}{vs:km V}{xs:km PV}(h:A9 K T M H vs xs):A9 K T M H vs.reverse xs.reverse:=by
 induction vs generalizing xs with
 | nil=>cases h;exact .nil
 | cons v vs ih=>
   cases h with
   | cons h t=>rw[AD8,AD8];exact(ih t).append (.cons h .nil)
structure Dv (T:Addr->Prop) (H:Hp) (T':Addr->Prop) (H':Hp):Prop where
 keep:∀b o,¬T b->H b=some o->H' b=some o
 sub:∀b,T b->T' b
 new:∀b,T' b->T b\/H b=none
 tp:∀a,T' a->Fk H' a
def Dv.refl {T:kf->Prop}{H:Hp}(h:∀a,T a->Fk H a):Dv T H T H:=⟨λ_ _ _ e=>e,λ_ e=>e,λ_ e=> .inl e,h⟩
def Dv.some {T c:kf->Prop}{H a:Hp}(s:Dv T H c a){b:kf}(h:H b≠none):a b≠none:=by
 by_cases t:T b
 .obtain ⟨o,e,_⟩:=(s.tp b (s.sub b t)).mut;rw[e];exact λe=>nomatch e
 .cases e:H b with
  | none=>exact absurd e h
  | some o=>rw[s.keep b o t e];exact λe=>nomatch e
def Dv.none {T c:kf->Prop}{H a:Hp}(s:Dv T H c a){b:kf}(h:a b=none):H b=none:=by
 cases e:H b with
 | none=>rfl
 | some o=>exact absurd h (s.some (by rw[e];exact λe=>nomatch e))
def Dv.trans {T d f:kf->Prop}{H g h:Hp}(a:Dv T H d g)(b:Dv d g f h):Dv T H f h where
 keep:=λc o t e=>b.keep c o (λz=>(a.new c z).elim t λn=>by rw[n] at e;cases e) (a.keep c o t e)
 sub:=λc t=>b.sub c (a.sub c t)
 new:=λc t=>(b.new c t).elim (λz=>a.new c z) λz=> .inr (a.none z)
 tp:=b.tp
def Dv.lay {T:kf->Prop}{H:Hp}{p:kf}{o:HO}(h:∀a,T a->Fk H a)(hp:H p=Option.none):Dv T H T (upd H p o) where
 keep:=λb u _ e=>by rw[Ao (A5 e hp)];exact e
 sub:=λ_ t=>t
 new:=λ_ t=> .inl t
 tp:=λa t=>by obtain⟨d,x,e,z⟩:=h a t;exact⟨d,x,by rw[Ao (A5 e hp)];exact e,z⟩
def Dv.mv {K:AAY}{T a M:kf->Prop}{H c:Hp}(s:Dv T H a c)(v:IH T M H):Mv K T M H a M c where
 va:=v
 keep:=λb o t _ e=>s.keep b o t e
 sub:=s.sub
 tn:=λb n t=>(s.new b t).elim id λz=>absurd z n
 mn:=λ_ _ z=>z
def IH.stp {T b M:kf->Prop}{H c:Hp}(v:IH T M H)(s:Dv T H b c)(d:∀a,M a->¬T a):IH b M c:=
 ⟨s.tp,λa m=>let ⟨o,e,q⟩:=v.mu a m;⟨o,s.keep a o (d a m) e,q⟩⟩
def Ce.stp {K:AAY}{T a M:kf->Prop}{H b:Hp}{v:V}{x:PV}(r:Ce K T M H v x)(s:Dv T H a b)(va:IH T M H):Ce K a M b v x:=r.mv (s.mv va)
def A9.stp {K:AAY}{T a M:kf->Prop}{H b:Hp}{v:km V}{x:km PV}(r:A9 K T M H v x)(s:Dv T H a b)(va:IH T M H):A9 K a M b v x:=r.mv (s.mv va)
def Mv.anti {K:AAY}{T M c:kf->Prop}{H:Hp}(v:IH T M H)(h:∀a,c a->M a):Mv K T M H T c H:=⟨v,λ_ _ _ _ e=>e,λ_ t=>t,λ_ _ t=>t,λb _ t=>h b t⟩
inductive AV where
 | val (x:PV)
 | own (xs:List PV)
abbrev BC:=km (ke AV)
structure DJ where
 T:Addr->Prop
 H:Hp
 M:Addr->Prop
def DJ.add (B:DJ)(p:kf):DJ:=⟨B.T,B.H,λa=>B.M a\/a=p⟩
def C5 (a:L2.St)(τ:BC)(p:kf):Prop:=∃(i:Nat) (xs:km PV),τ[i]? =some (some (.own xs))/\a[i]? =some (some (.ref p))
def mt (B:DJ)(a:L2.St)(τ:BC)(p:kf):Prop:=B.M p\/C5 a τ p
structure SR (K:AAY) (B:DJ) (T:Addr->Prop) (H:Hp) (σ:L2.St) (τ:BC):Prop where
 len:σ.length=τ.length
 val:∀(i:Nat) (x:PV),τ[i]? =some (some (.val x))->∃v,σ[i]? =some (some v)/\Ce K T (mt B σ τ) H v x
 own:∀(i:Nat) (xs:List PV),τ[i]? =some (some (.own xs))->∃p vs,σ[i]? =some (some (.ref p))/\H p=some (.lst vs)/\A9 K T (mt B σ τ) H vs xs/\B.H p=none/\¬T p/\¬B.M p
 dist:∀(i j:Nat) (xs ys:List PV) (p:Addr),τ[i]? =some (some (.own xs))->τ[j]? =some (some (.own ys))->σ[i]? =some (some (.ref p))->σ[j]? =some (some (.ref p))->i=j
 tp:∀a,T a->Fk H a
 bm:∀a,B.M a->∃o,H a=some o/\Mp o
 bt:∀a,B.M a->¬T a
 st:Dv B.T B.H T H
section
variable {K:AAY}{B:DJ}{T T':kf->Prop}{H H':Hp}{σ:L2.St}{τ:BC}
def SR.ownH (s:SR K B T H σ τ){p:kf}(o:C5 σ τ p):∃vs,H p=some (.lst vs)/\B.H p=none/\¬T p/\¬B.M p:=by obtain⟨i,xs,h1,h2⟩:=o;obtain⟨q,vs,e,h,_,b,t,m⟩:=s.own i xs h1;rw[h2] at e;cases e;exact⟨vs,h,b,t,m⟩
def SR.va (s:SR K B T H σ τ):IH T (mt B σ τ) H:=⟨s.tp,λa m=>m.elim (s.bm a) λo=>let ⟨vs,h,_⟩:=s.ownH o;⟨_,h,Mp.lst⟩⟩
def SR.nt (s:SR K B T H σ τ){a:kf}(m:mt B σ τ a):¬T a:=m.elim (s.bt a) λo=>let ⟨_,_,_,t,_⟩:=s.ownH o;t
def SR.stp (s:SR K B T H σ τ)(p:Dv T H T' H'):SR K B T' H' σ τ where
 len:=s.len
 val:=λi x e=>let ⟨v,h,r⟩:=s.val i x e;⟨v,h,r.stp p s.va⟩
 own:=λi xs e=>by obtain⟨q,vs,c,h,r,b,t,m⟩:=s.own i xs e;exact⟨q,vs,c,p.keep _ _ t h,r.stp p s.va,b,(λz=>(p.new q z).elim t λn=>by rw[n] at h;cases h),m⟩
 dist:=s.dist
 tp:=p.tp
 bm:=λa m=>let ⟨o,e,q⟩:=s.bm a m;⟨o,p.keep a o (s.bt a m) e,q⟩
 bt:=λa m z=>by obtain⟨o,e,_⟩:=s.bm a m;exact(p.new a z).elim (s.bt a m) λn=>by rw[n] at e;cases e
 st:=s.st.trans p
def SR.add {p:kf}{o:HO}(s:SR K B T H σ τ)(q:Dv T H T' H')(hn:H p=none)(j:H' p=some o)(hm:Mp o)(k:¬T' p):SR K (B.add p) T' H' σ τ:=by
 have c:=s.stp q;have f:Mv K T (mt B σ τ) H T' (mt (B.add p) σ τ) H':=⟨s.va,λb o t _ e=>q.keep b o t e,q.sub,λb n t=>(q.new b t).elim id λz=>absurd z n,λb n z=>by
  rcases z with(z|z)|z
  .exact .inl z
  .subst z;exact absurd hn n
  .exact .inr z⟩
 refine⟨s.len,λi x e=> ?_,λi xs e=> ?_,s.dist,c.tp,λa m=> ?_,λa m=> ?_,c.st⟩
 .obtain ⟨v,h,r⟩:=s.val i x e;exact⟨v,h,r.mv f⟩
 .obtain ⟨a,vs,g,h,r,b,t,m⟩:=s.own i xs e;obtain⟨u,l,d,h',_,w,t',y⟩:=c.own i xs e;rw[g] at d;cases d;rw[q.keep _ _ t h] at h';cases h';refine⟨a,vs,g,q.keep _ _ t h,r.mv f,b,t',λz=> ?_⟩;rcases z with z|z
  .exact m z
  .subst z;rw[hn] at h;cases h
 .rcases m with m|m
  .exact c.bm a m
  .subst m;exact⟨o,j,hm⟩
 .rcases m with m|m
  .exact c.bt a m
  .subst m;exact k
def SR.drop {p:kf}(s:SR K (B.add p) T H σ τ):SR K B T H σ τ:=by have c:Mv K T (mt (B.add p) σ τ) H T (mt B σ τ) H:= .anti s.va λa m=>m.elim (λz=> .inl (.inl z)) .inr;refine⟨s.len,λi x e=>let ⟨v,h,r⟩:=s.val i x e;⟨v,h,r.mv c⟩,λi xs e=> ?_,s.dist,s.tp,λa m=>s.bm a (.inl m),λa m=>s.bt a (.inl m),s.st⟩;obtain⟨a,vs,d,h,r,b,t,m⟩:=s.own i xs e;exact⟨a,vs,d,h,r.mv c,b,t,λz=>m (.inl z)⟩
end
def i8:ke AV->ke AV
 | some (.own xs)=>some (.val (.lst xs))
 | o=>o
def frz (τ:BC):BC:=τ.map i8
def ZE {τ:BC}{i:Nat}:(frz τ)[i]? =(τ[i]?).map i8:=by simp[frz]
def i9 {τ:BC}{i:Nat}{x:PV}(h:(frz τ)[i]? =some (some (.val x))):τ[i]? =some (some (.val x))\/∃xs,x= .lst xs/\τ[i]? =some (some (.own xs)):=by
 rw[ZE] at h;cases e:τ[i]? with
 | none=>rw[e] at h;cases h
 | some o=>
   rw[e] at h;cases o with
   | none=>cases h
   | some a=>
     cases a with
     | val y=>cases h;exact .inl rfl
     | own xs=>cases h;exact .inr ⟨xs,rfl,rfl⟩
def Ta {τ:BC}{i:Nat}{xs:km PV}:(frz τ)[i]? ≠some (some (.own xs)):=by
 rw[ZE];cases e:τ[i]? with
 | none=>exact λz=>nomatch z
 | some o=>
   cases o with
   | none=>exact λz=>nomatch z
   | some a=>cases a <;> exact λz=>nomatch z
def WI {a:L2.St}{τ:BC}{p:kf}:¬C5 a (frz τ) p:=λ⟨_,_,h,_⟩=>Ta h
section
variable {K:AAY}{B:DJ}{T T':kf->Prop}{H H':Hp}{σ:L2.St}{τ:BC}
def SR.frz (s:SR K B T H σ τ):SR K B T H σ (frz τ):=by
 have d:Mv K T (mt B σ τ) H T (mt B σ (PL.frz τ)) H:= .anti s.va λa m=>m.elim .inl λz=>absurd z WI;refine⟨by simp[PL.frz,s.len],λi x e=> ?_,λi xs e=>absurd e Ta,λi j xs ys p e=>absurd e Ta,s.tp,s.bm,s.bt,s.st⟩;rcases i9 e with c|⟨xs,f,c⟩
 .obtain ⟨v,h,r⟩:=s.val i x c;exact⟨v,h,r.mv d⟩
 .subst f;obtain⟨p,vs,g,h,r,b,t,m⟩:=s.own i xs c;exact⟨.ref p,g, .lst h t (λz=>z.elim m WI) (r.mv d)⟩
end
mutual
def V4:PV->kc
 | .lst _=>false
 | .tape=>false
 | .scr _=>false
 | .dct _=>false
 | .tup xs=>OJ xs
 | _=>true
def OJ:km PV->kc
 | [] =>true
 | x::xs=>V4 x&&OJ xs
end
section
variable {K:AAY}{T M M':kf->Prop}{H:Hp}
mutual
theorem Ce.free:∀{v:V} {x:PV},V4 x=true->Ce K T M H v x->Ce K T M' H v x
 | _,_,_, .non=> .non
 | _,_,_, .bl b=> .bl b
 | _,_,_, .int i=> .int i
 | _,_,_, .str x=> .str x
 | _,_,_, .ty n=> .ty n
 | _,_,n, .tup h r=> .tup h (A9.free (by rw[V4] at n;exact n) r)
 | _,_,n, .lst _ _ _ _=>by rw[V4] at n;cases n
 | _,_,n, .tape _=>by rw[V4] at n;cases n
 | _,_,n, .scr _=>by rw[V4] at n;cases n
 | _,_,n, .dct _ _ _=>by rw[V4] at n;cases n
theorem A9.free:∀{vs:km V} {xs:km PV},OJ xs=true->A9 K T M H vs xs->A9 K T M' H vs xs
 | _,_,_, .nil=> .nil
 | _,_,n, .cons h t=>by rw[OJ,ABS] at n;exact .cons (Ce.free n.1 h) (A9.free n.2 t)
end
end
abbrev AE:=BC->(PV->Prop)->Prop
abbrev AT:=BC->(kc->Prop)->Prop
abbrev AA:=BC->(km PV->Prop)->Prop
abbrev AF:=km PV->(PV->Prop)->Prop
def Tw:BC->Nat->ke AV
 | [],_=>none
 | x::_,0=>x
 | _::r,n+1=>Tw r n
theorem NC:∀{τ:BC} {i:Nat} {a:AV},Tw τ i=some a->τ[i]? =some (some a)
 | [],_,_,h=>by simp[Tw] at h
 | x::_,0,_,h=>by simpa[Tw] using h
 | _::r,n+1,a,h=>by have:=NC (τ:=r) (i:=n) (a:=a) (by simpa[Tw] using h);simpa using this
def fY (x:PV)(R:Int->Prop):Prop:=match x with | .int i=>R i|_=>False
def bi (x y:PV)(R:Int->Int->Prop):Prop:=match x,y with | .int i, .int j=>R i j|_,_=>False
def ji (x:PV)(R:kc->Prop):Prop:=match x with | .bl b=>R b|_=>False
def cZ (o:ke PV)(R:PV->Prop):Prop:=match o with | some z=>R z|none=>False
def n9 {o:ke PV}{R:PV->Prop}(h:cZ o R):∃z,o=some z/\R z:=by cases o <;> first | exact⟨_,rfl,h⟩|exact h.elim
def WH (x:PV)(R:km PV->Prop):Prop:=match x with | .tup xs=>R xs | .lst xs=>R xs|_=>False
def UH {x:PV}{R:Int->Prop}(h:fY x R):∃i,x= .int i/\R i:=by cases x <;> first | exact⟨_,rfl,h⟩|exact h.elim
def Oh {x y:PV}{R:Int->Int->Prop}(h:bi x y R):∃i j,x= .int i/\y= .int j/\R i j:=by cases x <;> cases y <;> first | exact⟨_,_,rfl,rfl,h⟩|exact h.elim
def UG {x:PV}{R:kc->Prop}(h:ji x R):∃b,x= .bl b/\R b:=by cases x <;> first | exact⟨_,rfl,h⟩|exact h.elim
def KY {x:PV}{R:km PV->Prop}(h:WH x R):∃xs,(x= .tup xs\/x= .lst xs)/\R xs:=by cases x <;> first | exact⟨_, .inl rfl,h⟩|exact⟨_, .inr rfl,h⟩|exact h.elim
def Ce.toI {K:AAY}{T M:kf->Prop}{H:Hp}{v:V}{i:Int}(r:Ce K T M H v (.int i)):v= .int i:=by cases r;rfl
def Ce.toB {K:AAY}{T M:kf->Prop}{H:Hp}{v:V}{i:kc}(r:Ce K T M H v (.bl i)):v= .bl i:=by cases r;rfl
def Fj (K:AAY)(t:TE)(a:AE):Prop:=∀(B:DJ) (T:kf->Prop) (b:L2.St) (τ:BC) (H:Hp) (Q:VK) (d:PV->Prop),SR K B T H b τ->a τ d->
 (∀v x e c,Dv T H e c->Ce K e (mt B b τ) c v x->d x->Q v c)->t b H Q
def OF (K:AAY)(t:TT)(a:AT):Prop:=∀(B:DJ) (T:kf->Prop) (c:L2.St) (τ:BC) (H:Hp) (Q:kc->Hp->Prop) (d:kc->Prop),SR K B T H c τ->a τ d->
 (∀b f e,Dv T H f e->d b->Q b e)->t c H Q
def mU (K:AAY)(t:TA)(a:AA):Prop:=∀(B:DJ) (T:kf->Prop) (b:L2.St) (τ:BC) (H:Hp) (Q:km V->Hp->Prop) (d:km PV->Prop),SR K B T H b τ->a τ d->
 (∀vs xs e c,Dv T H e c->A9 K e (mt B b τ) c vs xs->d xs->Q vs c)->t b H Q
def dC (K:AAY)(t:TE)(a:AA):Prop:=∀(B:DJ) (T:kf->Prop) (c:L2.St) (τ:BC) (H:Hp) (Q:VK) (e:km PV->Prop),SR K B T H c τ->a τ e->
 (∀p vs xs d b,Dv T H d b->SR K (B.add p) d b c τ->H p=none->b p=some (.lst vs)->¬d p->A9 K d (mt (B.add p) c τ) b vs xs->e xs->Q (.ref p) b)->t c H Q
def SE (X:Cx)(e:kd)(a:AE):Prop:=∃t,PE X e t/\Fj X.K t a
def TJ (X:Cx)(e:kd)(a:AT):Prop:=∃t,PT X e t/\OF X.K t a
def SW (X:Cx)(e:kd)(a:AT):Prop:=∃t,PW X e t/\OF X.K t a
def SA (X:Cx)(es:km kd)(a:AA):Prop:=∃t,PA X es t/\mU X.K t a
def SF (X:Cx)(e:kd)(a:AA):Prop:=∃t,PE X e t/\dC X.K t a
abbrev Ik:=PV->PV->(PV->Prop)->Prop
def B8 (K:AAY)(r:R2)(f:Ik):Prop:=∀(T M:kf->Prop) (H:Hp) (u v:V) (x y:PV) (Q:VK) (b:PV->Prop),IH T M H->Ce K T M H u x->Ce K T M H v y->f x y b->
 (∀w z c a,Dv T H c a->Ce K c M a w z->b z->Q w a)->r u v H Q
def Gu (K:AAY)(r:km V->Hp->VK->Prop)(f:AF):Prop:=∀(T M:kf->Prop) (H:Hp) (b:km V) (xs:km PV) (Q:VK) (c:PV->Prop),IH T M H->A9 K T M H b xs->f xs c->
 (∀w z d a,Dv T H d a->Ce K d M a w z->c z->Q w a)->r b H Q
section
variable {X:Cx}{a b c:kd}{es:km kd}{pos:Pos}{ta tb:AE}{tA tB':AT}
def aV (i:Nat):AE:=λτ Q=>match Tw τ i with | some (.val x)=>Q x|_=>False
def qk {i:Nat}{τ:BC}{Q:PV->Prop}(h:aV i τ Q):∃x,τ[i]? =some (some (.val x))/\Q x:=by
 unfold aV at h;cases e:Tw τ i with
 | none=>rw[e] at h;exact h.elim
 | some z=>
   rw[e] at h;cases z with
   | own xs=>exact h.elim
   | val x=>exact⟨x,NC e,h⟩
def AH (i:Nat){x:Str}{pos:Pos}(hN:X.N[i]? =some x:=by rfl)(hv:lH X.env.scope x:=by first | exact Or.inl rfl|exact Or.inr (Or.inl rfl)|exact Or.inr (Or.inr rfl))(hd:(x==("__debug__" :Str))=false:=by decide)(d:(x==("__classdict__" :Str))=false:=by decide):SE X (.Name x pos) (aV i):=by refine⟨_,QH hN hv hd d,λB T g τ H Q j s h k=> ?_⟩;obtain⟨x,e,q⟩:=qk h;obtain⟨v,f,r⟩:=s.val i x e;exact⟨v,f,k v x T H (.refl s.tp) r q⟩
def aC (x:PV):AE:=λ_ Q=>Q x
def Wg {v:V}{x:PV}(h:∀T M H,Ce X.K T M H v x):Fj X.K (tC v) (aC x):=λB T d τ H Q e s h' k=>k v x T H (.refl s.tp) (h _ _ _) h'
def AJ {i:Int}{j pos}:SE X (.Constant (.int i) j pos) (aC (.int i)):=⟨_,BM,Wg λ_ _ _=> .int i⟩
def Cr {i:kc}{j pos}:SE X (.Constant (.bool i) j pos) (aC (.bl i)):=⟨_,sn,Wg λ_ _ _=> .bl i⟩
def Dy {j pos}:SE X (.Constant .none j pos) (aC .non):=⟨_,gA,Wg λ_ _ _=> .non⟩
def YW {i:Str}{j pos}:SE X (.Constant (.str i) j pos) (aC (.str i)):=⟨_,oN,Wg λ_ _ _=> .str i⟩
def R8 {x:Str}{n:String}{u:kj}{pos:Pos}(d:Gl X x)(hm:X.mg x=none)(hv:bootBuiltins x=some u)(r:RelV (.ty n) u)(hn:x≠"__name__" :=by decide)(hd:(x==("__debug__" :Str))=false:=by decide):SE X (.Name x pos) (aC (.ty n)):=
 ⟨_,DO (v:= .ty n) d hm hv r hn hd,Wg λ_ _ _=> .ty n⟩
def AY (f:Ik)(ta tb:AE):AE:=λτ Q=>ta τ λx=>tb τ λy=>f x y Q
def Ud {r:R2}{f:Ik}{t u:TE}(i:B8 X.K r f)(ha:Fj X.K t ta)(hb:Fj X.K u tb):Fj X.K (kb r t u) (AY f ta tb):=by intro B T g τ H Q j s h k;refine ha B T g τ H _ _ s h λv x l m d r1 h1=> ?_;refine hb B l g τ m _ _ (s.stp d) h1 λw y n o e r2 h2=> ?_;have p:=(s.stp d).stp e;exact i n _ o v w x y Q j p.va (r1.stp e (s.stp d).va) r2 h2 λw z T3 A C D q=>k w z T3 A ((d.trans e).trans C) D q
def Ab {op:Operator}{r:R2}{f:Ik}(d:Ee X (binaryOp op) r/\B8 X.K r f)(ha:SE X a ta)(hb:SE X b tb):SE X (.BinOp a op b pos) (AY f ta tb):=
 let ⟨_,p,s⟩:=ha;let ⟨_,e,g⟩:=hb;⟨_,CZ d.1 p e,Ud d.2 s g⟩
def DF {op:CmpOp}{r:R2}{f:Ik}(d:Ee X (compareOp op) r/\B8 X.K r f)(ha:SE X a ta)(hb:SE X b tb)(hm:behindInMarks op b=false):SE X (.Compare a [op] [b] pos) (AY f ta tb):=
 let ⟨_,p,s⟩:=ha;let ⟨_,e,g⟩:=hb;⟨_,Zd d.1 p e hm,Ud d.2 s g⟩
def tY {r:R2}{f:Ik}(d:ia X r/\B8 X.K r f)(ha:SE X a ta)(hb:SE X b tb)(hs:TH b):SE X (.Subscript a b pos) (AY f ta tb):=
 let ⟨_,p,s⟩:=ha;let ⟨_,e,g⟩:=hb;⟨_,Nw d.1 p e hs,Ud d.2 s g⟩
def fI (g:Int->Int->PV):Ik:=λx y Q=>bi x y λi j=>Q (g i j)
def qz (C:Int->Int->Prop)(g:Int->Int->PV):Ik:=λx y Q=>bi x y λi j=>C i j/\Q (g i j)
def We {g:Int->Int->V}{g':Int->Int->PV}(d:∀i j T M H,Ce X.K T M H (g i j) (g' i j)):B8 X.K (QK g) (fI g'):=by intro T M H u v x y Q f va e rv h k;obtain⟨i,j,rfl,rfl,q⟩:=Oh h;exact⟨i,j,e.toI,rv.toI,k _ _ T H (.refl va.tp) (d i j T M H) q⟩
def YZ {C:Int->Int->Prop}{g:Int->Int->V}{g':Int->Int->PV}(d:∀i j T M H,Ce X.K T M H (g i j) (g' i j)):B8 X.K (rI C g) (qz C g'):=by intro T M H u v x y Q f va e rv h k;obtain⟨i,j,rfl,rfl,c,q⟩:=Oh h;exact⟨i,j,e.toI,rv.toI,c,k _ _ T H (.refl va.tp) (d i j T M H) q⟩
abbrev qy:Ik:=fI λi j=> .int (i+j)
abbrev GF:Ik:=fI λi j=> .int (i-j)
abbrev cW:Ik:=fI λi j=> .bl (decide (i<j))
abbrev yY:Ik:=fI λi j=> .bl (decide (i<=j))
abbrev lM:Ik:=fI λi j=> .bl (decide (j<i))
abbrev mq:Ik:=fI λi j=> .bl (decide (j<=i))
def Cc:Ee X (binaryOp .Sub) (QK λi j=> .int (i-j))/\B8 X.K (QK λi j=> .int (i-j)) GF:=⟨YE,We λi j _ _ _=> .int _⟩
def IC:Ee X (compareOp .Lt) (QK λi j=> .bl (decide (i<j)))/\B8 X.K (QK λi j=> .bl (decide (i<j))) cW:=⟨lp,We λi j _ _ _=> .bl _⟩
def t7:Ee X (compareOp .LtE) (QK λi j=> .bl (decide (i<=j)))/\B8 X.K (QK λi j=> .bl (decide (i<=j))) yY:=⟨sY,We λi j _ _ _=> .bl _⟩
def SH:Ee X (compareOp .Gt) (QK λi j=> .bl (decide (j<i)))/\B8 X.K (QK λi j=> .bl (decide (j<i))) lM:=⟨ln,We λi j _ _ _=> .bl _⟩
def SD:Ee X (compareOp .GtE) (QK λi j=> .bl (decide (j<=i)))/\B8 X.K (QK λi j=> .bl (decide (j<=i))) mq:=⟨lj,We λi j _ _ _=> .bl _⟩
structure MulOk (i j:Int):Prop where
 l:i.natAbs<2^1000000
 r:j.natAbs<2^1000000
def jn:Ee X (binaryOp .Mult) (rI MulOk λi j=> .int (i*j)):=oA λ_ _ _ _ _ _ _ hc q=>mul_int q (.of_le (JS hc.l) (JS hc.r) (by decide))
abbrev DW:Ik:=qz MulOk λi j=> .int (i*j)
def BP:Ee X (binaryOp .Mult) (rI MulOk λi j=> .int (i*j))/\B8 X.K (rI MulOk λi j=> .int (i*j)) DW:=⟨jn,YZ λi j _ _ _=> .int _⟩
structure VN (i j:Int):Prop where
 ne:j≠0
 lt:j.natAbs<2^8900
def fj:Ee X (binaryOp .FloorDiv) (rI VN λi j=> .int (i.fdiv j)):=oA λi j _ _ _ _ _ hc q=>
 floordiv_int hc.ne q (.inl (AFF (ACt (Lz hc.lt (by decide)) (by decide))))
abbrev Q8:Ik:=qz VN λi j=> .int (i.fdiv j)
def FW:Ee X (binaryOp .FloorDiv) (rI VN λi j=> .int (i.fdiv j))/\B8 X.K (rI VN λi j=> .int (i.fdiv j)) Q8:=⟨fj,YZ λi j _ _ _=> .int _⟩
abbrev Xa:Ik:=qz (λ_ j=>j≠0) λi j=> .int (i.fmod j)
def Uj:Ee X (binaryOp .Mod) (rI (λ_ j=>j≠0) λi j=> .int (i.fmod j))/\B8 X.K (rI (λ_ j=>j≠0) λi j=> .int (i.fmod j)) Xa:=⟨jm,YZ λi j _ _ _=> .int _⟩
def ug:PV->kc | .non=>true|_=>false
def XZ:Ik:=λx y Q=>match y with | .non=>Q (.bl (ug x))|_=>False
def Vg:Ik:=λx y Q=>match y with | .non=>Q (.bl (!ug x))|_=>False
def ZO {K:AAY}{T M:kf->Prop}{H:Hp}{v:V}{x:PV}(r:Ce K T M H v x):decide (v= .non)=ug x:=by cases r <;> simp[ug]
def Ui:Ee X (compareOp .Is) (λx y H Q=>y= .non/\Q (.bl (decide (x= .non))) H)/\B8 X.K (λx y H Q=>y= .non/\Q (.bl (decide (x= .non))) H) XZ:=by
 refine⟨oD,λT M H u v x y Q e va d rv h k=> ?_⟩;cases y <;> first | exact h.elim|skip
 cases rv;refine⟨rfl, ?_⟩;rw[ZO d];exact k _ _ T H (.refl va.tp) (.bl _) h
def Zu:Ee X (compareOp .IsNot) (λx y H Q=>y= .non/\Q (.bl (!decide (x= .non))) H)/\B8 X.K (λx y H Q=>y= .non/\Q (.bl (!decide (x= .non))) H) Vg:=by
 refine⟨ZZ,λT M H u v x y Q e va d rv h k=> ?_⟩;cases y <;> first | exact h.elim|skip
 cases rv;refine⟨rfl, ?_⟩;rw[ZO d];exact k _ _ T H (.refl va.tp) (.bl _) h
def Ak:Ik:=λx y Q=>WH x λxs=>fY y λi=>cZ (Im xs i) Q
def Yy {K:AAY}{T M:kf->Prop}{H:Hp}{vs:km V}{xs:km PV}{i:Int}{z:PV}(r:A9 K T M H vs xs)(h:Im xs i=some z):∃v,Im vs i=some v/\Ce K T M H v z:=by
 unfold Im at h ⊢;rw[r.length];cases e:Pt xs.length i with
 | none=>rw[e] at h;cases h
 | some j=> rw[e] at h;exact r.get h
def tH (K:AAY):R2:=λx y H Q=>tG K x y H Q\/tI K x y H Q
def t6:ia X (tH X.K)/\B8 X.K (tH X.K) Ak:=by
 refine⟨F5.or nQ,λT M H u v x y Q g va f rv h k=> ?_⟩;obtain⟨xs,hx,h1⟩:=KY h;obtain⟨i,rfl,h2⟩:=UH h1;cases rv.toI;obtain⟨z,e,q⟩:=n9 h2;rcases hx with rfl|rfl
 .cases f with
  | tup hq r=> obtain⟨w,ew,d⟩:=Yy r e;exact .inr ⟨_,_,i,w,rfl,rfl,hq.sq,ew,k w z T H (.refl va.tp) d q⟩
 .cases f with
  | lst hq t m r=> obtain⟨w,ew,d⟩:=Yy r e;exact .inl ⟨_,_,i,w,rfl,rfl, .inl (.inl hq),ew,k w z T H (.refl va.tp) d q⟩
def Jv (f:PV->(PV->Prop)->Prop)(ta:AE):AE:=λτ Q=>ta τ λx=>f x Q
def EA (x:PV)(Q:PV->Prop):Prop:=fY x λi=>Q (.int (-i))
def Bl (ha:SE X a ta):SE X (.UnaryOp .USub a pos) (Jv EA ta):=by obtain⟨t,p,s⟩:=ha;refine⟨_,sw pS p,λB T d τ H Q l e h k=>s B T d τ H _ _ e h λv x f g j r1 h1=> ?_⟩;obtain⟨i,rfl,q⟩:=UH h1;exact⟨i,r1.toI,k _ _ f g j (.int _) q⟩
def mr (x:PV)(Q:PV->Prop):Prop:=ji x λi=>Q (.bl (!i))
def gc (ha:SE X a ta):SE X (.UnaryOp .Not a pos) (Jv mr ta):=by obtain⟨t,p,s⟩:=ha;refine⟨_,oK p,λB T d τ H Q l e h k=>s B T d τ H _ _ e h λv x f g j r1 h1=> ?_⟩;obtain⟨i,rfl,q⟩:=UG h1;exact⟨i,r1.toB,k _ _ f g j (.bl _) q⟩
def aM (ta tb:AE):AE:=λτ Q=>ta τ λx=>ji x λc=>if c=true then tb τ Q else Q (.bl false)
def Qb {op}(h:SE X a ta):SE X (.BoolOp op [a] pos) ta:=let ⟨_,p,s⟩:=h;⟨_,oM p,s⟩
def Qa {rest:km kd}(ha:SE X a ta)(hb:SE X (.BoolOp .And (b::rest) pos) tb):SE X (.BoolOp .And (a::b::rest) pos) (aM ta tb):=by
 obtain⟨t,p,s⟩:=ha;obtain⟨t',l,m⟩:=hb;refine⟨_,oI p l,λB T e τ H Q u f h k=>s B T e τ H _ _ f h λv x g j d r1 h1=> ?_⟩;obtain⟨i,rfl,q⟩:=UG h1;refine⟨i,r1.toB, ?_⟩;cases i with
 | true=>rw[AAb rfl] at q ⊢;exact m B g e τ j _ _ (f.stp d) q λw y n o r r2 h2=>k w y n o (d.trans r) r2 h2
 | false=>rw[AAa AAs] at q ⊢;exact k _ _ g j d (.bl _) q
def Am (ta:AE):AT:=λτ Q=>ta τ λx=>ji x Q
def Oq {t:TE}(s:Fj X.K t ta):OF X.K (Z0 t) (Am ta):=λB T d τ H Q l e h k=>s B T d τ H _ _ e h λv x f g j r1 h1=>by obtain⟨i,rfl,q⟩:=UG h1;exact⟨i,r1.toB,k _ f g j q⟩
def gx {op:CmpOp}{r:R2}{f:Ik}(d:Ee X (compareOp op) r/\B8 X.K r f)(ha:SE X a ta)(hb:SE X b tb)(hm:behindInMarks op b=false):TJ X (.Compare a [op] [b] pos) (Am (AY f ta tb)):=
 let ⟨_,p,s⟩:=ha;let ⟨_,e,g⟩:=hb;⟨_,Om d.1 p e hm,Oq (Ud d.2 s g)⟩
def Az {e:kd}(h:SE X e ta)(he:∀whole,isTrue e X.env whole=(do let v <-whole;standAt e.pos;holding [v] (truthy v)):=by intro _;rfl):TJ X e (Am ta):=
 let ⟨_,p,s⟩:=h;⟨_,oS p he,Oq s⟩
def B2 (t:AT):AT:=λτ Q=>t τ λc=>Q (!c)
def Lb (t u:AT):AT:=λτ Q=>t τ λc=>if c=true then u τ Q else Q false
def EI (t u:AT):AT:=λτ Q=>t τ λc=>if c=true then Q true else u τ Q
def BS (ha:TJ X a tA):TJ X (.UnaryOp .Not a pos) (B2 tA):=by obtain⟨t,p,s⟩:=ha;exact⟨_,oR p,λB T d τ H Q j e h k=>s B T d τ H _ _ e h λv f g i h1=>k _ f g i h1⟩
def JY (ha:TJ X a tA):SW X (.BoolOp .And [a] pos) tA:=let ⟨_,p,s⟩:=ha;⟨_,j7 p,s⟩
def Cm (ha:TJ X a tA):SW X (.BoolOp .Or [a] pos) tA:=let ⟨_,p,s⟩:=ha;⟨_,oU p,s⟩
def Nd {rest:km kd}(ha:TJ X a tA)(hb:SW X (.BoolOp .And (b::rest) pos) tB'):SW X (.BoolOp .And (a::b::rest) pos) (Lb tA tB'):=by
 obtain⟨t,p,s⟩:=ha;obtain⟨t',l,m⟩:=hb;refine⟨_,oT p l,λB T e τ H Q u f h k=>s B T e τ H _ _ f h λi g j d q=> ?_⟩;cases i with
 | true=>rw[AAb rfl] at q ⊢;exact m B g e τ j _ _ (f.stp d) q λb n o r h2=>k b n o (d.trans r) h2
 | false=>rw[AAa AAs] at q ⊢;exact k _ g j d q
def Cd {rest:km kd}(ha:TJ X a tA)(hb:SW X (.BoolOp .Or (b::rest) pos) tB'):SW X (.BoolOp .Or (a::b::rest) pos) (EI tA tB'):=by
 obtain⟨t,p,s⟩:=ha;obtain⟨t',l,m⟩:=hb;refine⟨_,tD p l,λB T e τ H Q u f h k=>s B T e τ H _ _ f h λi g j d q=> ?_⟩;cases i with
 | false=>rw[AAa AAs] at q ⊢;exact m B g e τ j _ _ (f.stp d) q λb n o r h2=>k b n o (d.trans r) h2
 | true=>rw[AAb rfl] at q ⊢;exact k _ g j d q
def FE (h:SW X a tA):TJ X a tA:=let ⟨_,p,s⟩:=h;⟨_,p.pt,s⟩
def iM (t:AT)(ta tb:AE):AE:=λτ Q=>t τ λc=>if c=true then ta τ Q else tb τ Q
def Ny (hc:TJ X c tA)(ha:SE X a ta)(hb:SE X b tb):SE X (.IfExp c a b pos) (iM tA ta tb):=by
 obtain⟨t,p,s⟩:=hc;obtain⟨t1,p1,e⟩:=ha;obtain⟨t2,p2,f⟩:=hb;refine⟨_,fy p p1 p2,λB T g τ H Q u j h k=>s B T g τ H _ _ j h λi o r d q=> ?_⟩;cases i with
 | true=>rw[AAb rfl] at q ⊢;exact e B o g τ r _ _ (j.stp d) q λw y l m n r2 h2=>k w y l m (d.trans n) r2 h2
 | false=>rw[AAa AAs] at q ⊢;exact f B o g τ r _ _ (j.stp d) q λw y l m n r2 h2=>k w y l m (d.trans n) r2 h2
def AM:AA:=λ_ Q=>Q []
def AB (ta:AE)(r:AA):AA:=λτ Q=>ta τ λx=>r τ λxs=>Q (x::xs)
def Dx:SA X [] AM:=⟨_,DY,λB T e τ H Q f d h k=>k [] [] T H (.refl d.tp) .nil h⟩
def A3 {e:kd}{r:AA}(ha:SE X e ta)(j:SA X es r)(hs:starEach (e::es) X.env=(false,eval e X.env)::starEach es X.env:=by rfl):SA X (e::es) (AB ta r):=by obtain⟨t,p,s⟩:=ha;obtain⟨t',l,m⟩:=j;refine⟨_,BK p l hs,λB T g τ H Q y d h k=>s B T g τ H _ _ d h λv x n o f r1 h1=> ?_⟩;exact m B n g τ o _ _ (d.stp f) h1 λvs xs u w i r2 h2=>k _ _ u w (f.trans i) (.cons (r1.stp i (d.stp f).va) r2) h2
def Ar (r:AA):AE:=λτ Q=>r τ λxs=>xs.length<=sizeLine/\Q (.tup xs)
def AU {x1}{r:AA}(h:SA X es r):SE X (.Tuple es x1 pos) (Ar r):=by obtain⟨t,p,s⟩:=h;refine⟨_,QG p,λB T f τ H Q i d h k=>s B T f τ H _ _ d h λvs xs g j e r1 h1=>⟨by rw[r1.length];exact h1.1,λq hq=> ?_⟩⟩;have l:=Dv.lay (o:= .tup vs) (d.stp e).tp hq;exact k _ _ g _ (e.trans l) (.tup (.inl Ap) (r1.stp l (d.stp e).va)) h1.2
def B0 (r:AA):AA:=λτ Q=>r τ λxs=>xs.length<=sizeLine/\Q xs
def Oe {K:AAY}{B:DJ}{T:kf->Prop}{H:Hp}{d:L2.St}{τ:BC}{p:kf}{vs:km V}{xs:km PV}(f:SR K B T H d τ)(hq:H p=none)(r:A9 K T (mt B d τ) H vs xs):Dv T H T (upd H p (.lst vs))/\SR K (B.add p) T (upd H p (.lst vs)) d τ/\¬T p/\A9 K T (mt (B.add p) d τ) (upd H p (.lst vs)) vs xs:=by
 have l:=Dv.lay (o:= .lst vs) f.tp hq;have g:¬T p:=λz=>by obtain⟨o,e,_⟩:=(f.tp p z).mut;rw[hq] at e;cases e
 refine⟨l,f.add l hq Ap Mp.lst g,g,r.mv ⟨f.va,λb o t _ e=>l.keep b o t e,l.sub,λb n t=>t,λb n z=> ?_⟩⟩;rcases z with(z|z)|z
 .exact .inl z
 .subst z;exact absurd hq n
 .exact .inr z
def A2 {r:AA}(h:SA X es r):SF X (.List es pos) (B0 r):=by obtain⟨t,p,s⟩:=h;refine⟨_,fz p,λB T g τ H Q m f h k=>s B T g τ H _ _ f h λvs xs i n d r1 h1=>⟨by rw[r1.length];exact h1.1,λq hq=> ?_⟩⟩;obtain⟨l,e,j,r2⟩:=Oe (f.stp d) hq r1;exact k q vs xs i _ (d.trans l) e (d.none hq) Ap j r2 h1.2
def Db (r:AA):AE:=λτ Q=>r τ λxs=>Q (.lst xs)
def gi {t:TE}{r:AA}(s:dC X.K t r):Fj X.K t (Db r):=λB T g τ H Q v d h k=>s B T g τ H _ _ d h λp vs xs i j l f hn hp n r1 h1=>by
 have u:¬C5 g τ p:=λo=>by obtain⟨_,e,_⟩:=d.ownH o;rw[hn] at e;cases e
 have hb:¬B.M p:=λo=>by obtain⟨_,e,_⟩:=d.bm p o;rw[hn] at e;cases e
 exact k _ _ i j l (.lst hp n (λz=>z.elim hb u) (r1.mv (.anti f.va λa m=>m.elim (λz=> .inl (.inl z)) .inr))) h1
def Bo {r:AA}(h:SF X a r):SE X a (Db r):=let ⟨_,p,s⟩:=h;⟨_,p,gi s⟩
def Cn (K:AAY)(n:Nat)(F:AF):Sp:=λvs H Q _=>∃(T M:kf->Prop) (xs:km PV) (e:PV->Prop),IH T M H/\(∀a,M a->¬T a)/\A9 K T M H vs xs/\xs.length=n/\F xs e/\
 ∀v x f d,Dv T H f d->Ce K f M d v x->e x->Q v d
def AN (n:Nat)(F:AF)(r:AA):AE:=λτ Q=>r τ λxs=>xs.length=n/\F xs Q
def AK {x:Str}{p:Pos}{e:kd}{k n:Nat}{g:km Str}{F:AF}{r:AA}(D:Has X.prog X.w X.K X.mg X.base k x g (Cn X.K n F))(i:Room k X.A)(j:Gl X x)(ha:SA X (e::es) r)(hs:starEach (e::es) X.env=(false,eval e X.env)::starEach es X.env:=by rfl)(hpl:(backTo pos (starEach es X.env)).any (·.1)=false:=by rfl)(hd:(x==("__debug__" :Str))=false:=by decide):SE X (.Call (.Name x p) (e::es) [] pos) (AN n F r):=by obtain⟨t,l,s⟩:=ha;refine⟨_,oJ D i j l hs hpl hd,λB T o τ H Q u d h k=>s B T o τ H _ _ d h λvs xs y G f r1 h1=> ?_⟩;rw[ACb];exact⟨y,_,xs,u,(d.stp f).va,λa m=>(d.stp f).nt m,r1,h1.1,h1.2,λv x z C E r2 q=>k v x z C (f.trans E) r2 q⟩
def DZ (f:AF)(r:AA):AE:=λτ Q=>r τ λxs=>f xs Q
def gh {d:km V->Hp->VK->Prop}{f:AF}{t:TA}{r:AA}(i:Gu X.K d f)(s:mU X.K t r):Fj X.K (wr d t) (DZ f r):=λB T j τ H Q l e h k=>s B T j τ H _ _ e h λvs xs m n g r1 h1=>
 i m _ n vs xs Q l (e.stp g).va r1 h1 λw z o p u r2 q=>k w z o p (g.trans u) r2 q
def Au {id:String}{x:Str}{p:Pos}{e:kd}{d:km V->Hp->VK->Prop}{f:AF}{r:AA}(hc:Cf X (.builtin id) d/\Gu X.K d f)(g:Gl X x)(hm:X.mg x=none)(hv:bootBuiltins x=some (.builtin id))(ha:SA X (e::es) r)(hn:x≠"__name__" :=by decide)(hdb:(x==("__debug__" :Str))=false:=by decide)(he:starEach (e::es) X.env=(false,eval e X.env)::starEach es X.env:=by rfl)(hpl:(backTo pos (starEach es X.env)).any (·.1)=false:=by rfl):SE X (.Call (.Name x p) (e::es) [] pos) (DZ f r):=by obtain⟨t,h,s⟩:=ha;exact⟨_,L4 hc.1 g hm hv h hn hdb he hpl,gh hc.2 s⟩
def A1 {T:String}{x:Str}{p:Pos}{e:kd}{d:km V->Hp->VK->Prop}{f:AF}{r:AA}(hc:Cf X (.type T) d/\Gu X.K d f)(g:Gl X x)(hm:X.mg x=none)(hv:bootBuiltins x=some (.type T))(ha:SA X (e::es) r)(hn:x≠"__name__" :=by decide)(hdb:(x==("__debug__" :Str))=false:=by decide)(he:starEach (e::es) X.env=(false,eval e X.env)::starEach es X.env:=by rfl)(hpl:(backTo pos (starEach es X.env)).any (·.1)=false:=by rfl):SE X (.Call (.Name x p) (e::es) [] pos) (DZ f r):=by obtain⟨t,h,s⟩:=ha;exact⟨_,JW hc.1 g hm hv h hn hdb he hpl,gh hc.2 s⟩
end
section
variable {X:Cx}
def DG {K:AAY}{T M:kf->Prop}{H:Hp}{v:V}{xs:km PV}(r:Ce K T M H v (.tup xs)):∃a vs,v= .ref a/\LZ K H a vs/\A9 K T M H vs xs:=by
 cases r with
 | tup h r=>exact⟨_,_,rfl,h.sq,r⟩
def gu {K:AAY}{T M:kf->Prop}{H:Hp}{v:V}{xs:km PV}(r:Ce K T M H v (.tup xs)):∃a vs,v= .ref a/\uV K H a vs/\A9 K T M H vs xs:=by
 cases r with
 | tup h r=>exact⟨_,_,rfl,h,r⟩
def C0 {K:AAY}{T M:kf->Prop}{H:Hp}{v:V}{xs:km PV}(r:Ce K T M H v (.lst xs)):∃a vs,v= .ref a/\H a=some (.lst vs)/\¬T a/\¬M a/\A9 K T M H vs xs:=by
 cases r with
 | lst h t m r=>exact⟨_,_,rfl,h,t,m,r⟩
def ga {K:AAY}{T M:kf->Prop}{H:Hp}{v:V}{b:km Int}(r:Ce K T M H v (.scr b)):∃a,v= .ref a/\Fy K H a (b.map V.int):=by
 cases r with
 | scr h=>
   rcases h with⟨h,_,_⟩|h
   .exact ⟨_,rfl, .inl h⟩
   .exact ⟨_,rfl,h H⟩
def Dw:AF:=λxs Q=>match xs with | [.tup ys] =>Q (.int ys.length) | [.lst ys] =>Q (.int ys.length) | [.scr ns] =>Q (.int ns.length)|_=>False
def tJ (K:AAY):km V->Hp->VK->Prop:=λxs H Q=>∃p ys,xs= [.ref p] /\(Fy K H p ys\/LZ K H p ys)/\Q (.int ys.length) H
def CF:Cf X (.builtin "len") (tJ X.K)/\Gu X.K (tJ X.K) Dw:=by
 refine⟨Lg,λT M H b xs Q c va r h k=> ?_⟩;unfold Dw at h;split at h <;> first | exact h.elim|skip
 .rename_i ys;cases r with | cons r t=>cases t;obtain⟨a,vs,rfl,hq,r⟩:=DG r;refine⟨a,vs,rfl, .inr hq, ?_⟩;rw[r.length];exact k _ _ T H (.refl va.tp) (.int _) h
 .rename_i ys;cases r with | cons r t=>cases t;obtain⟨a,vs,rfl,hq,_,_,r⟩:=C0 r;refine⟨a,vs,rfl, .inl (.inl (.inl hq)), ?_⟩;rw[r.length];exact k _ _ T H (.refl va.tp) (.int _) h
 .rename_i d;cases r with | cons r t=>cases t;obtain⟨a,rfl,hq⟩:=ga r;refine⟨a,_,rfl, .inl hq, ?_⟩;rw[AAk];exact k _ _ T H (.refl va.tp) (.int _) h
def Td:AF:=λxs Q=>match xs with | [.int i] =>Q (.int i.natAbs)|_=>False
def NW:Cf X (.builtin "abs") (λxs H Q=>∃i,xs= [.int i] /\Q (.int (if i<0 then -i else i)) H)/\Gu X.K (λxs H Q=>∃i,xs= [.int i] /\Q (.int (if i<0 then -i else i)) H) Td:=by
 refine⟨PZ,λT M H a xs Q b va r h k=> ?_⟩;unfold Td at h;split at h <;> first | exact h.elim|skip
 rename_i i;cases r with
 | cons r t=> cases t;cases r;refine⟨i,rfl, ?_⟩;rw[show (if i<0 then -i else i)=(i.natAbs:Int) by split <;> omega];exact k _ _ T H (.refl va.tp) (.int _) h
def q8 (g:Int->Int->Int):AF:=λxs Q=>match xs with | [.int i, .int j] =>Q (.int (g i j))|_=>False
def pE {g g':Int->Int->Int}(a:∀i j,g i j=g' i j):Gu X.K (λxs H Q=>∃i j,xs= [.int i, .int j] /\Q (.int (g i j)) H) (q8 g'):=by
 intro T M H b xs Q c va r h k;unfold q8 at h;split at h <;> first | exact h.elim|skip
 rename_i i j;cases r with
 | cons r t=>
   cases t with
   | cons r2 t=> cases t;cases r;cases r2;refine⟨i,j,rfl, ?_⟩;rw[a];exact k _ _ T H (.refl va.tp) (.int _) h
def ou (hc:X.calm=true):Cf X (.builtin "min") (λxs H Q=>∃i j,xs= [.int i, .int j] /\Q (.int (if j<i then j else i)) H)/\Gu X.K (λxs H Q=>∃i j,xs= [.int i, .int j] /\Q (.int (if j<i then j else i)) H) (q8 min):=
 ⟨aP hc,pE λi j=>by split <;> omega⟩
def Te:AF:=λxs Q=>match xs with | [.int i] =>Q (.int i) | [.bl k] =>Q (.int (if k then 1 else 0))|_=>False
def NX:Cf X (.type "int") (λxs H Q=>(∃i,xs= [.int i] /\Q (.int i) H)\/∃k,xs= [.bl k] /\Q (.int (if k then 1 else 0)) H)/\Gu X.K (λxs H Q=>(∃i,xs= [.int i] /\Q (.int i) H)\/∃k,xs= [.bl k] /\Q (.int (if k then 1 else 0)) H) Te:=by
 refine⟨Rl,λT M H a xs Q b va r h k=> ?_⟩;unfold Te at h;split at h <;> first | exact h.elim|skip
 .cases r with | cons r t=>cases t;cases r;exact .inl ⟨_,rfl,k _ _ T H (.refl va.tp) (.int _) h⟩
 .cases r with | cons r t=>cases t;cases r;exact .inr ⟨_,rfl,k _ _ T H (.refl va.tp) (.int _) h⟩
def Bx:AF:=λxs Q=>match xs with | [.tup ys] =>Q (.tup ys) | [.lst ys] =>Q (.tup ys)|_=>False
def gK (K:AAY):km V->Hp->VK->Prop:=λxs H Q=>∃p ys,xs= [.ref p] /\((Fy K H p ys/\∀l,H l=none->Q (.ref l) (upd H l (.tup ys)))\/(LZ K H p ys/\Q (.ref p) H))
def Bg:Cf X (.type "tuple") (gK X.K)/\Gu X.K (gK X.K) Bx:=by
 refine⟨Q4,λT M H c xs Q d va r h k=> ?_⟩;unfold Bx at h;split at h <;> first | exact h.elim|skip
 .cases r with | cons r t=>cases t;obtain⟨a,vs,rfl,hq,b⟩:=gu r;exact⟨a,vs,rfl, .inr ⟨hq.sq,k _ _ T H (.refl va.tp) (.tup hq b) h⟩⟩
 .cases r with
  | cons r t=> cases t;obtain⟨a,vs,rfl,hq,_,_,b⟩:=C0 r;refine⟨a,vs,rfl, .inl ⟨.inl (.inl hq),λl hl=> ?_⟩⟩;have s:=Dv.lay (o:= .tup vs) va.tp hl;exact k _ _ T _ s (.tup (.inl Ap) (b.stp s va)) h
def ZF (xs:km PV)(Q:km PV->Prop):Prop:=match xs with | [.tup ys] =>Q ys | [.lst ys] =>Q ys|_=>False
def dF (r:AA):AA:=λτ Q=>r τ λxs=>ZF xs Q
def kM {x:Str}{p pos:Pos}{e:kd}{es:km kd}{r:AA}(n:Gl X x)(hm:X.mg x=none)(hv:bootBuiltins x=some (.type "list"))(ha:SA X (e::es) r)(hn:x≠"__name__" :=by decide)(hdb:(x==("__debug__" :Str))=false:=by decide)(he:starEach (e::es) X.env=(false,eval e X.env)::starEach es X.env:=by rfl)(hpl:(backTo pos (starEach es X.env)).any (·.1)=false:=by rfl):SF X (.Call (.Name x p) (e::es) [] pos) (dF r):=by
 obtain⟨t,o,s⟩:=ha;refine⟨_,JW TX n hm hv o hn hdb he hpl,λB T i τ H Q u j h k=>s B T i τ H _ _ j h λvs xs m c d r1 h1=> ?_⟩;have go:∀(b:km V) (ys:km PV),A9 X.K m (mt B i τ) c b ys->u ys->∀l,c l=none->Q (.ref l) (upd c l (.lst b)):=λb ys v q l hl=>by obtain⟨w,f,y,r2⟩:=Oe (j.stp d) hl v;exact k l b ys m _ (d.trans w) f (d.none hl) Ap y r2 q
 unfold ZF at h1;split at h1 <;> first | exact h1.elim|skip
 .cases r1 with | cons r t=>cases t;obtain⟨a,b,rfl,hq,g⟩:=DG r;exact⟨a,b,rfl, .inr hq,go b _ g h1⟩
 .cases r1 with | cons r t=>cases t;obtain⟨a,b,rfl,hq,_,_,g⟩:=C0 r;exact⟨a,b,rfl, .inl (.inl (.inl hq)),go b _ g h1⟩
def kdOf:PV->ke Kd
 | .non=>some .non | .bl _=>some .bl | .int _=>some .int | .str _=>some .str | .tup _=>some .tup | .lst _=>some .lst | .tape=>none | .scr _=>none | .ty _=>none | .dct _=>none
def Xe:AF:=λxs Q=>match xs with | [x, .ty T] =>Ir T/\(match kdOf x with | some k=>Q (.bl (Jm k T))|none=>False)|_=>False
def NY:Cf X (.builtin "isinstance") (oV X.K)/\Gu X.K (oV X.K) Xe:=by
 refine⟨dO,λT M H c xs Q d va r h k=> ?_⟩;unfold Xe at h;split at h <;> first | exact h.elim|skip
 rename_i x ty;obtain⟨a,h⟩:=h;cases r with
 | cons r t=>
   cases t with
   | cons r2 t=>
     cases t;cases r2;cases r with
     | non=>exact⟨_,_, .non,rfl,a,rfl,k _ _ T H (.refl va.tp) (.bl _) h⟩
     | bl b=>exact⟨_,_, .bl,rfl,a,⟨_,rfl⟩,k _ _ T H (.refl va.tp) (.bl _) h⟩
     | int b=>exact⟨_,_, .int,rfl,a,⟨_,rfl⟩,k _ _ T H (.refl va.tp) (.bl _) h⟩
     | str b=>exact⟨_,_, .str,rfl,a,⟨_,rfl⟩,k _ _ T H (.refl va.tp) (.bl _) h⟩
     | ty b=>exact h.elim
     | tup hq _=>exact⟨_,_, .tup,rfl,a,⟨_,_,rfl,hq.sq⟩,k _ _ T H (.refl va.tp) (.bl _) h⟩
     | lst hq _ _ _=>exact⟨_,_, .lst,rfl,a,⟨_,_,rfl, .inl (.inl hq)⟩,k _ _ T H (.refl va.tp) (.bl _) h⟩
     | tape _=>exact h.elim
     | scr _=>exact h.elim
     | dct _ _ _=>exact h.elim
def Io:km PV->ke (km kc)
 | [] =>some []
 | .bl b::r=>(Io r).map (b :: ·)
 | _=>none
theorem Y0 {K:AAY}{T M:kf->Prop}{H:Hp}:∀{vs:km V} {xs:km PV} {bs:km kc},A9 K T M H vs xs->Io xs=some bs->vs=bs.map V.bl
 | _,_,_, .nil,e=>by simp[Io] at e;subst e;rfl
 | _,_,bs, .cons h t,e=>by cases h <;> simp[Io] at e;obtain⟨c,a,b⟩:=e;subst b;simp[Y0 t a]
def aZ (g:km kc->kc):AF:=λxs Q=>match xs with | [.lst ys] =>(match Io ys with | some bs=>Q (.bl (g bs))|none=>False)|_=>False
def kP {g:km kc->kc}:Gu X.K (j8 X.K g) (aZ g):=by
 intro T M H c xs Q d va r h k;unfold aZ at h;split at h <;> first | exact h.elim|skip
 split at h <;> first | exact h.elim|skip
 rename_i bs e;cases r with
 | cons r t=> cases t;obtain⟨a,f,rfl,hq,_,_,b⟩:=C0 r;have:=Y0 b e;subst this;exact⟨a,bs,rfl, .inl (.inl hq),k _ _ T H (.refl va.tp) (.bl _) h⟩
def oo (hc:X.calm=true):Cf X (.builtin "all") (j8 X.K λbs=>bs.all id)/\Gu X.K (j8 X.K λbs=>bs.all id) (aZ λbs=>bs.all id):=⟨aO hc,kP⟩
def gY:PV->PV->ke kc
 | .non, .non=>some true | .non, .int _=>some false | .int _, .non=>some false | .non, .bl _=>some false | .bl _, .non=>some false | .non, .str _=>some false | .str _, .non=>some false
 | .int i, .int j=>some (decide (i=j)) | .bl i, .bl j=>some (decide (i=j)) | .str i, .str j=>some (decide (i=j))
 | .int _, .str _=>some false | .str _, .int _=>some false | .bl _, .str _=>some false | .str _, .bl _=>some false
 | _,_=>none
def WZ {K:AAY}{T M:kf->Prop}{H:Hp}{u v:V}{x y:PV}{b:kc}(r:Ce K T M H u x)(r2:Ce K T M H v y)(e:gY x y=some b):o6 u v=true/\decide (u=v)=b:=by cases r <;> cases r2 <;> first | (cases e;done)|(cases e;exact⟨rfl,rfl⟩)|(cases e;exact⟨rfl,by simp⟩)
def kq:PV->ke kc
 | .non=>some false | .bl b=>some b | .int i=>some (i != 0) | .tup xs=>some (!xs.isEmpty) | .lst xs=>some (!xs.isEmpty)|_=>none
def mX (a:AE):AT:=λτ Q=>a τ λx=>match kq x with | some b=>Q b|none=>False
def Lu {K:AAY}{T M:kf->Prop}{H:Hp}{vs:km V}{xs:km PV}(r:A9 K T M H vs xs):vs.isEmpty=xs.isEmpty:=by cases r <;> rfl
def pJ {a:kd}{d:AE}(ha:SE X a d)(he:∀whole,isTrue a X.env whole=(do let v <-whole;standAt a.pos;holding [v] (truthy v)):=by intro _;rfl):TJ X a (mX d):=by
 obtain⟨t,p,s⟩:=ha;refine⟨_,gG p he,λB T f τ H Q m g h k=>s B T f τ H _ _ g h λv x i j l r1 h1=> ?_⟩;cases e:kq x with
 | none=>rw[e] at h1;exact h1.elim
 | some b=>
   rw[e] at h1;refine⟨b, ?_,k b i j l h1⟩;cases r1 <;> simp[kq] at e
   .exact e
   .exact e.symm
   .exact e.symm
   .rename_i hq c;exact .inr (.inl ⟨_,hq.sq,by rw[Lu c,e];simp⟩)
   .rename_i hq _ _ c;exact .inl ⟨_, .inl (.inl hq),by rw[Lu c,e];simp⟩
end
structure Hk where
 nx:BC->Prop
 rt:PV->Prop
 bk:BC->Prop
 ct:BC->Prop
abbrev AS:=Hk->BC->Prop
structure GC (T:Addr->Prop) (H:Hp) (σ:L2.St) (τ:BC) (T':Addr->Prop) (H':Hp) (σ':L2.St) (τ':BC):Prop where
 keep:∀b o,¬T b->¬C5 σ τ b->H b=some o->H' b=some o
 sub:∀b,T b->T' b
 new:∀b,T' b->T b\/H b=none
 own:∀b,C5 σ' τ' b->C5 σ τ b\/H b=none
 some:∀b,H b≠none->H' b≠none
section
variable {K:AAY}{B:DJ}{T T' T1 T2:kf->Prop}{H H' H1 H2:Hp}{σ σ' σ1 σ2:L2.St}{τ τ' τ1 τ2:BC}
def GC.refl:GC T H σ τ T H σ τ:=⟨λ_ _ _ _ e=>e,λ_ t=>t,λ_ t=> .inl t,λ_ o=> .inl o,λ_ h=>h⟩
def GC.trans (a:GC T H σ τ T1 H1 σ1 τ1)(b:GC T1 H1 σ1 τ1 T2 H2 σ2 τ2):GC T H σ τ T2 H2 σ2 τ2 where
 keep:=λc o t w e=>b.keep c o (λz=>(a.new c z).elim t λn=>by rw[n] at e;cases e) (λz=>(a.own c z).elim w λn=>by rw[n] at e;cases e) (a.keep c o t w e)
 sub:=λc t=>b.sub c (a.sub c t)
 new:=λc t=>(b.new c t).elim (λz=>a.new c z) λz=> .inr (by
  cases e:H c with
  | none=>rfl
  | some o=>exact absurd z (a.some c (by rw[e];exact λe=>nomatch e)))
 own:=λc t=>(b.own c t).elim (λz=>a.own c z) λz=> .inr (by
  cases e:H c with
  | none=>rfl
  | some o=>exact absurd z (a.some c (by rw[e];exact λe=>nomatch e)))
 some:=λc h=>b.some c (a.some c h)
def Dv.prog (s:Dv T H T' H'):GC T H σ τ T' H' σ τ:=⟨λb o t _ e=>s.keep b o t e,s.sub,s.new,λ_ o=> .inl o,λ_ h=>s.some h⟩
def GC.less (h:∀b,C5 σ' τ' b->C5 σ τ b):GC T H σ τ T H σ' τ':=⟨λ_ _ _ _ e=>e,λ_ t=>t,λ_ t=> .inl t,λb o=> .inl (h b o),λ_ h=>h⟩
structure ER (K:AAY) (B:DJ) (T:Addr->Prop) (H:Hp) (σ:L2.St) (τ:BC) (D:PH) (AD:Hk):Prop where
 nx:∀T' H' σ' τ',GC T H σ τ T' H' σ' τ'->SR K B T' H' σ' τ'->AD.nx τ'->D.nx σ' H'
 bk:∀T' H' σ' τ',GC T H σ τ T' H' σ' τ'->SR K B T' H' σ' τ'->AD.bk τ'->D.bk σ' H'
 ct:∀T' H' σ' τ',GC T H σ τ T' H' σ' τ'->SR K B T' H' σ' τ'->AD.ct τ'->D.ct σ' H'
 rt:∀v x T' H',Dv B.T B.H T' H'->Ce K T' B.M H' v x->AD.rt x->D.rt v H'
def ER.shift {D:PH}{a:Hk}(e:ER K B T H σ τ D a)(p:GC T H σ τ T1 H1 σ1 τ1):ER K B T1 H1 σ1 τ1 D a:=
 ⟨λ_ _ _ _ q=>e.nx _ _ _ _ (p.trans q),λ_ _ _ _ q=>e.bk _ _ _ _ (p.trans q),λ_ _ _ _ q=>e.ct _ _ _ _ (p.trans q),e.rt⟩
end
def dD (K:AAY)(t:TS)(a:AS):Prop:=∀(B:DJ) (T:kf->Prop) (b:L2.St) (τ:BC) (H:Hp) (D:PH) (c:Hk),SR K B T H b τ->a c τ->ER K B T H b τ D c->t D b H
def SS (X:Cx)(st:Stmt)(a:AS):Prop:=∃t,PS X st t/\dD X.K t a
def iL (X:Cx)(st:km Stmt)(a:AS):Prop:=∃t,Yu X st t/\dD X.K t a
def BQ {a:Type}{l:km a}{i j:Nat}{x y:a}(h:(l.set i x)[j]? =some y):(j=i/\y=x/\i<l.length)\/(j≠i/\l[j]? =some y):=by
 by_cases e:j=i
 .subst e;rw[ADc] at h;simp at h;obtain⟨h1,h2⟩:=h;exact .inl ⟨rfl,h2.symm,h1⟩
 .rw [ABL (λz=>e z.symm)] at h;exact .inr ⟨e,h⟩
section
variable {K:AAY}{B:DJ}{T:kf->Prop}{H:Hp}{σ:L2.St}{τ:BC}
def D7 {i:Nat}{v:V}{x:PV}{b:kf}(h:C5 (σ.set i (some v)) (τ.set i (some (.val x))) b):C5 σ τ b:=by
 obtain⟨j,xs,h1,h2⟩:=h;rcases BQ h1 with⟨_,e,_⟩|⟨n,a⟩
 .cases e
 .rw [ABL (λz=>n z.symm)] at h2;exact⟨j,xs,a,h2⟩
def SR.set {i:Nat}{v:V}{x:PV}(s:SR K B T H σ τ)(r:Ce K T (mt B σ τ) H v x):SR K B T H (σ.set i (some v)) (τ.set i (some (.val x))):=by
 have c:Mv K T (mt B σ τ) H T (mt B (σ.set i (some v)) (τ.set i (some (.val x)))) H:= .anti s.va λa m=>m.elim .inl λz=> .inr (D7 z);refine⟨by simp[s.len],λj y e=> ?_,λj ys e=> ?_,λj k ys o p t u h l=> ?_,s.tp,s.bm,s.bt,s.st⟩
 .rcases BQ e with⟨rfl,b,hl⟩|⟨n,b⟩
  .cases b;refine⟨v,by rw[ADc];simp[s.len,hl],r.mv c⟩
  .obtain ⟨w,hw,d⟩:=s.val j y b;exact⟨w,by rw[ABL (λz=>n z.symm)];exact hw,d.mv c⟩
 .rcases BQ e with⟨_,b,_⟩|⟨n,b⟩
  .cases b
  .obtain ⟨p,vs,h1,h2,A,C⟩:=s.own j ys b;exact⟨p,vs,by rw[ABL (λz=>n z.symm)];exact h1,h2,A.mv c,C⟩
 .rcases BQ t with⟨_,b,_⟩|⟨n,f⟩
  .cases b
  .rcases BQ u with⟨_,b,_⟩|⟨D,g⟩
   .cases b
   .rw [ABL (λz=>n z.symm)] at h;rw[ABL (λz=>D z.symm)] at l;exact s.dist j k ys o p f g h l
def Nv {i:Nat}{p:kf}{xs:km PV}{b:kf}(h:C5 (σ.set i (some (.ref p))) (τ.set i (some (.own xs))) b):C5 σ τ b\/b=p:=by
 obtain⟨j,ys,h1,h2⟩:=h;rcases BQ h1 with⟨rfl,e,_⟩|⟨n,a⟩
 .rcases BQ h2 with⟨_,c,_⟩|⟨n,_⟩
  .cases c;exact .inr rfl
  .exact absurd rfl n
 .rw [ABL (λz=>n z.symm)] at h2;exact .inl ⟨j,ys,a,h2⟩
def SR.take {i:Nat}{p:kf}{vs:km V}{xs:km PV}(s:SR K (B.add p) T H σ τ)(hp:H p=some (.lst vs))(C:¬T p)(u:¬C5 σ τ p)(D:¬B.M p)(E:B.H p=none)(r:A9 K T (mt (B.add p) σ τ) H vs xs):SR K B T H (σ.set i (some (.ref p))) (τ.set i (some (.own xs))):=by
 have h:Mv K T (mt (B.add p) σ τ) H T (mt B (σ.set i (some (.ref p))) (τ.set i (some (.own xs)))) H:= .anti s.va λa m=>by
  rcases m with m|m
  .exact .inl (.inl m)
  .rcases Nv m with z|z
   .exact .inr z
   .exact .inl (.inr z)
 refine⟨by simp[s.len],λj y e=> ?_,λj ys e=> ?_,λj k ys v q F x g d=> ?_,s.tp,λa m=>s.bm a (.inl m),λa m=>s.bt a (.inl m),s.st⟩
 .rcases BQ e with⟨_,b,_⟩|⟨n,b⟩
  .cases b
  .obtain ⟨w,hw,l⟩:=s.val j y b;exact⟨w,by rw[ABL (λz=>n z.symm)];exact hw,l.mv h⟩
 .rcases BQ e with⟨rfl,b,hl⟩|⟨n,b⟩
  .cases b;exact⟨p,vs,by rw[ADc];simp[s.len,hl],hp,r.mv h,E,C,D⟩
  .obtain ⟨q,G,h1,h2,I,J,L,N⟩:=s.own j ys b;exact⟨q,G,by rw[ABL (λz=>n z.symm)];exact h1,h2,I.mv h,J,L,λz=>N (.inl z)⟩
 .rcases BQ F with⟨A,_,_⟩|⟨n,f⟩
  .rcases BQ x with⟨o,_,_⟩|⟨t,c⟩
   .rw [A,o]
   .subst A;rw[ABL (λz=>t z.symm)] at d;rcases BQ g with⟨_,b,_⟩|⟨n,_⟩
    .cases b;exact absurd ⟨k,v,c,d⟩ u
    .exact absurd rfl n
  .rw [ABL (λz=>n z.symm)] at g;rcases BQ x with⟨o,_,_⟩|⟨t,c⟩
   .subst o;rcases BQ d with⟨_,b,_⟩|⟨n,_⟩
    .cases b;exact absurd ⟨j,ys,f,g⟩ u
    .exact absurd rfl n
   .rw [ABL (λz=>t z.symm)] at d;exact s.dist j k ys v q f c g d
def SR.write {i:Nat}{p:kf}{N vs:km V}{xs ys:km PV}(s:SR K B T H σ τ)(g:τ[i]? =some (some (.own xs)))(hs:σ[i]? =some (some (.ref p)))(hp:H p=some (.lst N))(r:A9 K T (mt B σ τ) H vs ys):SR K B T (upd H p (.lst vs)) σ (τ.set i (some (.own ys)))/\GC T H σ τ T (upd H p (.lst vs)) σ (τ.set i (some (.own ys))):=by
 obtain⟨R,O,I,S,U,J,E,L⟩:=s.own i xs g;rw[hs] at I;cases I;have W:σ.set i (some (.ref p))=σ:=by
  apply List.ext_getElem?;intro k;by_cases hk:i=k
  .subst hk;rw[ADc,hs];simp[(ABC.mp hs).1]
  .rw [ABL hk]
 have l:C5 σ τ p:=⟨i,xs,g,hs⟩;have M:∀b,C5 σ (τ.set i (some (.own ys))) b->C5 σ τ b:=λb h=>by
  obtain⟨j,f,h1,h2⟩:=h;rcases BQ h1 with⟨rfl,e,_⟩|⟨n,C⟩
  .exact ⟨j,xs,g,h2⟩
  .exact ⟨j,f,C,h2⟩
 have F:Mv K T (mt B σ τ) H T (mt B σ (τ.set i (some (.own ys)))) (upd H p (.lst vs)):=⟨s.va,λb o _ m e=>by
  rw[Ao (λz=>m (by subst z;exact .inr l))];exact e,λ_ t=>t,λ_ _ t=>t,λb _ m=>m.elim .inl λz=> .inr (M b z)⟩
 refine⟨⟨by simp[s.len],λj y e=> ?_,λj f e=> ?_,λj k f D q h1 h2 u A=> ?_,λa t=> ?_,λa m=> ?_,s.bt, ?_⟩,⟨λb o t w e=>by rw[Ao (λz=>w (by subst z;exact l))];exact e,λ_ t=>t,λ_ t=> .inl t,λb o=> .inl (M b o),λb h=> ?_⟩⟩
 .rcases BQ e with⟨_,c,_⟩|⟨n,c⟩
  .cases c
  .obtain ⟨v,h,P⟩:=s.val j y c;exact⟨v,h,P.mv F⟩
 .rcases BQ e with⟨rfl,c,_⟩|⟨n,c⟩
  .cases c;exact⟨p,vs,hs,Ap,r.mv F,J,E,L⟩
  .obtain ⟨q,D,h1,h2,u,A⟩:=s.own j f c;have hq:q≠p:=λz=>by subst z;exact n (s.dist j i f xs q c g h1 hs)
   exact⟨q,D,h1,by rw[Ao hq];exact h2,u.mv F,A⟩
 .rcases BQ h1 with⟨rfl,_,_⟩|⟨n,C⟩
  .rcases BQ h2 with⟨rfl,_,_⟩|⟨Q,G⟩
   .rfl
   .exact s.dist _ k xs D q g G u A
  .rcases BQ h2 with⟨rfl,_,_⟩|⟨Q,G⟩
   .exact s.dist j _ f xs q C g u A
   .exact s.dist j k f D q C G u A
 .obtain ⟨d,x,e,z⟩:=s.tp a t;exact⟨d,x,by rw[Ao (λw=>by subst w;exact E t)];exact e,z⟩
 .obtain ⟨o,e,z⟩:=s.bm a m;exact⟨o,by rw[Ao (λw=>by subst w;exact L m)];exact e,z⟩
 .refine ⟨λb o t e=> ?_,s.st.sub,s.st.new,λa t=> ?_⟩
  .rw [Ao (λw=>by subst w;rw[J] at e;cases e)];exact s.st.keep b o t e
  .obtain ⟨d,x,e,z⟩:=s.tp a t;exact⟨d,x,by rw[Ao (λw=>by subst w;exact E t)];exact e,z⟩
 .by_cases z:b=p
  .subst z;rw[Ap];exact λe=>nomatch e
  .rw [Ao z];exact h
end
section
variable {X:Cx}{st:Stmt}{rest:km Stmt}{e:kd}{pos:Pos}{a b:AS}{ta:AE}
def Qz (ta:AE):AE:=λτ Q=>ta (frz τ) λx=>V4 x=true/\Q x
def Kz (h:SE X e ta):SE X e (Qz ta):=by obtain⟨t,p,s⟩:=h;refine⟨t,p,λB T c τ H Q j d h k=>s B T c (frz τ) H _ _ d.frz h λv x f g i r1 h1=> ?_⟩;exact k v x f g i (r1.free h1.1) h1.2
def VX (c:AT):AT:=λτ Q=>c (frz τ) Q
def gw {c:AT}(h:TJ X e c):TJ X e (VX c):=by obtain⟨t,p,s⟩:=h;exact⟨t,p,λB T d τ H Q l f h k=>s B T d (frz τ) H _ _ f.frz h λb g i j h1=>k b g i j h1⟩
def Ay:AS:=λD τ=>D.nx τ
def AZ (a b:AS):AS:=λD τ=>a {D with nx:=b D} τ
def Al:iL X [] Ay:=⟨_,Ol,λB T c τ H D g d h f=>f.nx T H c τ .refl d h⟩
def AL (h1:SS X st a)(h2:iL X rest b):iL X (st::rest) (AZ a b):=by obtain⟨t,p,s⟩:=h1;obtain⟨t',i,j⟩:=h2;exact⟨_,CL p i,λB T k τ H D l m h c=>s B T k τ H _ _ m h ⟨λn o d f q g h'=>j B n d f o D l g h' (c.shift q),c.bk,c.ct,c.rt⟩⟩
def AR (h1:SS X st a):iL X [st] a:=let ⟨_,p,s⟩:=h1;⟨_,F7 p,s⟩
def As (ta:AE):AS:=λD τ=>ta (frz τ) D.rt
def AX (h:SE X e ta):SS X (.Return (some e) pos) (As ta):=by obtain⟨t,p,s⟩:=h;refine⟨_,QJ p,λB T f τ H D k c h g=>s B T f (frz τ) H _ _ c.frz h λv x i j d r1 h1=> ?_⟩;exact g.rt v x i j (c.st.trans d) (r1.mv (.anti (c.frz.stp d).va λa m=> .inl m)) h1
def BI (c:AT)(a b:AS):AS:=λD τ=>c τ λk=>if k=true then a D τ else b D τ
def Ax {c:kd}{x y:km Stmt}{l:AT}(hc:TJ X c l)(ha:iL X x a)(hb:iL X y b):SS X (.If c x y pos) (BI l a b):=by
 obtain⟨t,p,s⟩:=hc;obtain⟨t1,p1,f⟩:=ha;obtain⟨t2,p2,g⟩:=hb;refine⟨_,Ze p p1 p2,λB T i τ H D m j h n=>s B T i τ H _ _ j h λk o r d h1=> ?_⟩;cases k with
 | true=>rw[AAb rfl] at h1 ⊢;exact f B o i τ r D m (j.stp d) h1 (n.shift d.prog)
 | false=>rw[AAa AAs] at h1 ⊢;exact g B o i τ r D m (j.stp d) h1 (n.shift d.prog)
abbrev AG:=PV->BC->(BC->Prop)->Prop
abbrev Wy:=km PV->BC->(BC->Prop)->Prop
def LY (K:AAY)(g:TG)(ag:AG):Prop:=∀(B:DJ) (T:kf->Prop) (f:L2.St) (τ:BC) (H:Hp) (v:V) (x:PV) (Q:L2.St->Hp->Prop) (h:BC->Prop),SR K B T H f τ->Ce K T (mt B f τ) H v x->ag x τ h->
 (∀c d,SR K B T H c d->(∀b,C5 c d b->C5 f τ b)->h d->Q c H)->g v f H Q
def Re (K:AAY)(g:XD)(ag:Wy):Prop:=∀(B:DJ) (T:kf->Prop) (f:L2.St) (τ:BC) (H:Hp) (vs:km V) (xs:km PV) (Q:L2.St->Hp->Prop) (h:BC->Prop),SR K B T H f τ->A9 K T (mt B f τ) H vs xs->ag xs τ h->
 (∀c d,SR K B T H c d->(∀b,C5 c d b->C5 f τ b)->h d->Q c H)->g vs f H Q
def SG (X:Cx)(c:kd)(ag:AG):Prop:=∃g,PG X c g/\LY X.K g ag
def uT (X:Cx)(c:km kd)(ag:Wy):Prop:=∃g,pj X c g/\Re X.K g ag
def Aq (i:Nat):AG:=λx τ Q=>Q (τ.set i (some (.val x)))
def Uc {K:AAY}{i:Nat}:LY K (Di i) (Aq i):=λB T d τ H v x Q f c r h k=>k _ _ (c.set r) (λb o=>D7 o) h
def EN {i:Nat}{x:Str}(hN:X.N.Nodup)(hi:X.N[i]? =some x)(hx:Loc X.env.scope x)(c:X.fn x=true\/X.env.scope.names.lookup x=some .local:=by first | exact .inl rfl|exact .inr rfl|assumption):SG X (.Name x pos) (Aq i):=
 ⟨_,L5 hN hi hx c,Uc⟩
def Bw:Wy:=λxs τ Q=>match xs with | [] =>Q τ|_=>False
def Af (g:AG)(r:Wy):Wy:=λxs τ Q=>match xs with | x::t=>g x τ λc=>r t c Q | [] =>False
def Wh {K:AAY}:Re K Vj Bw:=λB T c τ H vs xs Q f d r h k=>by
 cases r with
 | nil=>exact⟨rfl,k c τ d (λ_ o=>o) h⟩
 | cons _ _=>exact h.elim
def SB {K:AAY}{g:TG}{p:XD}{ag:AG}{c:Wy}(h1:LY K g ag)(h2:Re K p c):Re K (F4 g p) (Af ag c):=λB T v τ H vs xs Q w s r h k=>by
 cases r with
 | nil=>exact h.elim
 | cons r t=> refine⟨_,_,rfl,h1 B T v τ H _ _ _ _ s r h λd f i u x=> ?_⟩;exact h2 B T d f H _ _ Q w i (t.mv (.anti s.va λa m=>m.elim .inl λz=> .inr (u a z))) x λj l n y A=>k j l n (λb o=>u b (y b o)) A
def Bn:uT X [] Bw:=⟨_,UK,Wh⟩
def Ad {es:km kd}{ag:AG}{c:Wy}(h1:SG X e ag)(h2:uT X es c)(hs:(assignEach (e::es) X.env).map (·.2)=assign e X.env::(assignEach es X.env).map (·.2):=by rfl):uT X (e::es) (Af ag c):=
 let ⟨_,p,s⟩:=h1;let ⟨_,d,f⟩:=h2;⟨_,Iz p d hs,SB s f⟩
def Aj (ta:AE)(g:AG):AS:=λD τ=>ta τ λx=>g x τ D.nx
def Ua {K:AAY}{t:TE}{g:TG}{ag:AG}(s:Fj K t ta)(n:LY K g ag):dD K (Wm t g) (Aj ta ag):=λB T i τ H D u j h o=>s B T i τ H _ _ j h λv x k l m r1 h1=>
 n B k i τ l v x _ _ (j.stp m) r1 h1 λc d f p r=>o.nx k l c d (m.prog.trans (.less p)) f r
def Em {c:kd}{ag:AG}(he:SE X e ta)(d:SG X c ag)(hs:swapsWithSole [c] e pos.line X.env=pure false:=by rfl)(hw:swappedStores [c] e X.env=pure none:=by rfl)(h1:(assignEach [c] X.env).map (·.2)= [assign c X.env] :=by rfl):SS X (.Assign [c] e pos) (Aj ta ag):=
 let ⟨_,p,s⟩:=he;let ⟨_,f,g⟩:=d;⟨_,UL p f hs hw h1,Ua s g⟩
def Hh {i:Nat}{x:Str}{pos':Pos}(hN:X.N.Nodup)(hi:X.N[i]? =some x)(hx:Loc X.env.scope x)(he:SE X e ta)(hs:swapsWith e (some (.Name x pos')) pos.line X.env=pure false:=by rfl)(c:X.fn x=true\/X.env.scope.names.lookup x=some .local:=by first | exact .inl rfl|exact .inr rfl|assumption):SS X (.Assign [.Name x pos'] e pos) (Aj ta (Aq i)):=let ⟨_,p,s⟩:=he;⟨_,GH hN hi hx p hs c,Ua s Uc⟩
def II (r:AA)(i:Nat):AS:=λD τ=>r τ λxs=>D.nx (τ.set i (some (.own xs)))
def kS {K:AAY}{t:TE}{r:AA}{i:Nat}(s:dC K t r):dD K (Wm t (Di i)) (II r i):=λB T g τ H D v c h j=>s B T g τ H _ _ c h λp vs xs k l d f hn hp m r1 h1=>by
 have n:¬C5 g τ p:=λo=>by obtain⟨_,e,_⟩:=c.ownH o;rw[hn] at e;cases e
 have u:¬B.M p:=λo=>by obtain⟨_,e,_⟩:=c.bm p o;rw[hn] at e;cases e
 refine j.nx k l _ _ ⟨λb o t _ e=>d.keep b o t e,d.sub,d.new,λb o=> ?_,λb h=>d.some h⟩ (f.take hp m n u (c.st.none hn) r1) h1;rcases Nv o with z|z
 .exact .inl z
 .subst z;exact .inr hn
def D4 {i:Nat}{x:Str}{pos':Pos}{r:AA}(hN:X.N.Nodup)(hi:X.N[i]? =some x)(hx:Loc X.env.scope x)(he:SF X e r)(hs:swapsWith e (some (.Name x pos')) pos.line X.env=pure false:=by rfl)(c:X.fn x=true\/X.env.scope.names.lookup x=some .local:=by first | exact .inl rfl|exact .inr rfl|assumption):SS X (.Assign [.Name x pos'] e pos) (II r i):=let ⟨_,p,s⟩:=he;⟨_,GH hN hi hx p hs c,kS s⟩
def Q0 (i j:Nat)(r:AA):AS:=λD τ=>r τ λxs=>match xs with | [x,y] =>D.nx ((τ.set i (some (.val x))).set j (some (.val y)))|_=>False
def Nb {i j:Nat}{x y:Str}{c d:kd}{r:AA}{g k l:Pos}{kt k2 pt2}(hc:X.calm=true)(hN:X.N.Nodup)(hi:X.N[i]? =some x)(hj:X.N[j]? =some y)(v:i≠j)(hx:X.env.scope.names.lookup x=some .local)(hy:X.env.scope.names.lookup y=some .local)(ha:SA X [c,d] r)(hw:swappedStores [.Tuple [.Name x g, .Name y k] kt l] (.Tuple [c,d] k2 pt2) X.env=pure (some [x,y]))(hs:swapsWithSole [.Tuple [.Name x g, .Name y k] kt l] (.Tuple [c,d] k2 pt2) pos.line X.env=pure false:=by rfl):SS X (.Assign [.Tuple [.Name x g, .Name y k] kt l] (.Tuple [c,d] k2 pt2) pos) (Q0 i j r):=by
 obtain⟨t,p,s⟩:=ha;refine⟨_,oP hc hN hi hj v hx hy p hw hs,λB T w τ H D I n h A=>s B T w τ H _ _ n h λvs xs C E u r1 h1=> ?_⟩;cases r1 with
 | nil=>exact h1.elim
 | cons ra ta=>
   cases ta with
   | nil=>exact h1.elim
   | cons F G=>
     cases G with
     | cons _ _=>exact h1.elim
     | nil=> have f:=n.stp u;refine⟨_,_,rfl,A.nx C E _ _ ?_ ((f.set (i:=i) ra).set (i:=j) (F.mv (.anti f.va λa m=>m.elim .inl λz=> .inr (D7 z)))) h1⟩;exact u.prog.trans (.less λb o=>D7 (D7 o))
def XE (i:Nat)(f:Ik)(ta:AE):AS:=λD τ=>match Tw τ i with | some (.val x)=>ta τ λy=>f x y λz=>D.nx (τ.set i (some (.val z)))|_=>False
def gv {i:Nat}{x:Str}{op:Operator}{g:qh}{f:Ik}{pos':Pos}(hN:X.N.Nodup)(hi:X.N[i]? =some x)(hx:Loc X.env.scope x)(he:SE X e ta)(j:pk X op g/\B8 X.K g f)(l:X.fn x=true\/X.env.scope.names.lookup x=some .local:=by first | exact .inl rfl|exact .inr rfl|assumption):SS X (.AugAssign (.Name x pos') op e pos) (XE i f ta):=by
 obtain⟨t,p,s⟩:=he;refine⟨_,oO hN hi hx p j.1 l,λB T m τ H D G c h n=> ?_⟩;unfold XE at h;split at h <;> first | exact h.elim|skip
 rename_i y r;obtain⟨v,ev,rv⟩:=c.val i y (NC r);refine⟨v,ev,s B T m τ H _ _ c h λw z A C d r1 h1=> ?_⟩;refine j.2 A _ C v w y z _ _ (c.stp d).va (rv.stp d c.va) r1 h1 λu q E F k r2 h2=> ?_;exact n.nx E F _ _ ((d.trans k).prog.trans (.less λb o=>D7 o)) (((c.stp d).stp k).set r2) h2
def pC:pk X .Add (wT λi j=>i+j)/\B8 X.K (wT λi j=>i+j) qy:=⟨nL,λT M H u v x y Q d va c rv h k=>by
 obtain⟨i,j,rfl,rfl,q⟩:=Oh h;exact⟨i,j,c.toI,rv.toI,k _ _ T H (.refl va.tp) (.int _) q⟩⟩
def Ld (i:Nat)(τ:BC)(R:km PV->Prop):Prop:=match Tw τ i with | some (.own xs)=>R xs|_=>False
def TL {i:Nat}{τ:BC}{R:km PV->Prop}(h:Ld i τ R):∃xs,τ[i]? =some (some (.own xs))/\R xs:=by
 unfold Ld at h;cases e:Tw τ i with
 | none=>rw[e] at h;exact h.elim
 | some z=>
   rw[e] at h;cases z with
   | val x=>exact h.elim
   | own xs=>exact⟨xs,NC e,h⟩
abbrev mS:=km PV->km PV->(km PV->Prop)->Prop
def ig (K:AAY)(r:V->km V->Hp->VK->Prop)(f:mS):Prop:=∀(T M:kf->Prop) (H:Hp) (l:kf) (g vs:km V) (xs ys:km PV) (Q:VK) (h:km PV->Prop),H l=some (.lst g)->A9 K T M H g xs->A9 K T M H vs ys->f xs ys h->
 (∀c d,A9 K T M H c d->h d->Q .non (upd H l (.lst c)))->r (.ref l) vs H Q
def Fl (i:Nat)(f:mS)(r:AA):AS:=λD τ=>Ld i τ λxs=>r τ λys=>f xs ys λc=>D.nx (τ.set i (some (.own c)))
def gk {K:AAY}{i:Nat}{l:V->km V->Hp->VK->Prop}{f:mS}{t:TA}{r:AA}(hm:ig K l f)(s:mU K t r):dD K (l9 (zG K "list" l (G3 i) t)) (Fl i f r):=λB T m τ H D C d h v=>by obtain⟨xs,e,h⟩:=TL h;obtain⟨p,vs,n,hp,r1,E,o,F⟩:=d.own i xs e;refine⟨.ref p,n, .inl ⟨rfl,vs, .inl (.inl hp)⟩,s B T m τ H _ _ d h λw ys u x c r2 h2=> ?_⟩;have g:=d.stp c;refine hm u (mt B m τ) x p vs w xs ys _ _ (c.keep _ _ o hp) (r1.stp c d.va) r2 h2 λy G z A=> ?_;obtain⟨j,k⟩:=g.write (i:=i) (xs:=xs) e n (c.keep _ _ o hp) z;exact v.nx u _ _ _ (c.prog.trans k) j A
def EO {i:Nat}{x name:Str}{es:km kd}{id:String}{d:V->km V->Hp->VK->Prop}{f:mS}{r:AA}{p apos c:Pos}(slot:Slot "list" name id)(g:typeOf (.builtin id)=pure (.type "method_descriptor"))(hm:qb X id d/\ig X.K d f)(ha:SA X (e::es) r)(hN:X.N[i]? =some x:=by rfl)(hv:lH X.env.scope x:=by first | exact Or.inl rfl|exact Or.inr (Or.inl rfl)|exact Or.inr (Or.inr rfl))(hd:(x==("__debug__" :Str))=false:=by decide)(h:(x==("__classdict__" :Str))=false:=by decide)(j:attributeBase (.Name x p) name X.env (eval (.Name x p) X.env)=eval (.Name x p) X.env:=by rfl)(k:((backTo c (starEach (e::es) X.env)).all (λx=> !x.1)&&(backToKw c (keywordEach [] X.env)).all (λx=>x.1.isSome) && decide ((e::es).length+([] :km Keyword).length+(if ([] :km Keyword).isEmpty then 0 else 1)<30))=true:=by rfl)(l:(apos.endLine==c.line)=true:=by rfl)(hs:starEach (e::es) X.env=(false,eval e X.env)::starEach es X.env:=by rfl)(m:(backTo c (starEach es X.env)).any (·.1)=false:=by rfl)(n:swapsWith (.Call (.Attribute (.Name x p) name apos) (e::es) [] c) none pos.line X.env=pure false:=by rfl):SS X (.Expr (.Call (.Attribute (.Name x p) name apos) (e::es) [] c) pos) (Fl i f r):=by obtain⟨t,o,s⟩:=ha;exact⟨_,j6 (so PySem.F.plainAttrs_list slot g hm.1 (QH hN hv hd h) o j k l hs m) n,gk hm.2 s⟩
def NA:mS:=λxs ys Q=>match ys with | [y] =>xs.length<sizeLine/\Q (xs ++ [y])|_=>False
def DQ:qb X "list.append" UM/\ig X.K UM NA:=by
 refine⟨JU,λT M H l c vs xs ys Q f hl r1 r2 h k=> ?_⟩;unfold NA at h;split at h <;> first | exact h.elim|skip
 cases r2 with
 | cons d t=> cases t;exact⟨l,c,_,rfl,rfl,hl,by rw[r1.length];exact h.1,k _ _ (r1.append (.cons d .nil)) h.2⟩
def fL:mS:=λxs ys Q=>match ys with | [.int i,y] =>(0<=i/\i<=(xs.length:Int)/\xs.length<sizeLine)/\Q (xs.take i.toNat++y::xs.drop i.toNat)|_=>False
def SC:qb X "list.insert" UN/\ig X.K UN fL:=by
 refine⟨bO,λT M H l c vs xs ys Q j hl r1 r2 h k=> ?_⟩;unfold fL at h;split at h <;> first | exact h.elim|skip
 cases r2 with
 | cons d t=>
   cases t with
   | cons f t=> cases t;cases d;obtain⟨⟨h1,h2,g⟩,i⟩:=h;exact⟨l,c,_,_,rfl,rfl,hl,h1,by rw[r1.length];exact h2,by rw[r1.length];exact g,k _ _ ((r1.take _).append (.cons f (r1.drop _))) i⟩
def frz1 (i:Nat)(τ:BC):BC:=match Tw τ i with | some (.own xs)=>τ.set i (some (.val (.lst xs)))|_=>τ
def SR.frz1 {K:AAY}{B:DJ}{T:kf->Prop}{H:Hp}{c:L2.St}{τ:BC}(s:SR K B T H c τ)(i:Nat):SR K B T H c (frz1 i τ)/\∀b,C5 c (PL.frz1 i τ) b->C5 c τ b:=by
 unfold PL.frz1;split
 .rename_i xs e;have e:=NC e;obtain⟨p,vs,f,hp,r1,E,w,x⟩:=s.own i xs e;have F:c.set i (some (.ref p))=c:=by
   apply List.ext_getElem?;intro k;by_cases hk:i=k
   .subst hk;rw[ADc,f];simp[(ABC.mp f).1]
   .rw [ABL hk]
  have l:∀b,C5 c (τ.set i (some (.val (.lst xs)))) b->C5 c τ b/\b≠p:=λb h=>by
   obtain⟨j,ys,h1,h2⟩:=h;rcases BQ h1 with⟨_,d,_⟩|⟨n,g⟩
   .cases d
   .exact ⟨⟨j,ys,g,h2⟩,λz=>by subst z;exact n (s.dist j i ys xs b g e h2 f)⟩
  have r:Mv K T (mt B c τ) H T (mt B c (τ.set i (some (.val (.lst xs))))) H:= .anti s.va λa m=>m.elim .inl λz=> .inr (l a z).1;refine⟨⟨by simp[s.len],λj y h=> ?_,λj ys h=> ?_,λj k ys A q h1 h2 t u=> ?_,s.tp,s.bm,s.bt,s.st⟩,λb h=>(l b h).1⟩
  .rcases BQ h with⟨rfl,d,_⟩|⟨n,h'⟩
   .cases d;exact⟨.ref p,f, .lst hp w (λz=>z.elim x λo=>(l p o).2 rfl) (r1.mv r)⟩
   .obtain ⟨v,hv,rv⟩:=s.val j y h';exact⟨v,hv,rv.mv r⟩
  .rcases BQ h with⟨_,d,_⟩|⟨n,h'⟩
   .cases d
   .obtain ⟨q,C,h1,h2,t,u⟩:=s.own j ys h';exact⟨q,C,h1,h2,t.mv r,u⟩
  .rcases BQ h1 with⟨_,d,_⟩|⟨n,g⟩
   .cases d
   .rcases BQ h2 with⟨_,d,_⟩|⟨G,D⟩
    .cases d
    .exact s.dist j k ys A q g D t u
 .exact ⟨s,λ_ o=>o⟩
def il (i:Nat)(a:AS):AS:=λD τ=>a D (frz1 i τ)
def pH (i:Nat)(h:SS X st a):SS X st (il i a):=by obtain⟨t,p,s⟩:=h;refine⟨t,p,λB T d τ H D f g h j=> ?_⟩;obtain⟨c,k⟩:=g.frz1 i;exact s B T d (frz1 i τ) H D f c h (j.shift (.less k))
def ZY (o:ke Nat)(R:Nat->Prop):Prop:=match o with | some j=>R j|none=>False
def n8 {o:ke Nat}{R:Nat->Prop}(h:ZY o R):∃z,o=some z/\R z:=by cases o <;> first | exact⟨_,rfl,h⟩|exact h.elim
def Q1 (i:Nat)(c ta:AE):AS:=λD τ=>ta τ λy=>Ld i τ λxs=>c τ λk=>fY k λk=>ZY (Pt xs.length k) λj=>D.nx (τ.set i (some (.own (xs.set j y))))
def K4 {i:Nat}{x:Str}{ix:kd}{z:AE}{p c:Pos}(hi:SE X ix z)(he:SE X e ta)(hN:X.N[i]? =some x:=by rfl)(hv:lH X.env.scope x:=by first | exact Or.inl rfl|exact Or.inr (Or.inl rfl)|exact Or.inr (Or.inr rfl))(hd:(x==("__debug__" :Str))=false:=by decide)(I:(x==("__classdict__" :Str))=false:=by decide)(ha:∀v,assign (.Subscript (.Name x p) ix c) X.env v=(do
   let l <-holding [v] (eval (.Name x p) X.env);let m <-holding [v,l] (eval ix X.env)
   standAt c
   holding [v,l,m] (setItem l m v)
   release [v,l,m] []):=by intro _;rfl)(hs:swapsWithSole [.Subscript (.Name x p) ix c] e pos.line X.env=pure false:=by rfl)(hw:swappedStores [.Subscript (.Name x p) ix c] e X.env=pure none:=by rfl)(h1:(assignEach [.Subscript (.Name x p) ix c] X.env).map (·.2)= [assign (.Subscript (.Name x p) ix c) X.env] :=by rfl):SS X (.Assign [.Subscript (.Name x p) ix c] e pos) (Q1 i z ta):=by obtain⟨t,J,s⟩:=hi;obtain⟨t',n,K⟩:=he;refine⟨_,UL n (YH (QH hN hv hd I) J Qe ha) hs hw h1,λB T A τ H D S C h L=>K B T A τ H _ _ C h λv y M O E r1 h1=> ?_⟩;have d:=C.stp E;obtain⟨xs,e,h1⟩:=TL h1;obtain⟨q,vs,F,hp,r2,U,G,W⟩:=d.own i xs e;refine⟨.ref q,F,s B M A τ O _ _ d h1 λw k P Y f Q g=> ?_⟩;obtain⟨k,rfl,g⟩:=UH g;obtain⟨j,R,g⟩:=n8 g;cases Q.toI;have o:=d.stp f;obtain⟨r,u⟩:=o.write (i:=i) (xs:=xs) e F (f.keep _ _ G hp) (((r2.stp f d.va)).set (r1.stp f d.va) j);exact⟨q,vs,k,j,rfl,rfl,f.keep _ _ G hp,by rw[r2.length];exact R,L.nx P _ _ _ ((E.trans f).prog.trans u) r g⟩
end
section
variable {X:Cx}{st:Stmt}{e:kd}{pos:Pos}{a b:AS}{ta:AE}
def Wt (c:AT)(b:AS)(D:Hk):Nat->BC->Prop
 | 0,_=>False
 | n+1,τ=>c (frz τ) λk=>if k=true then b {D with nx:=Wt c b D n,ct:=Wt c b D n,bk:=D.nx} τ else D.nx τ
def Ms (c:AT)(b:AS):AS:=λD τ=>∃n,Wt c b D n τ
def MJ {c:kd}{body:km Stmt}{y:AT}(hp:PassesOwn (model X.prog X.w) X.A X.env X.xe)(hc:TJ X c y)(hb:iL X body b):SS X (.While c body [] pos) (Ms y b):=by
 obtain⟨t,p,s⟩:=hc;obtain⟨t',M,N⟩:=hb;refine⟨_,gE hp p M,λB T F τ H D G O h I=> ?_⟩;obtain⟨n,h⟩:=h;refine⟨λm g z=>∃C d,SR X.K B C z g d/\GC T H F τ C z g d/\Wt y b G m d,⟨n,T,τ,O, .refl,h⟩, ?_⟩;rintro m g z ⟨C,d,r,j,h1⟩;cases m with
 | zero=>exact h1.elim
 | succ m=>
   refine s B C g (frz d) z _ _ r.frz h1 λk J L E h2=> ?_;have u:=r.stp E;have v:=(I.shift j).shift E.prog;cases k with
   | false=>rw[AAa AAs] at h2 ⊢;exact v.nx J L g d .refl u h2
   | true=> rw[AAb rfl] at h2 ⊢;refine⟨λi x=>∃o f,SR X.K B o x i f/\GC T H F τ o x i f/\Wt y b G m f,λi x q=>⟨m,Nat.lt_succ_self m,q⟩, ?_⟩;exact N B J g d L _ _ u h2 ⟨λo x i f q l h'=>⟨o,f,l,(j.trans E.prog).trans q,h'⟩,v.nx,λo x i f q l h'=>⟨o,f,l,(j.trans E.prog).trans q,h'⟩,I.rt⟩
abbrev AI:=BC->(km PV->Prop)->Prop
structure VS (K:AAY) (M:Addr->Prop) (J:It) (xs:List PV) (T:Addr->Prop) (H:Hp):Prop where
 go:∀i y,xs[i]? =some y->J.go i H
 yld:∀i y v H',xs[i]? =some y->J.yld i H v H'->Dv T H T H'/\Ce K T M H' v y
 stop:∀i,xs.length<=i->J.stop i H
def Yr (T:kf->Prop)(H c:Hp):Prop:=∀b o,¬T b->H b=some o->c b=some o
def aK (K:AAY)(s:kc)(j:TI)(k:AI):Prop:=∀(B:DJ) (T:kf->Prop) (f:L2.St) (τ:BC) (H:Hp) (R:It->Hp->Prop) (i:km PV->Prop),SR K B T H f τ->k τ i->
 (∀J xs g c,Dv T H g c->(∀M2 h d,Mv K g (mt B f τ) c h M2 d->IH h M2 d->(s=true\/Yr g c d)->VS K M2 J xs h d)->i xs->R J c)->j f H R
def SI (X:Cx)(d iter:kd)(s:kc)(f:AI):Prop:=∃c,PI X d iter c/\aK X.K s c f
def rq (K:AAY)(d:TE):TI:=λf H R=>d f H λx c=>∃a,x= .ref a/\(((∃xs,Fy K c a xs)/\R (vP K a) c)\/((∃xs,LZ K c a xs)/\R (vQ K a) c))
def YI {j l:kd}{g:TE}(hl:PE X l g):PI X j l (rq X.K g):=by
 intro Tb s k H R I h;refine Bi (hl Tb s k H _ I h) λv c ⟨x,i,d,r1,m⟩=> ?_;obtain⟨a,e,q⟩:=m;subst e;cases r1;rcases q with⟨⟨xs,hq⟩,q⟩|⟨⟨xs,hq⟩,q⟩
 .obtain ⟨f,rv,p,hz⟩:=d.list hq;refine AED p.isList ?_;refine⟨c.heap.objs.size, [c.heap.objs.size],_,_,i,rfl,d.kept (t':=c.toks) λb o e=>AAe _ e,cP a _,⟨_,AAj _ rfl,rfl,rfl⟩,λb hb=> ?_,q⟩;have e:b=c.heap.objs.size:=by simpa using hb
  subst e;exact d.fpOk (AAf _) (d.hok.fresh (AAf _))
 .obtain ⟨f,rv,p,hz⟩:=d.tuple hq;refine wpAny_pyIter_tuple (show c.heap.IsTuple a f.toArray from p) ?_;refine⟨c.heap.objs.size, [c.heap.objs.size],_,_,i,rfl,d.kept (t':=c.toks) λb o e=>AAe _ e,Yk a _,⟨_,AAj _ rfl,rfl,rfl⟩,λb hb=> ?_,q⟩;have e:b=c.heap.objs.size:=by simpa using hb
  subst e;exact d.fpOk (AAf _) (d.hok.fresh (AAf _))
def IM (ta:AE):AI:=λτ Q=>ta τ λx=>WH x Q
def eU {K:AAY}{T M:kf->Prop}{H:Hp}{a:kf}{xs:km PV}(va:IH T M H)(r:Ce K T M H (.ref a) (.tup xs)):VS K M (vQ K a) xs T H:=by
 obtain⟨f,vs,e,hq,rs⟩:=DG r;cases e;refine⟨λi y h=> ?_,λi y v g h c=> ?_,λi h=>⟨vs,hq,by rw[rs.length];exact h⟩⟩
 .obtain ⟨v,hv,_⟩:=rs.get h;exact⟨vs,v,hq,hv⟩
 .obtain ⟨rfl,c⟩:=c;obtain⟨z,hz,d⟩:=rs.get' (c vs hq);rw[h] at hz;cases hz;exact⟨.refl va.tp,d⟩
def Vx {K:AAY}{T M:kf->Prop}{H:Hp}{a:kf}{vs:km V}{xs:km PV}(va:IH T M H)(hq:H a=some (.lst vs))(rs:A9 K T M H vs xs):VS K M (vP K a) xs T H:=by
 have c:Fy K H a vs:= .inl (.inl hq);refine⟨λi y h=> ?_,λi y v g h d=> ?_,λi h=>⟨vs,c,by rw[rs.length];exact h⟩⟩
 .obtain ⟨v,hv,_⟩:=rs.get h;exact⟨vs,v,c,hv⟩
 .obtain ⟨rfl,d⟩:=d;obtain⟨z,hz,f⟩:=rs.get' (d vs c);rw[h] at hz;cases hz;exact⟨.refl va.tp,f⟩
def DP {j:kd}(h:SE X e ta):SI X j e true (IM ta):=by
 obtain⟨t,p,s⟩:=h;refine⟨_,YI p,λB T l τ H R y m h k=>s B T l τ H _ _ m h λv x f g i r1 h1=> ?_⟩;obtain⟨xs,hx,q⟩:=KY h1;rcases hx with rfl|rfl
 .obtain ⟨a,vs,rfl,hq,rs⟩:=DG r1;refine⟨a,rfl, .inr ⟨⟨vs,hq⟩,k _ xs f g i (λM2 n o c va _=>eU va (r1.mv c)) q⟩⟩
 .obtain ⟨a,vs,rfl,hq,z,A,rs⟩:=C0 r1;refine⟨a,rfl, .inl ⟨⟨vs, .inl (.inl hq)⟩,k _ xs f g i (λM2 n o c va _=> ?_) q⟩⟩;obtain⟨C,r,u,w,_,_,d⟩:=C0 (r1.mv c);cases u;exact Vx va w d
def vd (i:Nat):AI:=λτ Q=>Ld i τ Q
def wn (i:Nat){d:kd}{x:Str}(hN:X.N[i]? =some x:=by rfl)(hv:lH X.env.scope x:=by first | exact Or.inl rfl|exact Or.inr (Or.inl rfl)|exact Or.inr (Or.inr rfl))(hd:(x==("__debug__" :Str))=false:=by decide)(f:(x==("__classdict__" :Str))=false:=by decide):SI X d (.Name x pos) false (vd i):=by
 refine⟨_,YI (QH hN hv hd f),λB T m τ H R n c h k=> ?_⟩;obtain⟨xs,e,q⟩:=TL h;obtain⟨p,vs,g,hp,rs,o,j,r⟩:=c.own i xs e;refine⟨.ref p,g,p,rfl, .inl ⟨⟨vs, .inl (.inl hp)⟩,k _ xs T H (.refl c.tp) (λM2 s t l va z=> ?_) q⟩⟩;rcases z with z|z
 .cases z
 .exact Vx va (z p _ j hp) (rs.mv l)
def rng (lo:Int)(n:Nat):km PV:=(List.range n).map λ(k:Nat)=> .int (lo+(k:Int))
def Vy {K:AAY}{T M:kf->Prop}{H:Hp}{lo:Int}{n:Nat}(va:IH T M H):VS K M (qZ lo n) (rng lo n) T H:=by
 have hl:(rng lo n).length=n:=by simp[rng]
 refine⟨λi y h=> ?_,λi y v d h c=> ?_,λi h=>by rw[hl] at h;exact h⟩
 .have:=(ABC.mp h).1;rw[hl] at this;exact this
 .obtain ⟨rfl,rfl⟩:=c;have hi:=(ABC.mp h).1;rw[hl] at hi;have:y= .int (lo+(i:Int)):=by simp[rng,List.getElem?_range hi] at h;exact h.symm
  subst this;exact⟨.refl va.tp, .int _⟩
def Q2 (r:AA):AI:=λτ Q=>r τ λxs=>match xs with | [.int j] =>(-(2^62)<=j/\j<2^62)/\Q (rng 0 j.toNat)|_=>False
def ip (r:AA):AI:=λτ Q=>r τ λxs=>match xs with | [.int i, .int j] =>(-(2^62)<=i/\i<2^62/\ -(2^62)<=j/\j<2^62)/\Q (rng i (j-i).toNat)|_=>False
def Nz {d c:kd}{r:AA}{p:Pos}(f:Gl X "range")(hm:X.mg "range" =none)(ha:SA X [c] r)(hs:starEach [c] X.env= [(false,eval c X.env)] :=by rfl):SI X d (.Call (.Name "range" p) [c] [] pos) true (Q2 r):=by
 obtain⟨t,g,s⟩:=ha;refine⟨_,bj f hm g hs,λB T i τ H R o j h k=>s B T i τ H _ _ j h λvs xs l m n r1 h1=> ?_⟩;split at h1 <;> first | exact h1.elim|skip
 cases r1 with
 | cons r t=> cases t;cases r;exact⟨_,rfl,h1.1.1,h1.1.2,k _ _ l m n (λM2 u v w va _=>Vy va) h1.2⟩
def l7 {f c d:kd}{r:AA}{p:Pos}(g:Gl X "range")(hm:X.mg "range" =none)(ha:SA X [c,d] r)(hs:starEach [c,d] X.env= [(false,eval c X.env),(false,eval d X.env)] :=by rfl)(i:starEach [d] X.env= [(false,eval d X.env)] :=by rfl):SI X f (.Call (.Name "range" p) [c,d] [] pos) true (ip r):=by
 obtain⟨t,j,s⟩:=ha;refine⟨_,bn g hm j hs i,λB T l τ H R w m h k=>s B T l τ H _ _ m h λvs xs n o u r1 h1=> ?_⟩;split at h1 <;> first | exact h1.elim|skip
 cases r1 with
 | cons r t=>
   cases t with
   | cons v t=> cases t;cases r;cases v;exact⟨_,_,rfl,h1.1,k _ _ n o u (λM2 x y z va _=>Vy va) h1.2⟩
def F1 (xs ys:km PV):km PV:=List.zipWith (λx y=> .tup [x,y]) xs ys
def r9 (K:AAY)(ta:TA):TI:=λf H R=>ta f H λvs d=>∃b c l m,vs= [.ref l, .ref m] /\(∃xs,Sq K b d l xs)/\(∃ys,Sq K c d m ys)/\R (vS K b c l m) d
def jv {e f:kd}{ta:TA}{p pos g:Pos}{es:km kd}{w:Nat}(x:Gl X "zip")(hm:X.mg "zip" =none)(ha:PA X [e,f] ta)(hs:starEach [e,f] X.env= [(false,eval e X.env),(false,eval f X.env)] :=by rfl)(t:starEach [f] X.env= [(false,eval f X.env)] :=by rfl):PI X (.Tuple es w g) (.Call (.Name "zip" p) [e,f] [] pos) (r9 X.K ta):=by
 intro Tb s y H R I h;refine Call_ (FB I x hm boot_zip (ACU (Bi (ha pos Tb s y H _ I h) λz d ⟨vs,A,i,r1,B⟩=> ?_) (by rw[hs,t]) (by rw[t];rfl)));obtain⟨b,c,l,m,rfl,⟨xs,hl⟩,⟨ys,C⟩,q⟩:=B;cases r1 with
 | cons r j=>
 cases j with
 | cons D j=>
 cases j;cases r;cases D;obtain⟨z,G,u,_⟩:=i.sq hl;obtain⟨vs,rv,sv,_⟩:=i.sq C;have k:l<d.heap.objs.size:=by cases b <;> (obtain⟨o,e,_⟩:=u;exact AAd e)
 have n:m<d.heap.objs.size:=by cases c <;> (obtain⟨o,e,_⟩:=sv;exact AAd e)
 refine pX u sv λh1 Z E=>AEL Z.zip ?_;refine⟨_,_,_,_,A,rfl,i.kept (t':=d.toks) E,iE (zipApart_new k n),Z,λp hp=> ?_,q⟩;have v:d.heap.objs.size<=p:=by
  have F:p=d.heap.objs.size+4\/p=d.heap.objs.size+2\/p=d.heap.objs.size+3\/p=d.heap.objs.size\/p=d.heap.objs.size+1:=by simpa using hp
  rcases F with e|e|e|e|e <;> (rw[e];omega)
 exact i.fpOk v (i.hok.fresh v)
def qm:PV->kc | .lst _=>true|_=>false
def Zv {K:AAY}{T M:kf->Prop}{H:Hp}{v:V}{x:PV}{xs:km PV}(hx:x= .tup xs\/x= .lst xs)(r:Ce K T M H v x):∃a vs,v= .ref a/\Sq K (qm x) H a vs/\A9 K T M H vs xs:=by
 rcases hx with rfl|rfl
 .obtain ⟨a,vs,rfl,hq,rs⟩:=DG r;exact⟨a,vs,rfl,hq,rs⟩
 .obtain ⟨a,vs,rfl,hq,_,_,rs⟩:=C0 r;exact⟨a,vs,rfl, .inl (.inl hq),rs⟩
def eV {K:AAY}{T M:kf->Prop}{H:Hp}{l m:kf}{x y:PV}{xs ys:km PV}(va:IH T M H)(hx:x= .tup xs\/x= .lst xs)(hy:y= .tup ys\/y= .lst ys)(r:Ce K T M H (.ref l) x)(r2:Ce K T M H (.ref m) y):VS K M (vS K (qm x) (qm y) l m) (F1 xs ys) T H:=by
 obtain⟨_,vs,e,hq,rs⟩:=Zv hx r;cases e;obtain⟨_,d,e,f,rs2⟩:=Zv hy r2;cases e;have hz:∀i z,(F1 xs ys)[i]? =some z->∃a b,xs[i]? =some a/\ys[i]? =some b/\z=PV.tup [a,b] :=λi z h=>by
  unfold F1 at h;rw[AFI] at h;cases c:xs[i]? with
  | none=>rw[c] at h;cases h
  | some a=>
    cases g:ys[i]? with
    | none=>rw[c,g] at h;cases h
    | some b=>rw[c,g] at h;cases h;exact⟨a,b,by first | rfl|exact c,by first | rfl|exact g,rfl⟩
 refine⟨λi z h=> ?_,λi z v t h n=> ?_,λi h=>⟨vs,d,hq,f, ?_⟩⟩
 .obtain ⟨a,b,ha,hb,_⟩:=hz i z h;obtain⟨u,hu,_⟩:=rs.get ha;obtain⟨w,hw,_⟩:=rs2.get hb;exact⟨vs,d,u,w,hq,f,hu,hw⟩
 .obtain ⟨a,b,ha,hb,rfl⟩:=hz i z h;obtain⟨p,u,w,rfl,hn,rfl,hu,hw⟩:=n;obtain⟨A,j,ra⟩:=rs.get' (hu vs hq);obtain⟨B,k,s⟩:=rs2.get' (hw d f);rw[ha] at j;cases j;rw[hb] at k;cases k;have st:=Dv.lay (o:= .tup [u,w]) va.tp hn;exact⟨st, .tup (.inl Ap) (.cons (ra.stp st va) (.cons (s.stp st va) .nil))⟩
 .rw [rs.length,rs2.length];have:(F1 xs ys).length=min xs.length ys.length:=by simp[F1]
  omega
def pq (r:AA):AI:=λτ Q=>r τ λc=>match c with | [x,y] =>WH x λxs=>WH y λys=>Q (F1 xs ys)|_=>False
def kO {e f:kd}{r:AA}{p pos c:Pos}{es:km kd}{i:Nat}(j:Gl X "zip")(hm:X.mg "zip" =none)(ha:SA X [e,f] r)(hs:starEach [e,f] X.env= [(false,eval e X.env),(false,eval f X.env)] :=by rfl)(n:starEach [f] X.env= [(false,eval f X.env)] :=by rfl):SI X (.Tuple es i c) (.Call (.Name "zip" p) [e,f] [] pos) true (pq r):=by
 obtain⟨t,o,s⟩:=ha;refine⟨_,jv j hm o hs n,λB T u τ H R G v h k=>s B T u τ H _ _ v h λvs xs w z A r1 h1=> ?_⟩;split at h1 <;> first | exact h1.elim|skip
 rename_i x y;obtain⟨xs,hx,h2⟩:=KY h1;obtain⟨ys,hy,C⟩:=KY h2;cases r1 with
 | cons ra t=>
   cases t with
   | cons d t=> cases t;obtain⟨l,D,rfl,hq,rs⟩:=Zv hx ra;obtain⟨m,E,rfl,F,rs2⟩:=Zv hy d;exact⟨qm x,qm y,l,m,rfl,⟨D,hq⟩,⟨E,F⟩,k _ _ w z A (λM2 I J g va _=>eV va hx hy (ra.mv g) (d.mv g)) C⟩
def Ex (g:AG)(b:AS)(D:Hk):km PV->BC->Prop
 | [],τ=>D.nx τ
 | x::r,τ=>g x τ λc=>b {D with nx:=Ex g b D r,ct:=Ex g b D r,bk:=D.nx} c
def FA (c:AI)(g:AG)(b:AS):AS:=λD τ=>c τ λxs=>Ex g b D xs τ
def GC.mvv {K:AAY}{B:DJ}{T g:kf->Prop}{H h:Hp}{f c:L2.St}{τ d:BC}(s:SR K B T H f τ)(p:GC T H f τ g h c d):Mv K T (mt B f τ) H g (mt B c d) h:=
 ⟨s.va,λb o t m e=>p.keep b o t (λz=>m (.inr z)) e,p.sub,λb n t=>(p.new b t).elim id λz=>absurd z n,λb n m=>m.elim .inl λz=>(p.own b z).elim .inr λz=>absurd z n⟩
def CB {G iter:kd}{body:km Stmt}{R:AI}{g:AG}(hp:PassesOwn (model X.prog X.w) X.A X.env X.xe)(hc:X.calm=true)(hi:SI X G iter true R)(hg:SG X G g)(hb:iL X body b)(hs:∀x,foldedSetIterable iter X.env x=pure x:=by intro _;rfl):SS X (.For G iter body [] pos) (FA R g b):=by
 obtain⟨wi,pi,si⟩:=hi;obtain⟨tg',pg,sg⟩:=hg;obtain⟨tb,pb,sb⟩:=hb;refine⟨_,gD hp hc pi pg pb hs,λB T C τ H D S U h I=>si B T C τ H _ _ U h λJ xs E L M walk h1=> ?_⟩;have s:=U.stp M;refine⟨λi m f t=>m=xs.length-i/\∃k d,SR X.K B k t f d/\GC E L C τ k t f d/\Ex g b S (xs.drop i) d,⟨_,rfl,E,τ,s, .refl,h1⟩, ?_⟩;rintro i m f t ⟨rfl,k,d,n,o,h2⟩;have w:=walk _ k t (o.mvv s) n.va (.inl rfl);have N:=(I.shift M.prog).shift o;by_cases W:i<xs.length
 .have Y:xs[i]? =some xs[i] :=ABD W;rw[ACx W] at h2;refine .inr ⟨w.go i _ Y,λj u=>∃l c,SR X.K B l u j c/\GC E L C τ l u j c/\Ex g b S (xs.drop (i+1)) c,λj u ⟨l,c,q1,q2,q3⟩=>⟨_,by omega,rfl,l,c,q1,q2,q3⟩,λv F yl=> ?_⟩;obtain⟨Z,r3⟩:=w.yld i _ v F Y yl;have O:=n.stp Z;refine sg B k f d F v _ _ _ O r3 h2 λy z P o4 h4=> ?_;have p:GC E L C τ k F y z:=(o.trans Z.prog).trans (.less o4);have Q:=(I.shift M.prog).shift p;exact sb B k y z F _ _ P h4 ⟨λl u j c q r h'=>⟨l,c,r,p.trans q,h'⟩,Q.nx,λl u j c q r h'=>⟨l,c,r,p.trans q,h'⟩,I.rt⟩
 .rw [ADd (by omega)] at h2;exact .inl ⟨w.stop i (by omega),N.nx k t f d .refl n h2⟩
def aN:ke AV->ke AV|some (.val x)=>some (.val x)|_=>none
def Lf (own:Nat)(ix:km Nat)(τ:BC):BC:=List.replicate own none++ix.map λi=>aN (Tw τ i)
def DS (g:AG)(t:AT)(te:AE)(c:BC)(Q:km PV->Prop):km PV->km PV->Prop
 | [],acc=>Q acc
 | x::r,acc=>g x c λd=>t d λok=>if ok=true then te d λy=>DS g t te c Q r (acc ++ [y]) else DS g t te c Q r acc
def CD (c:AI)(own:Nat)(ix:km Nat)(g:AG)(t:AT)(te:AE):AA:=λτ Q=>c τ λxs=>xs.length<sizeLine/\DS g t te (Lf own ix τ) Q xs []
def dI {own:Nat}{ix:km Nat}{τ:BC}{j:Nat}{x:PV}(h:(Lf own ix τ)[j]? =some (some (.val x))):own<=j/\∃i,ix[j-own]? =some i/\τ[i]? =some (some (.val x)):=by
 unfold Lf at h;by_cases hj:j<own
 .rw [ABQ (by simpa using hj),ACd,AAb hj] at h;cases h
 .rw [ABh (by simpa using hj),ACV,ABI] at h;cases e:ix[j-own]? with
  | none=>rw[e] at h;cases h
  | some i=>
    rw[e] at h;refine⟨by omega,i,rfl,NC ?_⟩;cases c:Tw τ i with
    | none=>simp[c,aN] at h
    | some z=>cases z <;> simp[c,aN] at h;subst h;rfl
def Gw {own:Nat}{ix:km Nat}{τ:BC}{j:Nat}{xs:km PV}:(Lf own ix τ)[j]? ≠some (some (.own xs)):=λh=>by
 unfold Lf at h;by_cases hj:j<own
 .rw [ABQ (by simpa using hj),ACd,AAb hj] at h;cases h
 .rw [ABh (by simpa using hj),ACV,ABI] at h;cases e:ix[j-own]? with
  | none=>rw[e] at h;cases h
  | some i=>
    rw[e] at h;cases c:Tw τ i with
    | none=>simp[c,aN] at h
    | some z=>cases z <;> simp[c,aN] at h
def DJ.blk (B:DJ)(c:L2.St)(τ:BC)(D:kf):DJ:=⟨B.T,B.H,λa=>mt B c τ a\/a=D⟩
def SR.blk {K:AAY}{B:DJ}{T d:kf->Prop}{H f:Hp}{c:L2.St}{τ:BC}{D:kf}{h:km V}{own:Nat}{ix:km Nat}(s:SR K B T H c τ)(q:Dv T H d f)(hn:H D=none)(hd:f D=some (.lst h))(l:¬d D):SR K (B.blk c τ D) d f (CJ own ix c) (Lf own ix τ):=by
 have g:=s.stp q;have u:Mv K T (mt B c τ) H d (mt (B.blk c τ D) (CJ own ix c) (Lf own ix τ)) f:=⟨s.va,λb o t _ e=>q.keep b o t e,q.sub,λb n t=>(q.new b t).elim id λz=>absurd z n,λb n z=>by
  rcases z with(z|z)|⟨_,_,z,_⟩
  .exact z
  .subst z;exact absurd hn n
  .exact absurd z Gw⟩
 refine⟨by simp[CJ,Lf],λj x e=> ?_,λj xs e=>absurd e Gw,λj k xs ys p e=>absurd e Gw,g.tp,λa m=> ?_,λa m=> ?_,g.st⟩
 .obtain ⟨hj,i,hi,w⟩:=dI e;obtain⟨v,hv,r⟩:=s.val i x w;refine⟨v, ?_,r.mv u⟩;unfold CJ;rw[ABh (by simpa using hj),ACV,ABI,hi];simp[hv]
 .rcases m with m|m
  .exact g.va.mu a m
  .subst m;exact⟨_,hd,Mp.lst⟩
 .rcases m with m|m
  .exact g.nt m
  .subst m;exact l
def lF (X:Cx)(c:km kd)(t:AT):Prop:=∃d,Yt X c d/\OF X.K d t
def EJ:AT:=λ_ Q=>Q true
def Bh:lF X [] EJ:=⟨_,jx,λB T d τ H Q f c h k=>k true T H (.refl c.tp) h⟩
def MG {c:kd}{t:AT}(h:TJ X c t):lF X [c] t:=let ⟨_,p,s⟩:=h;⟨_,jy p,s⟩
def Qf {K:AAY}{s:kc}{wi:TI}{ai:AI}{own:Nat}{ix:km Nat}{g:TG}{ag:AG}{tt:TT}{C:AT}{te:TE}(hi:aK K s wi ai)(hg:LY K g ag)(ht:OF K tt C)(he:Fj K te ta):dC K (Zz wi own ix g tt te) (CD ai own ix ag C ta):=by
 intro B T E τ H Q AQ sr h k;refine hi B T E τ H _ _ sr h λJ xs T1 H1 s1 walk h1 D F=> ?_;obtain⟨hl,h1⟩:=h1;have j:=sr.stp s1;have nt1:¬T1 D:=λz=>by obtain⟨o,e,_⟩:=(j.tp D z).mut;rw[F] at e;cases e
 have lay:=Dv.lay (o:= .lst []) j.tp F;refine⟨λi m G=>m=xs.length-i/\∃p vs c,Dv T1 H1 p G/\G D=some (.lst vs)/\¬p D/\A9 K p (λa=>mt B E τ a\/a=D) G vs c/\c.length<=i/\DS ag C ta (Lf own ix τ) AQ (xs.drop i) c,
  ⟨_,rfl,T1, [], [],lay,Ap,nt1, .nil,AAf _,h1⟩, ?_⟩
 rintro i m G ⟨rfl,p,vs,c,r,Z,f,r2,Vr,h2⟩;have I:=j.blk (own:=own) (ix:=ix) r F Z f;have L:IH p (λa=>mt B E τ a\/a=D) G:=⟨I.tp,I.bm⟩;have w:=walk (λa=>mt B E τ a\/a=D) p G ⟨j.va,λb o t _ e=>r.keep b o t e,r.sub,λb n t=>(r.new b t).elim id λz=>absurd z n,λb n z=>z.elim id λz=>by subst z;exact absurd F n⟩ L (.inr r.keep);by_cases Er:i<xs.length
 .have Vu:xs[i]? =some xs[i] :=ABD Er;rw[ACx Er] at h2;refine .inr ⟨w.go i _ Vu,λv H3 yl=> ?_⟩;obtain⟨P,r3⟩:=w.yld i _ v H3 Vu yl;have l:=I.stp P;refine hg _ p _ _ H3 v _ _ _ l (r3.mv (.anti ⟨l.tp,l.bm⟩ λa z=>z.elim id λ⟨_,_,z,_⟩=>absurd z Gw)) h2 λR S U o4 h4=> ?_;refine ht _ p R S H3 _ _ U h4 λok T5 H5 N h5=> ?_;have u:=U.stp N;have m9:=P.keep D _ f Z;have jH:=N.keep D _ f m9;have M:¬T5 D:=λz=>(N.new D z).elim f λn=>by rw[n] at m9;cases m9
  have r5:=(r2.stp P L).stp N ⟨l.tp,l.bm⟩;cases ok with
  | false=> rw[AAa AAs] at h5 ⊢;exact⟨_,by omega,rfl,T5,vs,c,(r.trans P).trans N,jH,M,r5,by omega,h5⟩
  | true=>
    rw[AAb rfl] at h5 ⊢;refine he _ T5 R S H5 _ _ u h5 λvy y O H6 W r6 h6=> ?_;have A:=u.stp W;have vo:=W.keep D _ M jH;have Y:¬O D:=λz=>(W.new D z).elim M λn=>by rw[n] at jH;cases jH
    have va6:IH O (λa=>mt B E τ a\/a=D) H6:=⟨A.tp,A.bm⟩;have r7:=r5.stp W ⟨u.tp,u.bm⟩;have s7:=((r.trans P).trans N).trans W;have tp8:∀a,O a->Fk (upd H6 D (.lst (vs ++ [vy]))) a:=λa t=>by obtain⟨d,x,e,z⟩:=A.tp a t;exact⟨d,x,by rw[Ao (λw=>by subst w;exact Y t)];exact e,z⟩
    have mv8:Mv K O (λa=>mt B E τ a\/a=D) H6 O (λa=>mt B E τ a\/a=D) (upd H6 D (.lst (vs ++ [vy]))):=⟨va6,λb o _ m e=>by rw[Ao (λw=>m (.inr w))];exact e,λ_ t=>t,λ_ _ t=>t,λ_ _ z=>z⟩;refine⟨vs,vo,by rw[r2.length];omega,_,(by omega:xs.length-(i+1)<xs.length-i),rfl,O,vs ++ [vy],c ++ [y],⟨λb o t e=> ?_,s7.sub,s7.new,tp8⟩,Ap,Y,(r7.append (.cons (r6.mv (.anti A.va λa z=> .inl z)) .nil)).mv mv8,by simp;omega,h6⟩;rw[Ao (A5 e F)];exact s7.keep b o t e
 .rw [ADd (by omega)] at h2;refine .inl ⟨w.stop i (by omega), ?_⟩;exact k D vs c p G (s1.trans r) (j.add r F Z Mp.lst f) (s1.none F) Z f (r2.mv (.anti L λa z=>by
   rcases z with(z|z)|z
   .exact .inl (.inl z)
   .exact .inr z
   .exact .inl (.inr z))) h2
structure cr (X:Cx) (tg elt:Expr) (ifs:List Expr) (scope:Scope) (own:Nat) (ix:List Nat) (N:List Str) (g:AG) (t:AT) (te:AE):Prop where
 ex:∃g' t' te',Mm X tg elt ifs scope own ix N g' t' te'/\LY X.K g' g/\OF X.K t' t/\Fj X.K te' te
def CM {f c iter:kd}{d:km kd}{scope:Scope}{own:Nat}{ix:km Nat}{N:km Str}{g:AG}{t:AT}{s:kc}{h:AI}(hc:X.calm=true)(hi:SI X f iter s h)(O:cr X f c d scope own ix N g t ta)(hs:∀x,foldedSetIterable iter X.env x=pure x:=by intro _;rfl):SF X (.ListComp c [⟨f,iter,d,0⟩] scope pos) (CD h own ix g t ta):=by obtain⟨n,i,j⟩:=hi;obtain⟨g',t',k,O,l,st,m⟩:=O.ex;exact⟨_,jp hc i O hs,Qf j l st m⟩
def G2 {i:Nat}{x:Str}{pos' c:Pos}{h d iter:kd}{f:km kd}{scope:Scope}{own:Nat}{ix:km Nat}{N:km Str}{g:AG}{t:AT}{s:kc}{j:AI}(hc:X.calm=true)(hN:X.N.Nodup)(k:X.N[i]? =some x)(hx:Loc X.env.scope x)(hi:SI X h iter s j)(O:cr X h d f scope own ix N g t ta)(l:swapsWith (.ListComp d [⟨h,iter,f,0⟩] scope pos) (some (.Name x pos')) c.line X.env=pure true:=by rfl)(hs:∀x,foldedSetIterable iter X.env x=pure x:=by intro _;rfl)(m:X.fn x=true\/X.env.scope.names.lookup x=some .local:=by first | exact .inl rfl|exact .inr rfl|assumption):SS X (.Assign [.Name x pos'] (.ListComp d [⟨h,iter,f,0⟩] scope pos) c) (Aj (Db (CD j own ix g t ta)) (Aq i)):=by obtain⟨v,n,o⟩:=hi;obtain⟨g',t',p,O,r,st,u⟩:=O.ex;exact⟨_,j5 hc hN k hx n O l hs m,Ua (gi (Qf o r st u)) Uc⟩
end
def Nc (N:Nat)(xs:km PV):BC:=xs.map (λx=>some (.val x))++List.replicate (N-xs.length) none
def A0 (N:Nat)(b:AS):AF:=λxs Q=>b {nx:=λ_=>Q .non,rt:=Q,bk:=λ_=>False,ct:=λ_=>False} (Nc N xs)
def gy {K:AAY}{T M:kf->Prop}{H:Hp}{N:km Str}{vs:km V}{xs:km PV}(va:IH T M H)(b:∀a,M a->¬T a)(r:A9 K T M H vs xs):SR K ⟨T,H,M⟩ T H (start N vs) (Nc N.length xs):=by
 have c:∀(j:Nat) (ys:km PV),(Nc N.length xs)[j]? ≠some (some (.own ys)):=λj ys h=>by
  unfold Nc at h;by_cases hj:j<xs.length
  .rw [ABQ (by simpa using hj),ABI,ABD hj] at h;cases h
  .rw [ABh (by simpa using hj),ACd] at h;split at h <;> cases h
 refine⟨by simp[L2.start,Nc,r.length],λj x h=> ?_,λj ys h=>absurd h (c j ys),λj k ys d p h=>absurd h (c j ys),va.tp,va.mu,b, .refl va.tp⟩;unfold Nc at h;by_cases hj:j<xs.length
 .rw [ABQ (by simpa using hj),ABI,ABD hj] at h;cases h;obtain⟨v,hv,rv⟩:=r.get (ABD hj);refine⟨v, ?_,rv.mv (.anti va λa m=>m.elim id λ⟨_,_,z,_⟩=>absurd z (c _ _))⟩;unfold L2.start;rw[ABQ (by rw[AAk,r.length];exact hj),ABI,hv];rfl
 .rw [ABh (by simpa using hj),ACd] at h;split at h <;> cases h
section
variable {P:gn}{w:fe}{K:AAY}{mg:Str->ke kj}{base:da}
def i6 {x qual:Str}{st:Stmt}{f:kf}{i:FuncData}{N c:km Str}{k n:Nat}{b:AS}(F:XB K x qual st f i)(S:FS N c (Be st))(hn:n=c.length)(j:∀(a:kj) (A:Wf) (outer:km Env) (s:ki) (H:Hp) (E:XK),Room k (A.deeper (envOfC qual (Be st) s.heap.objs.size f a))-> iL (Vf VJ P w K mg base N qual (Be st) f a A outer s H E).nox (Ep st) b):Fi P w K mg base VJ (k+1) f i c (Cn K n (A0 N.length b)):=by
 refine F.ok S (λvs H Q E h=> ?_) (λa A outer s H vs Q E l h=> ?_)
 .obtain ⟨T,M,xs,m,_,_,r,hl,_⟩:=h;rw[r.length,hl,hn]
 .obtain ⟨T,M,xs,m,va,d,r,hl,o,hQ⟩:=h;obtain⟨t,p,u⟩:=j a A outer s H E l;refine⟨t,p,u ⟨T,H,M⟩ T _ _ H _ _ (gy va d r) o ⟨λe g y z _ B q=> ?_,λ_ _ _ _ _ _ q=>q.elim,λ_ _ _ _ _ _ q=>q.elim,λv x e g C D q=>hQ v x e g C D q⟩⟩;exact hQ _ _ e g B.st .non q
end
section
variable {X:Cx}
def dR {prog:gn}{w:fe}{A:Wf}{E:kj->ki->Prop}{s:ki}{t b:kf}{d:km kj}{Q:kj->ki->Prop}(j:IsTup s.heap t #[])(hb:IsTup s.heap b d.toArray)(k:Q (.ref b) s):wpAny (model prog w) A (binaryOp .Add (.ref t) (.ref b)) Q E s:=by
 obtain⟨⟨cls,l,data,m⟩,e,hc,n,hd⟩:=id j;obtain⟨⟨f,a,data2,c⟩,g,h,o,i⟩:=id hb;simp only at hc hd h i;subst hc hd h i;exact concat_meets ⟨_,e,rfl⟩ ⟨_,g,rfl⟩ AEi seq_tuple_add AEj AEk (AEl _ _)
  (tuple_addW0 t b #[] d.toArray n o l a m c (by simp)) ⟨e,g,k⟩
def gI (K:AAY):R2:=λx y H Q=>∃a b ys,x= .ref a/\y= .ref b/\LZ K H a [] /\LZ K H b ys/\Q (.ref b) H
def fh:Ee X (binaryOp .Add) (gI X.K):=by intro Tb s g H x y v u Q I d e h;obtain⟨a,b,ys,rfl,rfl,ha,hb,q⟩:=h;cases d;cases e;obtain⟨f,r1,p1,_⟩:=I.tuple ha;obtain⟨c,r2,p2,_⟩:=I.tuple hb;cases r1;exact dR p1 p2 ⟨.ref b,H,I,rfl,q⟩
def lq (K:AAY):R2:=λx y H Q=>((QK (λi j=>V.int (i+j)) x y H Q\/tE x y H Q)\/lw K x y H Q)\/gI K x y H Q
def A4:Ik:=λx y Q=>match x,y with
 | .int i, .int j=>Q (.int (i+j))
 | .lst xs, .lst ys=>xs.length+ys.length<=sizeLine/\Q (.lst (xs++ys))
 | .tup xs, .tup ys=>xs.length+ys.length<=sizeLine/\Q (.tup (xs++ys))
 | _,_=>False
def Ai:Ee X (binaryOp .Add) (lq X.K)/\B8 X.K (lq X.K) A4:=by
 refine⟨((KZ.or fg).or jl).or fh,λT M H u v x y Q m va d rv h k=> ?_⟩;unfold A4 at h;split at h <;> first | exact h.elim|skip
 .exact .inl (.inl (.inl ⟨_,_,d.toI,rv.toI,k _ _ T H (.refl va.tp) (.int _) h⟩))
 .obtain ⟨a,vs,rfl,hq,n,r,rs⟩:=C0 d;obtain⟨b,c,rfl,f,g,i,rs2⟩:=C0 rv;refine .inl (.inl (.inr ⟨a,b,vs,c,rfl,rfl,hq,f,by rw[rs.length,rs2.length];exact h.1,λp hp=> ?_⟩));have st:=Dv.lay (o:= .lst (vs++c)) va.tp hp;have j:¬T p:=λz=>by obtain⟨o,e,_⟩:=(va.tp p z).mut;rw[hp] at e;cases e
  have l:¬M p:=λz=>by obtain⟨o,e,_⟩:=va.mu p z;rw[hp] at e;cases e
  exact k _ _ T _ st (.lst Ap j l ((rs.append rs2).stp st va)) h.2
 .obtain ⟨a,vs,rfl,hq,rs⟩:=DG d;obtain⟨b,c,rfl,f,rs2⟩:=DG rv;by_cases e:vs= []
  .subst e;cases rs;exact .inr ⟨a,b,c,rfl,rfl,hq,f,k _ _ T H (.refl va.tp) rv (by simpa using h.2)⟩
  .refine .inl (.inr ⟨a,b,vs,c,rfl,rfl,hq,f,e,by rw[rs.length,rs2.length];exact h.1,λz=> ?_,λz p hp=> ?_⟩)
   .subst z;cases rs2;exact k _ _ T H (.refl va.tp) d (by simpa using h.2)
   .have st:=Dv.lay (o:= .tup (vs++c)) va.tp hp;exact k _ _ T _ st (.tup (.inl Ap) ((rs.append rs2).stp st va)) h.2
def Jl {prog:gn}{w:fe}{A:Wf}{E:kj->ki->Prop}{s:ki}{t b:kf}{items:Array kj}{c d:kj}{lo hi:ke Int}{Q:kj->ki->Prop}(a:IsTup s.heap t items)(hs:s.heap.IsSliceOf b c d .none)(e:IsPart c lo)(f:IsPart d hi)(hw:HT.sIx items.size 0 lo=0/\HT.sIx items.size items.size hi=items.size)(h:Q (.ref t) s):wpAny (model prog w) A (getItem (.ref t) (.ref b)) Q E s:=by
 obtain⟨os,g,i,o⟩:=id hs;have j:s.TypeIs (.ref b) "slice" :=⟨os,g,i⟩;obtain⟨p,k,l,r,m⟩:=id a;unfold getItem;try with_reducible refine ABV ?_
 first | refine AAX (AAZ ?_)|skip
 refine AAX (wpAny_sequenceKey a.typeIs (by decide) ?_);refine AAX (ABe (name:=Str.ofString "__getitem__") a.typeIs ACW
  (ABJ ACW a.typeIs entry_tuple_getitem ?_ (args_tuple_getitem _ _)))
 show wpAny _ _ (Builtin.Tuple.tupleItemsOf (.ref t) >>= _) _ _ s;refine AAX (tupleItemsOf_ a ?_);refine AAX (ACr j ?_);rw[AAb (by decide)];refine AAX (HT.sliceApplied_gen hs e f ?_);have n:((((HT.sIx items.size 0 lo:Nat):Int)==0&&(1:Int)==1&&(HT.sIx items.size items.size hi-HT.sIx items.size 0 lo)==items.size)=true):=by rw[hw.1,hw.2];simp
 show wpAny _ _ (if (((HT.sIx items.size 0 lo:Nat):Int)==0&&(1:Int)==1&&(HT.sIx items.size items.size hi-HT.sIx items.size 0 lo)==items.size)=true then _ else _) _ _ s;rw[AAb n];unfold Builtin.Tuple.tupleIsExact;simp only[bind_assoc,pure_bind];refine AAX (ACr a.typeIs ?_);rw[AAb (by decide)];exact AAX (ABT (AAZ ⟨_,rfl,AAZ h⟩))
def wg (K:AAY):V->ke Int->ke Int->Hp->VK->Prop:=λx lo hi H Q=>∃a xs,x= .ref a/\LZ K H a xs/\
 (HT.sIx xs.length 0 lo=0/\HT.sIx xs.length xs.length hi=xs.length)/\Q (.ref a) H
def kW:lG X (wg X.K):=by
 intro Tb s i H x v j k lo hi l Q I d hs e f h;obtain⟨a,xs,rfl,hx,hw,q⟩:=h;cases d;obtain⟨b,r,c,hz⟩:=I.tuple hx;have g:b.toArray.size=xs.length:=by rw[AAp];exact r.length.symm
 refine⟨"tuple",_,ACW.lookup,c.typeIs, ?_⟩;exact Jl c hs e f (by rw[g];exact hw) ⟨.ref a,H,I,rfl,q⟩
def Eh (xs:km PV)(lo hi:ke Int):km PV:=(xs.drop (HT.sIx xs.length 0 lo)).take (HT.sIx xs.length xs.length hi-HT.sIx xs.length 0 lo)
def Y6 {K:AAY}{T M:kf->Prop}{H:Hp}{vs:km V}{xs:km PV}(r:A9 K T M H vs xs)(lo hi:ke Int):A9 K T M H (Q5 vs lo hi) (Eh xs lo hi):=by unfold Q5 Eh;rw[r.length];exact(r.drop _).take _
abbrev AO:=BC->(ke Int->Prop)->Prop
def vV (K:AAY)(t:TO)(a:AO):Prop:=∀(B:DJ) (T:kf->Prop) (b:L2.St) (τ:BC) (H:Hp) (Q:ke Int->Hp->Prop) (c:ke Int->Prop),SR K B T H b τ->a τ c->
 (∀o e d,Dv T H e d->c o->Q o d)->t b H Q
def SO (X:Cx)(e:ke kd)(a:AO):Prop:=∃t,PO X e t/\vV X.K t a
def TR:AO:=λ_ Q=>Q none
def TU (a:AE):AO:=λτ Q=>a τ λx=>fY x λi=>Q (some i)
def Wi:SO X none TR:=⟨_,j0,λB T b τ H Q c a h k=>k _ T H (.refl a.tp) h⟩
def Wj {e:kd}{a:AE}(h:SE X e a):SO X (some e) (TU a):=by obtain⟨t,p,s⟩:=h;refine⟨_,j3 p,λB T b τ H Q j c h k=>s B T b τ H _ _ c h λv x d f g r1 h1=> ?_⟩;obtain⟨i,rfl,q⟩:=UH h1;exact⟨i,r1.toI,k _ d f g q⟩
@[irreducible] def Xb (x:PV)(lo hi:ke Int)(Q:PV->Prop):Prop:=match x with | .tup xs=>Q (.tup (Eh xs lo hi)) | .lst xs=>Q (.lst (Eh xs lo hi))|_=>False
def Hg {xs:km PV}{lo hi:ke Int}{Q:PV->Prop}(h:Q (.tup (Eh xs lo hi))):Xb (.tup xs) lo hi Q:=by unfold Xb;exact h
def FV {xs:km PV}{lo hi:ke Int}{Q:PV->Prop}(h:Q (.lst (Eh xs lo hi))):Xb (.lst xs) lo hi Q:=by unfold Xb;exact h
def TM (a:AE)(l h:AO):AE:=λτ Q=>a τ λx=>l τ λlo=>h τ λhi=>Xb x lo hi Q
def E3 {e:kd}{lo hi:ke kd}{p2 pos:Pos}{A:AE}{l h:AO}(he:SE X e A)(hl:SO X lo l)(C:SO X hi h):SE X (.Subscript e (.Slice lo hi none p2) pos) (TM A l h):=by
 obtain⟨t,p,s⟩:=he;obtain⟨t1,p1,n⟩:=hl;obtain⟨t2,r,u⟩:=C;refine⟨_,gB ((kU.or pG).or kW) p p1 r,λB T m τ H Q L f h k=>s B T m τ H _ _ f h λv x D E g r1 h1=> ?_⟩;refine n B D m τ E _ _ (f.stp g) h1 λlo F G i h2=> ?_;refine u B F m τ G _ _ ((f.stp g).stp i) h2 λhi T3 I w d=> ?_;have b:=((f.stp g).stp i).stp w;have y:=(r1.stp i (f.stp g).va).stp w ((f.stp g).stp i).va;have c:=(g.trans i).trans w;unfold Xb at d;split at d <;> first | exact d.elim|skip
 .obtain ⟨a,vs,rfl,hq,rs⟩:=DG y;by_cases hw:HT.sIx vs.length 0 lo=0/\HT.sIx vs.length vs.length hi=vs.length
  .refine .inr ⟨a,vs,rfl,hq,hw,k _ _ T3 I c y ?_⟩;rename_i xs;have:Eh xs lo hi=xs:=by unfold Eh;rw[<-rs.length,hw.1,hw.2,rs.length];simp
   rw[this] at d;exact d
  .refine .inl (.inr ⟨a,vs,rfl,hq,hw,λq j=> ?_⟩);have st:=Dv.lay (o:= .tup (Q5 vs lo hi)) b.tp j;exact k _ _ T3 _ (c.trans st) (.tup (.inl Ap) ((Y6 rs lo hi).stp st b.va)) d
 .obtain ⟨a,vs,rfl,hq,M,N,rs⟩:=C0 y;refine .inl (.inl ⟨a,vs,rfl, .inl (.inl hq),λq j=> ?_⟩);have st:=Dv.lay (o:= .lst (Q5 vs lo hi)) b.tp j;have J:¬T3 q:=λz=>by obtain⟨o,e,_⟩:=(b.tp q z).mut;rw[j] at e;cases e
  have K:¬mt B m τ q:=λz=>by obtain⟨o,e,_⟩:=b.va.mu q z;rw[j] at e;cases e
  exact k _ _ T3 _ (c.trans st) (.lst Ap J K ((Y6 rs lo hi).stp st b.va)) d
end
def A8:AF:=λxs Q=>match xs with | [.tape, .int m] =>(0<m/\m<4611686018427387904)/\∀r,0<=r->r<m->Q (.int r)|_=>False
def PJ:AF:=λxs Q=>match xs with | [.scr ns, .int k] =>(0<=k/\k<=1000)/\Q .tape|_=>False
def qW (g:TG):Prop:=∀v b H Q c,(∀a d,Q a d->c a d)->g v b H Q->g v b H c
def mM (g:XD):Prop:=∀v b H Q c,(∀a d,Q a d->c a d)->g v b H Q->g v b H c
def SK (own:Nat)(X:Cx)(a:kd)(ag:AG):Prop:=∃g,PG X a g/\LY X.K g ag/\Ij own g/\qW g
def uU (own:Nat)(X:Cx)(a:km kd)(ag:Wy):Prop:=∃g,pj X a g/\Re X.K g ag/\PM own g/\mM g
section
variable {X:Cx}{pos:Pos}{own:Nat}
def Zs {i:Nat}{x:Str}(hN:X.N.Nodup)(hi:X.N[i]? =some x)(hx:Loc X.env.scope x)(hk:i<own)(a:X.fn x=true\/X.env.scope.names.lookup x=some .local:=by first | exact .inl rfl|exact .inr rfl|assumption):SK own X (.Name x pos) (Aq i):=
 ⟨_,L5 hN hi hx a,Uc,jB hk,jD⟩
def Os:uU own X [] Bw:=⟨_,UK,Wh,jC,jE⟩
def E4 {e:kd}{es:km kd}{ag:AG}{a:Wy}(h1:SK own X e ag)(h2:uU own X es a)(hs:(assignEach (e::es) X.env).map (·.2)=assign e X.env::(assignEach es X.env).map (·.2):=by rfl):uU own X (e::es) (Af ag a):=
 let ⟨_,p,s,k,m⟩:=h1;let ⟨_,c,d,f,b⟩:=h2;⟨_,Iz p c hs,SB s d,dk k m f b,dm m b⟩
end
def m6 (K:AAY)(own:Nat)(ag:AG):TG:=λv d H Q=>∃(B:DJ) (T:kf->Prop) (τ:BC) (x:PV) (e:BC->Prop),SR K B T H d τ/\Ce K T (mt B d τ) H v x/\ag x τ e/\
 ∀a c,SR K B T H a c->(∀b,C5 a c b->C5 d τ b)->e c->(a.length=d.length/\∀j,own<=j->a[j]? =d[j]?)->Q a H
def qD (K:AAY)(a:AT):TT:=λe H Q=>∃(B:DJ) (T:kf->Prop) (τ:BC) (c:kc->Prop),SR K B T H e τ/\a τ c/\∀b f d,Dv T H f d->c b->Q b d
def pw (K:AAY)(a:AE):TE:=λc H Q=>∃(B:DJ) (T:kf->Prop) (τ:BC) (d:PV->Prop),SR K B T H c τ/\a τ d/\∀v x e b,Dv T H e b->Ce K e (mt B c τ) b v x->d x->Q v b
def Oo {K:AAY}{own:Nat}{ag:AG}:LY K (m6 K own ag) ag:=λB T e τ H v x Q c d r h k=>⟨B,T,τ,x,c,d,r,h,λa b s o q _=>k a b s o q⟩
def Lx {K:AAY}{own:Nat}{ag:AG}:Ij own (m6 K own ag):=λv e H Q ⟨B,T,τ,x,c,d,r,h,k⟩=>⟨B,T,τ,x,c,d,r,h,λa b s o q z=>⟨k a b s o q z,z⟩⟩
def Op {K:AAY}{a:AT}:OF K (qD K a) a:=λB T d τ H Q b c h k=>⟨B,T,τ,b,c,h,k⟩
def Ub {K:AAY}{a:AE}:Fj K (pw K a) a:=λB T d τ H Q b c h k=>⟨B,T,τ,b,c,h,k⟩
section
variable {X:Cx}
def SK.of {own:Nat}{i:kd}{ag:AG}(h:SK own X i ag):PG X i (m6 X.K own ag):=by obtain⟨g,p,s,k,m⟩:=h;intro Tb l e H v u Q I r hw;obtain⟨B,T,τ,x,j,n,t,h,c⟩:=hw;have h1:g v e H λd w=>w=H/\∃a,SR X.K B T H d a/\(∀b,C5 d a b->C5 e τ b)/\j a:=s B T e τ H v x _ j n t h λd a s o q=>⟨rfl,a,s,o,q⟩;have h2:=k v e H _ h1;refine p Tb l e H v u Q I r (m v e H _ _ (λf D q=> ?_) h2);obtain⟨⟨rfl,a,y,A,C⟩,z⟩:=q;exact c f a y A C z
def lF.of {b:km kd}{a:AT}(h:lF X b a):Yt X b (qD X.K a):=by obtain⟨t,p,s⟩:=h;intro Tb e d H Q I hw;obtain⟨B,T,τ,f,g,h,c⟩:=hw;exact p Tb e d H Q I (s B T d τ H Q f g h c)
def SE.of {e:kd}{a:AE}(h:SE X e a):PE X e (pw X.K a):=by obtain⟨t,p,s⟩:=h;intro Tb d b H Q I hw;obtain⟨B,T,τ,f,g,h,c⟩:=hw;exact p Tb d b H Q I (s B T b τ H Q f g h c)
def B9 {e a:kd}{b:km kd}{scope:Scope}{own:Nat}{ix:km Nat}{N:km Str}{g:AG}{t:AT}{te:AE}(h1:scope.kind= .function)(h2:(scope.names.all λy=> !decide (y.2= .cell))=true)(f:(scope.names.all λy=> !decide (y.2= .local)||decide (scope.names.lookup y.1=some .local))=true)(h:(scope.names.all λy=> !decide (y.2= .free)||decide (X.env.scope.names.lookup y.1=some .cell))=true)(i:N.length=own+ix.length)(j:Pf X (relabel scope X.env) own ix N=true)(c:∀cl C s H ex pn,SK own (blk X (relabel scope X.env) N cl C s H ex pn) e g)(d:∀cl C s H ex pn,lF (blk X (relabel scope X.env) N cl C s H ex pn) b t)(val:∀cl C s H ex pn,SE (blk X (relabel scope X.env) N cl C s H ex pn) a te):cr X e a b scope own ix N g t te:=
 ⟨m6 X.K own g,qD X.K t,pw X.K te,Y4 h1 h2 f h i j Lx (λcl C s H ex pn=>(c cl C s H ex pn).of) (λcl C s H ex pn=>(d cl C s H ex pn).of) (λcl C s H ex pn=>(val cl C s H ex pn).of),Oo,Op,Ub⟩
end
mutual
def pd:PV->PyData
 | .bl b=> .bool b
 | .int i=> .int i
 | .str x=> .str x
 | .tup xs=> .tuple (NG xs)
 | .lst xs=> .list (NG xs)
 | _=> .none
def NG:km PV->km PyData
 | [] => []
 | x::xs=>pd x::NG xs
end
mutual
def E6:Nat->PV->kc
 | _, .non=>true
 | _, .bl _=>true
 | _, .int _=>true
 | _, .str x=>PyData.strOk x
 | n+1, .tup xs=>KS n xs
 | n+1, .lst xs=>KS n xs
 | _,_=>false
def KS:Nat->km PV->kc
 | _, [] =>true
 | n,x::xs=>E6 n x&&KS n xs
end
mutual
theorem HS:∀(n:Nat) (x:PV),E6 n x=true->(pd x).canLay0=true/\(pd x).depth<=n/\(pd x).hasDict=false
 | n, .non,_=>⟨rfl,ABH _,rfl⟩
 | n, .bl _,_=>⟨rfl,ABH _,rfl⟩
 | n, .int _,_=>⟨rfl,ABH _,rfl⟩
 | n, .str x,h=>⟨by simpa[pd,PyData.canLay0,E6] using h,ABH _,rfl⟩
 | 0, .tup xs,h=>by simp[E6] at h
 | 0, .lst xs,h=>by simp[E6] at h
 | n+1, .tup xs,h=>by obtain⟨a,b,c⟩:=L0 n xs (by simpa[E6] using h);exact⟨by simpa[pd,PyData.canLay0] using a,by simpa[pd,PyData.depth] using b,by simpa[pd,PyData.hasDict] using c⟩
 | n+1, .lst xs,h=>by obtain⟨a,b,c⟩:=L0 n xs (by simpa[E6] using h);exact⟨by simpa[pd,PyData.canLay0] using a,by simpa[pd,PyData.depth] using b,by simpa[pd,PyData.hasDict] using c⟩
 | n, .tape,h=>by simp[E6] at h
 | n, .scr _,h=>by simp[E6] at h
 | n, .ty _,h=>by simp[E6] at h
theorem L0:∀(n:Nat) (xs:km PV),KS n xs=true->PyData.canLayAll0 (NG xs)=true/\PyData.depthAll (NG xs)<=n/\PyData.hasDictAll (NG xs)=false
 | n, [],_=>⟨rfl,ABH _,rfl⟩
 | n,x::xs,h=>by simp only[KS,ABS] at h;obtain⟨a,b,c⟩:=HS n x h.1;obtain⟨d,f,e⟩:=L0 n xs h.2;exact⟨by simp[NG,PyData.canLayAll0,a,d],by simp only[NG,PyData.depthAll];omega,by simp[NG,PyData.hasDictAll,c,e]⟩
end
section
variable {X:Cx}{Tb:km (kf×Obj)}{σ:L2.St}{H:Hp}{s:ki}
mutual
theorem EK (I:Inv X Tb σ H s){T M:kf->Prop}:∀(n:Nat) {x:PV} {v:V} {u:kj},Ce X.K T M H v x->E6 n x=true->RelV v u->∃as,Reads s.heap u (pd x) as
 | _,_,_,_, .non,_,r=>by cases r;exact⟨_, .none⟩
 | _,_,_,_, .bl b,_,r=>by cases r;exact⟨_, .bool b⟩
 | _,_,_,_, .int i,_,r=>by obtain⟨t,rfl⟩:=r;exact⟨_, .int i t⟩
 | _,_,_,_, .str x,_,r=>by obtain⟨t,rfl⟩:=r;exact⟨_, .str x t⟩
 | _,_,_,_, .ty n,h,r=>by simp[E6] at h
 | 0,_,_,_, .tup hq rs,h,r=>by simp[E6] at h
 | 0,_,_,_, .lst hq t m rs,h,r=>by simp[E6] at h
 | n+1,_,_,_, .tup hq rs,h,r=>by cases r;obtain⟨a,rv,⟨o,c,hc,k,hd⟩,_⟩:=I.tuple hq.sq;obtain⟨as,ra⟩:=JA I n rs (by simpa[E6] using h) rv;exact⟨_, .tuple c hc hd (by simpa using ra)⟩
 | n+1,_,_,_, .lst hq t m rs,h,r=>by cases r;obtain⟨a,rv,⟨o,k,c,hc,_,hd⟩,_⟩:=I.list (Fy.of hq);obtain⟨as,ra⟩:=JA I n rs (by simpa[E6] using h) rv;exact⟨_, .list c hc hd (by simpa using ra)⟩
 | _,_,_,_, .tape _,h,r=>by simp[E6] at h
 | _,_,_,_, .scr _,h,r=>by simp[E6] at h
theorem JA (I:Inv X Tb σ H s){T M:kf->Prop}:∀(n:Nat) {xs:km PV} {vs:km V} {a:km kj},A9 X.K T M H vs xs->KS n xs=true->A7 vs a->∃as,ReadsAll s.heap a (NG xs) as
 | _,_,_,_, .nil,_,r=>by cases r;exact⟨_, .nil⟩
 | n,_,_,_, .cons h t,hk,r=>by
   simp only[KS,ABS] at hk;cases r with
   | cons r b=> obtain⟨as,ra⟩:=EK I n h hk.1 r;obtain⟨bs,c⟩:=JA I n t hk.2 b;exact⟨_, .cons ra c⟩
end
end
section
variable {X:Cx}
def Ru (x y:PV):kc:=PyData.eqv (pd x) (pd y)
def j9 (K:AAY)(neg:kc):R2:=λu v H Q=>∃(T M:kf->Prop) (x y:PV),Ce K T M H u x/\Ce K T M H v y/\E6 30 x=true/\E6 30 y=true/\Q (.bl (if neg then !Ru x y else Ru x y)) H
def oB {k:Nat}(b:Room k X.A):Ee X (compareOp .Eq) (j9 X.K false):=by intro Tb s i H u v j l Q I c rv h;obtain⟨T,M,x,y,d,e,a,ky,q⟩:=h;obtain⟨as,ra⟩:=EK I 30 d a c;obtain⟨bs,f⟩:=EK I 30 e ky rv;obtain⟨g,m,_⟩:=HS 30 x a;obtain⟨b1,b2,_⟩:=HS 30 y ky;exact SeqAt.compareEq_reads ra f g b1 (by have:=b.un;omega) ⟨.bl _,H,I,rfl,q⟩
def oE {k:Nat}(b:Room k X.A):Ee X (compareOp .NotEq) (j9 X.K true):=by intro Tb s i H u v j l Q I c rv h;obtain⟨T,M,x,y,d,e,a,ky,q⟩:=h;obtain⟨as,ra⟩:=EK I 30 d a c;obtain⟨bs,f⟩:=EK I 30 e ky rv;obtain⟨g,m,_⟩:=HS 30 x a;obtain⟨b1,b2,_⟩:=HS 30 y ky;exact SeqAt.compareNe_reads ra f g b1 (by have:=b.un;omega) ⟨.bl _,H,I,rfl,q⟩
def Fz:Ik:=λx y Q=>match gY x y with | some b=>Q (.bl b)|none=>(E6 30 x=true/\E6 30 y=true)/\Q (.bl (Ru x y))
def Nm:Ik:=λx y Q=>match gY x y with | some b=>Q (.bl (!b))|none=>(E6 30 x=true/\E6 30 y=true)/\Q (.bl (!Ru x y))
def tF (K:AAY):R2:=λx y H Q=>y9 x y H Q\/j9 K false x y H Q
def tK (K:AAY):R2:=λx y H Q=>zE x y H Q\/j9 K true x y H Q
def Bt {k:Nat}(c:Room k X.A):Ee X (compareOp .Eq) (tF X.K)/\B8 X.K (tF X.K) Fz:=by
 refine⟨sX.or (oB c),λT M H u v x y Q d va a rv h k=> ?_⟩;unfold Fz at h;split at h
 .rename_i b e;obtain⟨h1,h2⟩:=WZ a rv e;refine .inl ⟨h1, ?_⟩;rw[h2];exact k _ _ T H (.refl va.tp) (.bl _) h
 .exact .inr ⟨T,M,x,y,a,rv,h.1.1,h.1.2,k _ _ T H (.refl va.tp) (.bl _) h.2⟩
def FQ {k:Nat}(c:Room k X.A):Ee X (compareOp .NotEq) (tK X.K)/\B8 X.K (tK X.K) Nm:=by
 refine⟨sZ.or (oE c),λT M H u v x y Q d va a rv h k=> ?_⟩;unfold Nm at h;split at h
 .rename_i b e;obtain⟨h1,h2⟩:=WZ a rv e;refine .inl ⟨h1, ?_⟩;rw[h2];exact k _ _ T H (.refl va.tp) (.bl _) h
 .exact .inr ⟨T,M,x,y,a,rv,h.1.1,h.1.2,k _ _ T H (.refl va.tp) (.bl _) h.2⟩
def Pr:PV->kc | .tup _=>true | .lst _=>true|_=>false
@[irreducible] def tj (x:PV):Str:=(pd x).shown
structure VW (x:PV):Prop where
 ok:E6 30 x=true
 sh:(pd x).showable=true
 sz:(pd x).shown.length<=sizeLine
@[irreducible] def Xf:AF:=λxs Q=>match xs with | [.non] =>Q (.str "None") | [x] =>Pr x=true/\VW x/\Q (.str (tj x))|_=>False
def oX (K:AAY):km V->Hp->VK->Prop:=λa H Q=>(a= [.non] /\Q (.str "None") H)\/∃(T M:kf->Prop) (u:V) (x:PV),a= [u] /\Ce K T M H u x/\Pr x=true/\VW x/\Q (.str (tj x)) H
def aQ {k:Nat}(c:Room k X.A):Cf X (.type "str") (oX X.K):=by
 intro Tb s j H l vs Q I r h;rcases h with⟨rfl,q⟩|⟨T,M,u,x,rfl,d,hq,ok,q⟩
 .cases r with
  | cons r t=> cases t;cases r;exact P.str_of_none ⟨.str _,H,I.tok _,⟨_,rfl⟩,q⟩
 .cases r with
  | cons r t=>
    cases t;obtain⟨as,ra⟩:=EK I 30 d ok.ok r;obtain⟨m,n,f⟩:=HS 30 x ok.ok;have hv:∃a,u= .ref a:=by cases d <;> first | exact⟨_,rfl⟩|(simp[Pr] at hq)
    obtain⟨a,rfl⟩:=hv;cases r;have g:Q (.str (pd x).shown) H:=by unfold tj at q;exact q
    refine str_of_reads ra ok.sh (λz=>by rw[f] at z;cases z) c.gd (by have:=c.un;omega) (λb o e=>e) (λh' t i hk=> ?_) ok.sz;exact⟨.str _,H,I.kept (t':=i) hk,⟨_,rfl⟩,g⟩
def gX {k:Nat}(a:Room k X.A):Cf X (.type "str") (oX X.K)/\Gu X.K (oX X.K) Xf:=by
 refine⟨aQ a,λT M H b xs Q c va r h k=> ?_⟩;unfold Xf at h;split at h <;> first | exact h.elim|skip
 .cases r with | cons r t=>cases t;cases r;exact .inl ⟨rfl,k _ _ T H (.refl va.tp) (.str _) h⟩
 .cases r with | cons r t=>cases t;exact .inr ⟨T,M,_,_,rfl,r,h.1,h.2.1,k _ _ T H (.refl va.tp) (.str _) h.2.2⟩
end
section
variable {prog:gn}{w:fe}{A:Wf}{E:kj->ki->Prop}{s:ki}
def Nu {h:da}{l:kf}{items:Array kj}(hl:h.IsList l items)(o:Obj):(h.push o).IsList l items:=by obtain⟨a,e,r⟩:=hl;exact⟨a,AAe _ e,r⟩
theorem Rr {it t:kf}{items:Array kj}(f:t≠it):∀(n i:Nat) (s:ki) (Q:km kj->ki->Prop),s.heap.IsListIter it t i->s.heap.IsList t items->i+n<=items.size-> (∀h',h'.IsListIter it t (i+n)->Heap.SameBut it s.heap h'->Q ((items.toList.drop i).take n) {s with heap:=h'})->wpAny (model prog w) A (draw (.ref it) n) Q E s
 | 0,i,s,Q,hit,_,_,hQ=>by show wpAny _ _ (pure []) Q E s;exact AAZ (by simpa using hQ s.heap hit (Heap.SameBut.refl ..))
 | n+1,i,s,Q,hit,ht,ax,hQ=>by
   have g:i<items.size:=by omega
   show wpAny _ _ (pyNext (.ref it) >>= _) Q E s;refine AAX (wpAny_pyNext_list_item hit ht (x:=items[i]) (by simp[g]) λh b a=> ?_);refine AAX (ABV (Rr f n (i+1) _ _ b (ht.extBut a.extBut f) (by omega) λe c d=>AAZ ?_));have hd:items.toList.drop i=items[i] :: items.toList.drop (i+1):=by simp[ACx,g]
   have:=hQ e (by rw[show i+(n+1)=i+1+n by omega];exact c) (a.trans d);rw[hd,ADe] at this;exact this
def Nf {t:kf}{items:Array kj}{Q:km kj->ki->Prop}(k:A.handled=none)(g:s.heap.IsList t items)(hQ:∀h',Heap.ExtBut s.heap.objs.size s.heap h'->Q items.toList {s with heap:=h'}):wpAny (model prog w) A (unpackItems (.ref t) items.size none) Q E s:=by
 have j:t≠s.heap.objs.size:=by obtain⟨o,l,_⟩:=g;exact AAh (AAd l)
 unfold unpackItems;refine AAX ?_
 .unfold notIterableAtAll;refine AAX (ABc g.typeIs slot_list_iter.lookup ?_);refine AAZ ?_;simp only[ABO,ABE];refine AAX (ABV (AED g ?_));refine AAX (ABV (Rr j items.size 0 _ _ ⟨_,AAj _ rfl,rfl,rfl⟩ (Nu g _) (by omega) λh c a=> ?_));have m:List.take items.size (List.drop 0 items.toList)=items.toList:=by rw[List.drop_zero];exact ADX (by simp)
  rw[m];rw[AAa (by simp)];have d:h.IsList t items:=(Nu g _).extBut a.extBut j;refine AAX (ABV (wpAny_pyNext_list_end k c d (by simp) λi f=> ?_));simp only[Option.isSome_none,ABO,ABE];refine AAZ (hQ i λb o hb e=>f b o hb (a.extBut b o hb (AAe _ e)))
def Le {env:Env}{elts:km kd}{x1}{pos:Pos}{t:kf}{items:Array kj}{Q:Unit->ki->Prop}(a:A.handled=none)(b:s.heap.IsList t items)(hn:(assignEach elts env).length=items.size)(c:(assignEach elts env).findIdx? (·.1)=none)(h:∀h',Heap.ExtBut s.heap.objs.size s.heap h'->wpAny (model prog w) A (assignInOrder ((assignEach elts env).map (·.2)) items.toList) Q E {s with heap:=h'}):wpAny (model prog w) A (assign (.Tuple elts x1 pos) env (.ref t)) Q E s:=by rw[assign_Tuple];refine AAX (ABp ?_);unfold unpack;rw[hn,c];exact AAX (ABV (Nf a b h))
end
section
variable {X:Cx}{pos:Pos}
def aa (K:AAY)(n:Nat)(t:XD):TG:=λv b H Q=>∃a xs,v= .ref a/\(LZ K H a xs\/Fy K H a xs)/\xs.length=n/\t xs b H Q
def YG {es:km kd}{k:Nat}{t:XD}{n:Nat}(hc:X.calm=true)(h:pj X es t)(hn:(assignEach es X.env).length=n:=by rfl)(i:(assignEach es X.env).findIdx? (·.1)=none:=by rfl):PG X (.Tuple es k pos) (aa X.K n t):=by
 intro Tb s c H v u Q I r hw;obtain⟨a,xs,j,hq,hl,hw⟩:=hw;subst j;cases r;rcases hq with hq|hq
 .obtain ⟨d,rv,f,hz⟩:=I.tuple hq;refine assign_Tuple_tuple (I.ok.hd hc) f (by simp[hn,<-hl,rv.length]) i λh' hx=> ?_;have g:Inv X Tb c H {s with heap:=h'}:=I.kept (t':=s.toks) λb o e=>hx b o (AAh (AAd e)) e;exact h Tb _ c H xs _ Q g (by simpa using rv) hw
 .obtain ⟨d,rv,f,hz⟩:=I.list hq;refine Le (I.ok.hd hc) f.isList (by simp[hn,<-hl,rv.length]) i λh' hx=> ?_;have g:Inv X Tb c H {s with heap:=h'}:=I.kept (t':=s.toks) λb o e=>hx b o (AAh (AAd e)) e;exact h Tb _ c H xs _ Q g (by simpa using rv) hw
def JR (n:Nat)(r:Wy):AG:=λx τ Q=>WH x λxs=>xs.length=n/\r xs τ Q
def gj {K:AAY}{n:Nat}{c:XD}{a:Wy}(s:Re K c a):LY K (aa K n c) (JR n a):=λB T d τ H v x Q e f r h k=>by
 obtain⟨xs,hx,h⟩:=KY h;rcases hx with rfl|rfl
 .obtain ⟨p,vs,rfl,hq,b⟩:=DG r;exact⟨p,vs,rfl, .inl hq,by rw[b.length];exact h.1,s B T d τ H vs _ Q e f b h.2 k⟩
 .obtain ⟨p,vs,rfl,hq,g,i,b⟩:=C0 r;exact⟨p,vs,rfl, .inr (.inl (.inl hq)),by rw[b.length];exact h.1,s B T d τ H vs _ Q e f b h.2 k⟩
def CG {es:km kd}{k:Nat}{a:Wy}{n:Nat}(hc:X.calm=true)(h:uT X es a)(hn:(assignEach es X.env).length=n:=by rfl)(b:(assignEach es X.env).findIdx? (·.1)=none:=by rfl):SG X (.Tuple es k pos) (JR n a):=
 let ⟨_,p,s⟩:=h;⟨_,YG hc p hn b,gj s⟩
def m8 {own:Nat}{K:AAY}{n:Nat}{t:XD}(h:PM own t):Ij own (aa K n t):=λv b H Q ⟨a,xs,e,h1,h2,c⟩=>⟨a,xs,e,h1,h2,h xs b H Q c⟩
def Uf {own:Nat}{es:km kd}{k:Nat}{b:Wy}{n:Nat}(hc:X.calm=true)(h:uU own X es b)(hn:(assignEach es X.env).length=n:=by rfl)(c:(assignEach es X.env).findIdx? (·.1)=none:=by rfl):SK own X (.Tuple es k pos) (JR n b):=
 let ⟨_,p,s,d,m⟩:=h;⟨_,YG hc p hn c,gj s,m8 d,λv g H Q i z ⟨a,xs,e,h1,h2,f⟩=>⟨a,xs,e,h1,h2,m _ _ _ _ _ z f⟩⟩
def nM:pk X .Mult (λx y H Q=>∃i j,x= .int i/\y= .int j/\MulOk i j/\Q (.int (i*j)) H):=by intro Tb s d H x y v u Q I r1 r2 h;obtain⟨i,j,a,b,c,q⟩:=h;subst a;subst b;obtain⟨t,rfl⟩:=r1;obtain⟨t',rfl⟩:=r2;exact AutoIntOps.imul_0 (show (Made.int (i*j)).post _ _ from⟨.int _,H,I.tok _,⟨_,rfl⟩,q⟩) (.of_le (JS c.l) (JS c.r) (by decide))
def pD:pk X .Mult (λx y H Q=>∃i j,x= .int i/\y= .int j/\MulOk i j/\Q (.int (i*j)) H)/\B8 X.K (λx y H Q=>∃i j,x= .int i/\y= .int j/\MulOk i j/\Q (.int (i*j)) H) DW:=⟨nM,λT M H u v x y Q b va a rv h k=>by
 obtain⟨i,j,rfl,rfl,c,q⟩:=Oh h;exact⟨i,j,a.toI,rv.toI,c,k _ _ T H (.refl va.tp) (.int _) q⟩⟩
end
def Qi {i:Int}(a:0<=i)(b:i<2147483647): -(2^64)<i/\i<2^64:=⟨by omega,by omega⟩
def b01 (b:kc):(0:Int)<=(if b=true then 1 else 0):=by cases b <;> decide
def yV (b:kc): -(2^64)<(if b=true then (1:Int) else 0)/\(if b=true then (1:Int) else 0)<2^64:=by cases b <;> decide
def hZ {T:kf->Prop}{H:Hp}{p:kf}{d x:Int}(tp:∀a,T a->Fk H a)(t:T p)(c:0<=d)(f:0<=x)(g:x<2147483647):Dv T H T (upd H p (.lst [.int d, .int x])) where
 keep:=λb o n e=>by rw[Ao (λz=>n (by subst z;exact t))];exact e
 sub:=λ_ t=>t
 new:=λ_ t=> .inl t
 tp:=λa h=>by
  by_cases z:a=p
  .subst z;exact⟨d,x,Ap,c,f,g⟩
  .obtain ⟨d',i,e,q⟩:=tp a h;exact⟨d',i,by rw[Ao z];exact e,q⟩
def hV {T:kf->Prop}{H:Hp}{p:kf}{d x:Int}(tp:∀a,T a->Fk H a)(hp:H p=none)(f:0<=d)(g:0<=x)(h:x<2147483647):Dv T H (λb=>T b\/b=p) (upd H p (.lst [.int d, .int x])) where
 keep:=λb o n e=>by rw[Ao (A5 e hp)];exact e
 sub:=λ_ t=> .inl t
 new:=λb t=>t.elim .inl λz=> .inr (by subst z;exact hp)
 tp:=λa c=>by
  by_cases z:a=p
  .subst z;exact⟨d,x,Ap,f,g,h⟩
  .rcases c with c|c
   .obtain ⟨d',i,e,q⟩:=tp a c;exact⟨d',i,by rw[Ao z];exact e,q⟩
   .exact absurd c z
def law_sp {K:AAY}{H:Hp}{a:kf}{b:km Int}{F:AF}(c:Fy K H a (b.map V.int))(h:F [.scr b] λx=>x= .bl true):Cn K 1 F [.ref a] H (λv _=>v= .bl true) λ_ _ _=>False:=by
 refine⟨λ_=>False,λ_=>False, [.scr b],_,⟨λ_ z=>z.elim,λ_ z=>z.elim⟩,λ_ z=>z.elim, .cons (.scr ?_) .nil,rfl,h,λv x d f _ r e=> ?_⟩
 .rcases c with h|h
  .exact .inl ⟨h,id,id⟩
  .exact .inr λH=> .inr h
 .subst e;cases r;rfl
theorem JT {g:AG}{b:AS}{D:Hk}(a:km PV->BC->Prop)(hd:∀τ,a [] τ->D.nx τ)(hs:∀x r τ (R:BC->Prop),(∀τ,a r τ->R τ)->a (x::r) τ->g x τ λc=>b {D with nx:=R,ct:=R,bk:=D.nx} c):∀xs τ,a xs τ->Ex g b D xs τ
 | [],τ,h=>hd τ h
 | x::r,τ,h=>hs x r τ _ (λd h2=>JT a hd hs r d h2) h
theorem Ym {c:AT}{b:AS}{D:Hk}(a:Nat->BC->Prop)(e:∀τ,¬a 0 τ)(hs:∀n τ (R:BC->Prop),(∀τ,a n τ->R τ)->a (n+1) τ->c (frz τ) λk=>if k=true then b {D with nx:=R,ct:=R,bk:=D.nx} τ else D.nx τ):∀n τ,a n τ->Wt c b D n τ
 | 0,τ,h=>absurd h (e τ)
 | n+1,τ,h=>hs n τ _ (λd h2=>Ym a e hs n d h2) h
def L8 (lo:Int)(n:Nat):rng lo (n+1)= .int lo::rng (lo+1) n:=by
 unfold rng;rw[List.range_succ_eq_map,AAi,ABf];congr 1
 .simp
 .apply ACy;intro k _;simp only[Function.comp];congr 1;omega
def YL (lo:Int)(n:Nat):(rng lo n).length=n:=by simp[rng]
end PL
namespace PL
open PySem L2 PyProof.Rows
def fr (r:Rat):PV:= .tup [.int r.num, .int (r.den:Int)]
def F0 {b:kc}{A B:Prop}(h1:b=true->A)(h2:b=false->B):if b=true then A else B:=by
 cases b with
 | true=>rw[AAb rfl];exact h1 rfl
 | false=>rw[AAa AAs];exact h2 rfl
structure Bd (n:Nat) (r:Rat):Prop where
 top:r.num.natAbs<2^n
 bot:r.den<2^n
def Bd.botI {n:Nat}{r:Rat}(b:Bd n r):(r.den:Int).natAbs<2^n:=by simpa using b.bot
def QI {m n:Nat}(h:m<=n):2^m<=2^n:=Nat.pow_le_pow_right (by decide) h
def Bd.mono {m n:Nat}{r:Rat}(b:Bd m r)(h:m<=n):Bd n r:=⟨AA0 b.top (QI h),AA0 b.bot (QI h)⟩
def fN {a b m n:Nat}(ha:a<2^m)(hb:b<2^n):a*b<2^(m+n):=by rw[Nat.pow_add];exact Nat.mul_lt_mul_of_lt_of_le ha (AD2 hb) (Nat.pos_of_ne_zero (by intro z;rw[z] at hb;omega)) |> λh=>h
def BW {a b:Int}{m n:Nat}(ha:a.natAbs<2^m)(hb:b.natAbs<2^n):(a*b).natAbs<2^(m+n):=by rw[ADC];exact fN ha hb
def TQ {a b:Int}{n:Nat}(ha:a.natAbs<2^n)(hb:b.natAbs<2^n):(a+b).natAbs<2^(n+1):=by rw[Nat.pow_succ];omega
def Uo {a b:Int}{n:Nat}(ha:a.natAbs<2^n)(hb:b.natAbs<2^n):(a-b).natAbs<2^(n+1):=by rw[Nat.pow_succ];omega
def Aw {a m n:Nat}(h:a<2^m)(hm:m<=n):a<2^n:=AA0 h (QI hm)
def MulOk.of {a b:Int}{m n:Nat}(ha:a.natAbs<2^m)(hb:b.natAbs<2^n)(hm:m<=1000000:=by omega)(hn:n<=1000000:=by omega):MulOk a b:=⟨Aw ha hm,Aw hb hn⟩
def XY (t b:Int):(Rat.divInt t b).num.natAbs<=t.natAbs:=by
 rw[AEM];by_cases h:b=0
 .subst h;simp
 .have e:(b.gcd t:Int) ∣ b.sign*t:=Int.dvd_trans (Int.gcd_dvd_right ..) (Int.dvd_mul_left ..);rw[Int.natAbs_ediv_of_dvd e,ADC];refine AA1 (ADf _ _) ?_;rw[Int.natAbs_sign_of_ne_zero h];omega
def XX (t b:Int)(h:b≠0):(Rat.divInt t b).den<=b.natAbs:=by rw[AEo,AAa h];exact ADf _ _
def Bd.divInt {n:Nat}{t b:Int}(h:b≠0)(a:t.natAbs<2^n)(hb:b.natAbs<2^n):Bd n (Rat.divInt t b):=
 ⟨ABj (XY t b) a,ABj (XX t b h) hb⟩
def Bf (a:Rat):(a.den:Int)≠0:=by have:=a.den_pos;omega
def HH (a b:Rat):a+b=Rat.divInt (a.num*b.den+b.num*a.den) (a.den*b.den):=by have h:=AEp a.num b.num (Bf a) (Bf b);rw[ABv,ABv] at h;exact h
def K5 (a b:Rat):a-b=Rat.divInt (a.num*b.den-b.num*a.den) (a.den*b.den):=by have h:=Rat.divInt_sub_divInt a.num b.num (Bf a) (Bf b);rw[ABv,ABv] at h;exact h
def KP (a b:Rat):a*b=Rat.divInt (a.num*b.num) (a.den*b.den):=by have h:=AEN a.num b.num (d₁:=a.den) (d₂:=b.den);rw[ABv,ABv] at h;exact h
def KI (a b:Rat):a/b=Rat.divInt (a.num*b.den) (a.den*b.num):=by rw[AEO,Rat.inv_def];have h:=AEN a.num b.den (d₁:=a.den) (d₂:=b.num);rw[ABv] at h;exact h
def Cz {a b:Int}(ha:a≠0)(hb:b≠0):a*b≠0:=Int.mul_ne_zero ha hb
def X0 {b:Rat}(h:b≠0):b.num≠0:=λz=>h (Rat.num_eq_zero.mp z)
def Bd.add {m n:Nat}{a b:Rat}(ha:Bd m a)(hb:Bd n b):Bd (m+n+1) (a+b):=by
 rw[HH];refine .divInt (Cz (Bf a) (Bf b)) (TQ (BW ha.top (by simpa using hb.bot)) ?_) ?_
 .rw [Nat.add_comm m n];exact BW hb.top (by simpa using ha.bot)
 .exact Aw (BW (by simpa using ha.bot) (by simpa using hb.bot)) (by omega)
def Bd.sub {m n:Nat}{a b:Rat}(ha:Bd m a)(hb:Bd n b):Bd (m+n+1) (a-b):=by
 rw[K5];refine .divInt (Cz (Bf a) (Bf b)) (Uo (BW ha.top (by simpa using hb.bot)) ?_) ?_
 .rw [Nat.add_comm m n];exact BW hb.top (by simpa using ha.bot)
 .exact Aw (BW (by simpa using ha.bot) (by simpa using hb.bot)) (by omega)
def Bd.mul {m n:Nat}{a b:Rat}(ha:Bd m a)(hb:Bd n b):Bd (m+n) (a*b):=by rw[KP];exact .divInt (Cz (Bf a) (Bf b)) (BW ha.top hb.top) (BW (by simpa using ha.bot) (by simpa using hb.bot))
def Bd.div {m n:Nat}{a b:Rat}(h:b≠0)(ha:Bd m a)(hb:Bd n b):Bd (m+n) (a/b):=by rw[KI];exact .divInt (Cz (Bf a) (X0 h)) (BW ha.top (by simpa using hb.bot)) (BW (by simpa using ha.bot) hb.top)
def Bd.neg {n:Nat}{a:Rat}(ha:Bd n a):Bd n (-a):=⟨by show (-a.num).natAbs<_;rw[ADg];exact ha.top,ha.bot⟩
def dh (n:Int):fr (n:Rat)= .tup [.int n, .int 1] :=by simp[fr]
def Bd.int {n:Int}{k:Nat}(h:n.natAbs<2^k)(hk:1<=k):Bd k (n:Rat):=⟨by simpa using h,by simp;omega⟩
def ck:AS:=
 (AZ (Ms (Am (AY Nm (aV 1) (aC (.int 0)))) (Q0 0 1 (AB (aV 1) (AB (AY Xa (aV 0) (aV 1)) AM))))
   (As (aV 0)))
def Gi:AF:=A0 2 ck
def Ie (x y:Nat)(Q:PV->Prop)(h:Q (.int (Nat.gcd x y:Nat))):Gi [.int x, .int y] Q:=by
 have go:∀y x:Nat,∀D:Hk,D.nx [some (.val (.int (Nat.gcd x y:Nat))),some (.val (.int 0))] ->∃n,Wt (Am (AY Nm (aV 1) (aC (.int 0)))) (Q0 0 1 (AB (aV 1) (AB (AY Xa (aV 0) (aV 1)) AM))) D n [some (.val (.int x)),some (.val (.int y))] :=by
  intro y;induction y using Nat.strongRecOn with
  | _ y ih=>
    intro x D a;by_cases hy:y=0
    .subst hy;refine⟨1, ?_⟩;rw[Nat.gcd_zero_right] at a;exact a
    .obtain ⟨n,hn⟩:=ih (x % y) (Nat.mod_lt _ (by omega)) y D (by rw[ADD y,<-Nat.gcd_rec,ADD y];exact a);refine⟨n+1, ?_⟩;refine F0 (b:= !decide ((y:Int)=0)) (λ_=> ?_) (λz=> ?_)
     .have c:(x:Int).fmod (y:Int)=((x % y:Nat):Int):=by rw[ADS _ (by omega)];simp
      refine⟨by omega, ?_⟩;rw[<-c] at hn;exact hn
     .have:(y:Int)=0:=by simpa using z
      omega
 obtain⟨n,hn⟩:=go y x {nx:=λτ=>As (aV 0) {nx:=λ_=>Q .non,rt:=Q,bk:=λ_=>False,ct:=λ_=>False} τ,rt:=Q,bk:=λ_=>False,ct:=λ_=>False} h;exact⟨n,hn⟩
def Z9:AS:=
 (AZ (BI (Am (AY cW (aV 1) (aC (.int 0)))) (Aj (Jv EA (aV 2)) (Aq 2)) Ay)
   (As (Ar (AB (AY Q8 (aV 0) (aV 2)) (AB (AY Q8 (aV 1) (aV 2)) AM)))))
def mI:AS:=
 (AZ (Aj (AN 2 Gi (AB (DZ Td (AB (aV 0) AM)) (AB (DZ Td (AB (aV 1) AM)) AM))) (Aq 2))
   Z9)
def Ih:AF:=A0 3 mI
def fo (t b:Int)(hb:b≠0):∀s:Int,s=(if b<0 then -(Nat.gcd t.natAbs b.natAbs:Int) else (Nat.gcd t.natAbs b.natAbs:Int))->s≠0/\t.fdiv s=(Rat.divInt t b).num/\b.fdiv s=((Rat.divInt t b).den:Int):=by
 intro s hs;have g:0<Nat.gcd t.natAbs b.natAbs:=ADE _ (by omega);have f:b.gcd t=Nat.gcd t.natAbs b.natAbs:=by rw[AFJ,ADD]
 have a:(Nat.gcd t.natAbs b.natAbs:Int) ∣ t:=by rw[<-Int.dvd_natAbs];exact Int.ofNat_dvd.mpr (Nat.gcd_dvd_left ..)
 have c:(Nat.gcd t.natAbs b.natAbs:Int) ∣ b:=by rw[<-Int.dvd_natAbs];exact Int.ofNat_dvd.mpr (ADh ..)
 have d:s ∣ t:=by rw[hs];split <;> first | exact Int.neg_dvd.mpr a|exact a
 have e:s ∣ b:=by rw[hs];split <;> first | exact Int.neg_dvd.mpr c|exact c
 refine⟨by rw[hs];split <;> omega, ?_, ?_⟩
 .rw [AFK d,AEM,f,hs];by_cases h:b<0
  .rw [AAb h,AFL h,Int.ediv_neg];have:(-1:Int)*t= -t:=by omega
   rw[this,Int.neg_ediv_of_dvd a]
  .rw [AAa h,AEq (by omega),Int.one_mul]
 .rw [AFK e,AEo,AAa hb,f,hs];by_cases h:b<0
  .rw [AAb h,Int.ediv_neg];have:(b.natAbs:Int)= -b:=by omega
   rw[ADi,this,Int.neg_ediv_of_dvd c]
  .rw [AAa h];have:(b.natAbs:Int)=b:=by omega
   rw[ADi,this]
def Gm (t b:Int)(hb:b≠0)(f:b.natAbs<2^8900)(Q:PV->Prop)(h:Q (fr (Rat.divInt t b))):Ih [.int t, .int b] Q:=by
 have g:0<Nat.gcd t.natAbs b.natAbs:=ADE _ (by omega);have gl:Nat.gcd t.natAbs b.natAbs<2^8900:=ABj (AEP (by omega) (ADh ..)) f;obtain⟨a,c,d⟩:=fo t b hb _ rfl;refine⟨rfl,Ie _ _ _ ?_⟩;refine F0 (b:=decide (b<0)) (λz=> ?_) (λz=> ?_)
 .have e:b<0:=ABw z;rw[AAb e] at a c d;refine⟨⟨a,by rw[ADg];exact gl⟩,⟨a,by rw[ADg];exact gl⟩,(show 2<=sizeLine by decide), ?_⟩;unfold fr at h;rw[<-c,<-d] at h;exact h
 .have e:¬b<0:=ACO z;rw[AAa e] at a c d;refine⟨⟨a,gl⟩,⟨a,gl⟩,(show 2<=sizeLine by decide), ?_⟩;unfold fr at h;rw[<-c,<-d] at h;exact h
def Bd.mt {n:Nat}{a b:Rat}(ha:Bd 4000 a)(hb:Bd 4000 b):MulOk a.num b.den/\MulOk b.num a.den/\MulOk a.den b.den/\MulOk a.num b.num/\MulOk a.den b.num:=
 ⟨.of ha.top (by simpa using hb.bot), .of hb.top (by simpa using ha.bot), .of (by simpa using ha.bot) (by simpa using hb.bot), .of ha.top hb.top, .of (by simpa using ha.bot) hb.top⟩
def Rp {a b:Rat}(ha:Bd 4000 a)(hb:Bd 4000 b):((a.den:Int)*(b.den:Int)).natAbs<2^8900:=Aw (BW (a:=(a.den:Int)) (by simpa using ha.bot) (by simpa using hb.bot)) (by omega)
def mJ:AS:=
 (As (AN 2 Ih (AB (AY A4 (AY DW (AY Ak (aV 0) (aC (.int 0))) (AY Ak (aV 1) (aC (.int 1)))) (AY DW (AY Ak (aV 1) (aC (.int 0))) (AY Ak (aV 0) (aC (.int 1))))) (AB (AY DW (AY Ak (aV 0) (aC (.int 1))) (AY Ak (aV 1) (aC (.int 1)))) AM))))
def Ii:AF:=A0 2 mJ
def Ra {a b:Rat}(ha:Bd 4000 a)(hb:Bd 4000 b){Q:PV->Prop}(h:Q (fr (a+b))):Ii [fr a,fr b] Q:=by obtain⟨m1,m2,m3,_⟩:=Bd.mt (n:=0) ha hb;refine⟨m1,m2,m3,rfl,Gm _ _ (Cz (Bf a) (Bf b)) (Rp ha hb) _ ?_⟩;rw[HH] at h;exact h
def iR:AS:=
 (As (AN 2 Ih (AB (AY GF (AY DW (AY Ak (aV 0) (aC (.int 0))) (AY Ak (aV 1) (aC (.int 1)))) (AY DW (AY Ak (aV 1) (aC (.int 0))) (AY Ak (aV 0) (aC (.int 1))))) (AB (AY DW (AY Ak (aV 0) (aC (.int 1))) (AY Ak (aV 1) (aC (.int 1)))) AM))))
def EG:AF:=A0 2 iR
def EZ {a b:Rat}(ha:Bd 4000 a)(hb:Bd 4000 b){Q:PV->Prop}(h:Q (fr (a-b))):EG [fr a,fr b] Q:=by obtain⟨m1,m2,m3,_⟩:=Bd.mt (n:=0) ha hb;refine⟨m1,m2,m3,rfl,Gm _ _ (Cz (Bf a) (Bf b)) (Rp ha hb) _ ?_⟩;rw[K5] at h;exact h
def iS:AS:=
 (As (AN 2 Ih (AB (AY DW (AY Ak (aV 0) (aC (.int 0))) (AY Ak (aV 1) (aC (.int 0)))) (AB (AY DW (AY Ak (aV 0) (aC (.int 1))) (AY Ak (aV 1) (aC (.int 1)))) AM))))
def F3:AF:=A0 2 iS
def PK {a b:Rat}(ha:Bd 4000 a)(hb:Bd 4000 b){Q:PV->Prop}(h:Q (fr (a*b))):F3 [fr a,fr b] Q:=by obtain⟨_,_,m3,m4,_⟩:=Bd.mt (n:=0) ha hb;refine⟨m4,m3,rfl,Gm _ _ (Cz (Bf a) (Bf b)) (Rp ha hb) _ ?_⟩;rw[KP] at h;exact h
def mH:AS:=
 (As (AN 2 Ih (AB (AY DW (AY Ak (aV 0) (aC (.int 0))) (AY Ak (aV 1) (aC (.int 1)))) (AB (AY DW (AY Ak (aV 0) (aC (.int 1))) (AY Ak (aV 1) (aC (.int 0)))) AM))))
def KB:AF:=A0 2 mH
def Mo {a b:Rat}(c:b≠0)(ha:Bd 4000 a)(hb:Bd 4000 b){Q:PV->Prop}(h:Q (fr (a/b))):KB [fr a,fr b] Q:=by obtain⟨m1,_,_,_,m5⟩:=Bd.mt (n:=0) ha hb;refine⟨m1,m5,rfl,Gm _ _ (Cz (Bf a) (X0 c)) (Aw (BW (a:=(a.den:Int)) (by simpa using ha.bot) hb.top) (by omega)) _ ?_⟩;rw[KI] at h;exact h
def Oy:AS:=
 (AZ (Aj (AY GF (aC (.int 1)) (AY DW (aC (.int 2)) (DZ Te (AB (AY cW (aV 1) (aC (.int 0))) AM)))) (Aq 2))
   (As (Ar (AB (AY Q8 (AY DW (aV 2) (aV 0)) (aV 3)) (AB (AY Q8 (AY DW (aV 2) (aV 1)) (aV 3)) AM)))))
def Ox:AS:=
 (AZ (Ms (Am (AY lM (aV 4) (aC (.int 0)))) (Q0 3 4 (AB (aV 4) (AB (AY Xa (aV 3) (aV 4)) AM))))
   Oy)
def Uy:AS:=
 (AZ (Q0 3 4 (AB (DZ Td (AB (aV 0) AM)) (AB (DZ Td (AB (aV 1) AM)) AM)))
   Ox)
def BA:AF:=A0 5 Uy
def Tq (t b:Int)(hb:b≠0):∀s:Int,s=(if b<0 then -1 else 1)->(s*t).fdiv (Nat.gcd t.natAbs b.natAbs:Int)=(Rat.divInt t b).num/\(s*b).fdiv (Nat.gcd t.natAbs b.natAbs:Int)=((Rat.divInt t b).den:Int):=by
 intro s hs;have c:0<Nat.gcd t.natAbs b.natAbs:=ADE _ (by omega);have a:b.gcd t=Nat.gcd t.natAbs b.natAbs:=by rw[AFJ,ADD]
 have es:b.sign=s:=by
  rw[hs];split
  .rename_i h;exact AFL h
  .exact AEq (by omega)
 rw[AEM,AEo,AAa hb,a,es,ACu _ (by omega),ACu _ (by omega)];refine⟨rfl, ?_⟩;rw[ADi];congr 1;rw[hs];split <;> omega
def B7 (t b:Int)(hb:b≠0)(g:t.natAbs<2^900000)(d:b.natAbs<2^8900){Q:PV->Prop}(h:Q (fr (Rat.divInt t b))):BA [.int t, .int b] Q:=by
 have j:0<Nat.gcd t.natAbs b.natAbs:=ADE _ (by omega);have gl:Nat.gcd t.natAbs b.natAbs<2^8900:=ABj (AEP (by omega) (ADh ..)) d;have e:(1:Int)-2*(if decide (b<0)=true then 1 else 0)=(if b<0 then -1 else 1):=by by_cases z:b<0 <;> simp[z]
 obtain⟨i,a⟩:=Tq t b hb _ e;have go:∀y x:Nat,∀D:Hk,∀u v w,D.nx [u,v,w,some (.val (.int (Nat.gcd x y:Nat))),some (.val (.int 0))] ->∃n,Wt (Am (AY lM (aV 4) (aC (.int 0)))) (Q0 3 4 (AB (aV 4) (AB (AY Xa (aV 3) (aV 4)) AM))) D n [u,v,w,some (.val (.int x)),some (.val (.int y))] :=by
  intro y;induction y using Nat.strongRecOn with
  | _ y ih=>
    intro x D u v w c;by_cases hy:y=0
    .subst hy;refine⟨1, ?_⟩;rw[Nat.gcd_zero_right] at c;exact c
    .obtain ⟨n,hn⟩:=ih (x % y) (Nat.mod_lt _ (by omega)) y D u v w (by rw[ADD y,<-Nat.gcd_rec,ADD y];exact c);refine⟨n+1, ?_⟩;refine F0 (b:=decide (0<(y:Int))) (λ_=> ?_) (λz=> ?_)
     .have a:(x:Int).fmod (y:Int)=((x % y:Nat):Int):=by rw[ADS _ (by omega)];simp
      refine⟨by omega, ?_⟩;rw[<-a] at hn;exact hn
     .have:¬(0:Int)<y:=ACO z;omega
 refine go b.natAbs t.natAbs _ (some (.val (.int t))) (some (.val (.int b))) none ?_;have one:(1:Int).natAbs<2^1:=by decide
 have f:((1:Int)-2*(if decide (b<0)=true then 1 else 0)).natAbs<2^1:=by rw[e];split <;> decide
 refine⟨.of (m:=2) (n:=1) (by decide) (by split <;> decide), .of f g,⟨by omega,gl⟩, .of f d,⟨by omega,gl⟩,(show 2<=sizeLine by decide), ?_⟩;unfold fr at h;rw[<-i,<-a] at h;exact h
def DM {m:Int}{Q:PV->Prop}(m0:0<m)(m1:m<4611686018427387904)(h:∀r,0<=r->r<m->Q (.int r)):A8 [.tape, .int m] Q:=⟨⟨m0,m1⟩,h⟩
mutual
def okS:Nat->PV->kc
 | 0,_=>false
 | _+1, .non=>true
 | _+1, .bl _=>true
 | _+1, .int _=>true
 | n+1, .tup xs=>sU n xs&&decide (xs.length<sizeLine)
 | _+1,_=>false
def sU:Nat->km PV->kc
 | _, [] =>true
 | n,x::xs=>okS n x&&sU n xs
end
def kZ {t:Int}{n:Nat}(h:t.natAbs<2^n)(hn:n<=900000:=by omega):t.natAbs<2^900000:=Aw h hn
section
variable {a b:Rat}{Q:PV->Prop}
theorem nY (ha:Bd 4000 a)(hb:Bd 4000 b)(h:Q (fr (a+b))):BA [.int (a.num*b.den+b.num*a.den), .int (a.den*b.den)] Q:=
 B7 _ _ (Cz (Bf a) (Bf b)) (kZ (TQ (n:=8000) (BW ha.top hb.botI) (BW hb.top ha.botI))) (Rp ha hb) (by rw[<-HH];exact h)
theorem nh (ha:Bd 4000 a)(hb:Bd 4000 b)(h:Q (fr (a-b))):BA [.int (a.num*b.den-b.num*a.den), .int (a.den*b.den)] Q:=
 B7 _ _ (Cz (Bf a) (Bf b)) (kZ (Uo (n:=8000) (BW ha.top hb.botI) (BW hb.top ha.botI))) (Rp ha hb) (by rw[<-K5];exact h)
theorem ng (ha:Bd 4000 a)(hb:Bd 4000 b)(h:Q (fr (a*b))):BA [.int (a.num*b.num), .int (a.den*b.den)] Q:=
 B7 _ _ (Cz (Bf a) (Bf b)) (kZ (BW ha.top hb.top)) (Rp ha hb) (by rw[<-KP];exact h)
theorem nZ (c:b≠0)(ha:Bd 4000 a)(hb:Bd 4000 b)(h:Q (fr (a/b))):BA [.int (a.num*b.den), .int (a.den*b.num)] Q:=
 B7 _ _ (Cz (Bf a) (X0 c)) (kZ (BW ha.top (by simpa using hb.bot))) (Aw (BW (a:=(a.den:Int)) (by simpa using ha.bot) hb.top) (by omega)) (by rw[<-KI];exact h)
end
def Uv {n:Int}{Q:PV->Prop}(h:Q (fr (n:Rat))):Q (.tup [.int n, .int 1]):=by rw[<-dh];exact h
def Bd.part {t b:Int}{n:Nat}(h:b≠0)(a:t.natAbs<2^n)(hb:b.natAbs<2^n):Bd n (Rat.divInt t b):= .divInt h a hb
def lz {a b:Nat}(h:Nat.ble a b=true:=by rfl):a<=b:=ACP h
structure Sh (d n:Nat) (x:PV):Prop where
 ok:E6 d x=true
 sh:(pd x).showable=true
 sz:(pd x).shown.length<=n
mutual
theorem Pz:∀{d e:Nat} (x:PV),d<=e->E6 d x=true->E6 e x=true
 | _,_, .non,_,_=>by simp[E6]
 | _,_, .bl _,_,_=>by simp[E6]
 | _,_, .int _,_,_=>by simp[E6]
 | _,_, .str x,_,h=>by simpa[E6] using h
 | 0,_, .tup xs,_,h=>by simp[E6] at h
 | 0,_, .lst xs,_,h=>by simp[E6] at h
 | d+1,0, .tup xs,h,_=>by omega
 | d+1,0, .lst xs,h,_=>by omega
 | d+1,e+1, .tup xs,h,k=>by simp only[E6] at k ⊢;exact ND xs (by omega) k
 | d+1,e+1, .lst xs,h,k=>by simp only[E6] at k ⊢;exact ND xs (by omega) k
 | _,_, .tape,_,h=>by simp[E6] at h
 | _,_, .scr _,_,h=>by simp[E6] at h
 | _,_, .dct _,_,h=>by simp[E6] at h
 | _,_, .ty _,_,h=>by simp[E6] at h
theorem ND:∀{d e:Nat} (xs:km PV),d<=e->KS d xs=true->KS e xs=true
 | _,_, [],_,_=>by simp[KS]
 | _,_,x::xs,h,k=>by simp only[KS,ABS] at k ⊢;exact⟨Pz x h k.1,ND xs h k.2⟩
end
def Sh.mono {d n e m:Nat}{x:PV}(s:Sh d n x)(h1:d<=e)(h2:n<=m):Sh e m x:=⟨Pz x h1 s.ok,s.sh,AA1 s.sz h2⟩
def Sh.go {d n:Nat}{x:PV}(s:Sh d n x)(h1:d<=30:=by omega)(h2:n<=16777216:=by omega):VW x:=⟨Pz x h1 s.ok,s.sh,AA1 s.sz h2⟩
def Sh.int {i:Int}(h:i.natAbs<2^1900):Sh 0 1902 (.int i):=by
 refine⟨rfl, ?_, ?_⟩
 .show decide (i.natAbs.log2<1920)=true;exact AAt (ACt (Lz h (by decide)) (by decide))
 .show (Str.ofString (toString i)).length<=1902;rw[PySem.ofString_length];exact AA1 (int_text_length_le (k:=1900) (by decide) (Lz h (by decide))) (by decide)
theorem Gx {d:Nat}:∀{xs:km PV},(∀x∈xs,E6 d x=true)->KS d xs=true
 | [],_=>rfl
 | x::xs,h=>by simp only[KS,ABS];exact⟨h x (by simp),Gx λy hy=>h y (by simp[hy])⟩
theorem YY:∀{xs:km PV},(∀x∈xs,(pd x).showable=true)->PyData.showableAll (NG xs)=true
 | [],_=>rfl
 | x::xs,h=>by simp only[NG,PyData.showableAll,ABS];exact⟨h x (by simp),YY λy hy=>h y (by simp[hy])⟩
theorem Ur {n:Nat}:∀{xs:km PV},(∀x∈xs,(pd x).shown.length<=n)->((PyData.shownAll (NG xs)).map (·.length)).sum<=xs.length*n
 | [],_=>by simp[NG,PyData.shownAll]
 | x::xs,h=>by simp only[NG,PyData.shownAll,AAi,ADj,AAz];have h1:=h x (by simp);have h2:=Ur (n:=n) (xs:=xs) λy hy=>h y (by simp[hy]);rw[Nat.succ_mul];omega
theorem Hf:∀(xs:km PV),(PyData.shownAll (NG xs)).length=xs.length
 | [] =>rfl
 | x::xs=>by simp[NG,PyData.shownAll,Hf xs]
def Sh.tup {d n:Nat}{xs:km PV}(h:∀x∈xs,Sh d n x):Sh (d+1) (xs.length*(n+2)+3) (.tup xs):=by refine⟨by simp only[E6];exact Gx λx hx=>(h x hx).ok,by simp only[pd,PyData.showable];exact YY λx hx=>(h x hx).sh, ?_⟩;have h1:=Ur (n:=n) (xs:=xs) λx hx=>(h x hx).sz;have h2:=tupleText_len_le (PyData.shownAll (NG xs));rw[Hf] at h2;simp only[pd,PyData.shown];rw[Nat.mul_add];omega
def Sh.lst {d n:Nat}{xs:km PV}(h:∀x∈xs,Sh d n x):Sh (d+1) (xs.length*(n+2)+3) (.lst xs):=by refine⟨by simp only[E6];exact Gx λx hx=>(h x hx).ok,by simp only[pd,PyData.showable];exact YY λx hx=>(h x hx).sh, ?_⟩;have h1:=Ur (n:=n) (xs:=xs) λx hx=>(h x hx).sz;have h2:=listText_len_le (PyData.shownAll (NG xs));rw[Hf] at h2;simp only[pd,PyData.shown];rw[Nat.mul_add];omega
def sL {c:Type}{P:c->Prop}{a b:c}(ha:P a)(hb:P b):∀x∈ [a,b],P x:=λx hx=>by
 simp only[AAc,AAq,AAr] at hx;rcases hx with rfl|rfl
 .exact ha
 .exact hb
def sM {d:Type}{P:d->Prop}{a b c:d}(ha:P a)(hb:P b)(hc:P c):∀x∈ [a,b,c],P x:=λx hx=>by
 simp only[AAc,AAq,AAr] at hx;rcases hx with rfl|rfl|rfl
 .exact ha
 .exact hb
 .exact hc
def nj {e:Type}{P:e->Prop}{a b c d:e}(ha:P a)(hb:P b)(hc:P c)(hd:P d):∀x∈ [a,b,c,d],P x:=λx hx=>by
 simp only[AAc,AAq,AAr] at hx;rcases hx with rfl|rfl|rfl|rfl
 .exact ha
 .exact hb
 .exact hc
 .exact hd
def Sh.fr {r:Rat}(h:Bd 1900 r):Sh 1 4000 (fr r):=(Sh.tup (sL (Sh.int h.top) (Sh.int h.botI))).mono (by omega) lz
def TY (a b:Rat):Ru (fr a) (fr b)=decide (a=b):=by
 show (PyData.eqvAll [.int a.num, .int a.den] [.int b.num, .int b.den])=_;simp only[PyData.eqvAll,PyData.eqv];by_cases h:a=b
 .subst h;simp
 .have:¬(a.num=b.num/\(a.den:Int)=b.den):=λz=>h (Rat.ext z.1 (by omega));rw[AAm h];simp only[AEr,Bool.and_eq_false_iff,AEf];by_cases h1:a.num=b.num
  .exact .inr λz=>this ⟨h1,z⟩
  .exact .inl h1
def ZX (d:Nat)(a:Rat):E6 (d+1) (fr a)=true:=rfl
def sI {a b:Rat}:decide (a.num*(b.den:Int)<b.num*(a.den:Int))=decide (a<b):=by rw[ADk];exact(Rat.lt_iff a b).symm
def cj:AS:=
 (As (AY cW (AY DW (AY Ak (aV 0) (aC (.int 0))) (AY Ak (aV 1) (aC (.int 1)))) (AY DW (AY Ak (aV 1) (aC (.int 0))) (AY Ak (aV 0) (aC (.int 1))))))
def Av:AF:=A0 2 cj
section
variable {a b:Rat}{Q:PV->Prop}
theorem Br (ha:Bd 4000 a)(hb:Bd 4000 b)(h:Q (.bl (decide (a<b)))):Av [fr a,fr b] Q:=by obtain⟨m1,m2,_⟩:=Bd.mt (n:=0) ha hb;refine⟨m1,m2, ?_⟩;rw[<-sI] at h;exact h
def W1:AS:=
 (As (AN 2 BA (AB (AY A4 (AY DW (AY Ak (aV 0) (aC (.int 0))) (AY Ak (aV 1) (aC (.int 1)))) (AY DW (AY Ak (aV 1) (aC (.int 0))) (AY Ak (aV 0) (aC (.int 1))))) (AB (AY DW (AY Ak (aV 0) (aC (.int 1))) (AY Ak (aV 1) (aC (.int 1)))) AM))))
def Bc:AF:=A0 2 W1
theorem Df (ha:Bd 4000 a)(hb:Bd 4000 b)(h:Q (fr (a+b))):Bc [fr a,fr b] Q:=by obtain⟨m1,m2,m3,_⟩:=Bd.mt (n:=0) ha hb;exact⟨m1,m2,m3,rfl,nY ha hb h⟩
def W0:AS:=
 (As (AN 2 BA (AB (AY GF (AY DW (AY Ak (aV 0) (aC (.int 0))) (AY Ak (aV 1) (aC (.int 1)))) (AY DW (AY Ak (aV 1) (aC (.int 0))) (AY Ak (aV 0) (aC (.int 1))))) (AB (AY DW (AY Ak (aV 0) (aC (.int 1))) (AY Ak (aV 1) (aC (.int 1)))) AM))))
def B6:AF:=A0 2 W0
theorem Cw (ha:Bd 4000 a)(hb:Bd 4000 b)(h:Q (fr (a-b))):B6 [fr a,fr b] Q:=by obtain⟨m1,m2,m3,_⟩:=Bd.mt (n:=0) ha hb;exact⟨m1,m2,m3,rfl,nh ha hb h⟩
def O0:AS:=
 (As (AN 2 BA (AB (AY DW (AY Ak (aV 0) (aC (.int 0))) (AY Ak (aV 1) (aC (.int 0)))) (AB (AY DW (AY Ak (aV 0) (aC (.int 1))) (AY Ak (aV 1) (aC (.int 1)))) AM))))
def BN:AF:=A0 2 O0
theorem C1 (ha:Bd 4000 a)(hb:Bd 4000 b)(h:Q (fr (a*b))):BN [fr a,fr b] Q:=by obtain⟨m1,m2,m3,m4,_⟩:=Bd.mt (n:=0) ha hb;exact⟨m4,m3,rfl,ng ha hb h⟩
def SX:AS:=
 (As (AN 2 BA (AB (AY DW (AY Ak (aV 0) (aC (.int 0))) (AY Ak (aV 1) (aC (.int 1)))) (AB (AY DW (AY Ak (aV 0) (aC (.int 1))) (AY Ak (aV 1) (aC (.int 0)))) AM))))
def DL:AF:=A0 2 SX
theorem Hx (c:b≠0)(ha:Bd 4000 a)(hb:Bd 4000 b)(h:Q (fr (a/b))):DL [fr a,fr b] Q:=by obtain⟨m1,m2,m3,m4,m5⟩:=Bd.mt (n:=0) ha hb;exact⟨m1,m5,rfl,nZ c ha hb h⟩
end
def vh {t b:Int}(a:0<t)(hb:0<b):0<Rat.divInt t b:=by
 rw[Rat.lt_iff];have h1:=AEM t b;show (0:Int)*_<_*1;rw[Int.zero_mul,AD5,h1,AEq hb,Int.one_mul];have g:0<(b.gcd t:Int):=by have:=Int.gcd_pos_of_ne_zero_left t (show b≠0 by omega);omega
 exact Int.ediv_pos_of_pos_of_dvd a (by omega) (Int.gcd_dvd_right ..)
def K2 {t b:Int}{Q:PV->Prop}(k:Nat)(hb:b≠0)(a:t.natAbs<2^k)(c:b.natAbs<2^k)(hk:k<=2000)(h:Bd k (Rat.divInt t b)->Q (fr (Rat.divInt t b))):BA [.int t, .int b] Q:=
 B7 t b hb (Aw a (by omega)) (Aw c (by omega)) (h (.part hb a c))
def Mul (D N:Nat)(a:Rat):Prop:=0<D/\∃k:Int,a=Rat.divInt k D/\k.natAbs<=N
def Mul.bd {D N n:Nat}{a:Rat}(h:Mul D N a)(h1:N<2^n)(h2:D<2^n):Bd n a:=by obtain⟨b,k,rfl,hk⟩:=h;exact .divInt (by omega) (by omega) (by simpa using h2)
def Mul.part {t b:Int}{c:Nat}(hb:0<b)(hc:0<c){N:Nat}(h:(t*c).natAbs<=N):Mul (b.toNat*c) N (Rat.divInt t b):=by
 refine⟨Nat.mul_pos (by omega) hc,t*c, ?_,h⟩;have e:((b.toNat*c:Nat):Int)=b*c:=by rw[AEQ];congr 1;omega
 rw[e,(AEs (by omega) (Cz (by omega) (by omega)))];rw[AEt b,ADl]
def Mul.add {D N M:Nat}{a b:Rat}(ha:Mul D N a)(hb:Mul D M b):Mul D (N+M) (a+b):=by obtain⟨c,k,rfl,hk⟩:=ha;obtain⟨_,l,rfl,hl⟩:=hb;refine⟨c,k+l, ?_,by omega⟩;rw[AEp _ _ (by omega) (by omega),AEs (Cz (by omega) (by omega)) (by omega)];rw[<-Int.add_mul,ADl]
def Mul.mono {D N M:Nat}{a:Rat}(h:Mul D N a)(hm:N<=M):Mul D M a:=⟨h.1,let ⟨k,e,hk⟩:=h.2;⟨k,e,by omega⟩⟩
def Mul.int {n:Int}{D N:Nat}(a:0<D)(h:(n*D).natAbs<=N):Mul D N (n:Rat):=by
 have e:(n:Rat)=Rat.divInt n 1:=by rw[<-ABv (n:Rat)];simp
 rw[e];have:=Mul.part (t:=n) (b:=1) (c:=D) (by decide) a h;simpa using this
def O1:AS:=
 (AZ (BI (Am (AY cW (aV 1) (aC (.int 3)))) (As (Ar (AB (AY A4 (aC (.int 1)) (AN 2 A8 (AB (aV 0) (AB (aC (.int 5)) AM)))) (AB (aC (.int 1)) AM)))) Ay)
   (As (AN 2 BA (AB (AY A4 (aC (.int 1)) (AN 2 A8 (AB (aV 0) (AB (aC (.int 8)) AM)))) (AB (AY GF (aV 1) (aC (.int 1))) AM)))))
def Uz:AS:=
 (AZ (Aj (AN 2 A8 (AB (aV 0) (AB (aC (.int 5)) AM))) (Aq 1))
   O1)
def C9:AF:=A0 2 Uz
def Hy {Q:PV->Prop}(h:∀a,Bd 8 a->0<a->Mul 6 48 a->Q (fr a)):C9 [.tape] Q:=by
 refine⟨rfl,DM (by decide) (by decide) λw f g=> ?_⟩;refine F0 (b:=decide (w<3)) (λ_=> ?_) (λz=> ?_)
 .refine ⟨rfl,DM (by decide) (by decide) λr d r1=>⟨lz, ?_⟩⟩;exact Uv (h _ (.int (by omega) (by decide)) (by exact_mod_cast (by omega:(0:Int)<1+r)) (.int (by decide) (by omega)))
 .have i:¬w<3:=ACO z;have hw:w-1=2\/w-1=3:=by omega
  refine⟨rfl,DM (by decide) (by decide) λr d r1=>⟨rfl, ?_⟩⟩;refine K2 8 (by omega) (by omega) (by omega) (by decide) λb=>h _ b (vh (by omega) (by omega)) ?_;rcases hw with e|e
  .rw [e];exact Mul.part (t:=1+r) (b:=2) (c:=3) (by decide) (by decide) (by omega)
  .rw [e];exact Mul.part (t:=1+r) (b:=3) (c:=2) (by decide) (by decide) (by omega)
def N3:AS:=
 (AZ (BI (Am (AY Fz (aV 1) (aC (.int 6)))) (As (AN 2 BA (AB (AY GF (AN 2 A8 (AB (aV 0) (AB (aC (.int 25)) AM))) (aC (.int 6))) (AB (aC (.int 2)) AM)))) Ay)
   (As (AN 2 BA (AB (AY GF (AN 2 A8 (AB (aV 0) (AB (aC (.int 31)) AM))) (aC (.int 9))) (AB (aC (.int 3)) AM)))))
def N2:AS:=
 (AZ (BI (Am (AY cW (aV 1) (aC (.int 6)))) (As (Ar (AB (AY GF (AN 2 A8 (AB (aV 0) (AB (aC (.int 10)) AM))) (aC (.int 3))) (AB (aC (.int 1)) AM)))) Ay)
   N3)
def SV:AS:=
 (AZ (Aj (AN 2 A8 (AB (aV 0) (AB (aC (.int 8)) AM))) (Aq 1))
   N2)
def BB:AF:=A0 2 SV
def BH {Q:PV->Prop}(h:∀a,Mul 6 60 a->Q (fr a)):BB [.tape] Q:=by
 refine⟨rfl,DM (by decide) (by decide) λw e f=> ?_⟩;refine F0 (b:=decide (w<6)) (λ_=> ?_) (λz=> ?_)
 .refine ⟨rfl,DM (by decide) (by decide) λr d r1=>⟨lz, ?_⟩⟩;exact Uv (h _ (.int (by decide) (by omega)))
 refine F0 (b:=decide (w=6)) (λ_=> ?_) (λz=> ?_)
 .exact ⟨rfl,DM (by decide) (by decide) λr d r1=>⟨rfl,K2 8 (by omega) (by omega) (by omega) (by decide) λb=>h _ (Mul.part (t:=r-6) (b:=2) (c:=3) (by decide) (by decide) (by omega))⟩⟩
 .exact ⟨rfl,DM (by decide) (by decide) λr d r1=>⟨rfl,K2 8 (by omega) (by omega) (by omega) (by decide) λb=>h _ (Mul.part (t:=r-9) (b:=3) (c:=2) (by decide) (by decide) (by omega))⟩⟩
abbrev C4:=Rat×Rat×Rat×Rat
def cor (c:C4):PV:= .tup [fr c.1,fr c.2.1,fr c.2.2.1,fr c.2.2.2]
def corL (c:C4):PV:= .lst [fr c.1,fr c.2.1,fr c.2.2.1,fr c.2.2.2]
def Ah (cs:km C4):PV:= .tup (cs.map cor)
structure D5 (B:Nat) (c:C4):Prop where
 m:Bd B c.1
 x:Bd B c.2.1
 y:Bd B c.2.2.1
 z:Bd B c.2.2.2
def D5.mono {B B':Nat}{c:C4}(h:D5 B c)(k:B<=B'):D5 B' c:=⟨h.m.mono k,h.x.mono k,h.y.mono k,h.z.mono k⟩
structure LN (D N:Nat) (c:C4):Prop where
 m:Mul D N c.1
 x:Mul D N c.2.1
 y:Mul D N c.2.2.1
 z:Mul D N c.2.2.2
def LN.mono {D N M:Nat}{c:C4}(h:LN D N c)(k:N<=M):LN D M c:=⟨h.m.mono k,h.x.mono k,h.y.mono k,h.z.mono k⟩
def LN.bd {D N n:Nat}{c:C4}(h:LN D N c)(h1:N<2^n)(h2:D<2^n):D5 n c:=⟨h.m.bd h1 h2,h.x.bd h1 h2,h.y.bd h1 h2,h.z.bd h1 h2⟩
def JQ (cs:km C4):Prop:=cs.Pairwise λa b=>a.1<b.1
structure Hz (n D N:Nat) (cs:List C4):Prop where
 two:2<=cs.length
 few:cs.length<=n
 mu:∀c∈cs,LN D N c
 ris:JQ cs
structure Ef (n B:Nat) (cs:List C4):Prop where
 two:2<=cs.length
 few:cs.length<=n
 bd:∀c∈cs,D5 B c
 ris:JQ cs
def gQ {cs:km C4}{c d:C4}(h:JQ (cs ++ [c]))(hd:c.1<d.1):JQ (cs ++ [c] ++ [d]):=by
 refine AEu.mpr ⟨h,by simp,λa ha b hb=> ?_⟩;simp at hb;subst hb;rcases AAn.mp ha with ha|ha
 .have:=(AEu.mp h).2.2 a ha c (by simp);grind
 .simp at ha;subst ha;exact hd
def mid (a b:Rat):Rat:=(a+b)/2
def Xx (a b:Rat):mid a b=Rat.divInt (a.num*b.den+b.num*a.den) (2*a.den*b.den):=by have h2:(2:Rat)=Rat.divInt 2 1:=rfl;unfold mid;rw[HH,AEO,h2,Rat.inv_divInt,AEN,AD5];congr 1;rw[AEt _ 2,ADl]
def Bd.mid {B:Nat}{a b:Rat}(ha:Bd B a)(hb:Bd B b):Bd (2*B+2) (mid a b):=by rw[Xx];have h2:(2:Int)*a.den≠0:=Cz (by decide) (Bf a);refine .divInt (Cz h2 (Bf b)) (Aw (TQ (n:=B+B) (BW ha.top hb.botI) (BW hb.top ha.botI)) (by omega)) ?_;exact Aw (BW (BW (m:=2) (show (2:Int).natAbs<2^2 by decide) ha.botI) hb.botI) (by omega)
def dZ {cs:km C4}{i:Int}{k:Nat}(hk:i=(k:Int))(h:k<=cs.length):Eh (cs.map cor) none (some i)=(cs.take k).map cor:=by unfold Eh;rw[hk,HT.sIx_none,HT.sIx_nat];rw[show min k (cs.map cor).length=k by simp;omega,ADF];simp
def Ve {cs:km C4}{i:Int}{k:Nat}(hk:i=(k:Int))(h:k<=cs.length):Eh (cs.map cor) (some i) none=(cs.drop k).map cor:=by unfold Eh;rw[hk,HT.sIx_none,HT.sIx_nat];rw[show min k (cs.map cor).length=k by simp;omega,ACh];exact ADX (by simp)
def t5 {cs:km C4}{i:Int}{k:Nat}{Q:PV->Prop}(hk:i=(k:Int))(h:k<=cs.length)(q:Q (Ah (cs.take k))):Xb (Ah cs) none (some i) Q:=by refine Hg ?_;rw[dZ hk h];exact q
def Zt {cs:km C4}{i:Int}{k:Nat}{Q:PV->Prop}(hk:i=(k:Int))(h:k<=cs.length)(q:Q (Ah (cs.drop k))):Xb (Ah cs) (some i) none Q:=by refine Hg ?_;rw[Ve hk h];exact q
def VZ {cs ds:km C4}{Q:PV->Prop}(h:cs.length+ds.length<=10000)(q:Q (Ah (cs++ds))):A4 (Ah cs) (Ah ds) Q:=by
 refine⟨?_, ?_⟩
 .simp only[AAk];exact AA1 h (by decide)
 .show Q (.tup (cs.map cor++ds.map cor));rw[<-AAu];exact q
def Mul.mid {D N:Nat}{a b:Rat}(ha:Mul D N a)(hb:Mul D N b):Mul (2*D) (2*N) (mid a b):=by
 obtain⟨c,k,rfl,hk⟩:=ha;obtain⟨_,l,rfl,hl⟩:=hb;refine⟨by omega,k+l, ?_,by omega⟩;have h2:(2:Rat)=Rat.divInt 2 1:=rfl;unfold PL.mid;rw[AEp _ _ (by omega) (by omega),AEO,h2,Rat.inv_divInt,AEN,AD5,AEs (Cz (Cz (by omega) (by omega)) (by decide)) (by omega),<-Int.add_mul];have e:((2*D:Nat):Int)=2*(D:Int):=by omega
 rw[e,ADl,ADl,AEt 2 (D:Int)]
def Mul.dbl {D N:Nat}{a:Rat}(h:Mul D N a):Mul (2*D) (2*N) a:=by
 have:=h.mid h
 rwa [show PL.mid a a=a by unfold PL.mid;grind] at this
def LN.dbl {D N:Nat}{c:C4}(h:LN D N c):LN (2*D) (2*N) c:=⟨h.m.dbl,h.x.dbl,h.y.dbl,h.z.dbl⟩
def Hz.ok {n D N m:Nat}{cs:km C4}(p:Hz n D N cs)(h1:N<2^m)(h2:D<2^m):Ef n m cs:=⟨p.two,p.few,λc hc=>(p.mu c hc).bd h1 h2,p.ris⟩
def CC (cs:km C4)(v:PV):Prop:=∃f:C4->PV,(f=cor\/f=corL)/\(v= .tup (cs.map f)\/v= .lst (cs.map f))
def CC.self (cs:km C4):CC cs (Ah cs):=⟨cor, .inl rfl, .inl rfl⟩
def CC.lists (cs:km C4):CC cs (.lst (cs.map corL)):=⟨corL, .inr rfl, .inr rfl⟩
def CC.list (cs:km C4):CC cs (.lst (cs.map cor)):=⟨cor, .inl rfl, .inr rfl⟩
theorem Dr {i l:Type}{g:AG}{te:AE}{d:BC}{Q:km PV->Prop}(f:i->PV)(k:l->PV)(e:i->l)(P:i->Prop)(hs:∀a,P a->∀R:PV->Prop,R (k (e a))->g (f a) d λj=>te j R):∀(xs:km i) (c:km PV),(∀a∈xs,P a)->Q (c++(xs.map e).map k)->DS g EJ te d Q (xs.map f) c
 | [],c,_,h=>(by simpa using h:Q c)
 | a::xs,c,hp,h=>by refine hs a (hp a (by simp)) (λy=>DS g EJ te d Q (xs.map f) (c ++ [y])) (Dr f k e P hs xs _ (λb hb=>hp b (by simp[hb])) ?_);simpa using h
def Sh.cor {c:C4}(h:D5 1900 c):Sh 2 17000 (cor c):=(Sh.tup (nj (Sh.fr h.m) (Sh.fr h.x) (Sh.fr h.y) (Sh.fr h.z))).mono (by decide) lz
def Sh.corL {c:C4}(h:D5 1900 c):Sh 2 17000 (corL c):=(Sh.lst (nj (Sh.fr h.m) (Sh.fr h.x) (Sh.fr h.y) (Sh.fr h.z))).mono (by decide) lz
def pL {x:PV}{Q:PV->Prop}(a:VW x)(hq:Pr x=true)(h:Q (.str (tj x))):Xf [x] Q:=by unfold Xf;cases x <;> first | exact⟨hq,a,h⟩|(simp[Pr] at hq)
abbrev T3:=Rat×Rat×Rat
def inter (a b:C4)(m:Rat):T3:=(a.2.1+(m-a.1)/(b.1-a.1)*(b.2.1-a.2.1),a.2.2.1+(m-a.1)/(b.1-a.1)*(b.2.2.1-a.2.2.1),a.2.2.2+(m-a.1)/(b.1-a.1)*(b.2.2.2-a.2.2.2))
def spotG:C4->km C4->Rat->ke T3
 | _, [],_=>none
 | a,b::r,m=>if b.1<m then spotG b r m else some (inter a b m)
def spotC:km C4->Rat->ke T3
 | [],_=>none
 | a::r,m=>if m<a.1 then none else spotG a r m
def qC (t:T3):PV:= .tup [fr t.1,fr t.2.1,fr t.2.2]
def MI:ke T3->PV
 | none=> .non
 | some t=>qC t
structure E5 (B:Nat) (t:T3):Prop where
 x:Bd B t.1
 y:Bd B t.2.1
 z:Bd B t.2.2
def E5.mono {B B':Nat}{t:T3}(h:E5 B t)(k:B<=B'):E5 B' t:=⟨h.x.mono k,h.y.mono k,h.z.mono k⟩
section
variable {B M:Nat}{a b:C4}{m:Rat}
theorem Up {x y:Rat}(h:x<y):y-x≠0:=by grind
theorem Bd.share (ha:D5 B a)(hb:D5 B b)(hm:Bd M m)(h:a.1<b.1):Bd (M+B+1+(B+B+1)) ((m-a.1)/(b.1-a.1)):=(hm.sub ha.m).div (Up h) (hb.m.sub ha.m)
theorem E5.inter (ha:D5 B a)(hb:D5 B b)(hm:Bd M m)(h:a.1<b.1):E5 (M+6*B+10) (inter a b m):=by have s:=Bd.share ha hb hm h;exact⟨(ha.x.add (s.mul (hb.x.sub ha.x))).mono (by omega),(ha.y.add (s.mul (hb.y.sub ha.y))).mono (by omega),(ha.z.add (s.mul (hb.z.sub ha.z))).mono (by omega)⟩
end
theorem E5.spotG {B M:Nat}{m:Rat}(hm:Bd M m):∀{a:C4} {r:km C4},JQ (a::r)->(∀c∈a::r,D5 B c)->∀t,spotG a r m=some t->E5 (M+6*B+10) t
 | a, [],_,_,t,e=>by cases e
 | a,b::r,hr,hb,t,e=>by
   unfold PL.spotG at e;split at e
   .exact E5.spotG hm (AAg.mp hr).2 (λc hc=>hb c (by simp[hc])) t e
   .cases e;exact .inter (hb a (by simp)) (hb b (by simp)) hm ((AAg.mp hr).1 b (by simp))
def E5.spotC {B M:Nat}{m:Rat}{cs:km C4}(hm:Bd M m)(b:JQ cs)(hb:∀c∈cs,D5 B c):∀t,spotC cs m=some t->E5 (M+6*B+10) t:=λt e=>by
 cases cs with
 | nil=>cases e
 | cons a r=>
   simp only[PL.spotC] at e;split at e
   .cases e
   .exact E5.spotG hm b hb t e
def HK {f:C4->PV}{cs:km C4}{i:Int}{k:Nat}{c:C4}{Q:PV->Prop}(hk:i=(k:Int))(e:cs[k]? =some c)(h:Q (f c)):cZ (Im (cs.map f) i) Q:=by have q:Im (cs.map f) ((k:Nat):Int)=some (f c):=Cj (by rw[ABI,e] <;> rfl);rw[hk,q];exact h
def Ll {f:C4->PV}{cs:km C4}{c:C4}{Q:PV->Prop}(e:cs.getLast?=some c)(h:Q (f c)):cZ (Im (cs.map f) (-1)) Q:=by
 have a:cs≠ [] :=by intro z;subst z;cases e
 have hl:0<cs.length:=List.length_pos_iff.mpr a;have q:Im (cs.map f) (-1)=some (f c):=by
  unfold Im Pt;rw[AAk,AAa (by decide),AAb (by omega)];have b:(-1+(cs.length:Int)).toNat=cs.length-1:=by omega
  rw[Option.bind_some,b,ABI,<-AFM,e];rfl
 rw[q];exact h
def O6:AS:=
 (AZ (Aj (AN 2 KB (AB (AN 2 EG (AB (aV 2) (AB (AY Ak (aV 0) (aC (.int 0))) AM))) (AB (AN 2 EG (AB (AY Ak (aV 1) (aC (.int 0))) (AB (AY Ak (aV 0) (aC (.int 0))) AM))) AM))) (Aq 3))
   (As (DZ Bx (AB (Db (CD (pq (AB (TM (aV 0) (TU (aC (.int 1))) TR) (AB (TM (aV 1) (TU (aC (.int 1))) TR) AM))) 2 [3] (JR 2 (Af (Aq 0) (Af (Aq 1) Bw))) EJ (AN 2 Ii (AB (aV 0) (AB (AN 2 F3 (AB (aV 2) (AB (AN 2 EG (AB (aV 1) (AB (aV 0) AM))) AM))) AM))))) AM))))
def EH:AF:=A0 4 O6
def LU {f:C4->PV}(g:f=cor\/f=corL){a b:C4}{B M:Nat}{m:Rat}(ha:D5 B a)(hb:D5 B b)(hm:Bd M m)(h:a.1<b.1)(j:M+6*B+10<=3990){Q:PV->Prop}(q:Q (qC (inter a b m))):EH [f a,f b,fr m] Q:=by
 simp only[qC,inter] at q;have s:=Bd.share ha hb hm h;have key:DS (JR 2 (Af (Aq 0) (Af (Aq 1) Bw))) EJ (AN 2 Ii (AB (aV 0) (AB (AN 2 F3 (AB (aV 2) (AB (AN 2 EG (AB (aV 1) (AB (aV 0) AM))) AM))) AM))) [none,none,some (.val (fr ((m-a.1)/(b.1-a.1))))] (λxs=>Q (.tup xs))
  ([(a.2.1,b.2.1),(a.2.2.1,b.2.2.1),(a.2.2.2,b.2.2.2)].map λp:Rat×Rat=>PV.tup [fr p.1,fr p.2]) [] :=by refine Dr (λp:Rat×Rat=>PV.tup [fr p.1,fr p.2]) fr (λp=>p.1+(m-a.1)/(b.1-a.1)*(p.2-p.1)) (λp=>Bd B p.1/\Bd B p.2) (λp hp R i=> ?_) _ [] (sM ⟨ha.x,hb.x⟩ ⟨ha.y,hb.y⟩ ⟨ha.z,hb.z⟩) q;have c:=hp.1;have e:=hp.2;exact⟨rfl,rfl,EZ (e.mono (by omega)) (c.mono (by omega)) ⟨rfl,PK (s.mono (by omega)) ((e.sub c).mono (by omega)) ⟨rfl,Ra (c.mono (by omega)) ((s.mul (e.sub c)).mono (by omega)) i⟩⟩⟩
 have m1:=hm.mono (n:=4000) (by omega);have d:=ha.m.mono (n:=4000) (by omega);have b1:=hb.m.mono (n:=4000) (by omega);rcases g with rfl|rfl
 .exact ⟨rfl,EZ m1 d ⟨rfl,EZ b1 d ⟨rfl,Mo (Up h) ((hm.sub ha.m).mono (by omega)) ((hb.m.sub ha.m).mono (by omega)) (Hg (Hg ⟨lz,key⟩))⟩⟩⟩
 .exact ⟨rfl,EZ m1 d ⟨rfl,EZ b1 d ⟨rfl,Mo (Up h) ((hm.sub ha.m).mono (by omega)) ((hb.m.sub ha.m).mono (by omega)) (FV (FV ⟨lz,key⟩))⟩⟩⟩
def S3:AS:=
 (AZ (FA (ip (AB (aC (.int 1)) (AB (DZ Dw (AB (aV 0) AM)) AM))) (Aq 2) (BI (B2 (Am (AN 2 Av (AB (AY Ak (AY Ak (aV 0) (aV 2)) (aC (.int 0))) (AB (aV 1) AM))))) (As (AN 3 EH (AB (AY Ak (aV 0) (AY GF (aV 2) (aC (.int 1)))) (AB (AY Ak (aV 0) (aV 2)) (AB (aV 1) AM))))) Ay))
   (As (aC .non)))
def aA:AS:=
 (AZ (BI (Am (AN 2 Av (AB (aV 1) (AB (AY Ak (AY Ak (aV 0) (aC (.int 0))) (aC (.int 0))) AM)))) (As (aC .non)) Ay)
   S3)
def Eb:AF:=A0 3 aA
def Zk {cs:km C4}(h:JQ cs){k:Nat}{a b:C4}(c:cs[k]? =some a)(d:cs[k+1]? =some b):a.1<b.1:=by have h1:=(ABC.mp c);have h2:=(ABC.mp d);obtain⟨e,rfl⟩:=h1;obtain⟨f,rfl⟩:=h2;exact AFN.mp h k (k+1) e f (by omega)
def FR {cs:km C4}{v:PV}{B M:Nat}{m:Rat}(hv:CC cs v)(hc:∀c∈cs,D5 B c)(y:JQ cs)(A:cs≠ [])(hl:cs.length<=1000)(hm:Bd M m)(C:M+6*B+10<=3990){Q:PV->Prop}(q:Q (MI (spotC cs m))):Eb [v,fr m] Q:=by
 obtain⟨f,s,hv⟩:=hv;have m1:=hm.mono (n:=4000) (by omega);cases cs with
 | nil=>exact absurd rfl A
 | cons a r=>
   have D:=hc a (by simp);have E:=D.m.mono (n:=4000) (by omega);simp only[spotC] at q;have F:r.length+1<=1000:=hl;have t:∀(c:C4) (P:PV->Prop),P (fr c.1)->WH (f c) λys=>cZ (Im ys 0) P:=λc P G=>by rcases s with rfl|rfl <;> exact G
   rcases hv with rfl|rfl;all_goals
    refine HK (k:=0) (c:=a) rfl rfl (t a _ ⟨rfl,Br m1 E ?_⟩);refine F0 (b:=decide (m<a.1)) (λz=> ?_) (λz=> ?_)
    .rw [AAb (ABw z)] at q;exact q
    .rw [AAa (ACO z)] at q;have i:∀f:C4->PV,((((a::r).map f).length:Nat):Int)=r.length+1:=λf=>by simp
     refine⟨⟨by decide,by decide,by rw[i];omega,by rw[i];omega⟩, ?_⟩;rw[i,show ((r.length:Int)+1-1).toNat=r.length by omega];refine JT (λu τ=>∃(k:Nat) (j:ke AV) (c:C4) (ds:km C4),u=rng ((k:Int)+1) ds.length/\(a::r)[k]? =some c/\(a::r).drop (k+1)=ds/\spotG c ds m=spotG a r m/\τ= [some (.val _),some (.val (fr m)),j]) ?_ ?_ _ _ ⟨0,none,a,r,rfl,rfl,rfl,rfl,rfl⟩
     .rintro τ ⟨k,j,c,ds,g,h,o,es,rfl⟩;have:ds= [] :=by
       cases ds with
       | nil=>rfl
       | cons d ds=>rw[AAz,L8] at g;cases g
      subst this;rw[<-es] at q;exact q
     .rintro x u τ R H ⟨k,j,c,ds,g,h,o,es,rfl⟩;cases ds with
      | nil=>cases g
      | cons d ds=>
        rw[AAz,L8] at g;cases g;have e:(a::r)[k+1]? =some d:=by have:=congrArg (λl=>l[0]?) o;simpa[ADG] using this
        have w:=hc d (ABN e);have I:=hc c (ABN h);refine HK (k:=k+1) (by omega) e (t d _ ⟨rfl,Br (w.m.mono (by omega)) m1 ?_⟩);refine F0 (b:= !decide (d.1<m)) (λz=> ?_) (λz=> ?_)
        .have p:¬d.1<m:=by simpa using z
         rw[<-es] at q;simp only[spotG,AAa p,MI] at q;exact HK (k:=k) (by omega) h (HK (k:=k+1) (by omega) e ⟨rfl,LU s I w hm (Zk y h e) C q⟩)
        .have p:d.1<m:=by simpa using z
         refine H _ ⟨k+1,_,d,ds, ?_,e, ?_, ?_,rfl⟩
         .rw [show (((k+1:Nat):Int)+1)=(k:Int)+1+1 by omega]
         .have:=congrArg List.tail o;simpa[List.tail_drop] using this
         .rw [<-es];simp only[spotG,AAb p]
theorem Qj {m:Rat}:∀{a:C4} {r:km C4},JQ (a::r)->(∀l,(a::r).getLast?=some l->l.1<m)->spotG a r m=none
 | a, [],_,_=>rfl
 | a,b::r,hr,h=>by
   have d:JQ (b::r):=(AAg.mp hr).2;have hb:b.1<m:=by
    cases r with
    | nil=>exact h b rfl
    | cons c r=> obtain⟨l,hl⟩:∃l,(c::r).getLast?=some l:=⟨_,ADH (by simp)⟩;have h1:l.1<m:=h l (by simpa[ADI] using hl);have h2:b.1<l.1:=(AAg.mp d).1 l (ABx hl);grind
   simp only[spotG,AAb hb];exact Qj d λl hl=>h l (by simpa[ADI] using hl)
def Vw {a b:C4}(h:a.1<b.1):inter a b a.1=a.2:=by
 have s:(a.1-a.1)/(b.1-a.1)=0:=by grind
 simp only[inter,s];obtain⟨m,x,y,z⟩:=a;show (x+0*(b.2.1-x),y+0*(b.2.2.1-y),z+0*(b.2.2.2-z))=(x,y,z);rw[show x+0*(b.2.1-x)=x by grind,show y+0*(b.2.2.1-y)=y by grind,show z+0*(b.2.2.2-z)=z by grind]
def Pp {a b:C4}(h:a.1<b.1):inter a b b.1=b.2:=by
 have s:(b.1-a.1)/(b.1-a.1)=1:=by grind
 simp only[inter,s];obtain⟨m,x,y,z⟩:=b;show (a.2.1+1*(x-a.2.1),a.2.2.1+1*(y-a.2.2.1),a.2.2.2+1*(z-a.2.2.2))=(x,y,z);rw[show a.2.1+1*(x-a.2.1)=x by grind,show a.2.2.1+1*(y-a.2.2.1)=y by grind,show a.2.2.2+1*(z-a.2.2.2)=z by grind]
def Wk {a:C4}{r:km C4}{m:Rat}(h:m<a.1):spotC (a::r) m=none:=by simp only[spotC,AAb h]
def Uk {a:C4}{r:km C4}{m:Rat}(b:JQ (a::r))(h:∀l,(a::r).getLast?=some l->l.1<m):spotC (a::r) m=none:=by
 simp only[spotC];split
 .rfl
 .exact Qj b h
def LK:AS:=
 (AZ (Aj (Db (CD (IM (Ar (AB (aC (.int 1)) (AB (aC (.int 2)) (AB (aC (.int 3)) AM))))) 1 [4,3,2] (Aq 0) EJ (AN 2 BN (AB (aV 1) (AB (AN 2 B6 (AB (AY Ak (aV 2) (aV 0)) (AB (AY Ak (aV 3) (aV 0)) AM))) AM))))) (Aq 5))
   (As (DZ Bx (AB (Db (CD (Q2 (AB (aC (.int 3)) AM)) 1 [2,5] (Aq 0) EJ (AN 2 Bc (AB (AY Ak (aV 1) (AY A4 (aV 0) (aC (.int 1)))) (AB (AY Ak (aV 2) (aV 0)) AM))))) AM))))
def O2:AS:=
 (AZ (Aj (AN 2 DL (AB (AN 2 B6 (AB (aV 1) (AB (AY Ak (aV 2) (aC (.int 0))) AM))) (AB (AN 2 B6 (AB (AY Ak (aV 3) (aC (.int 0))) (AB (AY Ak (aV 2) (aC (.int 0))) AM))) AM))) (Aq 4))
   LK)
def O3:AS:=
 (AZ (FA (pq (AB (aV 0) (AB (TM (aV 0) (TU (aC (.int 1))) TR) AM))) (JR 2 (Af (Aq 2) (Af (Aq 3) Bw))) (BI (B2 (Am (AN 2 Av (AB (AY Ak (aV 3) (aC (.int 0))) (AB (aV 1) AM))))) O2 Ay))
   (As (aC .non)))
def U0:AS:=
 (AZ (BI (EI (Am (AN 2 Av (AB (aV 1) (AB (AY Ak (AY Ak (aV 0) (aC (.int 0))) (aC (.int 0))) AM)))) (Am (AN 2 Av (AB (AY Ak (AY Ak (aV 0) (Jv EA (aC (.int 1)))) (aC (.int 0))) (AB (aV 1) AM))))) (As (aC .non)) Ay)
   O3)
def D6:AF:=A0 6 U0
def Fb {cs:km C4}{B M:Nat}{m:Rat}(hc:∀c∈cs,D5 B c)(C:JQ cs)(G:cs≠ [])(hl:cs.length<=1000)(hm:Bd M m)(N:M+6*B+10<=3990){Q:PV->Prop}(q:Q (MI (spotC cs m))):D6 [Ah cs,fr m] Q:=by
 have m1:=hm.mono (n:=4000) (by omega);cases cs with
 | nil=>exact absurd rfl G
 | cons a r=>
   have H:=hc a (by simp);have I:=H.m.mono (n:=4000) (by omega);obtain⟨l,p⟩:∃l,(a::r).getLast?=some l:=⟨_,ADH (by simp)⟩;have J:=hc l (ABx p);refine HK (f:=cor) (k:=0) (c:=a) rfl rfl ⟨rfl,Br m1 I ?_⟩;refine F0 (b:=decide (m<a.1)) (λz=> ?_) (λz=> ?_)
   .rw [Wk (ABw z)] at q;exact q
   refine Ll (f:=cor) p ⟨rfl,Br (J.m.mono (by omega)) m1 ?_⟩;refine F0 (b:=decide (l.1<m)) (λj=> ?_) (λj=> ?_)
   .rw [Uk C (λO D=>by rw[p] at D;cases D;exact ABw j)] at q;exact q
   simp only[spotC,AAa (ACO z)] at q;have K:r.length+1<=1000:=hl;refine Zt (cs:=a::r) (i:=1) (k:=1) rfl (by simp) ?_;refine JT (λE τ=>∃(c:C4) (ds:km C4) (j t u v:ke AV),E=F1 ((c::ds).map cor) (ds.map cor)/\JQ (c::ds)/\(∀d∈c::ds,D5 B d)/\spotG c ds m=spotG a r m/\τ= [some (.val (Ah (a::r))),some (.val (fr m)),j,t,u,v]) ?_ ?_ _ _ ⟨a,r,none,none,none,none,rfl,C,hc,rfl,rfl⟩
   .rintro τ ⟨c,ds,j,t,u,v,o,w,hb,es,rfl⟩;have:ds= [] :=by cases ds with | nil=>rfl|cons d ds=>cases o
    subst this;rw[<-es] at q;exact q
   .rintro x E τ R L ⟨c,ds,j,t,u,v,o,w,hb,es,rfl⟩;cases ds with
    | nil=>cases o
    | cons d ds=>
      cases o;have g:=hb c (by simp);have h:=hb d (by simp);have F:=(AAg.mp w).1 d (by simp);refine⟨rfl,rfl,Br (h.m.mono (by omega)) m1 ?_⟩;refine F0 (b:= !decide (d.1<m)) (λz=> ?_) (λz=> ?_)
      .have A:¬d.1<m:=by simpa using z
       rw[<-es] at q;simp only[spotG,AAa A,MI,qC,inter] at q;have s:=Bd.share g h hm F;refine⟨rfl,Cw m1 (g.m.mono (by omega)) ⟨rfl,Cw (h.m.mono (by omega)) (g.m.mono (by omega)) ⟨rfl,Hx (Up F) ((hm.sub g.m).mono (by omega)) ((h.m.sub g.m).mono (by omega)) ?_⟩⟩⟩;refine⟨lz,lz, ?_⟩;refine⟨rfl,Cw (h.x.mono (by omega)) (g.x.mono (by omega)) ⟨rfl,C1 (s.mono (by omega)) ((h.x.sub g.x).mono (by omega)) ?_⟩⟩;refine⟨rfl,Cw (h.y.mono (by omega)) (g.y.mono (by omega)) ⟨rfl,C1 (s.mono (by omega)) ((h.y.sub g.y).mono (by omega)) ?_⟩⟩;refine⟨rfl,Cw (h.z.mono (by omega)) (g.z.mono (by omega)) ⟨rfl,C1 (s.mono (by omega)) ((h.z.sub g.z).mono (by omega)) ?_⟩⟩;refine⟨⟨by decide,by decide⟩,lz, ?_⟩;refine⟨rfl,Df (g.x.mono (by omega)) ((s.mul (h.x.sub g.x)).mono (by omega)) ?_⟩;refine⟨rfl,Df (g.y.mono (by omega)) ((s.mul (h.y.sub g.y)).mono (by omega)) ?_⟩;exact⟨rfl,Df (g.z.mono (by omega)) ((s.mul (h.z.sub g.z)).mono (by omega)) q⟩
      .have A:d.1<m:=by simpa using z
       exact L _ ⟨d,ds,_,_,_,_,rfl,(AAg.mp w).2,λe he=>hb e (by simp[he]),by rw[<-es];simp only[spotG,AAb A],rfl⟩
def VW.t3 {t:T3}(h:E5 1900 t):VW (qC t):=(Sh.tup (sM (Sh.fr h.x) (Sh.fr h.y) (Sh.fr h.z))).go (by decide) lz
def sp (cs:km C4)(m:Rat):C4:=(m,(spotC cs m).getD (0,0,0))
def Mu (f t:Rat)(c:C4):kc:=decide (f<c.1)&&decide (c.1<t)
theorem Qk {m:Rat}:∀{a:C4} {r:km C4} {l:C4},r≠ [] ->(a::r).getLast?=some l->m<=l.1->∃t,spotG a r m=some t
 | a, [],l,h,_,_=>absurd rfl h
 | a,b::r,l,_,e,hm=>by
   simp only[spotG];split
   .rename_i h;cases r with
    | nil=>
      have:b=l:=by simpa using e
      subst this;grind
    | cons c r=>exact Qk (l:=l) (by simp) (by simpa[ADI] using e) hm
   .exact ⟨_,rfl⟩
def K3 {a:C4}{r:km C4}{l:C4}{m:Rat}(h2:r≠ [])(e:(a::r).getLast?=some l)(b:a.1<=m)(h1:m<=l.1):∃t,spotC (a::r) m=some t:=by simp only[spotC];rw[AAa (by grind)];exact Qk h2 e h1
def bJ {a b l:C4}{r:km C4}(e:(a::b::r).getLast?=some l):(b::r).getLast?=some l:=by simpa[ADI] using e
def mx (b a:Rat):Rat:=if b<a then a else b
def mn (e l:Rat):Rat:=if e<l then e else l
def Ov:AS:=
 (As (iM (Am (AN 2 Av (AB (aV 0) (AB (aV 1) AM)))) (aV 1) (aV 0)))
def C8:AF:=A0 2 Ov
def LR {a b:Rat}(ha:Bd 4000 a)(hb:Bd 4000 b){Q:PV->Prop}(q:Q (fr (mx a b))):C8 [fr a,fr b] Q:=by
 refine⟨rfl,Br ha hb ?_⟩;refine F0 (b:=decide (a<b)) (λz=> ?_) (λz=> ?_)
 .rw [mx,AAb (ABw z)] at q;exact q
 .rw [mx,AAa (ACO z)] at q;exact q
def cm:AS:=
 (As (iM (Am (AN 2 Av (AB (aV 1) (AB (aV 0) AM)))) (aV 1) (aV 0)))
def Fd:AF:=A0 2 cm
def VR {a b:Rat}(ha:Bd 4000 a)(hb:Bd 4000 b){Q:PV->Prop}(q:Q (fr (mn a b))):Fd [fr a,fr b] Q:=by
 refine⟨rfl,Br hb ha ?_⟩;refine F0 (b:=decide (b<a)) (λz=> ?_) (λz=> ?_)
 .have c:=ABw z;rw[show mn a b=b by unfold mn;split <;> grind] at q;exact q
 .have c:=ACO z;rw[show mn a b=a by unfold mn;split <;> grind] at q;exact q
theorem DB {i:Type}{g:AG}{j:AT}{te:AE}{d:BC}{Q:km PV->Prop}(f k:i->PV)(p:i->kc)(P:i->Prop)(hs:∀a,P a->∀(R:PV->Prop) (N:Prop),(p a=true->R (k a))->(p a=false->N)->g (f a) d λe=>j e λok=>if ok=true then te e R else N):∀(xs:km i) (c:km PV),(∀a∈xs,P a)->Q (c++(xs.filter p).map k)->DS g j te d Q (xs.map f) c
 | [],c,_,h=>(by simpa using h:Q c)
 | a::xs,c,hp,h=>by
   refine hs a (hp a (by simp)) (λy=>DS g j te d Q (xs.map f) (c ++ [y])) _ (λz=> ?_) (λz=> ?_)
   .exact DB f k p P hs xs _ (λb hb=>hp b (by simp[hb])) (by simpa[ABk,z] using h)
   .exact DB f k p P hs xs _ (λb hb=>hp b (by simp[hb])) (by simpa[ABk,z] using h)
def both {f t:Rat}{c:C4}{b:(kc->Prop)->Prop}{A:Prop}{N:Prop}(h1:Mu f t c=true->A)(h2:Mu f t c=false->N):if decide (f<c.1)=true then (if decide (c.1<t)=true then A else N) else N:=by unfold Mu at h1 h2;refine F0 (λz=>F0 (λa=>h1 (by rw[z,a];rfl)) (λa=>h2 (by rw[z,a];rfl))) (λz=>h2 (by rw[z];rfl))
def LL:AS:=
 (As (Db (CD (IM (aV 0)) 1 [1,2] (Aq 0) (Lb (Am (AN 2 Av (AB (aV 1) (AB (AY Ak (aV 0) (aC (.int 0))) AM)))) (Am (AN 2 Av (AB (AY Ak (aV 0) (aC (.int 0))) (AB (aV 2) AM))))) (DZ Bx (AB (aV 0) AM)))))
def CI:AF:=A0 3 LL
def Ew {cs:km C4}{v:PV}{B:Nat}{f t:Rat}(hv:CC cs v)(hl:cs.length<=1000)(hc:∀c∈cs,D5 B c)(h:B<=4000)(i:Bd 4000 f)(j:Bd 4000 t){Q:PV->Prop}(q:Q (.lst ((cs.filter (Mu f t)).map cor))):CI [v,fr f,fr t] Q:=by
 obtain⟨g,k,hv⟩:=hv;have a:(cs.map g).length<sizeLine:=by rw[AAk];exact ABj hl (by decide)
 have key:∀(c:C4),D5 B c->∀(R:PV->Prop) (N:Prop),(Mu f t c=true->R (cor c))->(Mu f t c=false->N)->
  (Aq 0) (g c) [none,some (.val (fr f)),some (.val (fr t))] λd=>(Lb (Am (AN 2 Av (AB (aV 1) (AB (AY Ak (aV 0) (aC (.int 0))) AM)))) (Am (AN 2 Av (AB (AY Ak (aV 0) (aC (.int 0))) (AB (aV 2) AM))))) d λok=>if ok=true then (DZ Bx (AB (aV 0) AM)) d R else N:=by
  intro c l R N h1 h2;have bm:=l.m.mono h;rcases k with rfl|rfl;all_goals
   refine⟨rfl,Br i bm ?_⟩;refine F0 (b:=decide (f<c.1)) (λz=> ?_) (λz=>h2 (by unfold Mu;rw[z];rfl));refine⟨rfl,Br bm j ?_⟩;exact F0 (b:=decide (c.1<t)) (λe=>h1 (by unfold Mu;rw[z,e];rfl)) (λe=>h2 (by unfold Mu;rw[z,e];rfl))
 rcases hv with rfl|rfl
 .exact ⟨a,DB g cor (Mu f t) (D5 B) key cs [] hc q⟩
 .exact ⟨a,DB g cor (Mu f t) (D5 B) key cs [] hc q⟩
def Bd.mx {n:Nat}{a b:Rat}(ha:Bd n a)(hb:Bd n b):Bd n (mx a b):=by unfold PL.mx;split <;> assumption
def Bd.mn {n:Nat}{a b:Rat}(ha:Bd n a)(hb:Bd n b):Bd n (mn a b):=by unfold PL.mn;split <;> assumption
section
variable {a b:AS}{ta tb:AE}{tt tu:AT}{g:AG}{gs:Wy}{nx bk ct:BC->Prop}{rt:PV->Prop}{τ:BC}{Q:PV->Prop}{QB:kc->Prop}{QL:km PV->Prop}{QT:BC->Prop}{r:AA}{ai:AI}{F:AF}{n i j:Nat}{x y z:PV}{xs ys:km PV}
def tP {f:Ik}(e:Tw τ i=some (.val x))(h:ta τ λy=>f x y λz=>nx (τ.set i (some (.val z)))):XE i f ta ⟨nx,rt,bk,ct⟩ τ:=by unfold XE;rw[e];exact h
def tX (e:Tw τ i=some (.own xs))(h:QL xs):Ld i τ QL:=by unfold Ld;rw[e];exact h
def s_V (e:Tw τ i=some (.val x))(h:Q x):aV i τ Q:=by unfold aV;rw[e];exact h
def yr (x:PV)(i:Int):ke PV:=match x with | .tup xs=>Im xs i | .lst xs=>Im xs i|_=>none
def wj {i:Int}(e:yr x i=some z)(h:Q z):Ak x (.int i) Q:=by cases x <;> first | (cases e;done)|(show cZ (Im _ i) Q;rw[show Im _ i=some z from e];exact h)
def gW {a:C4}{cs:km C4}(h:Q (cor a)):Ak (Ah (a::cs)) (.int 0) Q:=HK (k:=0) (c:=a) rfl rfl h
def oj {l:C4}{cs:km C4}(c:cs.getLast?=some l)(h:Q (cor l)):Ak (Ah cs) (.int (-1)) Q:=Ll c h
def tQ {a b:Rat}(h:Q (.bl (decide (a=b)))):Fz (fr a) (fr b) Q:=⟨⟨ZX 29 _,ZX 29 _⟩,by rw[TY];exact h⟩
def tW {a b:Rat}(h:Q (.bl (!decide (a=b)))):Nm (fr a) (fr b) Q:=⟨⟨ZX 29 _,ZX 29 _⟩,by rw[TY];exact h⟩
def om {cs:km C4}(h:Q (.int cs.length)):Dw [Ah cs] Q:=by show Q (.int (cs.map cor).length);rw[AAk];exact h
def tV {T:String}{k:Kd}(c:Ir T)(e:kdOf x=some k)(h:Q (.bl (Jm k T))):Xe [x, .ty T] Q:=by refine⟨c, ?_⟩;rw[e];exact h
def ly {g:km kc->kc}{bs:km kc}(e:Io xs=some bs)(h:Q (.bl (g bs))):aZ g [.lst xs] Q:=by show (match Io xs with | some bs=>Q (.bl (g bs))|none=>False);rw[e];exact h
def tS {c:kc}{A B:Prop}(e:c=true)(h:A):if c=true then A else B:=by rw[AAb e];exact h
def tR {c:kc}{A B:Prop}(e:c=false)(h:B):if c=true then A else B:=by rw[AAa (by rw[e];exact AAs)];exact h
def tT {p:Prop}[Decidable p]{A B:Prop}(h1:p->A)(h2:¬p->B):if decide p=true then A else B:=by
 by_cases h:p
 .rw [AAb (AAt h)];exact h1 h
 .rw [AAa (by simp[h])];exact h2 h
def tU {p:Prop}[Decidable p]{A B:Prop}(h1:¬p->A)(h2:p->B):if (!decide p)=true then A else B:=by
 by_cases h:p
 .rw [AAa (by simp[h])];exact h2 h
 .rw [AAb (by simp[h])];exact h1 h
end
def lI:Bd 1 (0:Rat):=⟨by decide,by decide⟩
def qo:Bd 1 (1:Rat):=⟨by decide,by decide⟩
section
variable {g:AG}{b:AS}{nx bk ct:BC->Prop}{rt:PV->Prop}
def TZ (P:Nat->BC->Prop){lo:Int}{n:Nat}(hd:∀τ,P n τ->nx τ)(hs:∀i,i<n->∀τ (R:BC->Prop),(∀τ,P (i+1) τ->R τ)->P i τ->g (.int (lo+i)) τ λc=>b ⟨R,rt,nx,R⟩ c){τ:BC}(f:P 0 τ):Ex g b ⟨nx,rt,bk,ct⟩ (rng lo n) τ:=by
 refine JT (λr τ=>∃i,i<=n/\r=rng (lo+i) (n-i)/\P i τ) ?_ ?_ _ _ ⟨0,ABH _,by simp,f⟩
 .rintro τ ⟨i,hi,a,hp⟩;have:n-i=0:=by
   cases e:n-i with
   | zero=>rfl
   | succ k=>rw[e,L8] at a;cases a
  have:i=n:=by omega
  subst this;exact hd τ hp
 .rintro x r τ R h ⟨i,hi,a,hp⟩;cases e:n-i with
  | zero=>rw[e] at a;cases a
  | succ k=> rw[e,L8] at a;cases a;exact hs i (by omega) τ R (λd h2=>h d ⟨i+1,by omega,by rw[show n-(i+1)=k by omega,show lo+((i+1:Nat):Int)=lo+i+1 by omega],h2⟩) hp
def DN {d:Type}(f:d->PV)(P:km d->km d->BC->Prop){cs:km d}(hd:∀τ,P cs [] τ->nx τ)(hs:∀a c vs,a++c::vs=cs->∀τ (R:BC->Prop),(∀τ,P (a ++ [c]) vs τ->R τ)->P a (c::vs) τ->g (f c) τ λi=>b ⟨R,rt,nx,R⟩ i){τ:BC}(k:P [] cs τ):Ex g b ⟨nx,rt,bk,ct⟩ (cs.map f) τ:=by
 refine JT (λr τ=>∃a vs,a++vs=cs/\r=vs.map f/\P a vs τ) ?_ ?_ _ _ ⟨[],cs,rfl,rfl,k⟩
 .rintro τ ⟨a,vs,e,h,hp⟩;cases vs with
  | nil=>rw[ACb] at e;subst e;exact hd τ hp
  | cons v vs=>cases h
 .rintro x r τ R l ⟨a,vs,e,h,hp⟩;cases vs with
  | nil=>cases h
  | cons c vs=> cases h;exact hs a c vs e τ R (λj h2=>l j ⟨a ++ [c],vs,by simpa using e,rfl,h2⟩) hp
def uO {c:AT}(P:Nat->BC->Prop)(hs:∀n τ (R:BC->Prop),(∀τ,P n τ->R τ)->P (n+1) τ->c (frz τ) λk=>if k=true then b ⟨R,rt,nx,R⟩ τ else nx τ)(a:∀τ,¬P 0 τ){n:Nat}{τ:BC}(d:P n τ):Ms c b ⟨nx,rt,bk,ct⟩ τ:=
 ⟨n,Ym P a (λn τ R e hp=>hs n τ R e hp) n τ d⟩
end
end PL
namespace PL
section
variable {p:Prop}[Decidable p]{A B:Prop}
def oi (h:¬p)(a:B):if decide p=true then A else B:=by rw[AAa (by simp[h])];exact a
end
end PL
namespace PL
open PySem PySem.Spec PyProof.Rows L2
section
variable {K:AAY}{T M:kf->Prop}{H:Hp}
inductive KR (K:AAY):List Value->List PV->Prop where
 | nil:KR K [] []
 | cons {u:Value} {x:PV} {us:List Value} {xs:List PV} (h:∃V,RelV V u/\∀T M H,Ce K T M H V x) (t:KR K us xs):KR K (u::us) (x::xs)
def KR.length:∀{a:km kj} {xs:km PV},KR K a xs->a.length=xs.length
 | _,_, .nil=>rfl
 | _,_, .cons _ t=>by simp[t.length]
end
def ib (K:AAY)(d:kf):km (Str×PV)->Prop
 | [] =>True
 | p::r=>(∃(u:kj) (V:V),PySem.W.nsIn K d p.1=some (some u)/\RelV V u/\∀T M H,Ce K T M H V p.2)/\ib K d r
theorem ib.get {K:AAY}{d:kf}:∀{c:km (Str×PV)},ib K d c->∀s v,c.lookup s=some v->∃(u:kj) (V:V),PySem.W.nsIn K d s=some (some u)/\RelV V u/\∀T M H,Ce K T M H V v
 | [],_,s,v,e=>by cases e
 | (a,b)::r,h,s,v,e=>by
   rw[AC9] at e;split at e
   .rename_i hb;cases e;have:s=a:=eq_of_beq hb;subst this;exact h.1
   .exact ib.get h.2 s v e
section
variable {X:Cx}
def iO (x:PV)(xs:km PV):kc:=xs.any λy=>Ru y x
def lN (neg:kc):Ik:=λx y Q=>WH y λys=>(E6 29 x=true/\KS 29 ys=true)/\Q (.bl (if neg then !iO x ys else iO x ys))
def kA (K:AAY)(neg:kc):R2:=λu v H Q=>∃(T M:kf->Prop) (x y:PV) (ys:km PV),Ce K T M H u x/\Ce K T M H v y/\(y= .tup ys\/y= .lst ys)/\E6 29 x=true/\KS 29 ys=true/\Q (.bl (if neg then !iO x ys else iO x ys)) H
def Zc (xs:km PV)(x:PV):(NG xs).any (λy=>PyData.eqv y (pd x))=iO x xs:=by
 induction xs with
 | nil=>rfl
 | cons y ys ih=>simp only[NG,ABg,ih,iO,Ru]
def oC {k:Nat}(e:Room k X.A):Ee X (compareOp .In) (kA X.K false):=by
 intro Tb s i H u v j l Q I f rv h;obtain⟨T,M,x,y,ys,g,b,hy,c,ky,q⟩:=h;obtain⟨as,ra⟩:=EK I 29 g c f;obtain⟨d,m,_⟩:=HS 29 x c;obtain⟨b1,b2,_⟩:=L0 29 ys ky;have hu:X.A.units+1+min (PyData.depthAll (NG ys)) (pd x).depth<cLine:=by have:=e.un;omega
 rcases hy with rfl|rfl
 .obtain ⟨bs,a⟩:=EK I 30 b (by simpa[E6] using ky) rv;exact SeqAt.in_tuple_reads a ra b1 d hu (by rw[Zc];exact⟨.bl _,H,I,rfl,q⟩)
 .obtain ⟨bs,a⟩:=EK I 30 b (by simpa[E6] using ky) rv;exact SeqAt.in_list_reads a ra b1 d hu (by rw[Zc];exact⟨.bl _,H,I,rfl,q⟩)
def kR {neg:kc}:B8 X.K (kA X.K neg) (lN neg):=λT M H u v x y Q b va a rv h k=>by obtain⟨ys,hy,h1,q⟩:=KY h;exact⟨T,M,x,y,ys,a,rv,hy,h1.1,h1.2,k _ _ T H (.refl va.tp) (.bl _) q⟩
def gr {k:Nat}(a:Room k X.A):Ee X (compareOp .In) (kA X.K false)/\B8 X.K (kA X.K false) (lN false):=⟨oC a,kR⟩
end
end PL
namespace PL
open PySem L2 PyProof.Rows
class Wp (P:Prop) (P':outParam Prop):Prop where
 go:P'->P
class OY (P:Prop) (C P':outParam Prop):Prop where
 go:C->P'->P
class yU (P:Prop) (P':outParam Prop):Prop where
 go:P'->P
class vY (P:Prop) (A B:outParam Prop):Prop where
 go:A->B->P
class ie (τ:BC) (i:Nat) (x:outParam AV):Prop where
 e:Tw τ i=some x
instance{v:AV}{r:BC}:ie (some v::r) 0 v:=⟨rfl⟩
instance{y:ke AV}{r:BC}{i:Nat}{v:AV}[h:ie r i v] :ie (y::r) (i+1) v:=⟨h.e⟩
class aJ (τ:BC) (i:Nat) (v:AV) (τ':outParam BC):Prop where
 e:τ.set i (some v)=τ'
instance{y:ke AV}{r:BC}{v:AV}:aJ (y::r) 0 v (some v::r):=⟨rfl⟩
instance{y:ke AV}{r a:BC}{i:Nat}{v:AV}[h:aJ r i v a] :aJ (y::r) (i+1) v (y::a):=⟨by rw[ACz,h.e]⟩
class aH (τ:BC) (τ':outParam BC):Prop where
 e:frz τ=τ'
instance:aH [] [] :=⟨rfl⟩
instance (priority:=low){z:ke AV}{r a:BC}[h:aH r a] :aH (z::r) (i8 z::a):=⟨by rw[<-h.e];rfl⟩
instance{r a:BC}[h:aH r a] :aH (none::r) (none::a):=⟨by rw[<-h.e];rfl⟩
instance{x:PV}{r a:BC}[h:aH r a] :aH (some (.val x)::r) (some (.val x)::a):=⟨by rw[<-h.e];rfl⟩
instance{x:km PV}{r a:BC}[h:aH r a] :aH (some (.own x)::r) (some (.val (.lst x))::a):=⟨by rw[<-h.e];rfl⟩
class qS (ix:List Nat) (τ:BC) (τ':outParam BC):Prop where
 e:(ix.map λi=>aN (Tw τ i))=τ'
instance{τ:BC}:qS [] τ [] :=⟨rfl⟩
instance{τ r:BC}{i:Nat}{ix:km Nat}{x:PV}[h:ie τ i (.val x)][h2:qS ix τ r] :qS (i::ix) τ (some (.val x)::r):=⟨by rw[AAi,h.e,h2.e];rfl⟩
class qg (n:Nat) (τ:outParam BC):Prop where
 e:List.replicate n none=τ
instance:qg 0 [] :=⟨rfl⟩
instance{n:Nat}{τ:BC}[h:qg n τ] :qg (n+1) (none::τ):=⟨by rw[List.replicate_succ,h.e]⟩
class cn (xs ys:BC) (zs:outParam BC):Prop where
 e:xs++ys=zs
instance{ys:BC}:cn [] ys ys:=⟨rfl⟩
instance{x:ke AV}{xs ys a:BC}[h:cn xs ys a] :cn (x::xs) ys (x::a):=⟨by rw[AER,h.e]⟩
class iU (xs ys:List PV) (zs:outParam (List PV)):Prop where
 e:xs++ys=zs
instance{ys:km PV}:iU [] ys ys:=⟨rfl⟩
instance{x:PV}{xs ys a:km PV}[h:iU xs ys a] :iU (x::xs) ys (x::a):=⟨by rw[AER,h.e]⟩
class AA3 (xs:List PV) (n:outParam Nat):Prop where
 e:xs.length=n
class Ix (x:PV) (i:Int) (y:outParam PV):Prop where
 e:yr x i=some y
class AtN (xs:List PV) (n:Nat) (y:outParam PV):Prop where
 e:xs[n]? =some y
section
variable {a b:AS}{ta tb:AE}{tt tu:AT}{g:AG}{gs:Wy}{nx bk ct:BC->Prop}{rt:PV->Prop}{τ τ' τ2:BC}{Q:PV->Prop}{QB:kc->Prop}{QL:km PV->Prop}{QT:BC->Prop}{r:AA}{ai:AI}{F:AF}{n i j:Nat}{x y z:PV}{xs ys zs:km PV}
instance{c:PV}{q:km PV}:Ix (.tup (c::q)) 0 c:=⟨Cj (j:=0) rfl⟩
instance{c:PV}{q:km PV}:Ix (.lst (c::q)) 0 c:=⟨Cj (j:=0) rfl⟩
instance{c p1:PV}{q:km PV}:Ix (.tup (c::p1::q)) 1 p1:=⟨Cj (j:=1) rfl⟩
instance{c p1:PV}{q:km PV}:Ix (.lst (c::p1::q)) 1 p1:=⟨Cj (j:=1) rfl⟩
instance{c p1 p2:PV}{q:km PV}:Ix (.tup (c::p1::p2::q)) 2 p2:=⟨Cj (j:=2) rfl⟩
instance{c p1 p2:PV}{q:km PV}:Ix (.lst (c::p1::p2::q)) 2 p2:=⟨Cj (j:=2) rfl⟩
instance{d p1 p2 c:PV}{q:km PV}:Ix (.tup (d::p1::p2::c::q)) 3 c:=⟨Cj (j:=3) rfl⟩
instance{q:Rat}:Ix (fr q) 0 (.int q.num):=⟨rfl⟩
instance{q:Rat}:Ix (fr q) 1 (.int q.den):=⟨rfl⟩
instance{c:C4}:Ix (cor c) 0 (fr c.1):=⟨rfl⟩
instance{c:C4}:Ix (cor c) 1 (fr c.2.1):=⟨rfl⟩
instance{c:C4}:Ix (cor c) 2 (fr c.2.2.1):=⟨rfl⟩
instance{c:C4}:Ix (cor c) 3 (fr c.2.2.2):=⟨rfl⟩
def vg {f:C4->PV}{c:C4}{cs:km C4}:Im ((c::cs).map f) 0=some (f c):=Cj (j:=0) rfl
instance{c:C4}{cs:km C4}:Ix (Ah (c::cs)) 0 (cor c):=⟨vg⟩
instance:Wp (AZ a b ⟨nx,rt,bk,ct⟩ τ) (a ⟨b ⟨nx,rt,bk,ct⟩,rt,bk,ct⟩ τ):=⟨id⟩
instance:Wp (Aj ta g ⟨nx,rt,bk,ct⟩ τ) (ta τ λx=>g x τ nx):=⟨id⟩
instance[h:aH τ τ'] :Wp (As ta ⟨nx,rt,bk,ct⟩ τ) (ta τ' rt):=⟨λk=>by unfold As;rw[h.e];exact k⟩
instance:Wp (Ay ⟨nx,rt,bk,ct⟩ τ) (nx τ):=⟨id⟩
instance:Wp (BI tt a b ⟨nx,rt,bk,ct⟩ τ) (tt τ λk=>if k=true then a ⟨nx,rt,bk,ct⟩ τ else b ⟨nx,rt,bk,ct⟩ τ):=⟨id⟩
def UX (τ:BC)(i:Nat)(v:AV)(QT:BC->Prop):Prop:=QT (τ.set i (some v))
instance{v:AV}[h:aJ τ i v τ'] :Wp (UX τ i v QT) (QT τ'):=⟨λk=>by unfold UX;rw[h.e];exact k⟩
instance:Wp (II r i ⟨nx,rt,bk,ct⟩ τ) (r τ λxs=>UX τ i (.own xs) nx):=⟨id⟩
instance[h:aJ τ i (.val x) τ'] :Wp (Aq i x τ QT) (QT τ'):=⟨λk=>by unfold Aq;rw[h.e];exact k⟩
instance{f:Ik}[h:ie τ i (.val x)] :Wp (XE i f ta ⟨nx,rt,bk,ct⟩ τ) (ta τ λy=>f x y λz=>UX τ i (.val z) nx):=⟨λk=>tP h.e k⟩
instance[h:ie τ i (.own xs)] :Wp (Ld i τ QL) (QL xs):=⟨λk=>tX h.e k⟩
instance{f:mS}:Wp (Fl i f r ⟨nx,rt,bk,ct⟩ τ) (Ld i τ λxs=>r τ λys=>f xs ys λzs=>UX τ i (.own zs) nx):=⟨id⟩
instance:Wp (NA xs [y] QL) (xs.length<sizeLine/\QL (xs ++ [y])):=⟨id⟩
instance{k:Int}:Wp (fL xs [.int k,y] QL) ((0<=k/\k<=(xs.length:Int)/\xs.length<sizeLine)/\QL (xs.take k.toNat++y::xs.drop k.toNat)):=⟨id⟩
instance[h:ie τ i (.own xs)][h2:aJ τ i (.val (.lst xs)) τ'] :Wp (il i a ⟨nx,rt,bk,ct⟩ τ) (a ⟨nx,rt,bk,ct⟩ τ'):=⟨λk=>by unfold il frz1;rw[h.e];show a ⟨nx,rt,bk,ct⟩ (τ.set i (some (.val (.lst xs))));rw[h2.e];exact k⟩
instance:Wp (FA ai g b ⟨nx,rt,bk,ct⟩ τ) (ai τ λxs=>Ex g b ⟨nx,rt,bk,ct⟩ xs τ):=⟨id⟩
instance:Wp (Ex g b ⟨nx,rt,bk,ct⟩ [] τ) (nx τ):=⟨id⟩
instance{q:km PV}:yU (Ex g b ⟨nx,rt,bk,ct⟩ (x::q) τ) (g x τ λc=>b ⟨Ex g b ⟨nx,rt,bk,ct⟩ q,rt,nx,Ex g b ⟨nx,rt,bk,ct⟩ q⟩ c):=⟨id⟩
instance:Wp (Bw [] τ QT) (QT τ):=⟨id⟩
instance{t:km PV}:Wp (Af g gs (x::t) τ QT) (g x τ λτ'=>gs t τ' QT):=⟨id⟩
instance:Wp (JR n gs x τ QT) (WH x λxs=>xs.length=n/\gs xs τ QT):=⟨id⟩
instance[h:ie τ i (.val x)] :Wp (aV i τ Q) (Q x):=⟨λk=>s_V h.e k⟩
instance:Wp (aC x τ Q) (Q x):=⟨id⟩
instance{f:Ik}:Wp (AY f ta tb τ Q) (ta τ λx=>tb τ λy=>f x y Q):=⟨id⟩
instance{f:PV->(PV->Prop)->Prop}:Wp (Jv f ta τ Q) (ta τ λx=>f x Q):=⟨id⟩
instance:Wp (aM ta tb τ Q) (ta τ λx=>ji x λc=>if c=true then tb τ Q else Q (.bl false)):=⟨id⟩
instance:Wp (Am ta τ QB) (ta τ λx=>ji x QB):=⟨id⟩
def wc (x:PV)(QB:kc->Prop):Prop:=match kq x with | some b=>QB b|none=>False
instance:Wp (mX ta τ QB) (ta τ λx=>wc x QB):=⟨id⟩
instance:Wp (wc (.tup (x::xs)) QB) (QB true):=⟨id⟩
instance{c:Type}[DecidableEq c]{f:c->PV}{cs:km c}:Wp (wc (.tup (cs.map f)) QB) (QB (decide (cs≠ []))):=⟨λh=>by show QB (!(cs.map f).isEmpty);cases cs <;> exact h⟩
instance:Wp (B2 tt τ QB) (tt τ λc=>QB (!c)):=⟨id⟩
instance:Wp (Lb tt tu τ QB) (tt τ λc=>if c=true then tu τ QB else QB false):=⟨id⟩
instance:Wp (EI tt tu τ QB) (tt τ λc=>if c=true then QB true else tu τ QB):=⟨id⟩
instance:Wp (iM tt ta tb τ Q) (tt τ λc=>if c=true then ta τ Q else tb τ Q):=⟨id⟩
instance:Wp (EJ τ QB) (QB true):=⟨id⟩
instance[h:aH τ τ'] :Wp (Qz ta τ Q) (ta τ' λx=>V4 x=true/\Q x):=⟨λk=>by unfold Qz;rw[h.e];exact k⟩
instance[h:aH τ τ'] :Wp (VX tt τ QB) (tt τ' QB):=⟨λk=>by unfold VX;rw[h.e];exact k⟩
instance:Wp (AM τ QL) (QL []):=⟨id⟩
instance:Wp (AB ta r τ QL) (ta τ λx=>r τ λxs=>QL (x::xs)):=⟨id⟩
def bN (xs:km PV)(Q:PV->Prop):Prop:=xs.length<=sizeLine/\Q (.tup xs)
instance:Wp (Ar r τ Q) (r τ λxs=>bN xs Q):=⟨id⟩
instance:Wp (B0 r τ QL) (r τ λxs=>xs.length<=sizeLine/\QL xs):=⟨id⟩
instance:Wp (Db r τ Q) (r τ λxs=>Q (.lst xs)):=⟨id⟩
instance:Wp (AN n F r τ Q) (r τ λxs=>xs.length=n/\F xs Q):=⟨id⟩
instance:Wp (DZ F r τ Q) (r τ λxs=>F xs Q):=⟨id⟩
instance:Wp (dF r τ QL) (r τ λxs=>ZF xs QL):=⟨id⟩
instance{own:Nat}{ix:km Nat}{te:AE}{c d:BC}[h1:qg own c][h2:qS ix τ d][f:cn c d τ'] :Wp (CD ai own ix g tt te τ QL) (ai τ λxs=>xs.length<sizeLine/\DS g tt te τ' QL xs []):=⟨λk=>by unfold CD Lf;rw[h1.e,h2.e,f.e];exact k⟩
instance{te:AE}{c:km PV}:Wp (DS g tt te τ QL [] c) (QL c):=⟨id⟩
instance{te:AE}{c q:km PV}:Wp (DS g tt te τ QL (x::q) c) (g x τ λd=>tt d λok=>if ok=true then te d λy=>DS g tt te τ QL q (c ++ [y]) else DS g tt te τ QL q c):=⟨id⟩
instance:Wp (IM ta τ QL) (ta τ λx=>WH x QL):=⟨id⟩
instance:Wp (vd i τ QL) (Ld i τ QL):=⟨id⟩
instance:Wp (Q2 (AB ta AM) τ QL) (ta τ λx=>fY x λj=>(-(2^62)<=j/\j<2^62)/\QL (rng 0 j.toNat)):=⟨λh=>by have e:(λx=>fY x λj=>(-(2^62)<=j/\j<2^62)/\QL (rng 0 j.toNat))=(λx=>match [x] with | [.int j] =>(-(2^62)<=j/\j<2^62)/\QL (rng 0 j.toNat)|_=>False):=(funext λx=>by cases x <;> rfl);rw[e] at h;exact h⟩
instance:Wp (ip (AB ta (AB tb AM)) τ QL) (ta τ λx=>tb τ λy=>bi x y λi j=>(-(2^62)<=i/\i<2^62/\ -(2^62)<=j/\j<2^62)/\QL (rng i (j-i).toNat)):=⟨λh=>by have e:(λx=>tb τ λy=>bi x y λi j=>(-(2^62)<=i/\i<2^62/\ -(2^62)<=j/\j<2^62)/\QL (rng i (j-i).toNat))=(λx=>tb τ λy=>match [x,y] with | [.int i, .int j] =>(-(2^62)<=i/\i<2^62/\ -(2^62)<=j/\j<2^62)/\QL (rng i (j-i).toNat)|_=>False):=(funext λx=>congrArg (tb τ) (funext λy=>by cases x <;> cases y <;> rfl));rw[e] at h;exact h⟩
instance:Wp (pq (AB ta (AB tb AM)) τ QL) (ta τ λx=>tb τ λy=>WH x λxs=>WH y λys=>QL (F1 xs ys)):=⟨id⟩
instance:Wp (Q0 i j (AB ta (AB tb AM)) ⟨nx,rt,bk,ct⟩ τ) (ta τ λx=>tb τ λy=>UX τ i (.val x) λc=>UX c j (.val y) nx):=⟨id⟩
instance{R:Int->Prop}{k:Int}:Wp (fY (.int k) R) (R k):=⟨id⟩
instance{R:Int->Int->Prop}{k l:Int}:Wp (bi (.int k) (.int l) R) (R k l):=⟨id⟩
instance{R:kc->Prop}{c:kc}:Wp (ji (.bl c) R) (R c):=⟨id⟩
instance:Wp (WH (.tup xs) QL) (QL xs):=⟨id⟩
instance:Wp (WH (.lst xs) QL) (QL xs):=⟨id⟩
instance{q:Rat}:Wp (WH (fr q) QL) (QL [.int q.num, .int q.den]):=⟨id⟩
instance{cs:km C4}:Wp (WH (Ah cs) QL) (QL (cs.map cor)):=⟨id⟩
instance{f:Int->Int->PV}{k l:Int}:Wp (fI f (.int k) (.int l) Q) (Q (f k l)):=⟨id⟩
instance{C:Int->Int->Prop}{f:Int->Int->PV}{k l:Int}:Wp (qz C f (.int k) (.int l) Q) (C k l/\Q (f k l)):=⟨id⟩
instance:Wp (XZ .non .non Q) (Q (.bl true)):=⟨id⟩
instance:Wp (Vg .non .non Q) (Q (.bl false)):=⟨id⟩
instance:Wp (XZ (.tup xs) .non Q) (Q (.bl false)):=⟨id⟩
instance:Wp (Vg (.tup xs) .non Q) (Q (.bl true)):=⟨id⟩
instance{k:Int}[h:Ix x k z] :Wp (Ak x (.int k) Q) (Q z):=⟨λq=>wj h.e q⟩
instance{k:Int}:Wp (EA (.int k) Q) (Q (.int (-k))):=⟨id⟩
instance w_not {c:kc}:Wp (mr (.bl c) Q) (Q (.bl (!c))):=⟨id⟩
instance{k l:Int}:Wp (A4 (.int k) (.int l) Q) (Q (.int (k+l))):=⟨id⟩
instance:Wp (A4 (.tup xs) (.tup ys) Q) (xs.length+ys.length<=sizeLine/\Q (.tup (xs++ys))):=⟨id⟩
instance:Wp (A4 (.lst xs) (.lst ys) Q) (xs.length+ys.length<=sizeLine/\Q (.lst (xs++ys))):=⟨id⟩
instance{k l:Int}:Wp (Fz (.int k) (.int l) Q) (Q (.bl (decide (k=l)))):=⟨id⟩
instance{k l:Int}:Wp (Nm (.int k) (.int l) Q) (Q (.bl (!decide (k=l)))):=⟨id⟩
instance{k l:Str}:Wp (Fz (.str k) (.str l) Q) (Q (.bl (decide (k=l)))):=⟨id⟩
instance{k l:Str}:Wp (Nm (.str k) (.str l) Q) (Q (.bl (!decide (k=l)))):=⟨id⟩
instance{k l:kc}:Wp (Nm (.bl k) (.bl l) Q) (Q (.bl (!decide (k=l)))):=⟨id⟩
instance{k l:Rat}:Wp (Fz (fr k) (fr l) Q) (Q (.bl (decide (k=l)))):=⟨tQ⟩
instance{k l:Rat}:Wp (Nm (fr k) (fr l) Q) (Q (.bl (!decide (k=l)))):=⟨tW⟩
instance:Wp (Dw [.tup xs] Q) (Q (.int xs.length)):=⟨id⟩
instance:Wp (Dw [.lst xs] Q) (Q (.int xs.length)):=⟨id⟩
instance{c:km Int}:Wp (Dw [.scr c] Q) (Q (.int c.length)):=⟨id⟩
instance{cs:km C4}:Wp (Dw [Ah cs] Q) (Q (.int cs.length)):=⟨om⟩
instance (priority:=high){c:Type}{f:c->PV}{cs:km c}:Wp (Dw [.tup (cs.map f)] Q) (Q (.int cs.length)):=⟨λh=>by show Q (.int (cs.map f).length);rw[AAk];exact h⟩
instance (priority:=high){c:Type}{f:c->PV}{cs:km c}:Wp (Dw [.lst (cs.map f)] Q) (Q (.int cs.length)):=⟨λh=>by show Q (.int (cs.map f).length);rw[AAk];exact h⟩
instance{k:Int}:Wp (Td [.int k] Q) (Q (.int k.natAbs)):=⟨id⟩
instance{f:Int->Int->Int}{k l:Int}:Wp (q8 f [.int k, .int l] Q) (Q (.int (f k l))):=⟨id⟩
instance{c:kc}:Wp (Te [.bl c] Q) (Q (.int (if c then 1 else 0))):=⟨id⟩
instance:Wp (Bx [.tup xs] Q) (Q (.tup xs)):=⟨id⟩
instance:Wp (Bx [.lst xs] Q) (Q (.tup xs)):=⟨id⟩
instance{c:Rat}:Wp (Bx [fr c] Q) (Q (fr c)):=⟨id⟩
instance:Wp (ZF [.tup xs] QL) (QL xs):=⟨id⟩
instance{lo hi:ke Int}:Wp (Xb (.tup xs) lo hi Q) (Q (.tup (Eh xs lo hi))):=⟨Hg⟩
instance{lo hi:ke Int}:Wp (Xb (.lst xs) lo hi Q) (Q (.lst (Eh xs lo hi))):=⟨FV⟩
instance{l h:AO}:Wp (TM ta l h τ Q) (ta τ λx=>l τ λlo=>h τ λhi=>Xb x lo hi Q):=⟨id⟩
instance{R:ke Int->Prop}:Wp (TR τ R) (R none):=⟨id⟩
instance{R:ke Int->Prop}:Wp (TU ta τ R) (ta τ λx=>fY x λi=>R (some i)):=⟨id⟩
instance{A B:Prop}:Wp (if true=true then A else B) (A):=⟨λh=>by rw[AAb rfl];exact h⟩
instance{A B:Prop}:Wp (if false=true then A else B) (B):=⟨λh=>by rw[AAa AAs];exact h⟩
instance{A B:Prop}:Wp (if (!true)=true then A else B) (B):=⟨λh=>h⟩
instance{A B:Prop}:Wp (if (!false)=true then A else B) (A):=⟨λh=>h⟩
instance{A B:Prop}{c:kc}:Wp (if (!!c)=true then A else B) (if c=true then A else B):=⟨λh=>by rw[Bool.not_not];exact h⟩
instance{p A B:Prop}[Decidable p] :vY (if decide p=true then A else B) (p->A) (¬p->B):=⟨tT⟩
instance{p A B:Prop}[Decidable p] :vY (if (!decide p)=true then A else B) (¬p->A) (p->B):=⟨tU⟩
instance{A:Prop}:Wp (([] :km PV).length<=sizeLine/\A) (A):=⟨λh=>⟨lz,h⟩⟩
instance{A:Prop}:Wp (([] :km PV).length<sizeLine/\A) (A):=⟨λh=>⟨lz,h⟩⟩
instance{c:PV}{A:Prop}:Wp ([c].length=1/\A) (A):=⟨λh=>⟨rfl,h⟩⟩
instance{c:PV}{A:Prop}:Wp ([c].length<=sizeLine/\A) (A):=⟨λh=>⟨lz,h⟩⟩
instance{c p1:PV}{A:Prop}:Wp ([c,p1].length=2/\A) (A):=⟨λh=>⟨rfl,h⟩⟩
instance{c p1:PV}{A:Prop}:Wp ([c,p1].length<=sizeLine/\A) (A):=⟨λh=>⟨lz,h⟩⟩
instance{c p1 p2:PV}{A:Prop}:Wp ([c,p1,p2].length=3/\A) (A):=⟨λh=>⟨rfl,h⟩⟩
instance{c p1 p2:PV}{A:Prop}:Wp ([c,p1,p2].length<=sizeLine/\A) (A):=⟨λh=>⟨lz,h⟩⟩
instance{c p1 p2:PV}{A:Prop}:Wp ([c,p1,p2].length<sizeLine/\A) (A):=⟨λh=>⟨lz,h⟩⟩
instance{c p1 p2 d:PV}{A:Prop}:Wp ([c,p1,p2,d].length=4/\A) (A):=⟨λh=>⟨rfl,h⟩⟩
instance{c p1 p2 d e:PV}{A:Prop}:Wp ([c,p1,p2,d,e].length<=sizeLine/\A) (A):=⟨λh=>⟨lz,h⟩⟩
instance:Wp (bN [] Q) (Q (.tup [])):=⟨λh=>⟨lz,h⟩⟩
instance{c:PV}:Wp (bN [c] Q) (Q (.tup [c])):=⟨λh=>⟨lz,h⟩⟩
instance{c p1:PV}:Wp (bN [c,p1] Q) (Q (.tup [c,p1])):=⟨λh=>⟨lz,h⟩⟩
instance{c p1 p2:PV}:Wp (bN [c,p1,p2] Q) (Q (.tup [c,p1,p2])):=⟨λh=>⟨lz,h⟩⟩
instance{c p1 p2 d:PV}:Wp (bN [c,p1,p2,d] Q) (Q (.tup [c,p1,p2,d])):=⟨λh=>⟨lz,h⟩⟩
instance (priority:=high+10):Wp (bN [.int 0, .int 1] Q) (Q (fr 0)):=⟨λh=>⟨lz,h⟩⟩
instance (priority:=high+10):Wp (bN [.int 1, .int 1] Q) (Q (fr 1)):=⟨λh=>⟨lz,h⟩⟩
instance (priority:=high){k:Int}:Wp (bN [.int k, .int 1] Q) (Q (fr (k:Rat))):=⟨λh=>⟨lz,Uv h⟩⟩
instance (priority:=high){p q r t:Rat}:Wp (bN [fr p,fr q,fr r,fr t] Q) (Q (cor (p,q,r,t))):=⟨λh=>⟨lz,h⟩⟩
instance (priority:=high){k:Rat}{p q r:Rat}:Wp (A4 (.tup [fr k]) (.tup [fr p,fr q,fr r]) Q) (Q (cor (k,p,q,r))):=⟨λh=>⟨lz,h⟩⟩
def mw:PV.tup [.int 1, .int 2] =fr (1/2):=by unfold fr;rw[show ((1:Rat)/2).num=1 by decide +kernel,show ((1:Rat)/2).den=2 by decide +kernel];rfl
instance (priority:=high):Wp (bN [.int 1, .int 2] Q) (Q (fr (1/2))):=⟨λh=>⟨lz,by rw[mw];exact h⟩⟩
def my:PV.tup [.int 1, .int 3] =fr (1/3):=by unfold fr;rw[show ((1:Rat)/3).num=1 by decide +kernel,show ((1:Rat)/3).den=3 by decide +kernel];rfl
instance (priority:=high):Wp (bN [.int 1, .int 3] Q) (Q (fr (1/3))):=⟨λh=>⟨lz,by rw[my];exact h⟩⟩
def mz:PV.tup [.int 3, .int 2] =fr (3/2):=by unfold fr;rw[show ((3:Rat)/2).num=3 by decide +kernel,show ((3:Rat)/2).den=2 by decide +kernel];rfl
instance (priority:=high):Wp (bN [.int 3, .int 2] Q) (Q (fr (3/2))):=⟨λh=>⟨lz,by rw[mz];exact h⟩⟩
instance{q:Rat}{A:Prop}:Wp (V4 (fr q)=true/\A) (A):=⟨λh=>⟨rfl,h⟩⟩
instance{k:Int}{A:Prop}:Wp (V4 (.int k)=true/\A) (A):=⟨λh=>⟨rfl,h⟩⟩
instance{k:C4}{A:Prop}:Wp (V4 (cor k)=true/\A) (A):=⟨λh=>⟨rfl,h⟩⟩
theorem V5 {d:Type}{f:d->PV}(e:∀a,V4 (f a)=true):∀cs:km d,OJ (cs.map f)=true
 | [] =>rfl
 | c::cs=>by rw[AAi,OJ,e,V5 e cs];rfl
instance{k:km C4}{A:Prop}:Wp (V4 (Ah k)=true/\A) (A):=⟨λh=>⟨by rw[Ah,V4];exact V5 (λ_=>rfl) k,h⟩⟩
class Zp (xs ys:List PV) (zs:outParam (List PV)):Prop where
 e:F1 xs ys=zs
instance:Zp [] [] [] :=⟨rfl⟩
instance[h:Zp xs ys zs] :Zp (x::xs) (y::ys) (.tup [x,y] :: zs):=⟨by rw[<-h.e];rfl⟩
instance[h:Zp xs ys zs] :Wp (Ex g b ⟨nx,rt,bk,ct⟩ (F1 xs ys) τ) (Ex g b ⟨nx,rt,bk,ct⟩ zs τ):=⟨λk=>by rw[h.e];exact k⟩
instance (priority:=high){te:AE}{c q zs:km PV}[h:iU c [y] zs] :Wp (DS g tt te τ QL q (c ++ [y])) (DS g tt te τ QL q zs):=⟨λk=>by rw[h.e];exact k⟩
instance{m:Int}:OY (A8 [.tape, .int m] Q) (0<m/\m<4611686018427387904) (∀r,0<=r->r<m->Q (.int r)):=⟨λc h=>DM c.1 c.2 h⟩
instance{d:km Int}{k:Int}:OY (PJ [.scr d, .int k] Q) (0<=k/\k<=1000) (Q .tape):=⟨λc h=>⟨c,h⟩⟩
instance{a b:Rat}:OY (Ii [fr a,fr b] Q) (Bd 4000 a/\Bd 4000 b) (Q (fr (a+b))):=⟨λc h=>Ra c.1 c.2 h⟩
instance{a b:Rat}:OY (EG [fr a,fr b] Q) (Bd 4000 a/\Bd 4000 b) (Q (fr (a-b))):=⟨λc h=>EZ c.1 c.2 h⟩
instance{a b:Rat}:OY (F3 [fr a,fr b] Q) (Bd 4000 a/\Bd 4000 b) (Q (fr (a*b))):=⟨λc h=>PK c.1 c.2 h⟩
instance{a b:Rat}:OY (Bc [fr a,fr b] Q) (Bd 4000 a/\Bd 4000 b) (Q (fr (a+b))):=⟨λc h=>Df c.1 c.2 h⟩
instance{a b:Rat}:OY (B6 [fr a,fr b] Q) (Bd 4000 a/\Bd 4000 b) (Q (fr (a-b))):=⟨λc h=>Cw c.1 c.2 h⟩
instance{a b:Rat}:OY (BN [fr a,fr b] Q) (Bd 4000 a/\Bd 4000 b) (Q (fr (a*b))):=⟨λc h=>C1 c.1 c.2 h⟩
instance{a b:Rat}:OY (C8 [fr a,fr b] Q) (Bd 4000 a/\Bd 4000 b) (Q (fr (mx a b))):=⟨λc h=>LR c.1 c.2 h⟩
instance{a b:Rat}:OY (Fd [fr a,fr b] Q) (Bd 4000 a/\Bd 4000 b) (Q (fr (mn a b))):=⟨λc h=>VR c.1 c.2 h⟩
instance{a b:Rat}:OY (Av [fr a,fr b] Q) (Bd 4000 a/\Bd 4000 b) (Q (.bl (decide (a<b)))):=⟨λc h=>Br c.1 c.2 h⟩
instance{a b:Rat}:OY (KB [fr a,fr b] Q) (b≠0/\Bd 4000 a/\Bd 4000 b) (Q (fr (a/b))):=⟨λc h=>Mo c.1 c.2.1 c.2.2 h⟩
instance{a b:Rat}:OY (DL [fr a,fr b] Q) (b≠0/\Bd 4000 a/\Bd 4000 b) (Q (fr (a/b))):=⟨λc h=>Hx c.1 c.2.1 c.2.2 h⟩
instance:OY (BB [.tape] Q) (True) (∀a,Bd 8 a->Q (fr a)):=⟨λ_ h=>BH λa m=>h a (m.bd (by decide) (by decide))⟩
instance{lo:Int}{A:Prop}:Wp ((rng lo n).length<sizeLine/\A) (n<16777216/\A):=⟨λk=>⟨by rw[YL];exact k.1,k.2⟩⟩
instance{c:Type}{f:c->PV}{cs:km c}{A:Prop}:Wp ((cs.map f).length<sizeLine/\A) (cs.length<16777216/\A):=⟨λk=>⟨by rw[AAk];exact k.1,k.2⟩⟩
instance (priority:=high){c:Type}{k:c}[Decidable (k=k)]{A B:Prop}:Wp (if decide (k=k)=true then A else B) A:=⟨λh=>by rw[AAb (AAt rfl)];exact h⟩
instance (priority:=high){c:Type}{k:c}[Decidable (k=k)]{A B:Prop}:Wp (if (!decide (k=k))=true then A else B) B:=⟨λh=>by rw[AAa (by simp)];exact h⟩
def mh (xs:km PV):Eh xs none (some (-1))=xs.dropLast:=by
 unfold Eh;rw[HT.sIx_none];cases xs with
 | nil=>rfl
 | cons x xs=>
   have e:HT.sIx (x::xs).length (x::xs).length (some (-1))=xs.length:=by simp only[HT.sIx,AAz];rw[AAb (by decide)];omega
   rw[e,List.dropLast_eq_take];simp
instance{cs:km C4}{k:Int}:OY (Xb (Ah cs) none (some k) Q) (0<=k/\k<=cs.length) (Q (Ah (cs.take k.toNat))):=⟨λc h=>t5 (k:=k.toNat) (by omega) (by omega) h⟩
instance{cs:km C4}{k:Int}:OY (Xb (Ah cs) (some k) none Q) (0<=k/\k<=cs.length) (Q (Ah (cs.drop k.toNat))):=⟨λc h=>Zt (k:=k.toNat) (by omega) (by omega) h⟩
instance{cs ds:km C4}:OY (A4 (Ah cs) (Ah ds) Q) (cs.length+ds.length<=10000) (Q (Ah (cs++ds))):=⟨λc h=>VZ c h⟩
instance{cs:km C4}{c:C4}:OY (A4 (Ah cs) (.tup [cor c]) Q) (cs.length<=9000) (Q (Ah (cs ++ [c]))):=⟨λk h=>VZ (ds:= [c]) (by simp;omega) h⟩
def e5 {d:Type}{f:d->PV}{cs:km d}{k:Int}{R:PV->Prop}(c:0<=k/\k<cs.length)(h:∀c,cs[k.toNat]? =some c->c∈cs->R (f c)):cZ (Im (cs.map f) k) R:=by
 have hk:k.toNat<cs.length:=by omega
 have e:Im (cs.map f) ((k.toNat:Nat):Int)=some (f cs[k.toNat]):=Cj (by rw[ABI,ABD hk] <;> rfl);rw[show k=((k.toNat:Nat):Int) by omega,e];exact h _ (ABD hk) (AEC hk)
instance{cs:km C4}{k:Int}:OY (Ak (Ah cs) (.int k) Q) (0<=k/\k<cs.length) (∀c,cs[k.toNat]? =some c->c∈cs->Q (cor c)):=⟨λc h=>e5 c h⟩
instance{d:Type}{f:d->PV}{cs:km d}{k:Int}:OY (Ak (.tup (cs.map f)) (.int k) Q) (0<=k/\k<cs.length) (∀c,cs[k.toNat]? =some c->c∈cs->Q (f c)):=⟨λc h=>e5 c h⟩
instance{d:Type}{f:d->PV}{cs:km d}{k:Int}:OY (Ak (.lst (cs.map f)) (.int k) Q) (0<=k/\k<cs.length) (∀c,cs[k.toNat]? =some c->c∈cs->Q (f c)):=⟨λc h=>e5 c h⟩
instance{c:C4}:Wp (Xb (cor c) (some 1) none Q) (Q (.tup [fr c.2.1,fr c.2.2.1,fr c.2.2.2])):=⟨λh=>Hg h⟩
instance:OY (Xf [x] Q) (Pr x=true/\VW x) (Q (.str (tj x))):=⟨λc h=>pL c.2 c.1 h⟩
class Lk (tb:List (Str×PV)) (s:Str) (v:outParam PV):Prop where
 e:tb.lookup s=some v
end
end PL
namespace L2
open PySem PySem.Spec PyProof.Rows
abbrev c7 (h:da)(T:kf)(a b c:kj):Prop:=h.get? T=some {cls:= .type "tuple",data:= .seq #[a,b,c] }
structure Z3A (z TI TO i j k l m n:Addr):Prop where
 TIz:TI≠z
 TOz:TO≠z
 iz:i≠z
 jz:j≠z
 kz:k≠z
 TITO:TI≠TO
 TIi:TI≠i
 TIj:TI≠j
 TIk:TI≠k
 TOi:TO≠i
 TOj:TO≠j
 TOk:TO≠k
 ij:i≠j
 ik:i≠k
 jk:j≠k
 lo:∀x∈ [l,m,n],x≠z/\x≠TI/\x≠TO/\x≠i/\x≠j/\x≠k
structure Z3 (b c d:Bool) (z TI TO i j k l m n:Addr) (t:Nat) (f:Value) (h:Heap):Prop where
 zip:IsZip h z TI TO f
 its:c7 h TI (.ref i) (.ref j) (.ref k)
 own:∃x y w,c7 h TO x y w
 one:Qx b h i l t
 two:Qx c h j m t
 tre:Qx d h k n t
def Z3.mv {b c d:kc}{z TI TO i j k l m n:kf}{t:Nat}{f:kj}{h h':da}(Z:Z3 b c d z TI TO i j k l m n t f h)(e:∀p∈ [z,TI,TO,i,j,k],∀o,h.get? p=some o->h'.get? p=some o):Z3 b c d z TI TO i j k l m n t f h':=by obtain⟨a,g,⟨x,y,w,r⟩,s,u,v⟩:=Z;exact⟨e z (by simp) _ a,e TI (by simp) _ g,⟨x,y,w,e TO (by simp) _ r⟩,s.mv (e i (by simp)),u.mv (e j (by simp)),v.mv (e k (by simp))⟩
abbrev y1 (b:kc)(h:da)(l:kf):da:=h.push (bI b l)
abbrev y2 (b c:kc)(h:da)(l m:kf):da:=(y1 b h l).push (bI c m)
abbrev y3 (b c d:kc)(h:da)(l m n:kf):da:=(y2 b c h l m).push (bI d n)
abbrev y4 (b c d:kc)(h:da)(l m n:kf):da:=(y3 b c d h l m n).push {cls:= .type "tuple",data:= .seq #[.ref h.objs.size, .ref (y1 b h l).objs.size, .ref (y2 b c h l m).objs.size] }
abbrev y5 (b c d:kc)(h:da)(l m n:kf):da:=(y4 b c d h l m n).push {cls:= .type "tuple",data:= .seq #[.none, .none, .none] }
end L2
namespace L2
open PySem PySem.Spec PyProof.Rows
def QE:Manifest.owners.lookup (String.ofList ['d','e','s','r','e','v','e','r'].reverse)=some Manifest.sig_reversed:=by kernel_rfl
def Ck:Slot "reversed" "__next__" "reversed.__next__" :=
 .of (owner:="reversed") (n:="__next__") (by rw[AC0,AC1];kernel_rfl) (by decide +kernel) (by decide +kernel) (by decide +kernel)
   (by first | exact .inl (by decide +kernel)|exact .inr (by decide +kernel)) (by rw[ABG];kernel_rfl)
def GE:entryFor table "reversed.__next__" =some Builtin.«reversed.__next__»:=entryFor_of_tree (by kernel_rfl)
def Fm (a:kj):argsOk "reversed.__next__" ⟨[a], []⟩:=by unfold argsOk;rw[signature?_of (id:="reversed.__next__") (n:= ['_','_','t','x','e','n','_','_']) (o:= ['d','e','s','r','e','v','e','r']) (by kernel_rfl) QE];kernel_rfl
def MH:Slot "reversed" "__iter__" "reversed.__iter__" :=
 .of (owner:="reversed") (n:="__iter__") (by rw[AC0,AC1];kernel_rfl) (by decide +kernel) (by decide +kernel) (by decide +kernel)
   (by first | exact .inl (by decide +kernel)|exact .inr (by decide +kernel)) (by rw[ABG];kernel_rfl)
def PX (a:kj):argsOk "reversed.__iter__" ⟨[a], []⟩:=by unfold argsOk;rw[signature?_of (id:="reversed.__iter__") (n:= ['_','_','r','e','t','i','_','_']) (o:= ['d','e','s','r','e','v','e','r']) (by kernel_rfl) QE];kernel_rfl
def Q7:entryFor table "reversed.__iter__" =some Builtin.«dict_keyiterator.__iter__»:=
 entryFor_alias (id':="dict_keyiterator.__iter__") (by kernel_rfl) (by first | rfl|decide +kernel|(unfold String.splitOn;simp +decide [String.splitOnAux])) (by decide +kernel) (by kernel_rfl)
def cN:typeLookup (.type "tuple") "__reversed__" =pure none:=by rw[AC0,AC1];kernel_rfl
def Uq:isSubtype (.type "tuple") (.type "dict")=pure false:=by rw[ABG];kernel_rfl
def YN (m:kf)(i:Int):Obj:={cls:= .type "reversed",data:= .fields #[.ref m,rawInt i] }
def Ed (h:da)(q m:kf)(i:Int):Prop:=h.get? q=some (YN m i)
section
variable {prog:gn}{w:fe}{A:Wf}{E:kj->ki->Prop}{s:ki}
def Ed.typeIs {q m:kf}{i:Int}(x:Ed s.heap q m i):s.TypeIs (.ref q) "reversed" :=⟨_,x,rfl⟩
end
def gT (l:kf)(items:Array kj)(c:(items.size:Int)<2^63):Meets (Builtin.«reversed.__new__» ⟨[.type "reversed", .ref l], []⟩) (λ_ R s=>IsTup s.heap l items/\R (.ok (.ret (.ref s.heap.objs.size))) {s with heap:=s.heap.push (YN l ((items.size:Int)-1)),toks:=s.toks+1+1}):=
 .of_wp λprog w A R s h=>by
   obtain⟨hl,h⟩:=h;unfold Builtin.«reversed.__new__»;refine AAX (ABF (newClass_reversed _) ?_);try dsimp only
   refine AAX (ABF (a:=()) (by first | rfl|kernel_rfl) ?_);refine AAX (ABF (a:=()) (by first | rfl|kernel_rfl) ?_);try dsimp only
   refine AAX (ABc hl.typeIs cN ?_);try dsimp only
   refine AAX ?_
   wp_delta
   refine AAX (ABy (T:="tuple") (b:=false) hl.typeIs Uq ?_);rw[AAa (by decide)];refine AAX (ABc hl.typeIs ACW.lookup ?_);dsimp only;rw[AAb (by decide +kernel)];refine AAZ ?_;rw[AAa (by decide)];refine AAX (len_tuple hl c ?_);refine AAX (ABF (a:=some (items.size:Int)) rfl ?_);dsimp only;unfold Builtin.SmallTypes.newRecord;refine AAX (ABM (AAZ ?_));exact⟨_,rfl,h⟩
def kF:Slot "reversed" "__init__" "object.__init__" :=
 .of (owner:="object") (n:="__init__") (by rw[AC0,AC1];kernel_rfl) (by decide +kernel) (by decide +kernel) (by decide +kernel)
   (by first | exact .inl (by decide +kernel)|exact .inr (by decide +kernel)) (by rw[ABG];kernel_rfl)
def aR:TypeCalled "reversed" "reversed.__new__" "object.__init__" :=
 ⟨by decide +kernel,by decide +kernel,⟨_,_,F.mro_reversed⟩,F.made_reversed,by decide +kernel,by rw[ABG];kernel_rfl,kF⟩
section
variable {prog:gn}{w:fe}{A:Wf}{E:kj->ki->Prop}{s:ki}
def Y1 {l:kf}{items:Array kj}{Q:kj->ki->Prop}(hl:IsTup s.heap l items)(a:(items.size:Int)<2^63)(h:Q (.ref s.heap.objs.size) {s with heap:=s.heap.push (YN l ((items.size:Int)-1)),toks:=s.toks+1+1}):wpAny (model prog w) A (call (.type "reversed") [.ref l]) Q E s:=by refine AEI aR (by decide) (F.typeCall_reversed_1 _) (F.newCall_reversed_1 _) (λobj=>F.args_object_init_2 obj _) F.entry_reversed_new (gT l items a) ⟨hl, ?_⟩;exact⟨⟨_,AAj _ rfl,rfl⟩,h⟩
def Tn {q m:kf}{i:Int}{Q:kj->ki->Prop}(hq:Ed s.heap q m i)(h:Q (.ref q) s):wpAny (model prog w) A (pyIter (.ref q)) Q E s:=by refine wpAny_pyIter_slot hq.typeIs MH (ABJ MH hq.typeIs Q7 ?_ (PX _));show wpAny _ _ (ret (.ref q)) _ _ s;exact AAZ ⟨_,rfl,"reversed",_,hq.typeIs,Ck.lookup,h⟩
def jY {q m:kf}{k:Nat}{xs:Array kj}{x:kj}{Q:kj->ki->Prop}(hq:Ed s.heap q m ((xs.size:Int)-1-k))(hl:IsTup s.heap m xs)(g:(xs.size:Int)<2^63)(hk:k<xs.size)(hx:xs[xs.size-1-k]? =some x)(hQ:∀h' b,Ed h' q m ((xs.size:Int)-1-(k+1:Nat))->Heap.SameBut q s.heap h'->Q x {s with heap:=h',toks:=b}):wpAny (model prog w) A (Builtin.SmallTypes.nextOf (.ref q)) Q E s:=by
 unfold Builtin.SmallTypes.nextOf;refine AAX (ABe (name:=Str.ofString "__next__") hq.typeIs Ck (ABJ Ck hq.typeIs GE ?_ (Fm _)));unfold Builtin.«reversed.__next__»;refine AAX (ABF (a:=(Value.ref q, [])) rfl ?_);try dsimp only
 refine AAX (AAo hq rfl (x:= .ref m) rfl ?_);refine AAX (AAo hq rfl (x:=rawInt ((xs.size:Int)-1-k)) rfl ?_);show wpAny _ _ (if ((xs.size:Int)-1-k)<0 then _ else _) _ _ s;rw[AAa (by omega)];refine AAX (ABc hl.typeIs ACW.lookup ?_);rw[AAa (by decide)];refine AAX (wpAny_mkInt ?_);have c:seqIndex? ((xs.size:Int)-1-k) xs.size=some (xs.size-1-k):=by
  unfold seqIndex?;have d:¬((xs.size:Int)-1-k<0):=by omega
  have e:(0:Int)<=(xs.size:Int)-1-k:=by omega
  have f:(xs.size:Int)-1-k<xs.size:=by omega
  simp only[AAa d,e,f,decide_true,AEr,ABU];congr 1;omega
 refine AAX (ABs (getItem_tuple hl (by omega) (by omega) c hx ?_));refine AAX (AAo (s:={s with toks:=s.toks+1}) hq rfl (x:=rawInt ((xs.size:Int)-1-k)) rfl ?_);refine AAX (ACe (s:={s with toks:=s.toks+1}) hq rfl (by simp) (AAZ ⟨x,rfl,AAZ (hQ _ _ ?_ (ACf ..))⟩));unfold Ed;rw[ABq _ hq (ADY (ACv rfl _))];rw[show (xs.size:Int)-1-(k+1:Nat)=(xs.size:Int)-1-k-1 by omega];rfl
end
structure ZR (z TI TO i j l m:Addr) (n:Nat) (k:Nat) (f:Value) (h:Heap):Prop where
 zip:IsZip h z TI TO f
 its:IsPair h TI (.ref i) (.ref j)
 own:∃x y,IsPair h TO x y
 one:Qx false h i l k
 two:Ed h j m ((n:Int)-1-k)
def ZR.mv {z TI TO i j l m:kf}{n k:Nat}{f:kj}{h h':da}(Z:ZR z TI TO i j l m n k f h)(e:∀p∈ [z,TI,TO,i,j],∀o,h.get? p=some o->h'.get? p=some o):ZR z TI TO i j l m n k f h':=by obtain⟨a,b,⟨x,y,c⟩,d,g⟩:=Z;exact⟨e z (by simp) _ a,e TI (by simp) _ b,⟨x,y,e TO (by simp) _ c⟩,d.mv (e i (by simp)),e j (by simp) _ g⟩
section
variable {prog:gn}{w:fe}{A:Wf}{E:kj->ki->Prop}{s:ki}
variable {z TI TO i j l m:kf}{k:Nat}{xs ys:Array kj}
def pZ {x y:kj}{Q:kj->ki->Prop}(D:ZipApart z TI TO i j l m)(Z:ZR z TI TO i j l m ys.size k .none s.heap)(hl:OX false s.heap l xs)(hm:IsTup s.heap m ys)(FU:(ys.size:Int)<2^63)(hx:xs[k]? =some x)(hk:k<ys.size)(hy:ys[ys.size-1-k]? =some y)(hQ:∀h' I,IsZip h' z TI TO (rawInt s.heap.objs.size)->IsPair h' TI (.ref i) (.ref j)->IsPair h' TO x y->Qx false h' i l (k+1)->Ed h' j m ((ys.size:Int)-1-(k+1:Nat))->IsPair h' s.heap.objs.size x y-> (∀p o,p≠z->p≠TO->p≠i->p≠j->s.heap.get? p=some o->h'.get? p=some o)->Q (.ref s.heap.objs.size) {s with heap:=h',toks:=I}):wpAny (model prog w) A (Builtin.«zip.__next__» ⟨[.ref z], []⟩) (λJ s'=>∃v,J= .done (.ret v)/\Q v s') E s:=by
 obtain⟨f,W,⟨x0,K,zo⟩,z1,z2⟩:=Z;show wpAny _ _ (field (.ref z) 2 >>= _) _ _ _;refine AAX (AAo f rfl (x:= .bool false) rfl ?_);show wpAny _ _ (field (.ref z) 3 >>= _) _ _ _;refine AAX (AAo f rfl (x:= .ref TI) rfl (AAX (ABP W rfl ?_)));refine AAX (m:=Builtin.SmallTypes.ownedTupleIsFree (.ref z)) ?_;unfold Builtin.SmallTypes.ownedTupleIsFree;refine AAX (AAo f rfl (x:= .none) rfl (AAZ ?_));simp only[ABU];refine AAX (ABT (AAX (AAo f rfl (x:= .ref TO) rfl (AAX (ABr f (by simp) λg1 L b1=> ?_)))));have L:IsZip g1 z TI TO .ellipsis:=L;refine AAX ?_;simp only[AEG,AEH,ADA,ADZ];refine AAX (AAX (ACw ?_));refine AAX (m:=Builtin.SmallTypes.nextOf (.ref i)) (Lj (z1.mv λo=>b1.extBut _ o D.i1z) (hl.mv λo=>b1.extBut _ o D.l1z) hx λg2 e2 b2=>AAZ ?_);have X:IsPair g2 TO x0 K:=b2.extBut _ _ D.TOi1 (b1.extBut _ _ D.TOz zo);refine AAX (ABP X rfl (AAX (ADa X λM N d=>AAX (ADB (AAZ ?_)))));have N:IsPair M TO x K:=N;refine AAX (AAX (ACw ?_));have O:∀h h':da,(∀o,h.get? m=some o->h'.get? m=some o)->IsTup h m ys->IsTup h' m ys:=λh h' e x=>(show OX false h m ys from x).mv e;have P:IsTup M m ys:=O _ _ (λo=>d.extBut _ o D.l2TO) (O _ _ (λo=>b2.extBut _ o D.l2i1) (O _ _ (λo=>b1.extBut _ o D.l2z) hm));have R:Ed M j m ((ys.size:Int)-1-k):=d.extBut _ _ D.TOi2.symm (b2.extBut _ _ D.i12.symm (b1.extBut _ _ D.i2z z2));refine AAX (m:=Builtin.SmallTypes.nextOf (.ref j)) (jY R P FU hk hy λg4 I e4 g=>AAZ ?_);have Y:IsPair g4 TO x K:=g.extBut _ _ D.TOi2 N;refine AAX (ABP Y rfl (AAX (ADa Y λa B n=>AAX (ADB (AAZ (AAZ ?_))))));have B:IsPair a TO x y:=B;refine AAX (ABP B rfl (AAX (wpAny_newTuple ?_)));have sz:a.objs.size=s.heap.objs.size:=by rw[n.1,g.1,d.1,b2.1,b1.1]
 have k5:IsZip a z TI TO .ellipsis:=n.extBut _ _ D.TOz.symm (g.extBut _ _ D.i2z.symm (d.extBut _ _ D.TOz.symm (b2.extBut _ _ D.i1z.symm L)));have b:∀p o,p≠z->p≠TO->p≠i->p≠j->s.heap.get? p=some o->a.get? p=some o:=λp o C F S T e=>
  n.extBut _ _ F (g.extBut _ _ T (d.extBut _ _ F (b2.extBut _ _ S (b1.extBut _ _ C e))))
 have r:Qx false a i l (k+1):=((e2.mv λo=>d.extBut _ o D.TOi1.symm).mv λo=>g.extBut _ o D.i12).mv λo=>n.extBut _ o D.TOi1.symm;have t:Ed a j m ((ys.size:Int)-1-(k+1:Nat)):=n.extBut _ _ D.TOi2.symm e4;have u:z<a.objs.size:=AAd k5;refine AAX (m:=Builtin.SmallTypes.ownedTupleHandOut (.ref z) (.ref a.objs.size)) ?_;unfold Builtin.SmallTypes.ownedTupleHandOut;have k6:IsZip (a.push {cls:= .type "tuple",data:= .seq #[x,y] }) z TI TO .ellipsis:=AAe _ k5;refine AAX (ABr k6 (by simp) λg7 U b7=> ?_);have U:IsZip g7 z TI TO (rawInt a.objs.size):=U;refine ABr U (by simp) λG H b8=> ?_;have H:IsZip G z TI TO (rawInt a.objs.size):=H;have up:∀p o,p≠z->a.get? p=some o->G.get? p=some o:=λp o q e=>b8.extBut _ _ q (b7.extBut _ _ q (AAe _ e));have c:IsPair G a.objs.size x y:=b8.extBut _ _ (ABK u) (b7.extBut _ _ (ABK u) (AAj _ rfl));rw[sz] at H c;refine AAZ ⟨_,rfl, ?_⟩;show Q (.ref a.objs.size) _;rw[sz];exact hQ G I H (up _ _ D.TIz (b _ _ D.TIz D.TITO D.TIi1 D.TIi2 W)) (up _ _ D.TOz B) (r.mv λo=>up _ o D.i1z) (up _ _ D.i2z t) c λp o C F S T e=>up p o C (b p o C F S T e)
def uQ {n:Nat}{Q:Fin->ki->Prop}(r:A.handled=none)(D:ZipApart z TI TO i j l m)(Z:ZR z TI TO i j l m n k .none s.heap)(hl:OX false s.heap l xs)(hx:xs[k]? =none)(t:∀h' e,(∀p o,p≠z->p≠TO->p≠i->p≠j->s.heap.get? p=some o->h'.get? p=some o)->(∃o,h'.get? e=some o/\o.cls= .type "StopIteration")->E (.ref e) {s with heap:=h'}):wpAny (model prog w) A (Builtin.«zip.__next__» ⟨[.ref z], []⟩) Q E s:=by
 obtain⟨a,u,⟨I,J,K⟩,v,L⟩:=Z;show wpAny _ _ (field (.ref z) 2 >>= _) _ _ _;refine AAX (AAo a rfl (x:= .bool false) rfl ?_);show wpAny _ _ (field (.ref z) 3 >>= _) _ _ _;refine AAX (AAo a rfl (x:= .ref TI) rfl (AAX (ABP u rfl ?_)));refine AAX (m:=Builtin.SmallTypes.ownedTupleIsFree (.ref z)) ?_;unfold Builtin.SmallTypes.ownedTupleIsFree;refine AAX (AAo a rfl (x:= .none) rfl (AAZ ?_));simp only[ABU];refine AAX (ABT (AAX (AAo a rfl (x:= .ref TO) rfl (AAX (ABr a (by simp) λy b b1=> ?_)))));have b:IsZip y z TI TO .ellipsis:=b;refine AAX ?_;simp only[AEG,AEH,ADA,ADZ];refine AAX (AAX (ACw ?_));refine AAX (m:=Builtin.SmallTypes.nextOf (.ref i)) (Mz r (v.mv λo=>b1.extBut _ o D.i1z) (hl.mv λo=>b1.extBut _ o D.l1z) hx λB e b2 he=> ?_);obtain⟨C,c,d⟩:=he;have f:IsZip B z TI TO .ellipsis:=b2 _ _ D.i1z.symm b;have F:e≠z:=λq=>by subst q;rw[f] at c;cases c;simp at d
 refine ABr f (by simp) λG _ g=>t G e (λp o h _ H _ q=>g.extBut _ _ h (b2 _ _ H (b1.extBut _ _ h q))) ⟨C,g.extBut _ _ F c,d⟩
end
def lD {n l m:Nat}(h1:l<n)(h2:m<n):ZipApart (n+4) (n+2) (n+3) (n+1) n l m where
 TIz:=(by omega:(n+2:Nat)≠n+4)
 TOz:=(by omega:(n+3:Nat)≠n+4)
 i1z:=(by omega:(n+1:Nat)≠n+4)
 i2z:=(by omega:(n:Nat)≠n+4)
 TITO:=(by omega:(n+2:Nat)≠n+3)
 TIi1:=(by omega:(n+2:Nat)≠n+1)
 TIi2:=(by omega:(n+2:Nat)≠n)
 TOi1:=(by omega:(n+3:Nat)≠n+1)
 TOi2:=(by omega:(n+3:Nat)≠n)
 i12:=(by omega:(n+1:Nat)≠n)
 l1z:=(by omega:(l:Nat)≠n+4)
 l1TO:=(by omega:(l:Nat)≠n+3)
 l1i1:=(by omega:(l:Nat)≠n+1)
 l1i2:=(by omega:(l:Nat)≠n)
 l2z:=(by omega:(m:Nat)≠n+4)
 l2TO:=(by omega:(m:Nat)≠n+3)
 l2i1:=(by omega:(m:Nat)≠n+1)
 l2i2:=(by omega:(m:Nat)≠n)
abbrev rA (h:da)(l:kf):da:=h.push (bI false l)
abbrev rC (h:da)(l r:kf):da:=(rA h l).push {cls:= .type "tuple",data:= .seq #[.ref h.objs.size, .ref r] }
abbrev rD (h:da)(l r:kf):da:=(rC h l r).push {cls:= .type "tuple",data:= .seq #[.none, .none] }
abbrev rF (h:da)(l r:kf):da:=(rD h l r).push {cls:= .type "zip",data:= .fields #[.none, .bool false, .bool false, .ref (rA h l).objs.size, .ref (rC h l r).objs.size] }
def eZ {prog:gn}{w:fe}{A:Wf}{E:kj->ki->Prop}{h:da}{g:Array GenState}{d:Drawn}{a:Nat}{os:OsState}{q m:kf}{i:Int}{Q:kj->ki->Prop}(hq:Ed h q m i)(k:Q (.ref q) ⟨h,g,d,a,os⟩):wpAny (model prog w) A (pyIter (.ref q)) Q E ⟨h,g,d,a,os⟩:=Tn (s:=⟨h,g,d,a,os⟩) hq k
def Yn (l r m:kf)(i:Int)(xs:Array kj):Meets (Builtin.«zip.__new__» ⟨[.type "zip", .ref l, .ref r], []⟩) (λ_ R s=>OX false s.heap l xs/\Ed s.heap r m i/\R (.ok (.ret (.ref (rD s.heap l r).objs.size))) {s with heap:=rF s.heap l r}):=
 .of_wp λprog w A R s h=>by
   obtain⟨hp,g,d,c,os⟩:=s;obtain⟨hl,hm,h⟩:=h;have e:=sub_zip;have a:OX false hp l xs:=hl;have b:Ed (hp.push (bI false l)) r m i:=AAe _ hm
   wp_walk using Xq a,eZ b
   exact⟨_,rfl,h⟩
section
variable {prog:gn}{w:fe}{A:Wf}{E:kj->ki->Prop}{s:ki}{l m r:kf}{xs:Array kj}{n:Nat}
def ku (hl:OX false s.heap l xs)(d:Ed s.heap r m ((n:Int)-1)){Q:kj->ki->Prop}(h:∀h',ZR (s.heap.objs.size+3) (s.heap.objs.size+1) (s.heap.objs.size+2) s.heap.objs.size r l m n 0 .none h'->(∀p o,s.heap.get? p=some o->h'.get? p=some o)->Q (.ref (s.heap.objs.size+3)) {s with heap:=h'}):wpAny (model prog w) A (call (.type "zip") [.ref l, .ref r]) Q E s:=by
 refine AEI F.called_zip (by decide) (F.typeCall_zip_2 _ _) (F.newCall_zip_2 _ _) (λobj=>F.args_object_init_3 obj _ _) F.entry_zip_new (Yn l r m _ xs) ⟨hl,d, ?_⟩;have a:(rA s.heap l).objs.size=s.heap.objs.size+1:=ABd ..;have b:(rC s.heap l r).objs.size=s.heap.objs.size+2:=by rw[ABd,a]
 have f:(rD s.heap l r).objs.size=s.heap.objs.size+3:=by rw[ABd,b]
 have up:∀(g:da) (x:Obj) (p:kf) (o:Obj),g.get? p=some o->(g.push x).get? p=some o:=λg x p o e=>AAe _ e;have c:(rF s.heap l r).get? (rD s.heap l r).objs.size=some _:=AAj _ rfl;have i:(rF s.heap l r).get? (rC s.heap l r).objs.size=some _:=up _ _ _ _ (AAj _ rfl);have j:(rF s.heap l r).get? (rA s.heap l).objs.size=some _:=up _ _ _ _ (up _ _ _ _ (AAj _ rfl));have p1:(rF s.heap l r).get? s.heap.objs.size=some (bI false l):=up _ _ _ _ (up _ _ _ _ (up _ _ _ _ (AAj _ rfl)));have all:∀p o,s.heap.get? p=some o->(rF s.heap l r).get? p=some o:=λp o e=>up _ _ _ _ (up _ _ _ _ (up _ _ _ _ (up _ _ _ _ e)));rw[a,b,f] at c;rw[a] at j;rw[b] at i;show _/\_;rw[f];exact⟨⟨_,c,rfl⟩,h _ ⟨c,j,⟨_,_,i⟩,eY p1,by rw[show (n:Int)-1-(0:Nat)=(n:Int)-1 by omega];exact all _ _ d⟩ all⟩
end
def vR (K:AAY)(l m:kf)(n:Nat):It:=
 ⟨λi H=>∃xs ys x y,Sq K false H l xs/\Sq K false H m ys/\ys.length=n/\xs[i]? =some x/\i<n/\ys[n-1-i]? =some y,
  λi H v a=>∃T x y,v= .ref T/\H T=none/\a=upd H T (.tup [x,y])/\(∀xs,Sq K false H l xs->xs[i]? =some x)/\∀ys,Sq K false H m ys->ys[n-1-i]? =some y,
  λi H=>∃xs,Sq K false H l xs/\xs.length<=i⟩
def cS {P:gn}{w:fe}{K:AAY}{es:km kd}{M:Nat}{pos:Pos}{z TI TO i j l m:kf}{n:Nat}(D:ZipApart z TI TO i j l m):La P w K (.Tuple es M pos) (vR K l m n) [z,TI,TO,i,j] z (λk h=>ZR z TI TO i j l m n k .none h) where
 mem:=by simp
 obj:=λk h Z p hp=>by
  have a:p=z\/p=TI\/p=TO\/p=i\/p=j:=by simpa using hp
  rcases a with e|e|e|e|e
  .subst e;exact⟨_,Z.zip,λv q=>nomatch q⟩
  .subst e;exact⟨_,Z.its,λv q=>nomatch q⟩
  .subst e;obtain⟨x,y,q⟩:=Z.own;exact⟨_,q,λv q=>nomatch q⟩
  .subst e;exact Z.one.obj
  .subst e;exact⟨_,Z.two,λv q=>nomatch q⟩
 keep:=λk h h' Z e=>Z.mv e
 item:=by
  intro X r hw t hc k Tb s G H E I g Z A;subst r hw t;obtain⟨xs,ys,x,y,hl,hm,hn,hx,hk,hy⟩:=A;obtain⟨N,B,C,_⟩:=I.sq hl;obtain⟨vs,rv,sv,hz⟩:=I.sq hm;obtain⟨u,hu,O⟩:=B.get hx;obtain⟨v,hv,Q⟩:=rv.get hy;have d:vs.toArray.size=n:=by rw[AAp,<-rv.length];exact hn
  have f:s.TypeIs (.ref z) "zip" :=⟨_,Z.zip,rfl⟩;rw[<-d] at Z;unfold pyNext;refine AAX (ABs (ABe (name:=Str.ofString "__next__") f ACg (ABJ ACg f AEJ
   (pZ D Z C sv (by rw[d,<-hn];exact AEv (AEw.mpr hz) (by decide)) (x:=u) (y:=v) (by simpa using hu) (by rw[d];exact hk) (by rw[d];simpa using hv) λh1 J R S U W L Y a7=>AAZ ?_) (AEK _))))
  refine⟨_,rfl,wpAny_letOwnedTupleGo_zip (s:={s with heap:=h1,toks:=J}) R λh2 c1 c2=> ?_⟩;have F:∀p∈ [z,TI,TO,i,j],p<s.heap.objs.size:=λp hp=>by
   have a:p=z\/p=TI\/p=TO\/p=i\/p=j:=by simpa using hp
   rcases a with e|e|e|e|e
   .subst e;exact AAd Z.zip
   .subst e;exact AAd Z.its
   .subst e;obtain⟨x,y,q⟩:=Z.own;exact AAd q
   .subst e;obtain⟨o,q,_⟩:=Z.one.obj;exact AAd q
   .subst e;exact AAd Z.two
  have c:∀p o,p≠z->h1.get? p=some o->h2.get? p=some o:=λp o q e=>c2.extBut _ _ q e;have kp:∀p o,p ∉ [z,TI,TO,i,j] ->s.heap.get? p=some o->h2.get? p=some o:=λp o hp e=>by
   have a:p≠z/\p≠TI/\p≠TO/\p≠i/\p≠j:=by simpa using hp
   exact c p o a.1 (a7 p o a.1 a.2.2.1 a.2.2.2.1 a.2.2.2.2 e)
  have wQ:s.heap.objs.size≠z:=ABK (F z (by simp));have I2:Inv X Tb G (upd H s.heap.objs.size (.tup [x,y])) {s with heap:=h2,toks:=J}:=I.turnedN g F kp (AAf _)
   ⟨(by show 2<=sizeLine;decide), [u,v], .cons O (.cons Q .nil),⟨_,c _ _ wQ Y,rfl,_,rfl⟩⟩
  have Vt:H s.heap.objs.size=none:=I.fresh;refine⟨.ref s.heap.objs.size,upd H s.heap.objs.size (.tup [x,y]),I2,rfl,⟨_,x,y,rfl,Vt,rfl,λxs' h'=> ?_,λys' h'=> ?_⟩, ?_,λp hp=> ?_⟩
  .rw [I.sq_inj h' hl];exact hx
  .rw [I.sq_inj h' hm];exact hy
  .rw [d] at L;exact⟨c1,c _ _ D.TIz S,⟨_,_,c _ _ D.TOz U⟩,W.mv λo=>c _ o D.i1z,c _ _ D.i2z L⟩
  .rw [Ao (AAh (F p hp))];exact(g p hp).1
 done:=by
  intro X r hw t hc k Tb s G H E I g Z A;subst r hw t;obtain⟨xs,hl,he⟩:=A;obtain⟨N,B,C,_⟩:=I.sq hl;have e1:=B.length;have f:s.TypeIs (.ref z) "zip" :=⟨_,Z.zip,rfl⟩;unfold pyNext;refine AAX (ABs (ABe (name:=Str.ofString "__next__") f ACg (ABJ ACg f AEJ
   (uQ (I.ok.hd hc) D Z C (by simp;omega) λh1 e hk he=> ?_) (AEK _))))
  obtain⟨o,ho,nB⟩:=he;refine AAX (ABy (T:="StopIteration") (b:=true) ⟨o,ho,nB⟩ isSubtype_stop (AAZ ⟨rfl, ?_⟩));exact I.turnedL (t':=s.toks) g λp o hp e=>by
   have a:p≠z/\p≠TI/\p≠TO/\p≠i/\p≠j:=by simpa using hp
   exact hk p o a.1 a.2.2.1 a.2.2.2.1 a.2.2.2.2 e
 self:=λ_ _ _ _ _ Z h=>AEL Z.zip h
section
variable {X:Cx}
def jw {e f:kd}{te y:TE}{p p2 pos c i:Pos}{es:km kd}{G:Nat}(J:Gl X "zip")(hm:X.mg "zip" =none)(L:Gl X "reversed")(M:X.mg "reversed" =none)(he:PE X e te)(N:PE X f y)(hs:starEach [e, .Call (.Name "reversed" p2) [f] [] c] X.env= [(false,eval e X.env),(false,eval (.Call (.Name "reversed" p2) [f] [] c) X.env)] :=by rfl)(z:starEach [f] X.env= [(false,eval f X.env)] :=by rfl):PI X (.Tuple es G i) (.Call (.Name "zip" p) [e, .Call (.Name "reversed" p2) [f] [] c] [] pos) (λd H R=>te d H λu n=>y d n λv g=>∃l m ys,u= .ref l/\v= .ref m/\(∃xs,Sq X.K false g l xs)/\Sq X.K false g m ys/\R (vR X.K l m ys.length) g):=by
 intro Tb s d H R I h;refine Call_ (FB I J hm boot_zip (ACU ?_ (by rw[hs];rfl) rfl));rw[hs];show wpAny _ _ (spliced ((false,eval e X.env) :: [(false,eval (.Call (.Name "reversed" p2) [f] [] c) X.env)])) _ _ s;refine ACN (Bi (he Tb s d H _ I h) λv A ⟨x,n,B,r1,O⟩=> ?_);refine ACN ?_;refine Call_ (FB B L M boot_reversed (ACU ?_ (by rw[z];rfl) rfl));rw[z];show wpAny _ _ (spliced ((false,eval f X.env) :: [])) _ _ A;refine ACN (Bi (N Tb A d n _ B O) λv2 a ⟨x2,g,j,r2,P⟩=>ACp ?_);obtain⟨l,m,ys,rfl,rfl,⟨xs,hl⟩,Q,q⟩:=P;cases r1;cases r2;obtain⟨S,ru,C,_⟩:=j.sq hl;obtain⟨vs,rv,sv,hz⟩:=j.sq Q;have D:vs.toArray.size=ys.length:=by rw[AAp,<-rv.length]
 have r:l<a.heap.objs.size:=by obtain⟨o,e,_⟩:=C;exact AAd e
 have t:m<a.heap.objs.size:=by obtain⟨o,e,_⟩:=sv;exact AAd e
 refine Y1 sv (by rw[D];exact AEv (AEw.mpr hz) (by decide)) (ACp ?_);have up:∀b o,a.heap.get? b=some o->(a.heap.push (YN m ((vs.toArray.size:Int)-1))).get? b=some o:=λb o e=>AAe _ e;have k:(a.heap.push (YN m ((vs.toArray.size:Int)-1))).objs.size=a.heap.objs.size+1:=ABd ..;have w:OX false (a.heap.push (YN m ((vs.toArray.size:Int)-1))) l S.toArray:=C.mv λo e=>up _ o e;have T:Ed (a.heap.push (YN m ((vs.toArray.size:Int)-1))) a.heap.objs.size m ((ys.length:Int)-1):=by rw[<-D];exact AAj _ rfl
 refine ku (s:={a with heap:=a.heap.push (YN m ((vs.toArray.size:Int)-1)),toks:=a.toks+1+1}) w T λh1 Z U=>AEL Z.zip ?_;have W:Inv X Tb d g {a with heap:=h1,toks:=a.toks+1+1}:=j.kept (t':=a.toks+1+1) λb E q=>U b E (up b E q);have Y:ZR (a.heap.objs.size+4) (a.heap.objs.size+2) (a.heap.objs.size+3) (a.heap.objs.size+1) a.heap.objs.size l m ys.length 0 .none h1:=by have Z2:=Z;rw[show ({a with heap:=a.heap.push (YN m ((vs.toArray.size:Int)-1)),toks:=a.toks+1+1}:ki).heap.objs.size=a.heap.objs.size+1 from k] at Z2;exact Z2
 refine⟨_,_,_,_,g, ?_,W,cS (lD r t),Y,λp hp=> ?_,q⟩
 .exact congrArg Value.ref (by show (a.heap.push (YN m ((vs.toArray.size:Int)-1))).objs.size+3=_;rw[k])
 have F:a.heap.objs.size<=p:=by
  have nJ:p=a.heap.objs.size+4\/p=a.heap.objs.size+2\/p=a.heap.objs.size+3\/p=a.heap.objs.size+1\/p=a.heap.objs.size:=by simpa using hp
  rcases nJ with e|e|e|e|e <;> (rw[e];first | exact AAf _|exact Nat.le_add_right _ _)
 exact j.fpOk F (j.hok.fresh F)
end
end L2
namespace PL
open PySem PySem.Spec PyProof.Rows L2
def Wv {xs ys:km PV}{i:Nat}{u:PV}(h:(F1 xs ys)[i]? =some u):∃x y,xs[i]? =some x/\ys[i]? =some y/\u= .tup [x,y] :=by
 unfold F1 at h;rw[AFI] at h;cases hx:xs[i]? with
 | none=>rw[hx] at h;simp at h
 | some x=>
   cases hy:ys[i]? with
   | none=>rw[hx,hy] at h;simp at h
   | some y=>rw[hx,hy] at h;simp at h;exact⟨x,y,rfl,rfl,h.symm⟩
def bH {K:AAY}{T M:kf->Prop}{H:Hp}{l m:kf}{xs ys:km PV}{n:Nat}(va:IH T M H)(y:xs.length=ys.length)(t:ys.length=n)(r:Ce K T M H (.ref l) (.tup xs))(r2:Ce K T M H (.ref m) (.tup ys)):VS K M (vR K l m n) (F1 xs ys.reverse) T H:=by
 obtain⟨_,vs,e,hq,rs⟩:=DG r;cases e;obtain⟨_,f,e,g,rs2⟩:=DG r2;cases e;have z:=rs2.length;have j:∀i b,ys.reverse[i]? =some b->i<n/\ys[n-1-i]? =some b:=λi b h=>by have hi:i<ys.reverse.length:=(ABC.mp h).1;rw[AES] at hi;rw[AFO hi,t] at h;exact⟨by omega,h⟩
 refine⟨λi w h=> ?_,λi w v A h u=> ?_,λi h=>⟨vs,hq, ?_⟩⟩
 .obtain ⟨a,b,ha,hb,_⟩:=Wv h;obtain⟨hi,hb⟩:=j i b hb;obtain⟨c,h1,_⟩:=rs.get ha;obtain⟨d,h2,_⟩:=rs2.get hb;exact⟨vs,f,c,d,hq,g,by omega,h1,hi,h2⟩
 .obtain ⟨a,b,ha,hb,rfl⟩:=Wv h;obtain⟨hi,hb⟩:=j i b hb;obtain⟨p,c,d,rfl,hn,rfl,h1,h2⟩:=u;obtain⟨B,k,ra⟩:=rs.get' (h1 vs hq);obtain⟨C,s,x⟩:=rs2.get' (h2 f g);rw[ha] at k;cases k;rw[hb] at s;cases s;have st:=Dv.lay (o:= .tup [c,d]) va.tp hn;exact⟨st, .tup (.inl Ap) (.cons (ra.stp st va) (.cons (x.stp st va) .nil))⟩
 .have:(F1 xs ys.reverse).length=xs.length:=by unfold F1;rw[List.length_zipWith,AES];omega
  rw[this] at h;rw[rs.length];exact h
section
variable {X:Cx}
def mY (a b:AE):AI:=λτ Q=>a τ λx=>b τ λy=>match x,y with | .tup xs, .tup ys=>xs.length=ys.length/\Q (F1 xs ys.reverse)|_,_=>False
def tq {e f:kd}{i j:AE}{p p2 pos a b:Pos}{es:km kd}{w:Nat}(z:Gl X "zip")(hm:X.mg "zip" =none)(A:Gl X "reversed")(C:X.mg "reversed" =none)(ha:SE X e i)(hb:SE X f j)(hs:starEach [e, .Call (.Name "reversed" p2) [f] [] a] X.env= [(false,eval e X.env),(false,eval (.Call (.Name "reversed" p2) [f] [] a) X.env)] :=by rfl)(D:starEach [f] X.env= [(false,eval f X.env)] :=by rfl):SI X (.Tuple es w b) (.Call (.Name "zip" p) [e, .Call (.Name "reversed" p2) [f] [] a] [] pos) true (mY i j):=by
 obtain⟨t,E,s⟩:=ha;obtain⟨t',F,G⟩:=hb;refine⟨_,jw z hm A C E F hs D,λB T n τ H R Q d h k=>s B T n τ H _ _ d h λu x I J g r1 h1=>G B I n τ J _ _ (d.stp g) h1 λv y K L o r2 h2=> ?_⟩;split at h2 <;> first | exact h2.elim|skip
 obtain⟨M,h2⟩:=h2;have c:=r1.stp o (d.stp g).va;obtain⟨l,N,rfl,hq,rs⟩:=DG c;obtain⟨m,O,rfl,P,rs2⟩:=DG r2;exact⟨l,m,O,rfl,rfl,⟨N,hq⟩,P,k _ _ K L (g.trans o) (λM2 T3 S r va _=>bH va M (by rw[rs2.length]) (c.mv r) (r2.mv r)) h2⟩
end
end PL
namespace L2
open PySem PySem.Spec PyProof.Rows
def HU (h:da):da:=(h.push {cls:= .type "dict",data:= .dict #[] }).push {cls:= .type "cell",data:= .cell none}
def RN {h:da}{b:kf}{o:Obj}(e:h.get? b=some o):(HU h).get? b=some o:=AAe _ (AAe _ e)
def YD {h:da}:(HU h).Ns h.objs.size (λ_=>none):=(Heap.Ns.new h (.type "dict")).keeps λb o e=>AAe _ e
def UI {h:da}:(HU h).IsCell (h.objs.size+1) none:=by have e:(h.push {cls:= .type "dict",data:= .dict #[] }).objs.size=h.objs.size+1:=ABd ..;rw[<-e];exact⟨_,AAj _ rfl,rfl⟩
def fP {M:Model}{A:Wf}{E:kj->ki->Prop}{s:ki}{scope:Scope}{c:Str}{globals:kf}{cl:km (Str×kf)}{qual:Str}{env:Env}{Q:Env->ki->Prop}(d:∀n a,cellsFrom n scope.names a=(c,n)::a)(e:∀h,pushCells h scope.names=h.push {cls:= .type "cell",data:= .cell none})(hQ:Q (newEnv scope s.heap.objs.size globals ((c,s.heap.objs.size+1)::cl) qual none .none (some env) builtinsNs) {s with heap:=HU s.heap}):wpAny M A (newFunctionEnv scope globals cl [] qual none .none (some env)) Q E s:=by simp only[newFunctionEnv,Option.isSome_some,ABU];refine AAX (wpAny_alloc ?_);refine AAX (wpAny_layCells _ (λname kind cells=>by cases b:kind==NameKind.cell <;> simp[b]) _ _ _ _ ?_);rw[d,e];rw[show ({s with heap:=s.heap.push {cls:= .type "dict",data:= .dict #[] }}:ki).heap.objs.size=s.heap.objs.size+1 from ABd ..];rw[ADZ];exact AAX (AAZ (AAZ hQ))
def KD (X:Cx)(sc:Scope)(N:km Str)(a:Str)(cl:km (Str×kf))(C:kf)(s:ki)(H:Hp)(ex:km kf)(pn:km (kf×Obj)):Cx:=
 {blk X sc N ((a,C+1)::cl) C s H ex pn with fn:=λx=>x==a}
section
variable {X:Cx}{Tb:km (kf×Obj)}{σ:St}{H:Hp}{s:ki}{fp:km kf}{sc:Scope}{N:km Str}{cl:km (Str×kf)}{y0:Str}
def lh {C:kf}{y:Str}{c:kf}(e:((y0,C+1)::cl).lookup y=some c):(y=y0/\c=C+1)\/cl.lookup y=some c:=by
 rw[AC9] at e;cases hb:y==y0 with
 | true=>rw[hb] at e;cases e;exact .inl ⟨beq_iff_eq.mp hb,rfl⟩
 | false=>rw[hb] at e;exact .inr e
def iw (I:Inv X Tb σ H s)(d:∀b∈fp,Ec X Tb H b)(h:∀b∈fp,b<s.heap.objs.size)(hk:sc.kind= .function)(h1:∀y c,cl.lookup y=some c->X.env.cells.lookup y=some c)(h2:∀y,(sc.names.lookup y=some .cell\/sc.names.lookup y=some .free)->∃c,((y0,s.heap.objs.size+1)::cl).lookup y=some c):(KD X sc N y0 cl s.heap.objs.size s H fp (X.pn++Tb)).Ok where
 mod:=I.ok.mod
 kind:=hk
 glob:=I.ok.glob
 blt:=I.ok.blt
 above:=AAf _
 inj:=λx y c a b=>by
  have lo:∀y c,cl.lookup y=some c->c<s.heap.objs.size:=λy c e=>I.szLt (h1 y c e);rcases lh a with⟨l,m⟩|g
  .rcases lh b with⟨i,j⟩|f
   .rw [l,i]
   .rw [m] at f;exact absurd (lo _ _ f) (Nat.not_lt.mpr (ADm _))
  .rcases lh b with⟨i,j⟩|f
   .rw [j] at g;exact absurd (lo _ _ g) (Nat.not_lt.mpr (ADm _))
   .exact I.ok.inj x y c (h1 x c g) (h1 y c f)
 has:=λx hx=>h2 x hx
 cab:=λx c z e=>by
  have z:(x==y0)=true:=z;rcases lh e with⟨_,rfl⟩|e
  .exact ADm _
  .have k:((y0,s.heap.objs.size+1)::cl).lookup x=some c:= ‹_›;rw[AC9,z] at k;cases k;exact ADm _
 hd:=I.ok.hd
 frames:=I.ok.frames
 stk:= .inl rfl
 exf:=λb hb=>⟨AAh (h b hb),λx c e=>by
  rcases lh e with⟨_,rfl⟩|e
  .exact ABK (Nat.lt_succ_of_lt (h b hb))
  .exact (d b hb).2.2.2.2.1 x c (h1 x c e)⟩
 bs:=I.bs
 bsz:=AA1 I.ok.bsz I.sz
 noex:=λb o e hb=>by
  rcases (d b hb).2.2.2.1 with z|z
  .exact I.ok.noex b o e z
  .exact absurd (AA0 (AAd (I.ok.bs b o e).1) z) (ABz _)
 exfs:=λb hb=>I.notStk (d b hb).2.1 (d b hb).2.2.1
 funs:=I.stack
 frf:=I.stkFree
def iu {own:Nat}{ix:km Nat}{h':da}{m:Str->ke kj}{t':Nat}(I:Inv X Tb σ H s)(K:∀b∈fp,Ec X Tb H b)(L:∀b∈fp,b<s.heap.objs.size)(hk:sc.kind= .function)(h1:∀y c,cl.lookup y=some c->X.env.cells.lookup y=some c)(h2:∀y,(sc.names.lookup y=some .cell\/sc.names.lookup y=some .free)->∃c,((y0,s.heap.objs.size+1)::cl).lookup y=some c)(F:Rb X sc own ix N)(h:∀(j i:Nat) (x:Str),ix[j]? =some i->N[own+j]? =some x->x≠y0)(hn:h'.Ns s.heap.objs.size m)(M:h'.IsCell (s.heap.objs.size+1) none)(k:∀b o,s.heap.get? b=some o->h'.get? b=some o):Inv (KD X sc N y0 cl s.heap.objs.size s H fp (X.pn++Tb)) [] (CJ own ix σ) H {s with heap:=h',toks:=t'} where
 ok:=iw I K L hk h1 h2
 os:=rfl
 bare:=I.bare
 base:=Un.kept k
 loc:=by
  refine⟨m,hn,λi x v O P Z=> ?_⟩;obtain⟨ax,Q,B,es⟩:=Fn P;obtain⟨y,C,R,D,E⟩:=F.out _ _ B;have n:x=y:=by have t:N[i]? =some x:=O;have f:=C;rw[show own+(i-own)=i by omega,t] at f;exact AAw f
  subst n;have S:=h _ _ _ B C;obtain⟨m0,T,U⟩:=I.loc;obtain⟨u,r,l⟩:=U Q x v R es (.inr (.inl D));refine⟨u,r, ?_⟩;rcases l with⟨z,_⟩|⟨_,c,W,z⟩
  .have G:X.env.scope.names.lookup x=some .local:=z;rw[D] at G;cases G
  .obtain ⟨J,g⟩:=h2 x (.inl E);have w:cl.lookup x=some J:=by
    rcases lh g with⟨e,_⟩|e
    .exact absurd e S
    .exact e
   have:=h1 x J w;rw[W] at this;cases this;obtain⟨o,A,hd⟩:=z;exact .inr ⟨.inl E,c,g,o,k c o A,hd⟩
 cell:=λx c e=>by
  rcases lh e with⟨_,rfl⟩|e
  .exact ⟨none,M⟩
  .obtain ⟨v,o,A,hd⟩:=I.cell x c (h1 x c e);exact⟨v,o,k c o A,hd⟩
 free:=I.hok.fresh (AAf _)
 freeC:=λx c e=>by
  rcases lh e with⟨_,rfl⟩|e
  .exact I.hok.fresh (ADm _)
  .exact I.freeC x c (h1 x c e)
 pin:=λp hp=>by
  have Y:p∈X.pn++Tb:=by simpa[KD,blk] using hp
  obtain⟨a,b,c,d,e⟩:=I.pin p Y;exact⟨k _ _ a,b,AAh (AAd a),I.notStk c d,e⟩
 hok:=I.hok.kept k
 len:=by rw[Mt];exact F.len.symm
def dJ {own:Nat}{ix:km Nat}{d:St}{e:Hp}{f:ki}{a:km (kf×Obj)}(I:Inv X Tb σ H s)(c:∀b∈fp,Ec X Tb H b)(g:∀b∈fp,b<s.heap.objs.size)(B:Inv (KD X sc N y0 cl s.heap.objs.size s H fp (X.pn++Tb)) a d e f):Inv X Tb σ e f:=
 I.call' (ch:=fp) B.os B.base B.hok B.bare λb hb=>⟨(c b hb).2.2.2.1,(c b hb).2.1,(c b hb).2.2.2.2.1,(c b hb).2.2.2.2.2⟩
end
section
variable {X:Cx}{tg elt iter:kd}{ifs:km kd}{scope:Scope}{pos:Pos}{wi:TI}{own:Nat}{ix:km Nat}{N:km Str}{y0:Str}{g:TG}{tt:TT}{te:TE}
structure OW (X:Cx) (tg elt:Expr) (ifs:List Expr) (scope:Scope) (own:Nat) (ix:List Nat) (N:List Str) (y0:Str) (g:TG) (tt:TT) (te:TE):Prop where
 kind:scope.kind= .function
 cells:∀y∈scope.names,y.2= .cell->y.1=y0
 cf:∀n acc,cellsFrom n scope.names acc=(y0,n)::acc
 pc:∀h,pushCells h scope.names=h.push {cls:= .type "cell",data:= .cell none}
 far:∀(j i:Nat) (x:Str),ix[j]? =some i->N[own+j]? =some x->x≠y0
 names:∀y∈scope.names,y.2= .local->scope.names.lookup y.1=some .local
 frees:∀y∈scope.names,y.2= .free->X.env.scope.names.lookup y.1=some .cell
 ins:Rb X (relabel scope X.env) own ix N
 keep:Ij own g
 tgt:∀cl C s H ex pn,PG (KD X (relabel scope X.env) N y0 cl C s H ex pn) tg g
 tst:∀cl C s H ex pn,Yt (KD X (relabel scope X.env) N y0 cl C s H ex pn) ifs tt
 val:∀cl C s H ex pn,PE (KD X (relabel scope X.env) N y0 cl C s H ex pn) elt te
def L7 {env:Env}{y:Str}{k:NameKind}(b:∀y∈scope.names,y.2= .cell->y.1=y0)(h:(y,k)∈(relabel scope env).names)(hk:k= .cell\/k= .free):(y,NameKind.free)∈scope.names\/y=y0:=by
 obtain⟨⟨n,a⟩,hm,e⟩:=AAl.mp (show (y,k)∈scope.names.map _ from h);dsimp only at e;split at e
 .rename_i hc;cases e;have:a= .free:=by cases a <;> simp_all
  subst this;exact .inl hm
 .cases e;rcases hk with z|z
  .subst z;exact .inr (b _ hm rfl)
  .subst z;exact .inl hm
def XU {Tb:km (kf×Obj)}{M:St}{H:Hp}{s:ki}{k:km kf}{cl:km (Str×kf)}{it:kf}{tn:Nat->da->Prop}{J:It}{D:kf}{R:Result->ki->Prop}{Qh:Hp->Prop}{W:Nat->Nat->Hp->Prop}(hc:X.calm=true)(O:OW X tg elt ifs scope own ix N y0 g tt te)(T:La X.prog X.w X.K tg J k it tn)(I:Inv X Tb M H s)(hf:∀b∈k,Ec X Tb H b)(Er:∀b∈k,b<s.heap.objs.size)(hW:KF J D (CJ own ix M) g tt te Qh W)(hR:∀σ' a P,Inv (KD X (relabel scope X.env) N y0 cl s.heap.objs.size s H k (X.pn++Tb)) [] σ' a P->Qh a->R (.ok .next) P)(n:Nat)(s0:ki)(h0:∃i a,Inv (KD X (relabel scope X.env) N y0 cl s.heap.objs.size s H k (X.pn++Tb)) [] (CJ own ix M) a s0/\tn i s0.heap/\(∀b∈k,a b=none)/\W i n a):codeAny (model X.prog X.w) X.A (.compLoop (.ListComp elt [⟨tg,iter,ifs,0⟩] scope pos) 0 (.ref it) (.ref D) (GD X.env (relabel scope X.env) ((y0,s.heap.objs.size+1)::cl) s.heap.objs.size)) R s0:=by
 refine AD9 rfl (λn P=>∃i a,Inv (KD X (relabel scope X.env) N y0 cl s.heap.objs.size s H k (X.pn++Tb)) [] (CJ own ix M) a P/\tn i P.heap/\(∀b∈k,a b=none)/\W i n a) (λn s1 h1=> ?_) n h0;obtain⟨i,H1,B1,S,U,w1⟩:=h1;generalize f:KD X (relabel scope X.env) N y0 cl s.heap.objs.size s H k (X.pn++Tb)=Y at *;have eA:Y.A=X.A:=by rw[<-f];rfl
 have Z:Y.prog=X.prog:=by rw[<-f];rfl
 have eW:Y.w=X.w:=by rw[<-f];rfl
 have eK:Y.K=X.K:=by rw[<-f];rfl
 have eE:GD X.env (relabel scope X.env) ((y0,s.heap.objs.size+1)::cl) s.heap.objs.size=Y.env:=by rw[<-f];rfl
 have eX:Y.xe=λ_ _=>False:=by rw[<-f];rfl
 have eC:Y.calm=true:=by rw[<-f];exact hc
 have hg:PG Y tg g:=by rw[<-f];exact O.tgt _ _ _ _ _ _
 have ht:Yt Y ifs tt:=by rw[<-f];exact O.tst _ _ _ _ _ _
 have hv:PE Y elt te:=by rw[<-f];exact O.val _ _ _ _ _ _
 have l:∀{a:Hp},(∀b∈k,a b=none)->∀b∈k,Ec Y [] a b:=λ{a} hn b hb=>by
  obtain⟨_,a1,a2,a3,a4,a5⟩:=hf b hb;refine⟨hn b hb, ?_, ?_, ?_, ?_, ?_⟩
  .rw [<-f];exact AAh (Er b hb)
  .rw [<-f];exact I.notStk a1 a2
  .rw [<-f];exact .inl hb
  .intro x c e;exact(B1.ok.exf b (by rw[<-f];exact hb)).2 x c e
  .intro p hp;have:p∈X.pn++Tb:=by rw[<-f] at hp;simpa[KD,blk] using hp
   exact a5 p this
 rw[eE,<-eA,<-Z,<-eW];show wpAny _ _ ((compTurn (.ListComp elt [⟨tg,iter,ifs,0⟩] scope pos) 0 (.ref it) (.ref D) Y.env).onRaise (λx=>do noteFrame x Y.env;theTreesLotGoes x)) _ _ s1;refine AEA ?_;rw[compTurn_list];have ff:∀{α:Type} {t:Sem α} {Q:α->ki->Prop} {E:kj->ki->Prop} {s:ki},wpAny (model Y.prog Y.w) Y.A t Q Y.xe s->wpAny (model Y.prog Y.w) Y.A t Q E s:=λh=>ABa h (λ_ _ q=>q) λ_ _ z=>by rw[eX] at z;exact z.elim
 refine AAX (ABp (AAX ?_));rcases hW i n H1 w1 with⟨stop,qn⟩|⟨go,step⟩
 .have zd:=λE=>T.done Y Z eW eK eC i [] s1 _ H1 E B1 (l U) S stop;rw[<-Z,<-eW] at zd;refine Bi (zd _) λr s4 ⟨hr,I4⟩=> ?_;subst hr;exact AAZ (hR _ _ _ I4 qn)
 .have zi:=λE=>T.item Y Z eW eK eC i [] s1 _ H1 E B1 (l U) S go;rw[<-Z,<-eW] at zi;refine Bi (zi _) λr s4 ⟨u,hr,h4⟩=> ?_;subst hr;refine AAX (Bi h4 λ_ s5 ⟨x,H5,I5,r5,y5,C,fr5⟩=> ?_);have I5':=I5.pinned (l fr5) (T.obj _ _ C);refine AAX (Bi (ff (hg _ s5 _ H5 x u _ I5' r5 (O.keep _ _ _ _ (step x H5 y5)))) λ_ s6 ⟨B,H6,I6,q6,l6,k6⟩=> ?_);refine AAX (Bi (ff (ht _ s6 B H6 _ I6 q6)) λok s7 ⟨H7,I7,q7⟩=> ?_);have back:∀{F:Hp} {G:ki} {L:Nat},Inv Y ([] ++ GG k s5.heap) B F G->L<n->W (i+1) L F->
   ∃m,m<n/\∃i a,Inv Y [] (CJ own ix M) a G/\tn i G.heap/\(∀b∈k,a b=none)/\W i m a:=λ{F G L} I8 hm w8=>by
   refine⟨L,hm,i+1,F,I8.unpinned.weak l6.symm (λj v hj=> ?_),T.keep _ _ _ C λb hb o e=>(I8.pin (b,o) (AAy _ (AAy _ (CN hb e)))).1,λb hb=> ?_,w8⟩
   .rw [k6 j (Fn hj).1];exact hj
   .obtain ⟨o,e,d⟩:=T.obj _ _ C b hb;exact(I8.pin (b,o) (AAy _ (AAy _ (CN hb e)))).2.1
  cases ok with
  | false=> obtain⟨L,hm,w8⟩:=q7;exact AAZ ⟨rfl,back I7 hm w8⟩
  | true=> refine AAX (AAX (Bi (ff (hv _ s7 B H7 _ I7 q7)) λyv G ⟨y,F,I8,r8,ys,hD,hz,L,hm,w8⟩=> ?_));refine AAX (Bi (ff (JU _ G B F (.ref D) [y] (.ref D) [yv] (λ_ H9=>H9=upd F D (.lst (ys ++ [y]))) I8 rfl (.cons r8 .nil) ⟨D,ys,y,rfl,rfl,hD,hz,rfl⟩)) λ_ s9 ⟨_,H9,I9,_,e9⟩=> ?_);subst e9;exact AAZ (AAZ ⟨rfl,back I9 hm w8⟩)
def aX {Tb:km (kf×Obj)}{u:St}{H:Hp}{s:ki}{use:ke (kj->Sem Unit)}{Q:kj->ki->Prop}{it:kf}{j:km kf}{cl:km (Str×kf)}{tn:Nat->da->Prop}{J:It}{Qd:kf->Hp->Prop}(hc:X.calm=true)(O:OW X tg elt ifs scope own ix N y0 g tt te)(T:La X.prog X.w X.K tg J j it tn)(I:Inv X Tb u H s)(M:∀b∈j,Ec X Tb H b)(st:tn 0 s.heap)(h1:∀y c,cl.lookup y=some c->X.env.cells.lookup y=some c)(h2:∀y,(y,NameKind.free)∈scope.names->∃c,cl.lookup y=some c)(hq:∀D,H D=none->∃W:Nat->Nat->Hp->Prop,(∃m,W 0 m (upd H D (.lst [])))/\KF J D (CJ own ix u) g tt te (Qd D) W)(P:∀D C i k,(∃m,k.heap.Ns C m)->Inv X Tb u i k->(∀d v,Inv X Tb d i v->∀h',Heap.SameBut C v.heap h'->Inv X Tb d i {v with heap:=h'})->C≠X.env.locals->(∀x c,X.env.cells.lookup x=some c->C≠c)->Qd D i-> compPost (model X.prog X.w) X.A X.xe use Q (.ref D) C (.ok .next) k):wpAny (model X.prog X.w) X.A (newList []) (λl n=>wpAny (model X.prog X.w) X.A (newFunctionEnv scope X.env.globals cl [] X.env.qual none .none (some X.env)) (λa p=> codeAny (model X.prog X.w) X.A (.compStart (.ListComp elt [⟨tg,iter,ifs,0⟩] scope pos) 0 (.ref it) l {a with scope:=relabel scope X.env}) (compPost (model X.prog X.w) X.A X.xe use Q l a.locals) p) X.xe n) X.xe s:=by
 refine ABM ?_ (by simp[sizeOk]);have f:Inv X Tb u (upd H s.heap.objs.size (.lst [])) {s with heap:=s.heap.push {cls:= .type "list",data:= .seq ([] :km kj).toArray}}:=I.lnew (t':=s.toks) .nil (ABH _);have R:=I.fresh;obtain⟨W,⟨m0,S⟩,hW⟩:=hq _ R;have U:∀b∈j,b<s.heap.objs.size:=λb hb=>by obtain⟨o,e,_⟩:=T.obj _ _ st b hb;exact AAd e
 have E:∀b∈j,Ec X Tb (upd H s.heap.objs.size (.lst [])) b:=λb hb=>by obtain⟨Y,Z⟩:=M b hb;exact⟨by rw[Ao (AAh (U b hb))];exact Y,Z⟩
 generalize rZ:({s with heap:=s.heap.push {cls:= .type "list",data:= .seq ([] :km kj).toArray}}:ki)=s3 at f;have r:tn 0 s3.heap:=T.keep _ _ _ st λb hb o e=>by rw[<-rZ];exact AAe _ e
 have F:∀b∈j,b<s3.heap.objs.size:=λb hb=>by obtain⟨o,e,_⟩:=T.obj _ _ r b hb;exact AAd e
 refine fP O.cf O.pc ?_;have L:∀b o,s3.heap.get? b=some o->(HU s3.heap).get? b=some o:=λb o e=>RN e;have lV:=YD (h:=s3.heap);have nB:=UI (h:=s3.heap);have rO:∀y,((relabel scope X.env).names.lookup y=some .cell\/(relabel scope X.env).names.lookup y=some .free)->∃c,((y0,s3.heap.objs.size+1)::cl).lookup y=some c:=λy hy=>by
  have go:(y,NameKind.free)∈scope.names\/y=y0:=by
   rcases hy with z|z
   .exact L7 O.cells (Iv z) (.inl rfl)
   .exact L7 O.cells (Iv z) (.inr rfl)
  rw[AC9];cases hb:y==y0 with
  | true=>exact⟨_,rfl⟩
  | false=>
    rcases go with z|z
    .exact h2 y z
    .rw [z] at hb;simp at hb
 have B:=iu (N:=N) (t':=s3.toks) f E F (sc:=relabel scope X.env) O.kind h1 rO O.ins O.far lV nB L;have t:tn 0 (HU s3.heap):=T.keep _ _ _ r λb hb o e=>L b o e;have loop:∀G:ki,G={s3 with heap:=HU s3.heap}->
  codeAny (model X.prog X.w) X.A (.compLoop (.ListComp elt [⟨tg,iter,ifs,0⟩] scope pos) 0 (.ref it) (.ref s.heap.objs.size) (GD X.env (relabel scope X.env) ((y0,s3.heap.objs.size+1)::cl) s3.heap.objs.size)) (compPost (model X.prog X.w) X.A X.xe use Q (.ref s.heap.objs.size) s3.heap.objs.size) G:=by rintro G rfl;refine XU (cl:=cl) (Qh:=Qd s.heap.objs.size) hc O T f E F hW (λσ' i k B' q'=> ?_) m0 _ ⟨0,_,B,t,λb hb=>(E b hb).1,S⟩;refine P _ _ i k (let ⟨m,hm,_⟩:=B'.loc;⟨m,hm⟩) (dJ (own:=own) (ix:=ix) f E F B') (λd v I2 h' hs=>PY f rfl I2 B'.free hs) (ABK f.lt) (λx c e=>ABK (f.szLt e)) q'
 exact AEm (loop _ rfl) (T.self _ 0 _ _ _ t (loop _ rfl))
def fx (hc:X.calm=true)(hi:PI X tg iter wi)(O:OW X tg elt ifs scope own ix N y0 g tt te)(hs:∀x,foldedSetIterable iter X.env x=pure x:=by intro _;rfl):PE X (.ListComp elt [⟨tg,iter,ifs,0⟩] scope pos) (Zz wi own ix g tt te):=by intro Tb s c H Q I h;obtain⟨cl,d,h1,h2⟩:=HI (env:=X.env) (scope:=scope) λy hy e=>I.ok.has y.1 (.inl (O.frees y hy e));rw[eval_ListComp];refine AEB (use:=none) rfl hs d O.kind O.names (Bi (hi Tb s c H _ I h) λv o hv=>Bi hv λf p i=> ?_);obtain⟨it,r,tn,J,t,rfl,j,T,a,f2,q⟩:=i;exact aX (Qd:=λD b=>Q (.ref D) b) hc O T j f2 a h1 h2 q λD C b k hn l gone u w n=>by obtain⟨m,hm⟩:=hn;exact⟨m,hm,λh' hs=>⟨.ref D,b,gone c k l h' hs,rfl,n⟩⟩
end
end L2
namespace PL
open PySem PySem.Spec PyProof.Rows L2
section
variable {X:Cx}{ta:AE}{pos:Pos}
structure cv (X:Cx) (tg elt:Expr) (ifs:List Expr) (scope:Scope) (own:Nat) (ix:List Nat) (N:List Str) (y0:Str) (g:AG) (t:AT) (te:AE):Prop where
 ex:∃g' t' te',OW X tg elt ifs scope own ix N y0 g' t' te'/\LY X.K g' g/\OF X.K t' t/\Fj X.K te' te
def gf {c a iter:kd}{b:km kd}{scope:Scope}{own:Nat}{ix:km Nat}{N:km Str}{e:Str}{g:AG}{t:AT}{s:kc}{d:AI}(hc:X.calm=true)(hi:SI X c iter s d)(O:cv X c a b scope own ix N e g t ta)(hs:∀x,foldedSetIterable iter X.env x=pure x:=by intro _;rfl):SF X (.ListComp a [⟨c,iter,b,0⟩] scope pos) (CD d own ix g t ta):=by obtain⟨l,f,h⟩:=hi;obtain⟨g',t',i,O,j,st,k⟩:=O.ex;exact⟨_,fx hc f O hs,Qf h j st k⟩
def i0 {l b:kd}{c:km kd}{scope:Scope}{own:Nat}{ix:km Nat}{N:km Str}(a:Str){g:AG}{t:AT}{te:AE}(h1:scope.kind= .function)(h2:(scope.names.all λy=> !decide (y.2= .cell)||decide (y.1=a))=true)(m:∀n d,cellsFrom n scope.names d=(a,n)::d)(o:∀h,pushCells h scope.names=h.push {cls:= .type "cell",data:= .cell none})(p:(scope.names.all λy=> !decide (y.2= .local)||decide (scope.names.lookup y.1=some .local))=true)(r:(scope.names.all λy=> !decide (y.2= .free)||decide (X.env.scope.names.lookup y.1=some .cell))=true)(u:N.length=own+ix.length)(v:Pf X (relabel scope X.env) own ix N=true)(w:((N.drop own).all λx=> !decide (x=a))=true)(f:∀cl C s H ex pn,SK own (KD X (relabel scope X.env) N a cl C s H ex pn) l g)(k:∀cl C s H ex pn,lF (KD X (relabel scope X.env) N a cl C s H ex pn) c t)(val:∀cl C s H ex pn,SE (KD X (relabel scope X.env) N a cl C s H ex pn) b te):cv X l b c scope own ix N a g t te:=by
 refine⟨m6 X.K own g,qD X.K t,pw X.K te,⟨h1,λy hy e=> ?_,m,o,λj i x hj hx=> ?_,λy hy e=> ?_,λy hy e=> ?_,Vi u v,Lx,λcl C s H ex pn=>(f cl C s H ex pn).of,λcl C s H ex pn=>(k cl C s H ex pn).of,λcl C s H ex pn=>(val cl C s H ex pn).of⟩,Oo,Op,Ub⟩
 .have:=ABi.mp h2 y hy;simpa[e] using this
 .have hm:x∈N.drop own:=ABN (i:=j) (by rw[ADG];exact hx);have:=ABi.mp w x hm;simpa using this
 .have:=ABi.mp p y hy;simpa[e] using this
 .have:=ABi.mp r y hy;simpa[e] using this
end
end PL
namespace L2
open PySem PySem.Spec PyProof.Rows
def uM {T:String}(h:Ir T):typeOf (.type T)=pure (.type "type"):=by rcases h with rfl|rfl|rfl|rfl <;> rfl
def ur:Kd->String
 | .int=>"int" | .bl=>"bool" | .non=>"NoneType" | .str=>"str" | .lst=>"list" | .tup=>"tuple"
section
variable {X:Cx}
def jT {K:AAY}{Tb:km (kf×Obj)}{s:ki}{d:St}{H:Hp}{x:V}{u:kj}{k:Kd}(I:Inv X Tb d H s)(r:RelV x u)(h:qa X.K x H k):s.TypeIs u (ur k):=by
 cases k with
 | int=>obtain⟨i,rfl⟩:=h;obtain⟨t,rfl⟩:=r;exact rfl
 | bl=>obtain⟨i,rfl⟩:=h;cases r;exact rfl
 | non=>have e:x= .non:=h;subst e;cases r;exact rfl
 | str=>obtain⟨i,rfl⟩:=h;obtain⟨t,rfl⟩:=r;exact rfl
 | lst=> obtain⟨a,ys,rfl,hq⟩:=h;cases r;obtain⟨b,f,g,hz⟩:=I.list hq;obtain⟨o,e,c,_⟩:=g.isList;exact⟨o,e,c⟩
 | tup=> obtain⟨a,ys,rfl,hq⟩:=h;cases r;obtain⟨b,f,⟨o,e,c,_⟩,hz⟩:=I.tuple hq;exact⟨o,e,c⟩
def mZ {H:Hp}{x:V}{u:kj}{k:Kd}{T:String}(r:RelV x u)(h:qa X.K x H k)(c:Ir T):Answers (λs=>s.TypeIs u (ur k)) u (.type T) (Jm k T):=by
 have b:=uM c;cases k with
 | int=>
   obtain⟨i,rfl⟩:=h;obtain⟨t,rfl⟩:=r;rcases c with rfl|rfl|rfl|rfl
   .exact .of_true b (by rw[ABG];kernel_rfl)
   all_goals exact .of_false_int (by rfl) b (by rw[ABG];kernel_rfl)
 | bl=>
   obtain⟨i,rfl⟩:=h;cases r;rcases c with rfl|rfl|rfl|rfl
   .exact .of_true b (by rw[ABG];kernel_rfl)
   .exact .of_true b (by rw[ABG];kernel_rfl)
   all_goals exact .of_false_bool (by rfl) b (by rw[ABG];kernel_rfl)
 | non=> have e:x= .non:=h;subst e;cases r;rcases c with rfl|rfl|rfl|rfl;all_goals exact .of_false_none (by rfl) b (by rw[ABG];kernel_rfl)
 | str=> obtain⟨i,rfl⟩:=h;obtain⟨t,rfl⟩:=r;rcases c with rfl|rfl|rfl|rfl;all_goals exact .of_false_str (by rfl) b (by rw[ABG];kernel_rfl)
 | lst=>
   obtain⟨a,ys,rfl,hq⟩:=h;cases r;rcases c with rfl|rfl|rfl|rfl
   case inr.inr.inr=>exact .of_true b (by rw[ABG];kernel_rfl)
   all_goals exact .of_false_list (by rfl) b (by rw[ABG];kernel_rfl)
 | tup=>
   obtain⟨a,ys,rfl,hq⟩:=h;cases r;rcases c with rfl|rfl|rfl|rfl
   case inr.inr.inl=>exact .of_true b (by rw[ABG];kernel_rfl)
   all_goals exact .of_false_tuple (by rfl) b (by rw[ABG];kernel_rfl)
theorem Yw {H:Hp}{x:V}{u:kj}{k:Kd}(r:RelV x u)(h:qa X.K x H k):∀{a:km String},(∀T∈a,Ir T)->AnswersAll (λs=>s.TypeIs u (ur k)) u (a.map Value.type) (a.map (Jm k))
 | [],_=>True.intro
 | T::a,hT=>⟨mZ r h (hT T (by simp)),Yw r h λT h=>hT T (by simp[h])⟩
def uD (K:AAY)(c:TE)(b:km String):TE:=λd H Q=>c d H λx a=>∀q,a q=none->∃k,qa K x a k/\Q (.bl (b.any (Jm k))) (upd a q (.tup (b.map V.ty)))
def uJ (a:km String):TA:=λ_ H Q=>Q (a.map V.ty) H
theorem Ws:∀{a:km String} {b:km kj},A7 (a.map V.ty) b->b=a.map Value.type
 | [],_,h=>by cases h;rfl
 | T::a,_,h=>by
   rw[AAi] at h;cases h with
   | cons h t=>cases h;rw[Ws t,AAi]
def jq {x:Str}{p p2 pos:Pos}{e:kd}{es:km kd}{f:Nat}{l:TE}{d:km String}(z:Gl X x)(hm:X.mg x=none)(hv:bootBuiltins x=some (.builtin "isinstance"))(ha:PE X e l)(A:PA X es (uJ d))(B:∀T∈d,Ir T)(hl:d.length<=sizeLine)(hn:x≠"__name__" :=by decide)(hdb:(x==("__debug__" :Str))=false:=by decide)(he:starEach (e :: [.Tuple es f p2]) X.env=(false,eval e X.env)::starEach [.Tuple es f p2] X.env:=by rfl)(hpl:(backTo pos (starEach [.Tuple es f p2] X.env)).any (·.1)=false:=by rfl)(C:starEach [.Tuple es f p2] X.env=(false,eval (.Tuple es f p2) X.env)::starEach [] X.env:=by rfl):PE X (.Call (.Name x p) [e, .Tuple es f p2] [] pos) (uD X.K l d):=by
 intro Tb s m H Q I h;refine AD6 (FB I z hm hv ?_ hn hdb);refine AFD ?_ he hpl;rw[he];show wpAny _ _ (spliced ((false,eval e X.env)::backTo pos (starEach [.Tuple es f p2] X.env))) _ _ s;refine ACN (Bi (ha Tb s m H _ I h) λu n ⟨v,r,D,r1,E⟩=> ?_);rw[C];show wpAny _ _ (spliced ((false,eval (.Tuple es f p2) X.env)::backTo pos (starEach [] X.env))) _ _ n;refine ACN (wpAny_Tuple_spliced (Bi (A p2 Tb n m r (λvs F=>vs=d.map V.ty/\F=r) D ⟨rfl,rfl⟩) λi g ⟨vs,G,j,r2,J,L⟩=> ?_));subst J L;have M:G g.heap.objs.size=none:=j.hok.fresh (AAf _);obtain⟨k,hk,N⟩:=E _ M;have t:=Ws r2;have O:i.length<=sizeLine:=by rw[t,AAk];exact hl
 have P:=j.laid (t':=g.toks) (a:=g.heap.objs.size) (o:= .tup (d.map V.ty)) (h':=g.heap.push {cls:= .type "tuple",data:= .seq i.toArray}) (λb u e=>AAe _ e) (AAf _) (show DR X.prog X.w _ _ _ (.tup (d.map V.ty)) from⟨by rw[AAk];exact hl,i,r2,⟨_,AAj _ rfl,rfl,_,rfl⟩⟩);have R:Shared.TypeIs {g with heap:=g.heap.push {cls:= .type "tuple",data:= .seq i.toArray}} u (ur k):=by
  have y:=jT (K:=X.K) j r1 hk;cases u with
  | ref a=>obtain⟨o,e,c⟩:=y;exact⟨o,AAe _ e,c⟩
  | _=>exact y
 refine⟨O,ACp ?_⟩;refine IsiPair.tupleOfB (cs:=d.map Value.type) (vs:=d.map (Jm k)) (b:=d.any (Jm k)) (Yw r1 hk B) R ?_ ?_ λS=>⟨.bl _,_,P.tok _,rfl,N⟩
 .rw [<-t];exact AAj _ rfl
 .rw [List.any_map];rfl
end
end L2
namespace PL
open PySem PySem.Spec PyProof.Rows L2
section
variable {X:Cx}
def Lc (a:AE)(b:km String):AE:=λτ Q=>a τ λx=>match kdOf x with | some k=>Q (.bl (b.any (Jm k)))|none=>False
def kI {x:Str}{p p2 pos:Pos}{e:kd}{es:km kd}{c:Nat}{n:AE}(d:km String)(r:Gl X x)(hm:X.mg x=none)(hv:bootBuiltins x=some (.builtin "isinstance"))(ha:SE X e n)(u:PA X es (uJ d))(w:∀T∈d,Ir T)(hl:d.length<=sizeLine)(hn:x≠"__name__" :=by decide)(hdb:(x==("__debug__" :Str))=false:=by decide)(he:starEach (e :: [.Tuple es c p2]) X.env=(false,eval e X.env)::starEach [.Tuple es c p2] X.env:=by rfl)(hpl:(backTo pos (starEach [.Tuple es c p2] X.env)).any (·.1)=false:=by rfl)(y:starEach [.Tuple es c p2] X.env=(false,eval (.Tuple es c p2) X.env)::starEach [] X.env:=by rfl):SE X (.Call (.Name x p) [e, .Tuple es c p2] [] pos) (Lc n d):=by
 obtain⟨t,z,s⟩:=ha;refine⟨_,jq r hm hv z u w hl hn hdb he hpl y,λB T A τ H Q C o h k=> ?_⟩;refine s B T A τ H _ _ o h λv x g i f r1 h1=> ?_;intro q hq;have j:=o.stp f;have l:Dv g i g (upd i q (.tup (d.map V.ty))):=Dv.lay j.tp hq;have a:∀b,C (.bl b)->Q (.bl b) (upd i q (.tup (d.map V.ty))):=λb hb=>k _ _ g _ (f.trans l) (.bl _) hb;cases r1 with
 | non=>exact⟨.non,rfl,a _ h1⟩
 | bl b=>exact⟨.bl,⟨_,rfl⟩,a _ h1⟩
 | int b=>exact⟨.int,⟨_,rfl⟩,a _ h1⟩
 | str b=>exact⟨.str,⟨_,rfl⟩,a _ h1⟩
 | ty b=>exact h1.elim
 | tup m _=>exact⟨.tup,⟨_,_,rfl,m.sq⟩,a _ h1⟩
 | lst m _ _ _=>exact⟨.lst,⟨_,_,rfl, .inl (.inl m)⟩,a _ h1⟩
 | tape _=>exact h1.elim
 | scr _=>exact h1.elim
 | dct _ _ _=>exact h1.elim
def G1 {x:Str}{p p2 pos:Pos}{e:kd}{es:km kd}{a:Nat}{b:AE}(A B:String)(c:Gl X x)(hm:X.mg x=none)(hv:bootBuiltins x=some (.builtin "isinstance"))(ha:SE X e b)(d:PA X es (ML (tC (.ty A)) (ML (tC (.ty B)) hG)))(f:∀T∈ [A,B],Ir T)(hn:x≠"__name__" :=by decide)(hdb:(x==("__debug__" :Str))=false:=by decide)(he:starEach (e :: [.Tuple es a p2]) X.env=(false,eval e X.env)::starEach [.Tuple es a p2] X.env:=by rfl)(hpl:(backTo pos (starEach [.Tuple es a p2] X.env)).any (·.1)=false:=by rfl)(g:starEach [.Tuple es a p2] X.env=(false,eval (.Tuple es a p2) X.env)::starEach [] X.env:=by rfl):SE X (.Call (.Name x p) [e, .Tuple es a p2] [] pos) (Lc b [A,B]):=
 kI [A,B] c hm hv ha d f (ACP rfl) hn hdb he hpl g
def Lw:∀T∈ ["tuple","list"],Ir T:=λT h=>by
 simp only[AAc,AAq,AAr] at h;rcases h with rfl|rfl
 .exact .inr (.inr (.inl rfl))
 .exact .inr (.inr (.inr rfl))
def Ps:∀T∈ ["list","tuple"],Ir T:=λT h=>Lw T (by simp only[AAc,AAq,AAr] at *;exact h.symm)
end
end PL
namespace PL
open PySem L2 PyProof.Rows
def wb (a:km String)(x:PV)(Q:PV->Prop):Prop:=match kdOf x with | some k=>Q (.bl (a.any (Jm k)))|none=>False
instance{a:AE}{b:km String}{τ:BC}{Q:PV->Prop}:Wp (Lc a b τ Q) (a τ λx=>wb b x Q):=⟨id⟩
class dB (Ts:List String):Prop where
 q:Ts.any (Jm .tup)=true/\Ts.any (Jm .lst)=true/\Ts.any (Jm .int)=false/\Ts.any (Jm .bl)=false/\Ts.any (Jm .non)=false/\Ts.any (Jm .str)=false
instance:dB ["tuple","list"] :=⟨by decide⟩
instance:dB ["list","tuple"] :=⟨by decide⟩
section
variable {Ts:km String}[h:dB Ts]{Q:PV->Prop}{xs:km PV}
instance:Wp (wb Ts (.tup xs) Q) (Q (.bl true)):=⟨λk=>by show Q _;rw[h.q.1];exact k⟩
instance:Wp (wb Ts (.lst xs) Q) (Q (.bl true)):=⟨λk=>by show Q _;rw[h.q.2.1];exact k⟩
end
end PL
namespace L2
open PySem PySem.Spec PyProof.Rows
section
variable {κ:Type}[DecidableEq κ]
def Fw (a:km (κ×V))(k:κ):ke V:=(a.find? λb=>decide (b.1=k)).map (·.2)
def I0 (a:km (κ×V))(k:κ)(v:V):km (κ×V):=
 if (a.any λb=>decide (b.1=k))=true then a.map (λb=>if b.1=k then (b.1,v) else b) else a ++ [(k,v)]
def lK (a:km (κ×V))(k:κ):km (κ×V):=a.filter λb=>decide (b.1≠k)
def MN {p:κ×V}{r:km (κ×V)}{k:κ}(e:p.1=k):Fw (p::r) k=some p.2:=by simp[Fw,ACi,e]
def MM {p:κ×V}{r:km (κ×V)}{k:κ}(e:¬p.1=k):Fw (p::r) k=Fw r k:=by simp[Fw,ACi,e]
theorem Qo (k:κ):∀a:km (κ×V),(a.any λb=>decide (b.1=k))=(Fw a k).isSome
 | [] =>rfl
 | p::r=>by
   rw[ABg];by_cases e:p.1=k
   .simp only[MN e,AAt e,Bool.true_or,Option.isSome_some]
   .rw [MM e,AAm e,Bool.false_or];exact Qo k r
def V2 (a:km (κ×V))(k:κ)(v:V):(I0 a k v).length<=a.length+1:=by
 unfold I0;split
 .rw [AAk];omega
 .rw [ABR,AAz,ADn];omega
def LV.isSome_eq {o:ke V}{u:ke kj}(r:LV o u):o.isSome=u.isSome:=by
 cases o with
 | none=>cases u with
   | none=>rfl
   | some _=>exact(show False from r).elim
 | some _=>cases u with
   | none=>exact(show False from r).elim
   | some _=>rfl
def LV.getD {o:ke V}{u:ke kj}{d:V}{d':kj}(r:LV o u)(a:RelV d d'):RelV (o.getD d) (u.getD d'):=by
 cases o with
 | none=>cases u with
   | none=>exact a
   | some _=>exact(show False from r).elim
 | some _=>cases u with
   | none=>exact(show False from r).elim
   | some _=>exact r
def KV.val {a:km (κ×V)}{vs:km (κ×kj)}(r:KV a vs)(k:κ):LV (Fw a k) (valueAt vs k):=by
 unfold KV at r;induction r with
 | nil=>exact True.intro
 | @cons p q d qs h t ih=>
   obtain⟨h1,h2⟩:=h;by_cases e:p.1=k
   .have c:q.1=k:=h1.symm.trans e;have b:valueAt (q::qs) k=some q.2:=by simp[valueAt,ACi,c]
    rw[MN e,b];exact h2
   .have c:¬q.1=k:=λz=>e (h1.trans z);have b:valueAt (q::qs) k=valueAt qs k:=by simp[valueAt,ACi,c]
    rw[MM e,b];exact ih
def KV.any {a:km (κ×V)}{vs:km (κ×kj)}(r:KV a vs)(k:κ):(a.any λb=>decide (b.1=k))=vs.any λb=>decide (b.1=k):=by
 unfold KV at r;induction r with
 | nil=>rfl
 | cons h t ih=>rw[ABg,ABg,ih,h.1]
def KV.repl {b:km (κ×V)}{vs:km (κ×kj)}(r:KV b vs)(k:κ){y:V}{u:kj}(c:RelV y u):KV (b.map λa=>if a.1=k then (a.1,y) else a) (vs.map λa=>if a.1=k then (a.1,u) else a):=by
 unfold KV at r ⊢;induction r with
 | nil=>exact .nil
 | @cons p q d qs h t ih=>
   rw[AAi,AAi];refine .cons ?_ ih;obtain⟨h1,h2⟩:=h;by_cases e:p.1=k
   .rw [AAb e,AAb (h1.symm.trans e)];exact⟨h1,c⟩
   .rw [AAa e,AAa (λz=>e (h1.trans z))];exact⟨h1,h2⟩
def KV.put {a:km (κ×V)}{vs:km (κ×kj)}(r:KV a vs)(k:κ){y:V}{u:kj}(b:RelV y u):KV (I0 a k y) (stored vs k u):=by
 unfold I0 stored;rw[r.any k];by_cases e:(vs.any λc=>decide (c.1=k))=true
 .rw [AAb e,AAb e];exact r.repl k b
 .rw [AAa e,AAa e];exact Paired.snoc r ⟨rfl,b⟩
def KV.drop {c:km (κ×V)}{vs:km (κ×kj)}(r:KV c vs)(k:κ):KV (lK c k) (without vs k):=by
 unfold KV at r ⊢;unfold lK without;induction r with
 | nil=>exact .nil
 | @cons p q f qs h t ih=>
   obtain⟨h1,h2⟩:=h;rw[ABk,ABk];by_cases e:p.1=k
   .have a:¬decide (p.1≠k)=true:=by simp[e]
    have b:¬decide (q.1≠k)=true:=by simp[h1.symm.trans e]
    rw[AAa a,AAa b];exact ih
   .have d:¬q.1=k:=λz=>e (h1.trans z);have a:decide (p.1≠k)=true:=by simp[e]
    have b:decide (q.1≠k)=true:=by simp[d]
    rw[AAb a,AAb b];exact .cons ⟨h1,h2⟩ ih
def KV.keys {a:km (κ×V)}{vs:km (κ×kj)}(r:KV a vs):a.map (·.1)=vs.map (·.1):=by
 unfold KV at r;induction r with
 | nil=>rfl
 | cons h t ih=>rw[AAi,AAi,ih,h.1]
def KV.length {a:km (κ×V)}{vs:km (κ×kj)}(r:KV a vs):a.length=vs.length:=ADR r
end
abbrev KT (H:Hp):km (km GT×V)->km (km GT×kf×kj)->Prop:=Paired λp q=>p.1=q.1/\H q.2.1=some (.tup (p.1.map kV))/\RelV p.2 q.2.2
def KT.val {H:Hp}{a:km (km GT×V)}{xs:km (km GT×kf×kj)}(r:KT H a xs)(k:km GT):LV (Fw a k) ((atKey xs k).map (·.2)):=by
 induction r with
 | nil=>exact True.intro
 | @cons p q d qs h t ih=>
   obtain⟨h1,_,h2⟩:=h;by_cases e:p.1=k
   .have c:q.1=k:=h1.symm.trans e;have b:atKey (q::qs) k=some q.2:=by simp[atKey,ACi,c]
    rw[MN e,b];exact h2
   .have c:¬q.1=k:=λz=>e (h1.trans z);have b:atKey (q::qs) k=atKey qs k:=by simp[atKey,ACi,c]
    rw[MM e,b];exact ih
def KT.repl {H:Hp}{a:km (km GT×V)}{xs:km (km GT×kf×kj)}(r:KT H a xs)(k:km GT){y:V}{u:kj}(c:RelV y u):KT H (a.map λb=>if b.1=k then (b.1,y) else b) (xs.map (putAt k u)):=by
 induction r with
 | nil=>exact .nil
 | @cons p q f qs h t ih=>
   rw[AAi,AAi];refine .cons ?_ ih;obtain⟨h1,h2,d⟩:=h;unfold putAt;by_cases e:p.1=k
   .rw [AAb e,AAb (h1.symm.trans e)];exact⟨h1,h2,c⟩
   .rw [AAa e,AAa (λz=>e (h1.trans z))];exact⟨h1,h2,d⟩
def KT.put {H:Hp}{a:km (km GT×V)}{xs:km (km GT×kf×kj)}(r:KT H a xs)(k:km GT){b:kf}{y:V}{u:kj}(hb:H b=some (.tup (k.map kV)))(c:RelV y u):KT H (I0 a k y) (storedH xs k b u):=by
 have e:(a.any λd=>decide (d.1=k))=(atKey xs k).isSome:=by rw[Qo,(r.val k).isSome_eq,ADo]
 unfold I0 storedH;rw[e];by_cases q:(atKey xs k).isSome=true
 .rw [AAb q,AAb q];exact r.repl k c
 .rw [AAa q,AAa q];exact Paired.snoc r ⟨rfl,hb,c⟩
def KT.keeps {H c:Hp}{a:km (km GT×V)}{xs:km (km GT×kf×kj)}(r:KT H a xs)(d:∀b ys,H b=some (.tup ys)->c b=some (.tup ys)):KT c a xs:=
 Paired.mapP r λ_ _ z=>⟨z.1,d _ _ z.2.1,z.2.2⟩
def iW (H:Hp)(a:kf)(y:V)(r:ke V):Prop:=
 (∃c k,Rd H a (.dK c)/\y=kV k/\r=Fw c k)\/∃c k b,Rd H a (.dT c)/\y= .ref b/\H b=some (.tup (k.map kV))/\r=Fw c k
def iX (H:Hp)(a:kf)(y v:V)(d:Hp):Prop:=
 (∃c k,H a=some (.dK c)/\y=kV k/\c.length<sizeLine/\d=upd H a (.dK (I0 c k v)))\/
 ∃c k b,H a=some (.dT c)/\y= .ref b/\H b=some (.tup (k.map kV))/\c.length<sizeLine/\d=upd H a (.dT (I0 c k v))
def iW.k {H:Hp}{a:kf}{b:km (GT×V)}{k:GT}(e:H a=some (.dK b)):iW H a (kV k) (Fw b k):= .inl ⟨b,k, .inl e,rfl,rfl⟩
def iW.t {H:Hp}{a b:kf}{c:km (km GT×V)}{k:km GT}(e:H a=some (.dT c))(d:H b=some (.tup (k.map kV))):iW H a (.ref b) (Fw c k):= .inr ⟨c,k,b, .inl e,rfl,d,rfl⟩
def iX.k {H:Hp}{a:kf}{b:km (GT×V)}{k:GT}{v:V}(e:H a=some (.dK b))(hl:b.length<sizeLine):iX H a (kV k) v (upd H a (.dK (I0 b k v))):= .inl ⟨b,k,e,rfl,hl,rfl⟩
def iX.t {H:Hp}{a b:kf}{c:km (km GT×V)}{k:km GT}{v:V}(e:H a=some (.dT c))(d:H b=some (.tup (k.map kV)))(hl:c.length<sizeLine):iX H a (.ref b) v (upd H a (.dT (I0 c k v))):= .inr ⟨c,k,b,e,rfl,d,hl,rfl⟩
section
variable {X:Cx}{Tb:km (kf×Obj)}{σ:St}{H:Hp}{s:ki}{a:kf}{y v:V}{u r:kj}{o:ke V}{A:Wf}{E:kj->ki->Prop}
def Inv.big (I:Inv X Tb σ H s):sysModules<s.heap.objs.size:=by have h:mainGlobals<s.heap.objs.size:=(I.mod.glob.keeps I.bk).lt;exact ACt (by decide) h
def i4 {h':da}{t':Nat}{c:HO}(I:Inv X Tb σ H s)(d:qd (H a))(hs:Heap.SameBut a s.heap h')(he:∃q,h'.get? a=some q)(new:DR X.prog X.w (upd H a c) h' a c):Inv X Tb σ (upd H a c) {s with heap:=h',toks:=t'}:=
 I.write (x:=a) (e:=a) d (.inl rfl) (λb q hb z=>(hs.2 b hb).trans z) he new
end
def mP (i:kd):Prop:=∀a b,subscripted i false a b=operate [a,b] (getItem a b)
def kY {prog:gn}{w:fe}{A:Wf}{E:kj->ki->Prop}{s:ki}{env:Env}{value slice:kd}{pos:Pos}{T id:String}{Q:kj->ki->Prop}(hl:typeLookup (.type T) "__getitem__" =pure (some (.builtin id)))(hs:mP slice)(h:wpAny (model prog w) A (eval value env) (λo c=>wpAny (model prog w) A (eval slice env) (λi a=>a.TypeIs o T/\wpAny (model prog w) A (getItem o i) Q E a) E c) E s):wpAny (model prog w) A (eval (.Subscript value slice pos) env) Q E s:=by
 refine Subscript_ (ABa h (λo c f=>ABa f (λi a b=> ?_) λ_ _ x=>x) λ_ _ x=>x);obtain⟨j,b⟩:=b;unfold subscriptTail;refine AAX ?_;rw[getitemInPython_of_ne j.not_modules];refine AAX (ABc j hl ?_);have e:wpAny (model prog w) A (subscripted slice false o i) (λr d=>wpAny (model prog w) A (letTemporaryGo value o r >>= λ_=>pure r) Q E d) E a:=by rw[hs o i];exact wpAny_operating (ABa b (λr d g=>AAX (wpAny_letTemporaryGo (AAZ g))) λ_ _ x=>x)
 first
  | exact AAZ (AAX e)
  | exact AAX (AAZ (AAX e))
  | exact AAX e
structure M1 (X:Cx) (o:Expr) (m:Str) (apos:Pos) (e:Expr) (cpos:Pos):Prop where
 base:attributeBase o m X.env (eval o X.env)=eval o X.env
 few:((backTo cpos (starEach [e] X.env)).all (λx=> !x.1)&&(backToKw cpos (keywordEach [] X.env)).all (λx=>x.1.isSome)
  && decide (([e] :List Expr).length+([] :List Keyword).length+(if ([] :List Keyword).isEmpty then 0 else 1)<30))=true
 line:(apos.endLine==cpos.line)=true
 trees:backTo cpos (starEach [e] X.env)= [(false,eval e X.env)]
structure M2 (X:Cx) (o:Expr) (m:Str) (apos:Pos) (e f:Expr) (cpos:Pos):Prop where
 base:attributeBase o m X.env (eval o X.env)=eval o X.env
 few:((backTo cpos (starEach [e,f] X.env)).all (λx=> !x.1)&&(backToKw cpos (keywordEach [] X.env)).all (λx=>x.1.isSome)
  && decide (([e,f] :List Expr).length+([] :List Keyword).length+(if ([] :List Keyword).isEmpty then 0 else 1)<30))=true
 line:(apos.endLine==cpos.line)=true
 trees:backTo cpos (starEach [e,f] X.env)= [(false,eval e X.env),(false,eval f X.env)]
abbrev KN (K:AAY)(H:Hp):km (FK×V)->km (FK×kf×kj)->Prop:=Paired λp q=>p.1=q.1/\HG K H q.2.1 p.1/\RelV p.2 q.2.2
def KN.val {K:AAY}{H:Hp}{a:km (FK×V)}{xs:km (FK×kf×kj)}(r:KN K H a xs)(k:FK):LV (Fw a k) ((atKey xs k).map (·.2)):=by
 induction r with
 | nil=>exact True.intro
 | @cons p q d qs h t ih=>
   obtain⟨h1,_,h2⟩:=h;by_cases e:p.1=k
   .have c:q.1=k:=h1.symm.trans e;have b:atKey (q::qs) k=some q.2:=by simp[atKey,ACi,c]
    rw[MN e,b];exact h2
   .have c:¬q.1=k:=λz=>e (h1.trans z);have b:atKey (q::qs) k=atKey qs k:=by simp[atKey,ACi,c]
    rw[MM e,b];exact ih
def KN.repl {K:AAY}{H:Hp}{a:km (FK×V)}{xs:km (FK×kf×kj)}(r:KN K H a xs)(k:FK){y:V}{u:kj}(c:RelV y u):KN K H (a.map λb=>if b.1=k then (b.1,y) else b) (xs.map (putAt k u)):=by
 induction r with
 | nil=>exact .nil
 | @cons p q f qs h t ih=>
   rw[AAi,AAi];refine .cons ?_ ih;obtain⟨h1,h2,d⟩:=h;unfold putAt;by_cases e:p.1=k
   .rw [AAb e,AAb (h1.symm.trans e)];exact⟨h1,h2,c⟩
   .rw [AAa e,AAa (λz=>e (h1.trans z))];exact⟨h1,h2,d⟩
def KN.put {K:AAY}{H:Hp}{a:km (FK×V)}{xs:km (FK×kf×kj)}(r:KN K H a xs)(k:FK){b:kf}{y:V}{u:kj}(hb:HG K H b k)(c:RelV y u):KN K H (I0 a k y) (storedH xs k b u):=by
 have e:(a.any λd=>decide (d.1=k))=(atKey xs k).isSome:=by rw[Qo,(r.val k).isSome_eq,ADo]
 unfold I0 storedH;rw[e];by_cases q:(atKey xs k).isSome=true
 .rw [AAb q,AAb q];exact r.repl k c
 .rw [AAa q,AAa q];exact Paired.snoc r ⟨rfl,hb,c⟩
def KN.keeps {K:AAY}{H c:Hp}{a:km (FK×V)}{xs:km (FK×kf×kj)}(r:KN K H a xs)(d:∀b ys,H b=some (.tup ys)->c b=some (.tup ys)):KN K c a xs:=
 Paired.mapP r λ_ _ z=>⟨z.1,z.2.1.stay d,z.2.2⟩
section
variable {P:gn}{w:fe}{H:Hp}{h:da}{a:kf}{K:AAY}
def Ly {k:FK}(ok:OE P w H h)(d:K.In h)(e:HG K H a k):(fkKind P w).is h k a:=by
 obtain⟨b,h1,h2⟩:=e;obtain⟨_,j,r,o,l,m,n,p⟩:=(show DR P w H h a (.tup [.ref b, .int k.2]) from ok a _ h1);cases r with
 | cons r1 r=>
 cases r with
 | cons r2 r=>
 cases r;cases r1;obtain⟨u,rfl⟩:=r2;have two:∀{g:km kj},A7 [.int k.1.1, .int k.1.2] g->ItemsAre (intKind P w) [k.1.1,k.1.2] g:=λhv=>by
  cases hv with
  | cons s hv=>
  cases hv with
  | cons t hv=> cases hv;obtain⟨C,rfl⟩:=s;obtain⟨D,rfl⟩:=t;exact .cons (by simp[intKind,Value.isInt]) (.cons (by simp[intKind,Value.isInt]) .nil)
 refine⟨o,_,n,b,u,l,m,p,by simp, ?_⟩;rcases h2 with h2|⟨i,c,f,v,x,y,z⟩
 .obtain ⟨_,c,r2,A,f1,f2,f,B⟩:=(show DR P w H h b (.tup [.int k.1.1, .int k.1.2]) from ok b _ h2);exact⟨A,c.toArray,f,f1,f2,B,by simpa using two r2⟩
 .exact ⟨i,c,f,d b i v,x,y,two z⟩
def Rq {b:km (FK×V)}(ok:OE P w H h)(c:K.In h)(e:H a=some (.dN K b)):b.length<=sizeLine/\(a==sysModules)=false/\∃xs,KN K H b xs/\h.DictOfH (fkKind P w) a xs:=by
 obtain⟨z,y,xs,r,o,es,ep,h1,h2,d,f,g⟩:=(show DR P w H h a (.dN K b) from ok a _ e);refine⟨z,y,xs,r,o,es,ep,h1,h2,d,f,λx hx=> ?_,g⟩;have all:∀{l:km (FK×V)} {m:km (FK×kf×kj)},KN K H l m->∀x∈m,(fkKind P w).is h x.1 x.2.1:=by
  intro l m q;induction q with
  | nil=>intro x hx;exact nomatch hx
  | @cons p q i qs hq t ih=>
    intro x hx;rcases AAc.mp hx with e|hx
    .subst e;exact Ly ok c (by rw[<-hq.1];exact hq.2.1)
    .exact ih x hx
 exact all r x hx
end
section
variable {X:Cx}{Tb:km (kf×Obj)}{σ:St}{H:Hp}{s:ki}{a b:kf}{v d:V}{r:kj}{kvs:km (FK×V)}{k:FK}{A:Wf}{E:kj->ki->Prop}
def bP {Q:kj->ki->Prop}(hu:A.units+2<cLine)(I:Inv X Tb σ H s)(e:H a=some (.dN X.K kvs))(hb:HG X.K H b k)(l:Fw kvs k=some v)(h:∀c i,Inv X Tb σ H i->RelV v c->Q c i):wpAny (model X.prog X.w) A (getItem (.ref a) (.ref b)) Q E s:=by obtain⟨z,hd,xs,f,j⟩:=Rq I.hok I.kIn e;obtain⟨c,hw,g⟩:=LV.some_of (v:=v) (o:=(atKey xs k).map (·.2)) (by rw[<-l];exact f.val k);obtain⟨p,hp,m⟩:=ADJ.mp hw;refine wpAny_getItem_heap (Ds hu) (Ly I.hok I.kIn hb) j hp ?_;rw[m];exact h c _ (I.tok _) g
def wY {Q:kj->ki->Prop}(hu:A.units+2<cLine)(I:Inv X Tb σ H s)(e:H a=some (.dN X.K kvs))(hb:HG X.K H b k)(h:∀f,Inv X Tb σ H f->Q (.bool (Fw kvs k).isSome) f):wpAny (model X.prog X.w) A (compareOp .In (.ref b) (.ref a)) Q E s:=by obtain⟨z,hd,xs,c,g⟩:=Rq I.hok I.kIn e;refine wpAny_in_heap (Ds hu) (Ly I.hok I.kIn hb) hd g ?_;have q:=(c.val k).isSome_eq;rw[ADo] at q;rw[<-q];exact h _ (I.tok _)
def bQ {Q:Unit->ki->Prop}(hu:A.units+2<cLine)(I:Inv X Tb σ H s)(e:H a=some (.dN X.K kvs))(hb:HG X.K H b k)(hl:kvs.length<sizeLine)(rv:RelV v r)(h:∀i,Inv X Tb σ (upd H a (.dN X.K (I0 kvs k v))) i->Q () i):wpAny (model X.prog X.w) A (setItem (.ref a) (.ref b) r) Q E s:=by
 obtain⟨z,hd,xs,f,l⟩:=Rq I.hok I.kIn e;have hz:xs.length<=sizeLine:=by rw[<-ADR f];exact z
 have hl:(I0 kvs k v).length<=sizeLine:=by have:=V2 kvs k v;omega
 refine wpAny_setItem_heap (hsz:=hz) (Ds hu) (Ly I.hok I.kIn hb) l λh' g hs=>h _ ?_;obtain⟨q,es,ep,hq,h2,m,n,_,o⟩:=g;refine i4 I (by rw[e];exact True.intro) hs ⟨q,hq⟩ ⟨hl,hd,_,(f.put k hb rv).keeps λc ys j=> ?_,q,es,ep,hq,h2,m,n,o⟩;rw[Ao (sS j e (λz=>nomatch z))];exact j
def nk {Q:kj->ki->Prop}(hu:A.units+2<cLine)(I:Inv X Tb σ H s)(e:H a=some (.dN X.K kvs))(hb:HG X.K H b k)(j:RelV d r)(h:∀f g,Inv X Tb σ H g->RelV ((Fw kvs k).getD d) f->Q f g):wpAny (model X.prog X.w) A (call (.builtin "dict.get") [.ref a, .ref b,r]) Q E s:=by obtain⟨z,hd,xs,c,i⟩:=Rq I.hok I.kIn e;refine call_meetsIn AFP i.typeIs PySem.F.entry_dict_get (PySem.F.args_dict_get_3 _ _ _) (meetsH_dict_get_default (fkKind X.prog X.w) a b hd r) ⟨Ds hu,k,xs,Ly I.hok I.kIn hb,i,h _ _ (I.tok _) ?_⟩;exact(c.val k).getD j
end
def mB (K:AAY):TE:=λ_ H Q=>∀p,H p=none->Q (.ref p) (upd H p (.dN K []))
def uE (K:AAY)(f g:TE):TE:=λe H Q=>f e H λx h=>g e h λy d=>∃a b c k v,x= .ref a/\y= .ref b/\d a=some (.dN K c)/\HG K d b k/\Fw c k=some v/\Q v d
def uF (K:AAY)(f g:TE):TE:=λe H Q=>f e H λy h=>g e h λx d=>∃a b c k,x= .ref a/\y= .ref b/\d a=some (.dN K c)/\HG K d b k/\Q (.bl (Fw c k).isSome) d
def gU (K:AAY)(f g h:TE):TS:=λD d H=>h d H λv i=>f d i λx j=>g d j λy e=>∃a b c k,x= .ref a/\y= .ref b/\e a=some (.dN K c)/\HG K e b k/\c.length<sizeLine/\D.nx d (upd e a (.dN K (I0 c k v)))
def Yg (K:AAY)(g h i:TE):TE:=λd H Q=>g d H λx f=>∃a c,x= .ref a/\f a=some (.dN K c)/\h d f λy j=>i d j λz e=>∃b c k,y= .ref b/\e a=some (.dN K c)/\HG K e b k/\Q ((Fw c k).getD z) e
section
variable {X:Cx}{o i e f value:kd}{pos pos' apos cpos:Pos}{td ty tv tx:TE}
def de {P:gn}{w:fe}{H:Hp}{K:AAY}(h:da)(hb:sysModules<h.objs.size):DR P w H (h.push {cls:= .type "dict",data:= .dict #[] }) h.objs.size (.dN K []):=
 ⟨ABH _,AEf.mpr (ABW (AAh hb)), [], .nil,_, #[],0,AAj _ rfl,⟨rfl,rfl,rfl⟩,rfl,rfl,List.nodup_nil⟩
def js:PE X (.Dict [] [] pos) (mB X.K):=λTb s b H Q I h=>
 wpAny_Dict_empty ⟨.ref s.heap.objs.size,_,I.laid (a:=s.heap.objs.size) (o:= .dN X.K []) (t':=s.toks) (λ_ _ q=>AAe _ q) (AAf _) (de s.heap I.big),rfl,h _ (I.hok.fresh (AAf _))⟩
def lJ {Tb:km (kf×Obj)}{h:St}{H:Hp}{s:ki}{a:kf}{d:km (FK×V)}(I:Inv X Tb h H s)(e:H a=some (.dN X.K d)):s.TypeIs (.ref a) "dict" /\(∀b,Value.ref a= .ref b->∃c,s.heap.get? b=some c/\c.dict=none):=by obtain⟨_,hd,xs,_,g⟩:=Rq I.hok I.kIn e;refine⟨g.typeIs,λb q=> ?_⟩;cases q;obtain⟨c,_,_,h1,h2,_⟩:=g;exact⟨c,h1,h2.2.1⟩
def jr (hu:X.A.units+2<cLine)(j:PE X o td)(hi:PE X i ty)(hs:mP i):PE X (.Subscript o i pos) (uE X.K td ty):=by intro Tb s d H Q I h;refine kY PySem.F.slot_dict_getitem.lookup hs (Bi (j Tb s d H _ I h) λu m ⟨x,n,p,r,t⟩=>Bi (hi Tb m d n _ p t) λw J ⟨y,z,g,B,a,b,C,k,v,ex,D,e,hb,l,E⟩=> ?_);subst ex D;obtain rfl:u=Value.ref a:=r;obtain rfl:w=Value.ref b:=B;exact⟨(lJ g e).1,bP hu g e hb l λL M G c=>⟨v,z,G,c,E⟩⟩
def oG (hu:X.A.units+2<cLine)(hi:PE X i ty)(d:PE X o td):PC X .In i o (uF X.K ty td):=by intro Tb s c H Q I h;refine Bi (hi Tb s c H _ I h) λg j ⟨y,l,m,n,p⟩=>Bi (d Tb j c l _ m p) λu D ⟨x,r,t,v,a,b,w,k,ex,z,e,hb,B⟩=> ?_;subst ex z;obtain rfl:u=Value.ref a:=v;obtain rfl:g=Value.ref b:=n;exact wY hu t e hb λE C=>⟨.bl _,r,C,rfl,B⟩
def Zf (hu:X.A.units+2<cLine)(d:PE X o td)(hi:PE X i ty)(hv:PE X value tv)(hs:swapsWith value (some (.Subscript o i pos')) pos.line X.env=pure false):PS X (.Assign [.Subscript o i pos'] value pos) (gU X.K td ty tv):=by intro Tb s c H D I h;refine wpAny_Assign_Subscript (Bi (hv Tb s c H _ I h) λr g ⟨v,j,l,rv,m⟩=>Bi (d Tb g c j _ l m) λu n ⟨x,p,t,w,z⟩=>Bi (hi Tb n c p _ t z) λB M ⟨y,N,C,E,a,b,F,k,ex,G,e,hb,hl,J⟩=> ?_) hs;subst ex G;obtain rfl:u=Value.ref a:=w;obtain rfl:B=Value.ref b:=E;exact bQ hu C e hb hl rv λO L=>⟨c,_,L,J⟩
def WK (hu:X.A.units+2<cLine)(l:PE X o td)(he:PE X e ty)(n:PE X f tx)(m:M2 X o "get" apos e f cpos):PE X (.Call (.Attribute o "get" apos) [e,f] [] cpos) (Yg X.K td ty tx):=by
 intro Tb s c H Q I h;refine wpAny_Call_method m.base m.few m.line PySem.F.plainAttrs_dict AFP PySem.F.type_dict_get (Bi (l Tb s c H _ I h) λu p ⟨x,r,g,t,a,j,ex,v,w⟩=> ?_);subst ex;obtain rfl:u=Value.ref a:=t;obtain⟨t1,t2⟩:=lJ g v;refine⟨t1,t2, ?_⟩;rw[m.trees];refine Calls.callWith_builtin rfl (Calls.evalArgs_plain (ACN (Bi (he Tb p c r _ g w) λB C ⟨y,D,E,G,J⟩=>
  ACN (Bi (n Tb C c D _ E J) λT U ⟨z,L,M,N,b,O,k,P,e,hb,R⟩=>ACp ?_))))
 subst P;obtain rfl:B=Value.ref b:=G;exact nk hu M e hb N λW Y S d=>⟨_,L,S,d,R⟩
end
end L2
namespace PySem
open Sem (wp)
def Mq (h:da)(d:kf)(es:Array DictEntry)(ep:Nat):Prop:=∃o,h.get? d=some o/\o.ExactDict/\o.data= .dict es ep
section
variable {prog:gn}{w:fe}{A:Wf}{E:kj->ki->Prop}{s:ki}{d it:kf}{es:Array DictEntry}{ep i:Nat}
def Mq.typeIs (x:Mq s.heap d es ep):s.TypeIs (.ref d) "dict" :=let ⟨o,a,hc,_⟩:=x;⟨o,a,hc.1⟩
def Mq.at {h h':da}(x:Mq h d es ep)(e:∀o,h.get? d=some o->h'.get? d=some o):Mq h' d es ep:=let ⟨o,a,r⟩:=x;⟨o,e _ a,r⟩
def gM {Q:kj->ki->Prop}(hd:(d==sysModules)=false)(hm:Mq s.heap d es ep)(hQ:Q (.ref s.heap.objs.size) {s with heap:=s.heap.push {cls:= .type "dict_keyiterator",data:= .fields #[.ref d, .int 0 0, .int es.size 0, .int ep 0] }}):wpAny (model prog w) A (pyIter (.ref d)) Q E s:=by have a:=hm.typeIs;obtain⟨o,b,hc,c⟩:=hm;refine wpAny_pyIter_slot a F.slot_dict_iter (ABJ F.slot_dict_iter a F.entry_dict_iter ?_ (F.args_dict_iter_1 _));unfold Builtin.«dict.__iter__»;refine AAX ?_;unfold Builtin.Dict.dictSlotNone;refine AAX (wpAny_notOrdered_dict a (AAZ ?_));show wpAny _ _ (Builtin.Dict.showsAll d >>= _) _ _ s;unfold Builtin.Dict.showsAll;rw[AAa (by rw[hd];exact AAs)];refine AAX (AAZ (AAX (AEx b c (AAX (AEy b c ?_)))));exact AAX (ABM (AAZ ⟨_,rfl,"dict_keyiterator",_,⟨_,AAj _ rfl,rfl⟩,ADp.lookup,by simpa[rawInt] using hQ⟩))
def gN {Q:ke kj->ki->Prop}(a:s.heap.IsKeyIter it d i es.size ep)(hm:Mq s.heap d es ep)(h:i<es.size)(hQ:∀h',h'.IsKeyIter it d (i+1) es.size ep->Heap.SameBut it s.heap h'->Q (some es[i].key) {s with heap:=h'}):wpAny (model prog w) A (pyNext (.ref it)) Q E s:=by
 have b:=a.typeIs;obtain⟨o,c,hc,hd⟩:=a;obtain⟨j,e,k,f⟩:=hm;unfold pyNext;refine AAX (ABs (ABe (name:=Str.ofString "__next__") b ADp (ABJ ADp b AFQ ?_ (AFR _))));refine AAX (AAZ (AAX (AAX ?_)));refine AAX (AET b (AAZ (AAX (wpAny_fieldsOf c hd ?_))));simp only[show Builtin.Dict_items.ownsTuple "dict_keyiterator" =false by decide,ABO,ABE];show wpAny _ _ (if (Value.ref d==Value.none)=true then _ else _) _ _ s;rw[AAa (show ¬((Value.ref d==Value.none)=true) from AAs)];refine AAX (AAZ (AAX (AEx e f ?_)));rw[AAa (by simp)];refine AAX (AAZ (AAX (AEy e f ?_)));rw[AAa (by simp)];refine AAZ ?_;simp only[show ¬((i:Int)<0) from by omega,ABE,AC7,AEU h];refine AAX ?_;refine AAX (AET b (AAZ (AAX (wpAny_isOneOf_keyiter b ?_))));show wpAny _ _ (setField (.ref it) 1 (rawInt ((i:Int)+1)) >>= _) _ _ s;refine AAX (ACe c hd (by simp) ?_);have g:(s.heap.update it (Obj.mapFields (·.setIfInBounds 1 (rawInt ((i:Int)+1))))).IsKeyIter it d (i+1) es.size ep:=
  ⟨_,ABq _ c (ADY (ACv hd _)),(Obj.cls_mapFields ..).trans hc,by rw[ACv hd];simp[rawInt]⟩
 refine AAX (ABV (AAX (wpAny_isOneOf_keyiter (s:={s with heap:=s.heap.update it (Obj.mapFields (·.setIfInBounds 1 (rawInt ((i:Int)+1))))}) g.typeIs ?_)));show wpAny _ _ (pure es[i].key) _ _ _;exact AAZ (AAZ ⟨_,rfl,AAZ (hQ _ g (ACf ..))⟩)
def kB {Q:ke kj->ki->Prop}(j:A.handled=none)(c:s.heap.IsKeyIter it d es.size es.size ep)(hm:Mq s.heap d es ep)(hQ:∀h',Heap.ExtBut it s.heap h'->Q none {s with heap:=h'}):wpAny (model prog w) A (pyNext (.ref it)) Q E s:=by have e:=c.typeIs;obtain⟨o,f,hc,hd⟩:=c;obtain⟨k,g,l,h⟩:=hm;unfold pyNext;refine AAX (ABs (ABe (name:=Str.ofString "__next__") e ADp (ABJ ADp e AFQ ?_ (AFR _))));refine AAX (AAZ (AAX (AAX ?_)));refine AAX (AET e (AAZ (AAX (wpAny_fieldsOf f hd ?_))));simp only[show Builtin.Dict_items.ownsTuple "dict_keyiterator" =false by decide,ABO,ABE];show wpAny _ _ (if (Value.ref d==Value.none)=true then _ else _) _ _ s;rw[AAa (show ¬((Value.ref d==Value.none)=true) from AAs)];refine AAX (AAZ (AAX (AEx g h ?_)));rw[AAa (by simp)];refine AAX (AAZ (AAX (AEy g h ?_)));rw[AAa (by simp)];refine AAZ ?_;simp only[show ¬((es.size:Int)<0) from by omega,ABE,AC7,Array.getElem?_eq_none (AAf es.size)];refine AAX ?_;refine AAX (AET e (AAZ ?_));show wpAny _ _ (setField (.ref it) 0 .none >>= _) _ _ s;refine AAX (ACe f hd (by simp) ?_);show wpAny _ _ (newExc (.type "StopIteration") [] >>= _) _ _ _;refine AAX ?_;simp only[newExc,newTuple];refine AAX (ABM ?_ (by size_fits));refine AAX (m:=firstArgMember _ _) (ABF (a:=Value.none) (by first | rfl|(simp only[firstArgMember];rfl)) (ABM ?_ (by size_fits)));simp only[raiseNew];refine AAX (wpAny_handled ?_);rw[show A.in1.handled=none from j];refine AAX (AAZ (wpAny_throw ?_));refine AAX (ABy (T:="StopIteration") (b:=true) ⟨_,AAj _ rfl,rfl⟩ isSubtype_stop ?_);exact AAZ (hQ _ (((ACf ..).extBut.push _).push _))
def cT (f:A.handled=none)(g:d≠it):Walks prog w A it [it,d] [it] es.size (λi v=>∃e,es[i]? =some e/\v=e.key) (λi h=>h.IsKeyIter it d i es.size ep/\Mq h d es ep) where
 sub:=λb hb=>by simp at hb;simp[hb]
 frame:=λ_ _ _ st hk=>⟨st.1.at λo e=>hk it (by simp) o e,st.2.at λo e=>hk d (by simp) o e⟩
 item:=λi s Q E hi st hQ=>gN st.1 st.2 hi λh' j c=>
  hQ _ h' s.toks ⟨es[i],by simp[hi],rfl⟩ ⟨j,st.2.at λo e=>c.extBut d o g e⟩ λb o hb e=>c.extBut b o (λh=>hb (by simp[h])) e
 done:=λs Q E st hQ=>kB f st.1 st.2 λh' a=>hQ h' s.toks λb o hb e=>a b o (λh=>hb (by simp[h])) e
 self:=λ_ _ _ _ st hQ=>wpAny_pyIter_keyiter st.1 hQ
end
def gL {prog:gn}{w:fe}{A:Wf}{E:kj->ki->Prop}{s:ki}{d:kf}{es:Array DictEntry}{ep:Nat}{Q:kc->ki->Prop}(hm:Mq s.heap d es ep)(h:Q false s):wpAny (model prog w) A (Builtin.List.listLengthHint (.ref d)) Q E s:=by
 have a:=hm.typeIs;unfold Builtin.List.listLengthHint;refine AAX (ABc a F.slot_dict_len.lookup ?_);have hs:splitId "dict.__len__" =some ("dict","__len__"):=by decide +kernel
 simp only[hs];refine AAX (ABy a (by rw[ABG];kernel_rfl:isSubtype (.type "dict") (.type "dict")=pure true) ?_);simp only[ACS,ABO,ABE];rw[AAb (by decide +kernel)];refine AAX (ACr a ?_);exact AAZ h
section
variable {prog:gn}{w:fe}{A:Wf}{s:ki}{R:Result->ki->Prop}{d:kf}{es:Array DictEntry}{ep:Nat}
def YK (I:A.handled=none)(S:kf)(res:kj)(h:Nat)(hd:(d==sysModules)=false)(hm:Mq s.heap d es ep)(hn:es.size<=sizeLine)(n:d≠S)(z:s.heap.get? S=some {cls:= .type "list",data:= .seq #[] h})(J:∀h' K a l,(∀b o,b≠S->s.heap.get? b=some o->h'.get? b=some o)->h'.get? S=some {cls:= .type "list",dict:=none,data:= .seq a l,slots:= #[] }->ItemsOf (λi v=>∃e,es[i]? =some e/\v=e.key) a es.size->R (.ok (.ret res)) {s with heap:=h',toks:=K}):wpAny (model prog w) A.in1 (Builtin.List.listExtendWith (.ref S) (.ref d) res) (λp c=>match p with | .done f=>R (.ok f) c | .again l=>l.quiet=true/\codeAny (model prog w) A l R c) (λe c=>R (.error e) c) s:=by
 have L:=hm.typeIs;unfold Builtin.List.listExtendWith;refine AAX (ACr L ?_);have h1:Builtin.List.listSameRef (.ref S) (.ref d)=false:=by simp[Builtin.List.listSameRef,ABW n]
 have h2:(Value.type "dict" == Value.type "list")=false:=by decide
 have M:(Value.type "dict" == Value.type "tuple")=false:=by decide
 simp only[h1,h2,M,ADq,ABO,ABE];refine AAX (gM hd hm ?_);have N:d<s.heap.objs.size:=let ⟨o,O,_⟩:=hm;AAd O;have r:S<s.heap.objs.size:=AAd z;have t:Mq (s.heap.push {cls:= .type "dict_keyiterator",data:= .fields #[.ref d, .int 0 0, .int es.size 0, .int ep 0] }) d es ep:=hm.at λo e=>AAe _ e;refine AAX (ABV (gL (s:={s with heap:=s.heap.push {cls:= .type "dict_keyiterator",data:= .fields #[.ref d, .int 0 0, .int es.size 0, .int ep 0] }}) t ?_));generalize u:({cls:= .type "dict_keyiterator",data:= .fields #[.ref d, .int 0 0, .int es.size 0, .int ep 0] }:Obj)=io at t ⊢;have B:(s.heap.push io).get? S=some {cls:= .type "list",data:= .seq #[] h}:=AAe _ z;have x:(s.heap.push io).get? s.heap.objs.size=some io:=AAj _ (by rw[<-u];rfl);have C:S≠s.heap.objs.size:=AAh r;rw[AAb (by decide +kernel)];refine AAX (ABT (AAX ?_));show wpAny _ A.in1 (updateSeq S (·.push .none) >>= λ_=>updateSeq S (·.pop)) _ _ _;refine AAX (ADr (s:={s with heap:=s.heap.push io}) B rfl ?_);have g:=ABq (Obj.mapSeq (·.push Value.none)) B rfl;refine ADr (hz:=by seq_fits) g rfl ?_;have j:=ABq (Obj.mapSeq (·.pop)) g rfl;have k:∀b o,b≠S->(s.heap.push io).get? b=some o->(((s.heap.push io).update S (Obj.mapSeq (·.push Value.none))).update S (Obj.mapSeq (·.pop))).get? b=some o:=
  λb o hb e=>(ACs _ _ (ABW hb)).trans ((ACs _ _ (ABW hb)).trans e)
 have W:=(cT (prog:=prog) (w:=w) (A:=A.in1) (d:=d) (it:=s.heap.objs.size) (es:=es) (ep:=ep) I (AAh N)).toS;refine AAZ ⟨plainId_quiet F.plain_extend_loop _,codeAny_extend_loopS W hn S ?_ res es.size 0 _ _ _ rfl (ABH _) ⟨⟨io,k _ _ (ABW C) x,by rw[<-u],by rw[<-u];rfl⟩,t.at λo e=>k _ _ n e⟩ j (ItemsOf.nil _) λc a l y P Q=> ?_⟩
 .intro m;simp only[AAc,AAq,AAr] at m;rcases m with e|e
  .exact C e
  .exact n e.symm
 .obtain ⟨T,D,E,G,U⟩:=y;have e:c={s with heap:=c.heap,toks:=c.toks}:=by obtain⟨X,Y,Z,a4,a5⟩:=c;simp only at D E G;subst D;subst E;subst G;rfl
  rw[e];refine J c.heap c.toks a l (λb o hb H=>T b o ?_ (k b o hb (AAe _ H))) P Q;intro m;simp only[AAc,AAq,AAr] at m;rcases m with e|e
  .exact hb e
  .exact AAh (AAd H) e
end
section
variable {prog:gn}{w:fe}{A:Wf}{E:kj->ki->Prop}{s:ki}{d:kf}{es:Array DictEntry}{ep:Nat}
def Q3 {Q:kj->ki->Prop}(r:A.handled=none)(hd:(d==sysModules)=false)(hm:Mq s.heap d es ep)(hn:es.size<=sizeLine)(hQ:∀h' k l,(∀b o,s.heap.get? b=some o->h'.get? b=some o)->h'.get? s.heap.objs.size=some {cls:= .type "list",dict:=none,data:= .seq (es.map (·.key)) l,slots:= #[] }->Q (.ref s.heap.objs.size) {s with heap:=h',toks:=k}):wpAny (model prog w) A (call (.type "list") [.ref d]) Q E s:=by
 have t:d<s.heap.objs.size:=let ⟨o,u,_⟩:=hm;AAd u;refine callType_codes (Q₁:=λobj c=>obj= .ref s.heap.objs.size/\c={s with heap:=s.heap.push {cls:= .type "list",data:= .seq #[] }}) F.called_list (F.typeCall_list_1 _) F.entry_list_init (code_list_new _ ⟨rfl,rfl⟩) λobj c g=> ?_;obtain⟨rfl,rfl⟩:=g;have j:(s.heap.push {cls:= .type "list",data:= .seq #[] }).get? s.heap.objs.size=some {cls:= .type "list",data:= .seq #[] }:=AAj _ rfl;refine⟨⟨_,j,rfl⟩,F.args_list_init_2 _ _, ?_⟩;show wpAny _ A.in1.in1 (do let m <-Builtin.List.listItems (.ref s.heap.objs.size);Builtin.List.listUpdate (.ref s.heap.objs.size) (λ_=> #[]);letGo m.toList.reverse;Builtin.List.listExtendWith (.ref s.heap.objs.size) (.ref d) .none) _ _ _;refine AAX ?_;unfold Builtin.List.listItems;refine AAX (ABP j rfl (AAZ ?_));refine AAX (ADr j rfl ?_);have f:=ABq (Obj.mapSeq (λ_=>(#[] :Array kj))) j rfl;refine AAX (ADB ?_);have h:∀b o,s.heap.get? b=some o->((s.heap.push {cls:= .type "list",data:= .seq #[] }).update s.heap.objs.size (Obj.mapSeq (λ_=>(#[] :Array kj)))).get? b=some o:=λb o e=>by have hb:b≠s.heap.objs.size:=λz=>ABz _ (z ▸ AAd e);exact(ACs _ _ (ABW hb)).trans (AAe _ e)
 refine YK (s:={s with heap:=(s.heap.push {cls:= .type "list",data:= .seq #[] }).update s.heap.objs.size (Obj.mapSeq (λ_=>(#[] :Array kj)))}) (d:=d) (es:=es) (ep:=ep) (A:=A.in1) r s.heap.objs.size .none _ hd (hm.at λo e=>h d o e) hn (AAh t) f ?_;intro h' k a l v x y;refine⟨rfl,hQ h' k l (λb o e=>v b o (λz=>ABz _ (z ▸ AAd e)) (h b o e)) ?_⟩;have B:a=es.map (·.key):=by
  obtain⟨h1,h2⟩:=y;refine Array.ext (by simp[h1]) λi hi hj=> ?_;obtain⟨e,p,C⟩:=h2 i _ (by simp[hi] :a[i]? =some a[i]);have n:i<es.size:=by simpa using hj
  rw[AEU n] at p;cases p;rw[C];simp
 rw[<-B];exact x
end
end PySem
namespace L2
open PySem PySem.Spec PyProof.Rows
section
variable {X:Cx}
def oW (K:AAY):km V->Hp->VK->Prop:=λxs H Q=>∃p a,xs= [.ref p] /\H p=some (.dN K a)/\∀l cs,H l=none->Paired (λ(q:FK×V) (c:kf)=>HG K H c q.1) a cs->Q (.ref l) (upd H l (.lst (cs.map V.ref)))
def XJ {k:Nat}(i:Room k X.A):Cf X (.type "list") (oW X.K):=by
 intro Tb s C H xs D Q I r h;obtain⟨p,c,rfl,hp,q⟩:=h;obtain⟨u,rfl,j⟩:=vals1 r;cases j;obtain⟨z,hd,ys,b,o,es,ep,h1,h2,m,d,n,v⟩:=Rq I.hok I.kIn hp;have hl:ys.length=c.length:=(ADR b).symm;have f:es.size=ys.length:=by rw[<-ACm,d,AAk]
 refine Q3 (es:=es) (ep:=ep) i.hd hd ⟨o,h1,h2,m⟩ (by rw[f,hl];exact z) λh' x y B e=> ?_;have g:es.map (·.key)=((ys.map (·.2.1)).map Value.ref).toArray:=by apply Array.ext';rw[Array.toList_map,d];simp[entryOfKey]
 rw[g] at e;have hv:∀l:km kf,A7 (l.map V.ref) (l.map Value.ref):=λl=>by
  induction l with
  | nil=>exact .nil
  | cons a l ih=>exact .cons rfl ih
 refine⟨.ref s.heap.objs.size,_,I.laid (t':=x) B (AAf _) (show DR X.prog X.w _ h' _ (.lst ((ys.map (·.2.1)).map V.ref)) from⟨by simp only[AAk];rw[hl];exact z,_,y,hv _,e⟩),rfl,q _ _ (I.hok.fresh (AAf _)) ?_⟩;clear q e g d v n f hl z hp;induction b with
 | nil=>exact .nil
 | cons h t ih=>exact .cons h.2.1 ih
end
end L2
namespace PL
open PySem PySem.Spec PyProof.Rows L2
def Xr (k:FK):PV:= .tup [.tup [.int k.1.1, .int k.1.2], .int k.2]
def BX (a:km (FK×Int))(k:FK):ke Int:=(a.find? λp=>decide (p.1=k)).map (·.2)
def Yl (a:km (FK×Int))(k:FK):Fw (CO a) k=(BX a k).map V.int:=by
 induction a with
 | nil=>rfl
 | cons p r ih=>
   by_cases e:p.1=k
   .simp [BX,CO,Fw,e]
   .simpa [BX,CO,Fw,e] using ih
section
variable {K:AAY}{T M:kf->Prop}{H:Hp}
def Ot {v:V}{t d:Int}(r:Ce K T M H v (.tup [.int t, .int d])):∃b,v= .ref b/\dE K H b t d:=by
 obtain⟨a,vs,rfl,hq,rs⟩:=gu r;cases rs with
 | cons r1 rs=>
 cases rs with
 | cons r2 rs=>
 cases rs;cases r1;cases r2;refine⟨a,rfl, ?_⟩;rcases hq with h|⟨o,c,n,h1,h2,e,_,f⟩
 .exact .inl h
 .exact .inr ⟨o,c,n,h1,h2,e,f⟩
def gP {b:kf}{t d:Int}(h:dE K H b t d):Ce K T M H (.ref b) (.tup [.int t, .int d]):=by
 refine .tup (vs:= [.int t, .int d]) ?_ (.cons (.int _) (.cons (.int _) .nil));rcases h with h|⟨o,a,n,h1,h2,e,c⟩
 .exact .inl h
 .refine .inr ⟨o,a,n,h1,h2,e, ?_,c⟩;have:=c.length;simp only[AAz,ADn,ACm] at this;rw[<-this];exact ACP rfl
def gO {c:kf}{k:FK}(h:HG K H c k):Ce K T M H (.ref c) (Xr k):=by obtain⟨b,h1,h2⟩:=h;exact .tup (.inl h1) (.cons (gP h2) (.cons (.int _) .nil))
end
section
variable {X:Cx}{a b d:kd}{pos p1:Pos}{ta tb td:AE}
def QC (x y:PV)(R:FK->Prop):Prop:=match x,y with | .tup [.int t, .int e], .int s=>R ((t,e),s)|_,_=>False
def WG {x y:PV}{R:FK->Prop}(h:QC x y R):∃t e s,x= .tup [.int t, .int e] /\y= .int s/\R ((t,e),s):=by
 unfold QC at h;split at h
 .exact ⟨_,_,_,rfl,rfl,h⟩
 .exact h.elim
def qA (m:PV)(R:km (FK×Int)->Prop):Prop:=match m with | .dct kvs=>R kvs|_=>False
def fX {m:PV}{R:km (FK×Int)->Prop}(h:qA m R):∃c,m= .dct c/\R c:=by cases m <;> first | exact⟨_,rfl,h⟩|exact h.elim
def im (ta tb td:AE):AE:=λτ Q=>ta τ λx=>tb τ λy=>td τ λm=>qA m λc=>QC x y λk=>Q (.bl (BX c k).isSome)
def dG (td ta tb:AE):AE:=λτ Q=>td τ λm=>ta τ λx=>tb τ λy=>qA m λc=>QC x y λk=>match BX c k with | some i=>Q (.int i)|none=>False
def V0 {K:AAY}{B:DJ}{T:kf->Prop}{H:Hp}{f:L2.St}{τ:BC}{q:kf}{vs:km V}(c:SR K B T H f τ)(hq:H q=none):Dv T H T (upd H q (.tup vs))/\¬T q:=by refine⟨Dv.lay c.tp hq,λz=> ?_⟩;obtain⟨o,e,_⟩:=(c.tp q z).mut;rw[hq] at e;cases e
def kT {t1 t2 r:TE}(A:Fj X.K t1 ta)(C:Fj X.K t2 tb)(D:Fj X.K r td):Fj X.K (uF X.K (kg (ML t1 (ML t2 hG))) r) (im ta tb td):=by
 intro B T p τ H Q U z h k;refine A B T p τ H _ _ z h λv x E F n r1 h1=> ?_;have f:=z.stp n;refine C B E p τ F _ _ f h1 λw y G W g r2 h2=> ?_;have i:=f.stp g;refine⟨ACP rfl,λq hq=> ?_⟩;obtain⟨j,I⟩:=V0 (vs:= [v,w]) i hq;have o:=i.stp j;refine D B G p τ _ _ _ o h2 λu m J L l M N=> ?_;obtain⟨O,rfl,P⟩:=fX N;obtain⟨t,e,s,rfl,rfl,R⟩:=WG P;have rv:=((r1.stp g f.va).stp j i.va).stp l o.va;obtain⟨c,rfl,tn⟩:=Ot rv;cases r2;cases M with
 | dct S _ _=> refine⟨_,q,_,((t,e),s),rfl,rfl,S,⟨c,l.keep _ _ I Ap,tn⟩, ?_⟩;rw[Yl,ADo];exact k _ _ J L (((n.trans g).trans j).trans l) (.bl _) R
def pI {c:Nat}{k:Nat}(e:Room k X.A)(ha:SE X a ta)(hb:SE X b tb)(hd:SE X d td)(hm:behindInMarks .In d=false:=by rfl)(f:starEach (a :: [b]) X.env=(false,eval a X.env)::starEach [b] X.env:=by rfl)(g:starEach [b] X.env=(false,eval b X.env)::starEach [] X.env:=by rfl):TJ X (.Compare (.Tuple [a,b] c p1) [.In] [d] pos) (Am (im ta tb td)):=by obtain⟨t1,h,i⟩:=ha;obtain⟨t2,j,l⟩:=hb;obtain⟨o,m,n⟩:=hd;exact⟨_,oQ (oG (by have:=e.un;omega) (QG (BK h (BK j DY g) f)) m) hm,Oq (kT i l n)⟩
def kJ {D:Nat}{k:Nat}(F:Room k X.A)(hd:SE X d td)(ha:SE X a ta)(hb:SE X b tb)(hs:mP (.Tuple [a,b] D p1))(G:starEach (a :: [b]) X.env=(false,eval a X.env)::starEach [b] X.env:=by rfl)(I:starEach [b] X.env=(false,eval b X.env)::starEach [] X.env:=by rfl):SE X (.Subscript d (.Tuple [a,b] D p1) pos) (dG td ta tb):=by
 obtain⟨t1,J,K⟩:=ha;obtain⟨t2,L,M⟩:=hb;obtain⟨t3,N,O⟩:=hd;refine⟨_,jr (by have:=F.un;omega) N (QG (BK J (BK L DY I) G)) hs,λB T z τ H Q AQ E h k=> ?_⟩;refine O B T z τ H _ _ E h λu m P R p S U=> ?_;have j:=E.stp p;refine K B P z τ R _ _ j U λv x W Y l r1 h1=> ?_;have f:=j.stp l;refine M B W z τ Y _ _ f h1 λw y Z H2 g r2 h2=> ?_;have n:=f.stp g;refine⟨ACP rfl,λq hq=> ?_⟩;obtain⟨o,nt⟩:=V0 (vs:= [v,w]) n hq;obtain⟨C,rfl,h5⟩:=fX h2;obtain⟨t,e,s,rfl,rfl,r⟩:=WG h5;have rv:=(r1.stp g f.va).stp o n.va;have r3:=((S.stp l j.va).stp g f.va).stp o n.va;obtain⟨c,rfl,tn⟩:=Ot rv;cases r2;cases ev:BX C ((t,e),s) with
 | none=>rw[ev] at r;exact r.elim
 | some i=>
   rw[ev] at r;cases r3 with
   | dct hh _ _=> exact⟨_,q,_,((t,e),s), .int i,rfl,rfl,hh,⟨c,Ap,tn⟩,by rw[Yl,ev];rfl,k _ _ Z _ (((p.trans l).trans g).trans o) (.int _) r⟩
def XF (r:AA):AA:=λτ Q=>r τ λxs=>match xs with | [.dct kvs] =>Q (kvs.map λp=>Xr p.1)|_=>False
def gg {x:Str}{p pos:Pos}{e:kd}{es:km kd}{r:AA}{k:Nat}(w:Room k X.A)(y:Gl X x)(hm:X.mg x=none)(hv:bootBuiltins x=some (.type "list"))(ha:SA X (e::es) r)(hn:x≠"__name__" :=by decide)(hdb:(x==("__debug__" :Str))=false:=by decide)(he:starEach (e::es) X.env=(false,eval e X.env)::starEach es X.env:=by rfl)(hpl:(backTo pos (starEach es X.env)).any (·.1)=false:=by rfl):SF X (.Call (.Name x p) (e::es) [] pos) (XF r):=by
 obtain⟨t,z,s⟩:=ha;refine⟨_,JW (XJ w) y hm hv z hn hdb he hpl,λB T m τ H Q F n h k=>s B T m τ H _ _ n h λvs xs o C f r1 h1=> ?_⟩;have g:=n.stp f;split at h1 <;> first | exact h1.elim|skip
 rename_i c;cases r1 with
 | cons r t=>
   cases t;cases r with
   | dct u G I=>
     refine⟨_,_,rfl,u,λl cs hl v=> ?_⟩;have D:A9 X.K o (mt B m τ) C (cs.map V.ref) (c.map λp=>Xr p.1):=by
      clear h1 u;induction c generalizing cs with
      | nil=>cases v;exact .nil
      | cons q r ih=>
        cases v with
        | cons h t=>exact .cons (gO h) (ih _ t)
     obtain⟨E,i,j,r2⟩:=Oe g hl D;exact k l _ _ o _ (f.trans E) i (f.none hl) Ap j r2 h1
end
def RO (m:km (FK×Int))(k:FK)(v:Int):km (FK×Int):=if (m.any λp=>decide (p.1=k)) then m.map λp=>if p.1=k then (p.1,v) else p else m ++ [(k,v)]
def bump (m:km (FK×Int))(k:FK)(d:Int):km (FK×Int):=RO m k ((BX m k).getD 0+d)
def gH (m:km (FK×Int))(k:FK)(v:Int):I0 (CO m) k (.int v)=CO (RO m k v):=by
 unfold I0 RO;have e:((CO m).any λa=>decide (a.1=k))=(m.any λp=>decide (p.1=k)):=by unfold CO;rw[List.any_map];rfl
 rw[e];split
 .unfold CO;rw[ABf,ABf];apply ACy;intro p _;by_cases h:p.1=k <;> simp[h]
 .simp [CO]
def L6 (m:km (FK×Int))(k:FK)(v:Int):(RO m k v).length<=m.length+1:=by unfold RO;split <;> simp
def dj (m:km (FK×Int))(k:FK):(Fw (CO m) k).getD (.int 0)= .int ((BX m k).getD 0):=by rw[Yl];cases BX m k <;> rfl
def Rs:PV->ke (ke (Int×Int))
 | .non=>some none
 | .tup [.int t, .int d] =>some (some (t,d))
 | _=>none
def lY:PV->ke Int
 | .int i=>some i
 | _=>none
def Zm:km PV->ke ((Int×Int)×Int×ke (Int×Int))
 | [b,h,e] =>(Rs b).bind λo=>o.bind λp=>(lY h).bind λi=>(Rs e).map λq=>(p,i,q)
 | _=>none
def Zn (x:PV):ke ((Int×Int)×Int×ke (Int×Int)):=
 match x with
 | .tup xs=>Zm xs
 | .lst xs=>Zm xs
 | _=>none
def Hi (m:km (FK×Int))(b:Int×Int)(h:Int)(e:ke (Int×Int)):km (FK×Int):=
 match e with
 | none=>bump m (b,1-h) 1
 | some e=>bump (bump m (b,1-h) 1) (e,0) (-1)
def GR:km PV->km (FK×Int)->ke (km (FK×Int))
 | [],m=>some m
 | x::r,m=>match Zn x with | some (b,h,e)=>GR r (Hi m b h e)|none=>none
def gJ:R2:=λx y H Q=>y= .non/\Q (.bl (!decide (x= .non))) H
def Yd (K:AAY):TS:=
 cM (Wm (kg (ML (G3 2) (ML (kb (QK λi j=> .int (i-j)) (tC (.int 1)) (G3 3)) hG))) (Di 5))
  (cM (gU K (G3 1) (G3 5) (kb (QK λi j=> .int (i+j)) (Yg K (G3 1) (G3 5) (tC (.int 0))) (tC (.int 1))))
    (uC (Z0 (kb gJ (G3 4) (tC .non)))
      (cM (Wm (kg (ML (G3 4) (ML (tC (.int 0)) hG))) (Di 6))
        (gU K (G3 1) (G3 6) (kb (QK λi j=> .int (i-j)) (Yg K (G3 1) (G3 6) (tC (.int 0))) (tC (.int 1))))) mC))
def pK (K:AAY):TS:=
 cM (Wm (mB K) (Di 1)) (cM (uB (rq K (G3 0)) (aa K 3 (F4 (Di 2) (F4 (Di 3) (F4 (Di 4) Vj)))) (Yd K)) (hJ (G3 1)))
section
variable {K:AAY}{T M:kf->Prop}{H H':Hp}
def IH.ext (va:IH T M H)(ex:∀b o,H b=some o->H' b=some o):Mv K T M H T M H':=⟨va,λb o _ _ e=>ex b o e,λ_ t=>t,λ_ _ t=>t,λ_ _ m=>m⟩
def oZ {v:V}{x:PV}{b:Int×Int}{h:Int}{e:ke (Int×Int)}(r:Ce K T M H v x)(l:Zn x=some (b,h,e)):∃a m c,v= .ref a/\(LZ K H a [m, .int h,c] \/Fy K H a [m, .int h,c])/\Ce K T M H m (.tup [.int b.1, .int b.2])/\((e=none/\c= .non)\/∃t d,e=some (t,d)/\Ce K T M H c (.tup [.int t, .int d])):=by
 have f:∀{c:V} {ep:PV},Ce K T M H c ep->Rs ep=some e->((e=none/\c= .non)\/∃t d,e=some (t,d)/\Ce K T M H c (.tup [.int t, .int d])):=by
  intro c ep s he;unfold Rs at he;split at he
  .cases he;cases s;exact .inl ⟨rfl,rfl⟩
  .cases he;exact .inr ⟨_,_,rfl,s⟩
  .cases he
 have g:∀{xs:km PV},Zm xs=some (b,h,e)->∃ep,xs= [.tup [.int b.1, .int b.2], .int h,ep] /\Rs ep=some e:=λ{xs} hx=>by
  unfold Zm at hx;split at hx
  .rename_i bp hp ep;obtain⟨o,j,hx⟩:=AEz.mp hx;obtain⟨p,u,hx⟩:=AEz.mp hx;obtain⟨i,k,hx⟩:=AEz.mp hx;obtain⟨q,w,hx⟩:=ADJ.mp hx;cases hx;subst u;unfold Rs at j;split at j
   .cases j
   .cases j;unfold lY at k;split at k
    .cases k;exact⟨ep,rfl,w⟩
    .cases k
   .cases j
  .cases hx
 cases x with
 | tup xs=>
   obtain⟨ep,rfl,he⟩:=g l;obtain⟨a,vs,rfl,hq,rs⟩:=DG r;cases rs with
   | cons r1 rs=>
   cases rs with
   | cons r2 rs=>
   cases rs with
   | cons n rs=> cases rs;cases r2;exact⟨a,_,_,rfl, .inl hq,r1,f n he⟩
 | lst xs=>
   obtain⟨ep,rfl,he⟩:=g l;obtain⟨a,vs,rfl,hq,_,_,rs⟩:=C0 r;cases rs with
   | cons r1 rs=>
   cases rs with
   | cons r2 rs=>
   cases rs with
   | cons n rs=> cases rs;cases r2;exact⟨a,_,_,rfl, .inr (.inl (.inl hq)),r1,f n he⟩
 | _=>cases l
def Yf {D:PH}{p:kf}{O n s u w A:ke V}{f:Hp}{m:km (FK×Int)}{v:V}{b:Int×Int}{h:Int}{e:ke (Int×Int)}{x:PV}(va:IH T M H)(ex:∀b o,H b=some o->f b=some o)(P:H p=none)(hp:f p=some (.dN K (CO m)))(hl:m.length+2<sizeLine)(r:Ce K T M f v x)(S:Zn x=some (b,h,e))(nx:∀n s u w A k,(∀b o,H b=some o->k b=some o)->k p=some (.dN K (CO (Hi m b h e)))->D.nx [O,some (.ref p),n,s,u,w,A] k):aa K 3 (F4 (Di 2) (F4 (Di 3) (F4 (Di 4) Vj))) v [O,some (.ref p),n,s,u,w,A] f λB k=>Yd K D B k:=by
 obtain⟨a,C,ve,rfl,hq,U,E⟩:=oZ r S;refine⟨a,_,rfl,hq,rfl,_,_,rfl,_,_,rfl,_,_,rfl,rfl, ?_⟩;have W:IH T M H:=va;refine⟨C,rfl,_,rfl,_,_,rfl,rfl,ACP rfl,λq Q=> ?_⟩;have g:∀b o,f b=some o->upd f q (.tup [C, .int (1-h)]) b=some o:=λb o e=>by rw[Ao (A5 e Q)];exact e
 have F:upd f q (.tup [C, .int (1-h)]) p=some (.dN K (CO m)):=g _ _ hp;have qp:q≠p:=λz=>by subst z;rw[Q] at hp;cases hp
 obtain⟨c,rfl,tn⟩:=Ot U;have G:dE K (upd f q (.tup [.ref c, .int (1-h)])) c b.1 b.2:=tn.elim (λz=> .inl (g _ _ z)) .inr;have R:HG K (upd f q (.tup [.ref c, .int (1-h)])) q (b,1-h):=⟨c,Ap,G⟩;refine⟨_,rfl,p,_,rfl,F,_,rfl,q,_,(b,1-h),rfl,F,R,_,_,dj m (b,1-h),rfl,_,rfl,_,rfl,p,q,_,(b,1-h),rfl,rfl,F,R,by rw[CO,AAk];omega, ?_⟩;rw[gH];have Y:CO (RO m (b,1-h) ((BX m (b,1-h)).getD 0+1))=CO (bump m (b,1-h) 1):=rfl;rw[Y];have hb:∀o,f p=some o->True:=λ_ _=>trivial;have ext2:∀(X:HO) b o,H b=some o->upd (upd f q (.tup [.ref c, .int (1-h)])) p X b=some o:=λX b o e=>by rw[Ao (A5 e P)];exact g _ _ (ex _ _ e)
 have bl:(bump m (b,1-h) 1).length<=m.length+1:=L6 _ _ _;rcases E with⟨rfl,rfl⟩|⟨t,d,rfl,E⟩
 .refine ⟨_,rfl,rfl,false,rfl, ?_⟩;exact nx _ _ _ _ _ _ (ext2 _) Ap
 .obtain ⟨c2,rfl,I⟩:=Ot E;refine⟨_,rfl,rfl,true,rfl, ?_⟩;refine⟨_,rfl,ACP rfl,λi J=> ?_⟩;have Z:p≠i:=λz=>by subst z;rw[Ap] at J;cases J
  have j:∀(a:kf) o,upd (upd f q (.tup [.ref c, .int (1-h)])) p (.dN K (CO (bump m (b,1-h) 1))) a=some o->upd (upd (upd f q (.tup [.ref c, .int (1-h)])) p (.dN K (CO (bump m (b,1-h) 1)))) i (.tup [.ref c2, .int 0]) a=some o:=λa o e=>by rw[Ao (A5 e J)];exact e
  have L:=j p _ Ap;have N:dE K (upd (upd (upd f q (.tup [.ref c, .int (1-h)])) p (.dN K (CO (bump m (b,1-h) 1)))) i (.tup [.ref c2, .int 0])) c2 t d:=I.elim (λz=> .inl (j _ _ (by
   rw[Ao (λy=>by subst y;rw[hp] at z;cases z)];exact g _ _ z))) .inr
  have l:HG K (upd (upd (upd f q (.tup [.ref c, .int (1-h)])) p (.dN K (CO (bump m (b,1-h) 1)))) i (.tup [.ref c2, .int 0])) i ((t,d),0):=⟨c2,Ap,N⟩;refine⟨_,rfl,p,_,rfl,L,_,rfl,i,_,((t,d),0),rfl,L,l,_,_,dj _ ((t,d),0),rfl,_,rfl,_,rfl,p,i,_,((t,d),0),rfl,rfl,L,l,by rw[CO,AAk];omega, ?_⟩;rw[gH];refine nx _ _ _ _ _ _ (λa o e=> ?_) Ap;rw[Ao (A5 e P)];exact j _ _ (ext2 _ _ _ e)
def N0 {m:km (FK×Int)}{b:Int×Int}{h:Int}{e:ke (Int×Int)}:(Hi m b h e).length<=m.length+2:=by
 unfold Hi;cases e with
 | none=>have:=L6 m (b,1-h) ((BX m (b,1-h)).getD 0+1);unfold bump;simp only;omega
 | some e=> have h1:=L6 m (b,1-h) ((BX m (b,1-h)).getD 0+1);have h2:=L6 (bump m (b,1-h) 1) (e,0) ((BX (bump m (b,1-h) 1) (e,0)).getD 0 + -1);unfold bump at *;simp only;omega
theorem Zj:∀{vs:km V} {ys:km PV},A9 K T M H vs ys->∀{i:Nat} {x:V},vs[i]? =some x->∃y,ys[i]? =some y/\Ce K T M H x y
 | _,_, .nil,i,x,ev=>by simp at ev
 | _,_, .cons h t,0,x,ev=>by simp at ev;subst ev;exact⟨_,rfl,h⟩
 | _,_, .cons h t,i+1,x,ev=>by simpa using Zj t (i:=i) (by simpa using ev)
def Qm {D:PH}{J:It}{t:V}{p:kf}{ys:km PV}{a:km (FK×Int)}{u:Hp}(va:IH T M H)(G:H p=none)(go:∀H',(∀b o,H b=some o->H' b=some o)->∃vs,A9 K T M H' vs ys/\(∀i,i<ys.length->J.go i H')/\(∀i,ys.length<=i->J.stop i H')/\∀i x f,J.yld i H' x f->f=H'/\vs[i]? =some x)(I:∀b o,H b=some o->u b=some o)(hp:u p=some (.dN K (CO [])))(hl:2*ys.length+2<sizeLine)(hs:GR ys [] =some a)(v:∀g j k l n H',(∀b o,H b=some o->H' b=some o)->H' p=some (.dN K (CO a))->D.nx [some t,some (.ref p),g,j,k,l,n] H'):∃W:Nat->Nat->L2.St->Hp->Prop,(∃m,W 0 m [some t,some (.ref p),none,none,none,none,none] u)/\∀i m r H,W i m r H-> (J.stop i H/\D.nx r H)\/(J.go i H/\∃N:L2.St->Hp->Prop,(∀c H',N c H'->∃C,C<m/\W (i+1) C c H')/\∀x H',J.yld i H x H'->aa K 3 (F4 (Di 2) (F4 (Di 3) (F4 (Di 4) Vj))) x r H' λw f=>Yd K {D with nx:=N,ct:=N,bk:=D.nx} w f):=by
 let W:Nat->Nat->L2.St->Hp->Prop:=λi m r H'=>i+m=ys.length/\∃g j k l n s,r= [some t,some (.ref p),g,j,k,l,n] /\(∀b o,H b=some o->H' b=some o)/\H' p=some (.dN K (CO s))/\GR (ys.drop i) s=some a/\s.length<=2*i;refine⟨W,⟨ys.length,Nat.zero_add _,_,_,_,_,_, [],rfl,I,hp,hs,ABH _⟩, ?_⟩;rintro i m r H' ⟨hi,g,j,k,l,n,s,rfl,ex,E,d,L⟩;obtain⟨vs,rs,O,P,Q⟩:=go H' ex;cases m with
 | zero=> left;refine⟨P i (by omega),v _ _ _ _ _ _ ex ?_⟩;rw[ADd (by omega)] at d;cases d;exact E
 | succ m=>
   right;refine⟨O i (by omega),λc H'=>W (i+1) m c H',λc H' h=>⟨m,by omega,h⟩,λx f R=> ?_⟩;obtain⟨rfl,ev⟩:=Q i x f R;have hy:ys[i]? =some ys[i] :=ABD (by omega);obtain⟨y,F,S⟩:=Zj rs ev;rw[ACx (by omega:i<ys.length)] at d;have z:ys[i] =y:=by rw[hy] at F;exact AAw F
   rw[z] at d;unfold GR at d;split at d
   .rename_i b h e U;refine Yf (H:=H) (m:=s) (b:=b) (h:=h) (e:=e) (x:=y) va ex G E (by omega) S U λg j k l n X A B=>⟨by omega,g,j,k,l,n,_,rfl,A,B,d, ?_⟩
    .have:=N0 (m:=s) (b:=b) (h:=h) (e:=e);omega
   .cases d
def Ye {D:PH}{l:V}{x:PV}{ys:km PV}{f:km (FK×Int)}(va:IH T M H)(r:Ce K T M H l x)(hx:x= .tup ys\/x= .lst ys)(hl:2*ys.length+2<sizeLine)(hs:GR ys [] =some f)(m:∀p H',(∀b o,H b=some o->H' b=some o)->H p=none->H' p=some (.dN K (CO f))->D.rt (.ref p) H'):pK K D [some l,none,none,none,none,none,none] H:=by
 intro p hp;have k:∀b o,H b=some o->upd H p (.dN K []) b=some o:=λb o e=>by rw[Ao (A5 e hp)];exact e
 have last:∀n s t u v H',(∀b o,H b=some o->H' b=some o)->H' p=some (.dN K (CO f))->(hJ (G3 1)) D [some l,some (.ref p),n,s,t,u,v] H':=λn s t u v H' ex h=>⟨_,rfl,m p H' ex hp h⟩;rcases hx with rfl|rfl
 .obtain ⟨a,vs,rfl,hq,rs⟩:=DG (r.mv (va.ext k));refine⟨_,rfl,a,rfl, .inr ⟨⟨vs,hq⟩, ?_⟩⟩;refine Qm (D:={D with nx:=(hJ (G3 1)) D}) va hp (λH' ex=> ?_) k Ap hl hs last;obtain⟨w,c,e,g,d⟩:=DG (r.mv (va.ext ex));cases e;refine⟨c,d,λi hi=>⟨c,c[i]'(by rw[d.length];exact hi),g,ABD _⟩,λi hi=>⟨c,g,by rw[d.length];exact hi⟩,λi x y j=>⟨j.1,j.2 c g⟩⟩
 .obtain ⟨a,vs,rfl,hq,_,_,rs⟩:=C0 (r.mv (va.ext k));refine⟨_,rfl,a,rfl, .inl ⟨⟨vs, .inl (.inl hq)⟩, ?_⟩⟩;refine Qm (D:={D with nx:=(hJ (G3 1)) D}) va hp (λH' ex=> ?_) k Ap hl hs last;obtain⟨w,c,e,g,_,_,d⟩:=C0 (r.mv (va.ext ex));cases e;refine⟨c,d,λi hi=>⟨c,c[i]'(by rw[d.length];exact hi), .inl (.inl g),ABD _⟩,λi hi=>⟨c, .inl (.inl g),by rw[d.length];exact hi⟩,λi x y j=>⟨j.1,j.2 c (.inl (.inl g))⟩⟩
end
def JN:AF:=λxs Q=>match xs with | [x] =>WH x λys=>2*ys.length+2<sizeLine/\∃m,GR ys [] =some m/\Q (.dct m)|_=>False
def XA {xs:km PV}{Q:PV->Prop}(h:JN xs Q):∃x ys m,xs= [x] /\(x= .tup ys\/x= .lst ys)/\2*ys.length+2<sizeLine/\GR ys [] =some m/\Q (.dct m):=by
 unfold JN at h;split at h
 .obtain ⟨ys,hx,hz,m,hm,q⟩:=KY h;exact⟨_,ys,m,rfl,hx,hz,hm,q⟩
 .exact h.elim
section
variable {K:AAY}{T M:kf->Prop}{H H':Hp}
def kE {k:Nat}{A:Wf}(a:Room k A):A.units+2<cLine:=by have:=a.un;omega
def kX (va:IH T M H)(ex:∀b o,H b=some o->H' b=some o):Dv T H T H' where
 keep:=λb u _ e=>ex b u e
 sub:=λ_ t=>t
 new:=λ_ t=> .inl t
 tp:=λa t=>let ⟨d,x,e,q⟩:=va.tp a t;⟨d,x,ex _ _ e,q⟩
def kC {p:kf}{m:km (FK×Int)}(va:IH T M H)(a:H p=none)(hp:H' p=some (.dN K (CO m))):Ce K T M H' (.ref p) (.dct m):=by
 refine .dct hp (λz=> ?_) (λz=> ?_)
 .obtain ⟨o,e,_⟩:=(va.tp p z).mut;rw[a] at e;cases e
 .obtain ⟨o,e,_⟩:=va.mu p z;rw[a] at e;cases e
end
end PL
namespace L2
open PySem PySem.Spec PyProof.Rows
section
variable {elt tg iter tg2 iter2:kd}{ifs ifs2:km kd}{scope:Scope}{pos:Pos}{it acc:kj}{env:Env}
def cQ:compTurn (.ListComp elt [⟨tg,iter,ifs,0⟩,⟨tg2,iter2,ifs2,0⟩] scope pos) 0 it acc env=(do
 standAt iter.pos
 match <-pyNext it with
 | none=>pure (.done .next)
 | some v=>
   letOwnedTupleGo tg it v
   assign tg env v
   let mut ok:=true
   for c in ifs do
    if ok then ok <-isTrue c env (eval c env)
   if ok then
    let x <-eval iter2 env
    standAt iter2.pos
    let x <-foldedSetIterable iter2 env x;let _ <-runOwn (.compStart (.ListComp elt [⟨tg,iter,ifs,0⟩,⟨tg2,iter2,ifs2,0⟩] scope pos) 1 (<-holding [x] (pyIter x)) acc env) env
   again (.compLoop (.ListComp elt [⟨tg,iter,ifs,0⟩,⟨tg2,iter2,ifs2,0⟩] scope pos) 0 it acc env)):=by rfl
def cR:compTurn (.ListComp elt [⟨tg,iter,ifs,0⟩,⟨tg2,iter2,ifs2,0⟩] scope pos) 1 it acc env=(do
 standAt iter2.pos
 match <-pyNext it with
 | none=>pure (.done .next)
 | some v=>
   letOwnedTupleGo tg2 it v
   assign tg2 env v
   let mut ok:=true
   for c in ifs2 do
    if ok then ok <-isTrue c env (eval c env)
   if ok then
    (do let _ <-call (.builtin "list.append") [acc,<-eval elt env])
   again (.compLoop (.ListComp elt [⟨tg,iter,ifs,0⟩,⟨tg2,iter2,ifs2,0⟩] scope pos) 1 it acc env)):=by rfl
variable {prog:gn}{w:fe}{A:Wf}{R:Result->ki->Prop}{s:ki}
def Ya (c:codeAny (model prog w) A (.compLoop (.ListComp elt [⟨tg,iter,ifs,0⟩,⟨tg2,iter2,ifs2,0⟩] scope pos) 1 it acc env) R s)(h:wpAny (model prog w) A (pyIter it) (λa b=>codeAny (model prog w) A (.compLoop (.ListComp elt [⟨tg,iter,ifs,0⟩,⟨tg2,iter2,ifs2,0⟩] scope pos) 1 a acc env) R b) (notedBy (model prog w) A env λx b=>R (.error x) b) s):codeAny (model prog w) A (.compStart (.ListComp elt [⟨tg,iter,ifs,0⟩,⟨tg2,iter2,ifs2,0⟩] scope pos) 1 it acc env) R s:=by
 refine codeAny_of_tree ?_;show wpAny _ _ ((compStart (.ListComp elt [⟨tg,iter,ifs,0⟩,⟨tg2,iter2,ifs2,0⟩] scope pos) 1 it acc env).onRaise (λx=>do noteFrame x env;standAt theWindowsPlace)) _ _ s;refine wpAny_notedAt ?_;unfold compStart;show wpAny _ _ (ask >>= _) _ _ s;refine AAX (wpAny_askSetting (wpAny_ite ?_));split
 .first
   | exact AAX (AAZ (AAZ (And.intro rfl c)))
   | exact AAZ (And.intro rfl c)
 .first
   | exact AAX (ABT (AAX (ABp (AAX (ABa h (λa b h'=>AAZ (And.intro rfl h')) λ_ _ x=>x)))))
   | (refine AAX (ABT ?_);show wpAny _ _ (standAt iter2.pos >>= _) _ _ s;exact AAX (ABp (AAX (ABa h (λa b h'=>AAZ (And.intro rfl h')) λ_ _ x=>x))))
end
def OG (own:Nat)(a:St):St:=List.replicate own none++a.drop own
def Mx {own:Nat}{a:St}{j:Nat}{v:V}(h:(OG own a)[j]? =some (some v)):own<=j/\a[j]? =some (some v):=by
 unfold OG at h;by_cases hj:j<own
 .rw [ABQ (by simpa using hj),ACd,AAb hj] at h;cases h
 .have ax:own<=j:=by omega
  rw[ABh (by simpa using ax),ACV,ADG] at h;rw[show own+(j-own)=j by omega] at h;exact⟨ax,h⟩
def Vd {own:Nat}{a:St}(h:own<=a.length):(OG own a).length=a.length:=by simp[OG];omega
def TW (J:It)(D:kf)(c:St)(g:TG)(k:TT)(d:TI)(own2:Nat)(l:TG)(e:TT)(te:TE)(Q:Hp->Prop)(W:Nat->Nat->Hp->Prop):Prop:=
 ∀i m H,W i m H->(J.stop i H/\Q H)\/(J.go i H/\∀x f,J.yld i H x f->g x c f λa n=>k a n λok h=>
  if ok=true then d a h λo p=>∃j:Nat->Nat->Hp->Prop,(∃m2,j 0 m2 p)/\KF o D (OG own2 a) l e te (λr=>∃b,b<m/\W (i+1) b r) j else ∃b,b<m/\W (i+1) b h)
def g9 (e:TI)(own:Nat)(ix:km Nat)(g:TG)(f:TT)(a:TI)(own2:Nat)(h:TG)(b:TT)(te:TE):TE:=λc H Q=>e c H λJ d=>∀D,d D=none->
 ∃W:Nat->Nat->Hp->Prop,(∃m,W 0 m (upd d D (.lst [])))/\TW J D (CJ own ix c) g f a own2 h b te (Q (.ref D)) W
section
variable {X:Cx}{tg elt iter tg2 iter2:kd}{ifs ifs2:km kd}{scope:Scope}{pos:Pos}{wi wi2:TI}{own own2:Nat}{ix:km Nat}{N:km Str}{g g2:TG}{tt tt2:TT}{te:TE}
structure OV (X:Cx) (tg elt:Expr) (ifs:List Expr) (tg2 iter2:Expr) (ifs2:List Expr) (scope:Scope) (own:Nat) (ix:List Nat) (N:List Str) (g:TG) (tt:TT) (wi2:TI) (own2:Nat) (g2:TG) (tt2:TT) (te:TE):Prop where
 kind:scope.kind= .function
 nocell:∀y∈scope.names,y.2≠ .cell
 names:∀y∈scope.names,y.2= .local->scope.names.lookup y.1=some .local
 frees:∀y∈scope.names,y.2= .free->X.env.scope.names.lookup y.1=some .cell
 ins:Rb X (relabel scope X.env) own ix N
 keep:Ij own g
 keep2:Ij own2 g2
 le2:own2<=own
 tgt:∀cl C s H ex pn,PG (blk X (relabel scope X.env) N cl C s H ex pn) tg g
 tst:∀cl C s H ex pn,Yt (blk X (relabel scope X.env) N cl C s H ex pn) ifs tt
 itr2:∀cl C s H ex pn,PI (blk X (relabel scope X.env) N cl C s H ex pn) tg2 iter2 wi2
 set2:∀cl C s H ex pn x,foldedSetIterable iter2 (blk X (relabel scope X.env) N cl C s H ex pn).env x=pure x
 tgt2:∀cl C s H ex pn,PG (blk X (relabel scope X.env) N cl C s H ex pn) tg2 g2
 tst2:∀cl C s H ex pn,Yt (blk X (relabel scope X.env) N cl C s H ex pn) ifs2 tt2
 val:∀cl C s H ex pn,PE (blk X (relabel scope X.env) N cl C s H ex pn) elt te
def iy {Y:Cx}{c0:Comprehension}{Tb:km (kf×Obj)}{f:St}{p:km kf}{it:kf}{tn:Nat->da->Prop}{J:It}{D:kf}{R:Result->ki->Prop}{Qh:Hp->Prop}{W:Nat->Nat->Hp->Prop}(U:∀it B,compTurn (.ListComp elt [c0,⟨tg2,iter2,ifs2,0⟩] scope pos) 1 it B Y.env=(do
   standAt iter2.pos
   match <-pyNext it with
   | none=>pure (.done .next)
   | some v=>
     letOwnedTupleGo tg2 it v
     assign tg2 Y.env v
     let mut ok:=true
     for c in ifs2 do
      if ok then ok <-isTrue c Y.env (eval c Y.env)
     if ok then
      (do let _ <-call (.builtin "list.append") [B,<-eval elt Y.env])
     again (.compLoop (.ListComp elt [c0,⟨tg2,iter2,ifs2,0⟩] scope pos) 1 it B Y.env)))(eX:Y.xe=λ_ _=>False)(eC:Y.calm=true)(hg:PG Y tg2 g2)(hk:Ij own2 g2)(ht:Yt Y ifs2 tt2)(hv:PE Y elt te)(T:La Y.prog Y.w Y.K tg2 J p it tn)(Z:∀j v,f[j]? =some (some v)->own2<=j)(k:∀{a:Hp},(∀b∈p,a b=none)->∀b∈p,Ec Y Tb a b)(hW:KF J D f g2 tt2 te Qh W)(hR:∀a I,Inv Y Tb f a I->Qh a->R (.ok .next) I)(n:Nat)(s0:ki)(h0:∃i a,Inv Y Tb f a s0/\tn i s0.heap/\(∀b∈p,a b=none)/\W i n a):
 codeAny (model Y.prog Y.w) Y.A (.compLoop (.ListComp elt [c0,⟨tg2,iter2,ifs2,0⟩] scope pos) 1 (.ref it) (.ref D) Y.env) R s0:=by
 refine AD9 rfl (λn I=>∃i a,Inv Y Tb f a I/\tn i I.heap/\(∀b∈p,a b=none)/\W i n a) (λn s1 h1=> ?_) n h0;obtain⟨i,H1,B1,L,M,w1⟩:=h1;show wpAny _ _ ((compTurn (.ListComp elt [c0,⟨tg2,iter2,ifs2,0⟩] scope pos) 1 (.ref it) (.ref D) Y.env).onRaise (λx=>do noteFrame x Y.env;theTreesLotGoes x)) _ _ s1;refine AEA ?_;rw[U];have S:∀{α:Type} {t:Sem α} {Q:α->ki->Prop} {E:kj->ki->Prop} {s:ki},wpAny (model Y.prog Y.w) Y.A t Q Y.xe s->wpAny (model Y.prog Y.w) Y.A t Q E s:=λh=>ABa h (λ_ _ q=>q) λ_ _ z=>by rw[eX] at z;exact z.elim
 refine AAX (ABp (AAX ?_));rcases hW i n H1 w1 with⟨stop,qn⟩|⟨go,step⟩
 .refine Bi (T.done Y rfl rfl rfl eC i Tb s1 _ H1 _ B1 (k M) L stop) λr s4 ⟨hr,I4⟩=> ?_;subst hr;exact AAZ (hR _ _ I4 qn)
 .refine Bi (T.item Y rfl rfl rfl eC i Tb s1 _ H1 _ B1 (k M) L go) λr s4 ⟨u,hr,h4⟩=> ?_;subst hr;refine AAX (Bi h4 λ_ s5 ⟨x,H5,I5,r5,y5,C,fr5⟩=> ?_);have I5':=I5.pinned (k fr5) (T.obj _ _ C);refine AAX (Bi (S (hg _ s5 _ H5 x u _ I5' r5 (hk _ _ _ _ (step x H5 y5)))) λ_ s6 ⟨l,H6,I6,q6,l6,k6⟩=> ?_);refine AAX (Bi (S (ht _ s6 l H6 _ I6 q6)) λok s7 ⟨H7,I7,q7⟩=> ?_);have back:∀{F:Hp} {G:ki} {H:Nat},Inv Y (Tb++GG p s5.heap) l F G->H<n->W (i+1) H F->
   ∃m,m<n/\∃i a,Inv Y Tb f a G/\tn i G.heap/\(∀b∈p,a b=none)/\W i m a:=λ{F G H} O hm P=>by
   refine⟨H,hm,i+1,F,O.unpinned.weak l6.symm (λj v hj=> ?_),T.keep _ _ _ C λb hb o e=>(O.pin (b,o) (AAy _ (AAy _ (CN hb e)))).1,λb hb=> ?_,P⟩
   .rw [k6 j (Z j v hj)];exact hj
   .obtain ⟨o,e,d⟩:=T.obj _ _ C b hb;exact(O.pin (b,o) (AAy _ (AAy _ (CN hb e)))).2.1
  cases ok with
  | false=> obtain⟨H,hm,P⟩:=q7;exact AAZ ⟨rfl,back I7 hm P⟩
  | true=> refine AAX (AAX (Bi (S (hv _ s7 l H7 _ I7 q7)) λyv G ⟨y,F,O,r8,ys,hD,hz,H,hm,P⟩=> ?_));refine AAX (Bi (S (JU _ G l F (.ref D) [y] (.ref D) [yv] (λ_ H9=>H9=upd F D (.lst (ys ++ [y]))) O rfl (.cons r8 .nil) ⟨D,ys,y,rfl,rfl,hD,hz,rfl⟩)) λ_ s9 ⟨_,H9,I9,_,e9⟩=> ?_);subst e9;exact AAZ (AAZ ⟨rfl,back I9 hm P⟩)
def XT {Tb:km (kf×Obj)}{L:St}{H:Hp}{s:ki}{l:km kf}{cl:km (Str×kf)}{it:kf}{tn:Nat->da->Prop}{J:It}{D:kf}{R:Result->ki->Prop}{Qh:Hp->Prop}{W:Nat->Nat->Hp->Prop}(hc:X.calm=true)(O:OV X tg elt ifs tg2 iter2 ifs2 scope own ix N g tt wi2 own2 g2 tt2 te)(T:La X.prog X.w X.K tg J l it tn)(I:Inv X Tb L H s)(hf:∀b∈l,Ec X Tb H b)(Er:∀b∈l,b<s.heap.objs.size)(hW:TW J D (CJ own ix L) g tt wi2 own2 g2 tt2 te Qh W)(hR:∀σ' a y,Inv (blk X (relabel scope X.env) N cl s.heap.objs.size s H l (X.pn++Tb)) [] σ' a y->Qh a->R (.ok .next) y)(n:Nat)(s0:ki)(h0:∃i a,Inv (blk X (relabel scope X.env) N cl s.heap.objs.size s H l (X.pn++Tb)) [] (CJ own ix L) a s0/\tn i s0.heap/\(∀b∈l,a b=none)/\W i n a):codeAny (model X.prog X.w) X.A (.compLoop (.ListComp elt [⟨tg,iter,ifs,0⟩,⟨tg2,iter2,ifs2,0⟩] scope pos) 0 (.ref it) (.ref D) (GD X.env (relabel scope X.env) cl s.heap.objs.size)) R s0:=by
 refine AD9 rfl (λn y=>∃i a,Inv (blk X (relabel scope X.env) N cl s.heap.objs.size s H l (X.pn++Tb)) [] (CJ own ix L) a y/\tn i y.heap/\(∀b∈l,a b=none)/\W i n a) (λn s1 h1=> ?_) n h0;obtain⟨i,H1,B1,S,U,w1⟩:=h1;have G:own2<=(CJ own ix L).length:=by rw[Mt];exact AA1 O.le2 (Nat.le_add_right _ _)
 generalize k:blk X (relabel scope X.env) N cl s.heap.objs.size s H l (X.pn++Tb)=Y at *;have eA:Y.A=X.A:=by rw[<-k];rfl
 have Z:Y.prog=X.prog:=by rw[<-k];rfl
 have eW:Y.w=X.w:=by rw[<-k];rfl
 have eK:Y.K=X.K:=by rw[<-k];rfl
 have eE:GD X.env (relabel scope X.env) cl s.heap.objs.size=Y.env:=by rw[<-k];rfl
 have eX:Y.xe=λ_ _=>False:=by rw[<-k];rfl
 have eC:Y.calm=true:=by rw[<-k];exact hc
 have hg:PG Y tg g:=by rw[<-k];exact O.tgt _ _ _ _ _ _
 have ht:Yt Y ifs tt:=by rw[<-k];exact O.tst _ _ _ _ _ _
 have ue:PI Y tg2 iter2 wi2:=by rw[<-k];exact O.itr2 _ _ _ _ _ _
 have Po:∀x,foldedSetIterable iter2 Y.env x=pure x:=by rw[<-k];exact O.set2 _ _ _ _ _ _
 have au:PG Y tg2 g2:=by rw[<-k];exact O.tgt2 _ _ _ _ _ _
 have wM:Yt Y ifs2 tt2:=by rw[<-k];exact O.tst2 _ _ _ _ _ _
 have hv:PE Y elt te:=by rw[<-k];exact O.val _ _ _ _ _ _
 have B:∀{a:Hp},(∀b∈l,a b=none)->∀b∈l,Ec Y [] a b:=λ{a} hn b hb=>by
  obtain⟨_,a1,a2,a3,a4,a5⟩:=hf b hb;refine⟨hn b hb, ?_, ?_, ?_, ?_, ?_⟩
  .rw [<-k];exact AAh (Er b hb)
  .rw [<-k];exact I.notStk a1 a2
  .rw [<-k];exact .inl hb
  .intro x c e;exact(B1.ok.exf b (by rw[<-k];exact hb)).2 x c e
  .intro p hp;have:p∈X.pn++Tb:=by rw[<-k] at hp;simpa[blk] using hp
   exact a5 p this
 rw[eE,<-eA,<-Z,<-eW];show wpAny _ _ ((compTurn (.ListComp elt [⟨tg,iter,ifs,0⟩,⟨tg2,iter2,ifs2,0⟩] scope pos) 0 (.ref it) (.ref D) Y.env).onRaise (λx=>do noteFrame x Y.env;theTreesLotGoes x)) _ _ s1;refine AEA ?_;rw[cQ];have ff:∀{α:Type} {t:Sem α} {Q:α->ki->Prop} {E:kj->ki->Prop} {s:ki},wpAny (model Y.prog Y.w) Y.A t Q Y.xe s->wpAny (model Y.prog Y.w) Y.A t Q E s:=λh=>ABa h (λ_ _ q=>q) λ_ _ z=>by rw[eX] at z;exact z.elim
 refine AAX (ABp (AAX ?_));rcases hW i n H1 w1 with⟨stop,qn⟩|⟨go,step⟩
 .have zd:=λE=>T.done Y Z eW eK eC i [] s1 _ H1 E B1 (B U) S stop;rw[<-Z,<-eW] at zd;refine Bi (zd _) λr s4 ⟨hr,I4⟩=> ?_;subst hr;exact AAZ (hR _ _ _ I4 qn)
 .have zi:=λE=>T.item Y Z eW eK eC i [] s1 _ H1 E B1 (B U) S go;rw[<-Z,<-eW] at zi;refine Bi (zi _) λr s4 ⟨u,hr,h4⟩=> ?_;subst hr;refine AAX (Bi h4 λ_ s5 ⟨x,H5,I5,r5,y5,M,fr5⟩=> ?_);have I5':=I5.pinned (B fr5) (T.obj _ _ M);refine AAX (Bi (ff (hg _ s5 _ H5 x u _ I5' r5 (O.keep _ _ _ _ (step x H5 y5)))) λ_ s6 ⟨C,H6,I6,q6,l6,k6⟩=> ?_);refine AAX (Bi (ff (ht _ s6 C H6 _ I6 q6)) λok s7 ⟨H7,I7,q7⟩=> ?_);have back:∀{F:St} {H8:Hp} {s8:ki} {P:Nat},Inv Y ([] ++ GG l s5.heap) F H8 s8->F.length=C.length->(∀j v,own<=j->C[j]? =some (some v)->F[j]? =some (some v))->P<n->W (i+1) P H8->
   ∃m,m<n/\∃i a,Inv Y [] (CJ own ix L) a s8/\tn i s8.heap/\(∀b∈l,a b=none)/\W i m a:=λ{F H8 s8 P} I8 hl hsm hm w8=>by
   refine⟨P,hm,i+1,H8,I8.unpinned.weak (hl.trans l6).symm (λj v hj=> ?_),T.keep _ _ _ M λb hb o e=>(I8.pin (b,o) (AAy _ (AAy _ (CN hb e)))).1,λb hb=> ?_,w8⟩
   .have ym:=(Fn hj).1;exact hsm j v ym (by rw[k6 j ym];exact hj)
   .obtain ⟨o,e,d⟩:=T.obj _ _ M b hb;exact(I8.pin (b,o) (AAy _ (AAy _ (CN hb e)))).2.1
  cases ok with
  | false=> obtain⟨P,hm,w8⟩:=q7;exact AAZ ⟨rfl,back I7 rfl (λ_ _ _ z=>z) hm w8⟩
  | true=>
    rw[AAb rfl] at q7;refine AAX (Bi (ff (ue _ s7 C H7 _ I7 q7)) λv2 s8 jO=> ?_);refine AAX (ABp (AAX (ABF (Po v2) (AAX (ABV (Bi (ff jO) λitv s9 hv9=> ?_))))));obtain⟨it2,fp2,tn2,J2,H9,rfl,I9,T2,st9,f9,W2,⟨m2,w2⟩,hW2⟩:=hv9;have I9':Inv Y ([] ++ GG l s5.heap) (OG own2 C) H9 s9:=I9.weak (Vd (by rw[l6];exact G)) (λj v hj=>(Mx hj).2);have loop:codeAny (model Y.prog Y.w) Y.A (.compLoop (.ListComp elt [⟨tg,iter,ifs,0⟩,⟨tg2,iter2,ifs2,0⟩] scope pos) 1 (.ref it2) (.ref D) Y.env) (λr y=>match r with | .ok f=>∃m,m<n/\∃i a,Inv Y [] (CJ own ix L) a y/\tn i y.heap/\(∀b∈l,a b=none)/\W i m a | .error e=>cameBackBy (model Y.prog Y.w) Y.A Y.env (notedBy (model Y.prog Y.w) Y.A Y.env λx y=>R (.error x) y) e y) s9:=by refine iy (own2:=own2) (Tb:= [] ++ GG l s5.heap) (λ_ _=>cR) eX eC au O.keep2 wM hv T2 (λj v hj=>(Mx hj).1) (λhn b hb=>⟨hn b hb,(f9 b hb).2⟩) hW2 (λa y I' q'=> ?_) m2 s9 ⟨0,H9,I9',st9,λb hb=>(f9 b hb).1,w2⟩;obtain⟨P,hm,w8⟩:=q';refine back I' (Vd (by rw[l6];exact G)) (λj v hj e=> ?_) hm w8;have h2j:own2<=j:=AA1 O.le2 hj;unfold OG;rw[ABh (by simpa using h2j),ACV,ADG,show own2+(j-own2)=j by omega];exact e
    refine AAX (wpAny_runOwn (h:=none) (Ya ?_ ?_))
    .exact ADT loop (λr y h'=>by
      cases r with
      | ok f=>exact AAZ ⟨rfl,h'⟩
      | error e=>exact h')
    .exact T2.self _ 0 _ _ _ st9 (ADT loop (λr y h'=>by
      cases r with
      | ok f=>exact AAZ ⟨rfl,h'⟩
      | error e=>exact h'))
def aW {Tb:km (kf×Obj)}{u:St}{H:Hp}{s:ki}{use:ke (kj->Sem Unit)}{Q:kj->ki->Prop}{it:kf}{j:km kf}{cl:km (Str×kf)}{tn:Nat->da->Prop}{J:It}{Qd:kf->Hp->Prop}(hc:X.calm=true)(O:OV X tg elt ifs tg2 iter2 ifs2 scope own ix N g tt wi2 own2 g2 tt2 te)(T:La X.prog X.w X.K tg J j it tn)(I:Inv X Tb u H s)(M:∀b∈j,Ec X Tb H b)(st:tn 0 s.heap)(h1:∀y c,cl.lookup y=some c->X.env.cells.lookup y=some c)(h2:∀y,(y,NameKind.free)∈scope.names->∃c,cl.lookup y=some c)(hq:∀D,H D=none->∃W:Nat->Nat->Hp->Prop,(∃m,W 0 m (upd H D (.lst [])))/\TW J D (CJ own ix u) g tt wi2 own2 g2 tt2 te (Qd D) W)(P:∀D C i k,(∃m,k.heap.Ns C m)->Inv X Tb u i k->(∀f v,Inv X Tb f i v->∀h',Heap.SameBut C v.heap h'->Inv X Tb f i {v with heap:=h'})->C≠X.env.locals->(∀x c,X.env.cells.lookup x=some c->C≠c)->Qd D i-> compPost (model X.prog X.w) X.A X.xe use Q (.ref D) C (.ok .next) k):wpAny (model X.prog X.w) X.A (newList []) (λl n=>wpAny (model X.prog X.w) X.A (newFunctionEnv scope X.env.globals cl [] X.env.qual none .none (some X.env)) (λd p=> codeAny (model X.prog X.w) X.A (.compStart (.ListComp elt [⟨tg,iter,ifs,0⟩,⟨tg2,iter2,ifs2,0⟩] scope pos) 0 (.ref it) l {d with scope:=relabel scope X.env}) (compPost (model X.prog X.w) X.A X.xe use Q l d.locals) p) X.xe n) X.xe s:=by
 refine ABM ?_ (by simp[sizeOk]);have h:Inv X Tb u (upd H s.heap.objs.size (.lst [])) {s with heap:=s.heap.push {cls:= .type "list",data:= .seq ([] :km kj).toArray}}:=I.lnew (t':=s.toks) .nil (ABH _);have R:=I.fresh;obtain⟨W,⟨m0,S⟩,hW⟩:=hq _ R;have U:∀b∈j,b<s.heap.objs.size:=λb hb=>by obtain⟨o,e,_⟩:=T.obj _ _ st b hb;exact AAd e
 have E:∀b∈j,Ec X Tb (upd H s.heap.objs.size (.lst [])) b:=λb hb=>by obtain⟨Y,Z⟩:=M b hb;exact⟨by rw[Ao (AAh (U b hb))];exact Y,Z⟩
 generalize rZ:({s with heap:=s.heap.push {cls:= .type "list",data:= .seq ([] :km kj).toArray}}:ki)=s3 at h;have r:tn 0 s3.heap:=T.keep _ _ _ st λb hb o e=>by rw[<-rZ];exact AAe _ e
 have F:∀b∈j,b<s3.heap.objs.size:=λb hb=>by obtain⟨o,e,_⟩:=T.obj _ _ r b hb;exact AAd e
 refine wpAny_newFunctionEnv O.nocell (by intro y hy;simp at hy) (λa lV wK=> ?_) O.kind;have L:∀b o,s3.heap.get? b=some o->a.get? b=some o:=λb o e=>wK.extBut b o (AAh (AAd e)) (AAe _ e);have rO:∀y,((relabel scope X.env).names.lookup y=some .cell\/(relabel scope X.env).names.lookup y=some .free)->∃c,cl.lookup y=some c:=λy hy=>by
  rcases hy with z|z
  .exact h2 y (F8 O.nocell (Iv z) (.inl rfl))
  .exact h2 y (F8 O.nocell (Iv z) (.inr rfl))
 have B:=dL (N:=N) (t':=s3.toks+([] :km (Str×kj)).length) h E F (sc:=relabel scope X.env) O.kind h1 rO O.ins lV L;have t:tn 0 a:=T.keep _ _ _ r λb hb o e=>L b o e;have loop:∀G:ki,G={s3 with heap:=a,toks:=s3.toks+([] :km (Str×kj)).length}->
  codeAny (model X.prog X.w) X.A (.compLoop (.ListComp elt [⟨tg,iter,ifs,0⟩,⟨tg2,iter2,ifs2,0⟩] scope pos) 0 (.ref it) (.ref s.heap.objs.size) (GD X.env (relabel scope X.env) cl s3.heap.objs.size)) (compPost (model X.prog X.w) X.A X.xe use Q (.ref s.heap.objs.size) s3.heap.objs.size) G:=by rintro G rfl;refine XT (cl:=cl) (Qh:=Qd s.heap.objs.size) hc O T h E F hW (λσ' i k B' q'=> ?_) m0 _ ⟨0,_,B,t,λb hb=>(E b hb).1,S⟩;refine P _ _ i k (let ⟨m,hm,_⟩:=B'.loc;⟨m,hm⟩) (Yz (own:=own) (ix:=ix) h E F B') (λf v I2 h' hs=>PY h rfl I2 B'.free hs) (ABK h.lt) (λx c e=>ABK (h.szLt e)) q'
 exact AEm (loop _ rfl) (T.self _ 0 _ _ _ t (loop _ rfl))
def fu (hc:X.calm=true)(hi:PI X tg iter wi)(O:OV X tg elt ifs tg2 iter2 ifs2 scope own ix N g tt wi2 own2 g2 tt2 te)(hs:∀x,foldedSetIterable iter X.env x=pure x:=by intro _;rfl):PE X (.ListComp elt [⟨tg,iter,ifs,0⟩,⟨tg2,iter2,ifs2,0⟩] scope pos) (g9 wi own ix g tt wi2 own2 g2 tt2 te):=by intro Tb s c H Q I h;obtain⟨cl,d,h1,h2⟩:=HI (env:=X.env) (scope:=scope) λy hy e=>I.ok.has y.1 (.inl (O.frees y hy e));rw[eval_ListComp];refine AEB (use:=none) rfl hs d O.kind O.names (Bi (hi Tb s c H _ I h) λv o hv=>Bi hv λf p i=> ?_);obtain⟨it,r,tn,J,t,rfl,j,T,a,f2,q⟩:=i;exact aW (Qd:=λD b=>Q (.ref D) b) hc O T j f2 a h1 h2 q λD C b k hn l gone u w n=>by obtain⟨m,hm⟩:=hn;exact⟨m,hm,λh' hs=>⟨.ref D,b,gone c k l h' hs,rfl,n⟩⟩
end
end L2
namespace PL
open PySem PySem.Spec PyProof.Rows L2
def Pd (own:Nat)(τ:BC):BC:=List.replicate own none++τ.drop own
def KG (g:AG)(t:AT)(a:AI)(own2:Nat)(d:AG)(t2:AT)(te:AE)(b:BC)(Q:km PV->Prop):km PV->km PV->Prop
 | [],acc=>Q acc
 | x::r,acc=>g x b λc=>t c λok=>if ok=true then a c λys=>acc.length+ys.length<sizeLine/\DS d t2 te (Pd own2 c) (KG g t a own2 d t2 te b Q r) ys acc else KG g t a own2 d t2 te b Q r acc
def Mr (b:AI)(own:Nat)(ix:km Nat)(g:AG)(t:AT)(a:AI)(own2:Nat)(c:AG)(t2:AT)(te:AE):AA:=λτ Q=>b τ λxs=>KG g t a own2 c t2 te (Lf own ix τ) Q xs []
def SR.noOwn {K:AAY}{B:DJ}{T:kf->Prop}{H:Hp}{a:L2.St}{τ:BC}(s:SR K B T H a τ)(c:∀b,¬C5 a τ b){i:Nat}{xs:km PV}:τ[i]? ≠some (some (.own xs)):=λe=>by obtain⟨p,vs,d,_⟩:=s.own i xs e;exact c p ⟨i,xs,e,d⟩
def SR.swap {K:AAY}{B:DJ}{m f:kf->Prop}{n g:Hp}{a k:L2.St}{τ l:BC}(c:SR K B m n a τ)(o:∀b,¬C5 a τ b)(d:SR K B f g k l)(s:Mv K m (mt B a τ) n f (mt B a τ) g):SR K B f g a τ:=
 ⟨c.len,λi x e=>let ⟨v,h,r⟩:=c.val i x e;⟨v,h,r.mv s⟩,λi xs e=>absurd e (c.noOwn o),λi j xs ys p e=>absurd e (c.noOwn o),d.tp,d.bm,d.bt,d.st⟩
def Li {own:Nat}{τ:BC}{j:Nat}{x:AV}(h:(Pd own τ)[j]? =some (some x)):own<=j/\τ[j]? =some (some x):=by
 unfold Pd at h;by_cases hj:j<own
 .rw [ABQ (by simpa using hj),ACd,AAb hj] at h;cases h
 .have ax:own<=j:=by omega
  rw[ABh (by simpa using ax),ACV,ADG] at h;rw[show own+(j-own)=j by omega] at h;exact⟨ax,h⟩
def SR.cut {K:AAY}{B:DJ}{T:kf->Prop}{H:Hp}{c:L2.St}{τ:BC}{own:Nat}(s:SR K B T H c τ)(d:∀b,¬C5 c τ b):SR K B T H (OG own c) (Pd own τ)/\∀b,¬C5 (OG own c) (Pd own τ) b:=by have g:∀b,¬C5 (OG own c) (Pd own τ) b:=λb ⟨i,xs,h,f⟩=>d b ⟨i,xs,(Li h).2,(Mx f).2⟩;refine⟨⟨by simp[OG,Pd,s.len],λi x e=> ?_,λi xs e=>absurd (Li e).2 (s.noOwn d),λi j xs ys p e=>absurd (Li e).2 (s.noOwn d),s.tp,s.bm,s.bt,s.st⟩,g⟩;obtain⟨ax,f⟩:=Li e;obtain⟨v,hv,r⟩:=s.val i x f;refine⟨v, ?_,r.mv (.anti s.va λa z=>z.elim .inl λz=>absurd z (g a))⟩;unfold OG;rw[ABh (by simpa using ax),ACV,ADG,show own+(i-own)=i by omega];exact hv
structure Qy (D:Addr) (T:Addr->Prop) (H:Hp) (T':Addr->Prop) (H':Hp):Prop where
 keep:∀b o,¬T b->b≠D->H b=some o->H' b=some o
 sub:∀b,T b->T' b
 new:∀b,T' b->T b\/H b=none
 tp:∀b,H b≠none->H' b≠none
def Qy.refl {D:kf}{T:kf->Prop}{H:Hp}:Qy D T H T H:=⟨λ_ _ _ _ e=>e,λ_ e=>e,λ_ e=> .inl e,λ_ e=>e⟩
def Dv.atD {D:kf}{T a:kf->Prop}{H c:Hp}(s:Dv T H a c):Qy D T H a c:=⟨λb o t _ e=>s.keep b o t e,s.sub,s.new,λb e=>s.some e⟩
def Qy.upd {D:kf}{T:kf->Prop}{H:Hp}{o:HO}:Qy D T H T (upd H D o):=⟨λb a _ n e=>by rw[Ao n];exact e,λ_ e=>e,λ_ e=> .inl e,λb e=>by
 by_cases h:b=D
 .subst h;rw[Ap];exact λz=>nomatch z
 .rw [Ao h];exact e⟩
def Qy.trans {D:kf}{T c d:kf->Prop}{H f g:Hp}(a:Qy D T H c f)(b:Qy D c f d g):Qy D T H d g where
 keep:=λx o t n e=>b.keep x o (λz=>(a.new x z).elim t λz=>by rw[e] at z;cases z) n (a.keep x o t n e)
 sub:=λx t=>b.sub x (a.sub x t)
 new:=λx t=>(b.new x t).elim (λz=>a.new x z) λz=> .inr (by
  cases e:H x with
  | none=>rfl
  | some o=>exact absurd z (a.tp x (by rw[e];exact λz=>nomatch z)))
 tp:=λx e=>b.tp x (a.tp x e)
def cI {K:AAY}{s:kc}{wi wi2:TI}{ai Y:AI}{own own2:Nat}{ix:km Nat}{g g2:TG}{ag N:AG}{tt tt2:TT}{Z O:AT}{te:TE}{ta:AE}(hi:aK K s wi ai)(hg:LY K g ag)(ht:OF K tt Z)(ue:aK K true wi2 Y)(au:LY K g2 N)(wM:OF K tt2 O)(he:Fj K te ta):dC K (g9 wi own ix g tt wi2 own2 g2 tt2 te) (Mr ai own ix ag Z Y own2 N O ta):=by
 intro B T j τ H Q AQ sr h k;refine hi B T j τ H _ _ sr h λJ xs T1 H1 s1 walk h1 D hD=> ?_;have E:=sr.stp s1;have nt1:¬T1 D:=λz=>by obtain⟨o,e,_⟩:=(E.tp D z).mut;rw[hD] at e;cases e
 have lay:=Dv.lay (o:= .lst []) E.tp hD;refine⟨λi m H2=>m=xs.length-i/\∃T2 vs r,Dv T1 H1 T2 H2/\H2 D=some (.lst vs)/\¬T2 D/\A9 K T2 (λa=>mt B j τ a\/a=D) H2 vs r/\KG ag Z Y own2 N O ta (Lf own ix τ) AQ (xs.drop i) r,
  ⟨_,rfl,T1, [], [],lay,Ap,nt1, .nil,h1⟩, ?_⟩
 rintro i m H2 ⟨rfl,T2,vs,r,s2,jG,F,r2,h2⟩;have srb:=E.blk (own:=own) (ix:=ix) s2 hD jG F;have va2:IH T2 (λa=>mt B j τ a\/a=D) H2:=⟨srb.tp,srb.bm⟩;have w:=walk (λa=>mt B j τ a\/a=D) T2 H2 ⟨E.va,λb o t _ e=>s2.keep b o t e,s2.sub,λb n t=>(s2.new b t).elim id λz=>absurd z n,λb n z=>z.elim id λz=>by subst z;exact absurd hD n⟩ va2 (.inr s2.keep);by_cases Er:i<xs.length
 .have Vu:xs[i]? =some xs[i] :=ABD Er;rw[ACx Er] at h2;refine .inr ⟨w.go i _ Vu,λv H3 yl=> ?_⟩;obtain⟨s3,r3⟩:=w.yld i _ v H3 Vu yl;have P:=srb.stp s3;refine hg _ T2 _ _ H3 v _ _ _ P (r3.mv (.anti ⟨P.tp,P.bm⟩ λa z=>z.elim id λ⟨_,_,z,_⟩=>absurd z Gw)) h2 λu l sr4 o4 h4=> ?_;have no4:∀b,¬C5 u l b:=λb z=>by obtain⟨_,_,z,_⟩:=o4 b z;exact absurd z Gw
  refine ht _ T2 u l H3 _ _ sr4 h4 λok T5 H5 s5 h5=> ?_;have sr5:=sr4.stp s5;have m9:=s3.keep D _ F jG;have jH:=s5.keep D _ F m9;have nt5:¬T5 D:=λz=>(s5.new D z).elim F λn=>by rw[n] at m9;cases m9
  have r5:=(r2.stp s3 va2).stp s5 ⟨P.tp,P.bm⟩;cases ok with
  | false=> rw[AAa AAs] at h5 ⊢;exact⟨_,by omega,rfl,T5,vs,r,(s2.trans s3).trans s5,jH,nt5,r5,h5⟩
  | true=>
    rw[AAb rfl] at h5 ⊢;refine ue _ T5 u l H5 _ _ sr5 h5 λJ2 ys T6 H6 s6 walk2 h6=> ?_;obtain⟨hl,h6⟩:=h6;have R:=sr5.stp s6;have vo:=s6.keep D _ nt5 jH;have nt6:¬T6 D:=λz=>(s6.new D z).elim nt5 λn=>by rw[n] at jH;cases jH
    have va6:IH T6 (λa=>mt B j τ a\/a=D) H6:=⟨R.tp,R.bm⟩;have r6:=r5.stp s6 ⟨sr5.tp,sr5.bm⟩;have s06:=((s2.trans s3).trans s5).trans s6;refine⟨λG m2 H7=>m2=ys.length-G/\∃M f c,Dv T1 H1 M H7/\Qy D T6 H6 M H7/\H7 D=some (.lst f)/\¬M D/\A9 K M (λa=>mt B j τ a\/a=D) H7 f c/\c.length<=r.length+G/\
     DS N O ta (Pd own2 l) (KG ag Z Y own2 N O ta (Lf own ix τ) AQ (xs.drop (i+1))) (ys.drop G) c,
     ⟨_,rfl,T6,vs,r,s06, .refl,vo,nt6,r6,AAf _,h6⟩, ?_⟩
    rintro G m2 H7 ⟨rfl,M,f,c,s7,d7,vp,S,r7,ha7,h7⟩;have U:=E.blk (own:=own) (ix:=ix) s7 hD vp S;have mEq:∀a,mt (B.blk j τ D) u l a->mt B j τ a\/a=D:=λa z=>z.elim id λz=>absurd z (no4 a);have mv7:Mv K T6 (mt (B.blk j τ D) u l) H6 M (mt (B.blk j τ D) u l) H7:=⟨R.va,λb o t m e=>d7.keep b o t (λz=>m (.inl (.inr z))) e,d7.sub,λb n t=>(d7.new b t).elim id λz=>absurd z n,λ_ _ z=>z⟩;have mv7':Mv K T6 (mt (B.blk j τ D) u l) H6 M (λa=>mt B j τ a\/a=D) H7:=⟨R.va,λb o t m e=>d7.keep b o t (λz=>m (.inl (.inr z))) e,d7.sub,λb n t=>(d7.new b t).elim id λz=>absurd z n,λ_ _ z=> .inl z⟩;have sr7:=R.swap no4 U mv7;have va7:IH M (λa=>mt B j τ a\/a=D) H7:=⟨U.tp,U.bm⟩;obtain⟨sc7,no7⟩:=sr7.cut (own:=own2) no4;have w2:=walk2 (λa=>mt B j τ a\/a=D) M H7 mv7' va7 (.inl rfl);by_cases rQ:G<ys.length
    .have lU:ys[G]? =some ys[G] :=ABD rQ;rw[ACx rQ] at h7;refine .inr ⟨w2.go G _ lU,λv8 H8 yl8=> ?_⟩;obtain⟨s8,r8⟩:=w2.yld G _ v8 H8 lU yl8;have W:=sc7.stp s8;refine au _ M _ _ H8 v8 _ _ _ W (r8.mv (.anti ⟨W.tp,W.bm⟩ λa z=>z.elim id λz=>absurd z (no7 a))) h7 λσ9 τ9 sr9 o9 h9=> ?_;refine wM _ M σ9 τ9 H8 _ _ sr9 h9 λok T10 mN p uY=> ?_;have A:=sr9.stp p;have vq:=s8.keep D _ S vp;have jF:=p.keep D _ S vq;have X:¬T10 D:=λz=>(p.new D z).elim S λn=>by rw[n] at vq;cases vq
     have r10:=(r7.stp s8 va7).stp p ⟨W.tp,W.bm⟩;cases ok with
     | false=> rw[AAa AAs] at uY ⊢;exact⟨_,by omega,rfl,T10,f,c,(s7.trans s8).trans p,(d7.trans s8.atD).trans p.atD,jF,X,r10,by omega,uY⟩
     | true=>
       rw[AAb rfl] at uY ⊢;refine he _ T10 σ9 τ9 mN _ _ A uY λvy y I ph L r11 h11=> ?_;have C:=A.stp L;have vm:=L.keep D _ X jF;have nt11:¬I D:=λz=>(L.new D z).elim X λn=>by rw[n] at jF;cases jF
       have va11:IH I (λa=>mt B j τ a\/a=D) ph:=⟨C.tp,C.bm⟩;have r12:=r10.stp L ⟨A.tp,A.bm⟩;have s12:=((s7.trans s8).trans p).trans L;have tp13:∀a,I a->Fk (upd ph D (.lst (f ++ [vy]))) a:=λa t=>by obtain⟨d,x,e,z⟩:=C.tp a t;exact⟨d,x,by rw[Ao (λw=>by subst w;exact nt11 t)];exact e,z⟩
       have mv13:Mv K I (λa=>mt B j τ a\/a=D) ph I (λa=>mt B j τ a\/a=D) (upd ph D (.lst (f ++ [vy]))):=⟨va11,λb o _ m e=>by rw[Ao (λw=>m (.inr w))];exact e,λ_ t=>t,λ_ _ t=>t,λ_ _ z=>z⟩;refine⟨f,vm,by rw[r7.length];omega,_,(by omega:ys.length-(G+1)<ys.length-G),rfl,I,f ++ [vy],c ++ [y],⟨λb o t e=> ?_,s12.sub,s12.new,tp13⟩,((((d7.trans s8.atD).trans p.atD).trans L.atD).trans .upd),Ap,nt11,(r12.append (.cons (r11.mv (.anti C.va λa z=> .inl z)) .nil)).mv mv13,by simp;omega,h11⟩;rw[Ao (A5 e hD)];exact s12.keep b o t e
    .rw [ADd (as:=ys) (i:=G) (by omega)] at h7;exact .inl ⟨w2.stop G (by omega),_,(by omega:xs.length-(i+1)<xs.length-i),rfl,M,f,c,s7,vp,S,r7,h7⟩
 .rw [ADd (by omega)] at h2;refine .inl ⟨w.stop i (by omega), ?_⟩;exact k D vs r T2 H2 (s1.trans s2) (E.add s2 hD jG Mp.lst F) (s1.none hD) jG F (r2.mv (.anti va2 λa z=>by
   rcases z with(z|z)|z
   .exact .inl (.inl z)
   .exact .inr z
   .exact .inl (.inr z))) h2
def wR (K:AAY)(s:kc)(a:AI):TI:=λf H R=>∃(B:DJ) (T:kf->Prop) (τ:BC) (g:km PV->Prop),SR K B T H f τ/\a τ g/\
 ∀J xs d b,Dv T H d b->(∀M2 e c,Mv K d (mt B f τ) b e M2 c->IH e M2 c->(s=true\/Yr d b c)->VS K M2 J xs e c)->g xs->R J b
def kQ {K:AAY}{s:kc}{a:AI}:aK K s (wR K s a) a:=λB T d τ H R b c h k=>⟨B,T,τ,b,c,h,k⟩
section
variable {X:Cx}
def SI.of {b iter:kd}{s:kc}{a:AI}(h:SI X b iter s a):PI X b iter (wR X.K s a):=by obtain⟨t,p,e⟩:=h;intro Tb f d H R I hw;obtain⟨B,T,τ,g,i,h,c⟩:=hw;exact p Tb f d H R I (e B T d τ H R g i h c)
structure cu (X:Cx) (tg elt:Expr) (ifs:List Expr) (tg2 iter2:Expr) (ifs2:List Expr) (scope:Scope) (own:Nat) (ix:List Nat) (N:List Str) (g:AG) (t:AT) (ai2:AI) (own2:Nat) (g2:AG) (t2:AT) (te:AE):Prop where
 ex:∃g' t' wi2 g2' t2' te',OV X tg elt ifs tg2 iter2 ifs2 scope own ix N g' t' wi2 own2 g2' t2' te'/\LY X.K g' g/\OF X.K t' t/\aK X.K true wi2 ai2/\LY X.K g2' g2/\OF X.K t2' t2/\Fj X.K te' te
def Wa {h c iter d a:kd}{e b:km kd}{scope:Scope}{pos:Pos}{own own2:Nat}{ix:km Nat}{N:km Str}{g l:AG}{t t2:AT}{s:kc}{m f:AI}{n:AE}(hc:X.calm=true)(hi:SI X h iter s m)(O:cu X h c e d a b scope own ix N g t f own2 l t2 n)(hs:∀x,foldedSetIterable iter X.env x=pure x:=by intro _;rfl):SF X (.ListComp c [⟨h,iter,e,0⟩,⟨d,a,b,0⟩] scope pos) (Mr m own ix g t f own2 l t2 n):=by obtain⟨A,o,p⟩:=hi;obtain⟨g',t',r,u,v,w,O,y,st,i,j,k,z⟩:=O.ex;exact⟨_,fu hc o O hs,cI p y st i j k z⟩
def Y5 {n e c a:kd}{f b:km kd}{scope:Scope}{own own2:Nat}{ix:km Nat}{N:km Str}{g k:AG}{t t2:AT}{d:AI}{te:AE}(h1:scope.kind= .function)(h2:(scope.names.all λy=> !decide (y.2= .cell))=true)(o:(scope.names.all λy=> !decide (y.2= .local)||decide (scope.names.lookup y.1=some .local))=true)(p:(scope.names.all λy=> !decide (y.2= .free)||decide (X.env.scope.names.lookup y.1=some .cell))=true)(r:N.length=own+ix.length)(u:Pf X (relabel scope X.env) own ix N=true)(v:own2<=own)(l:∀cl C s H ex pn,SK own (blk X (relabel scope X.env) N cl C s H ex pn) n g)(m:∀cl C s H ex pn,lF (blk X (relabel scope X.env) N cl C s H ex pn) f t)(h:∀cl C s H ex pn,SI (blk X (relabel scope X.env) N cl C s H ex pn) c a true d)(i:∀cl C s H ex pn,SK own2 (blk X (relabel scope X.env) N cl C s H ex pn) c k)(j:∀cl C s H ex pn,lF (blk X (relabel scope X.env) N cl C s H ex pn) b t2)(val:∀cl C s H ex pn,SE (blk X (relabel scope X.env) N cl C s H ex pn) e te)(w:∀cl C s H ex pn x,foldedSetIterable a (blk X (relabel scope X.env) N cl C s H ex pn).env x=pure x:=by intro _ _ _ _ _ _ _;rfl):cu X n e f c a b scope own ix N g t d own2 k t2 te:=
 have O:=Y4 (te:=pw X.K te) h1 h2 o p r u (Lx (K:=X.K) (ag:=g)) (λcl C s H ex pn=>(l cl C s H ex pn).of) (λcl C s H ex pn=>(m cl C s H ex pn).of) (λcl C s H ex pn=>(val cl C s H ex pn).of)
 ⟨m6 X.K own g,qD X.K t,wR X.K true d,m6 X.K own2 k,qD X.K t2,pw X.K te,⟨O.kind,O.nocell,O.names,O.frees,O.ins,O.keep,Lx,v,O.tgt,O.tst,λcl C s H ex pn=>(h cl C s H ex pn).of,w,λcl C s H ex pn=>(i cl C s H ex pn).of,λcl C s H ex pn=>(j cl C s H ex pn).of,O.val⟩,Oo,Op,kQ,Oo,Op,Ub⟩
end
end PL
namespace PL
open PySem L2 PyProof.Rows
class iV (n:Nat) (τ:BC) (τ':outParam BC):Prop where
 e:Pd n τ=τ'
instance{τ:BC}:iV 0 τ τ:=⟨rfl⟩
instance{n:Nat}{x:ke AV}{r a:BC}[h:iV n r a] :iV (n+1) (x::r) (none::a):=⟨by rw[<-h.e];rfl⟩
section
variable {ai ai2:AI}{g g2:AG}{tt t2:AT}{te:AE}{τ τ':BC}{QL:km PV->Prop}{own own2:Nat}{ix:km Nat}
instance{a b:BC}[h1:qg own a][h2:qS ix τ b][c:cn a b τ'] :Wp (Mr ai own ix g tt ai2 own2 g2 t2 te τ QL) (ai τ λxs=>KG g tt ai2 own2 g2 t2 te τ' QL xs []):=⟨λk=>by unfold Mr Lf;rw[h1.e,h2.e,c.e];exact k⟩
instance{a ys:km PV}[h:iV own2 τ τ'] :Wp (DS g2 t2 te (Pd own2 τ) QL ys a) (DS g2 t2 te τ' QL ys a):=⟨λk=>by rw[h.e];exact k⟩
instance{i:Nat}{a b:AE}{nx bk ct:BC->Prop}{rt:PV->Prop}:Wp (Q1 i a b ⟨nx,rt,bk,ct⟩ τ) (b τ λy=>Ld i τ λxs=>a τ λk=>fY k λk=>ZY (Pt xs.length k) λj=>UX τ i (.own (xs.set j y)) nx):=⟨id⟩
theorem Pb (d:km PV->km PV->Prop)(hd:∀a,d [] a->QL a)(hs:∀x r a (R:km PV->Prop),(∀b,d r b->R b)->d (x::r) a->g x τ λc=>tt c λok=>if ok=true then ai2 c λys=>a.length+ys.length<sizeLine/\DS g2 t2 te (Pd own2 c) R ys a else R a):∀xs a,d xs a->KG g tt ai2 own2 g2 t2 te τ QL xs a
 | [],a,h=>hd a h
 | x::r,a,h=>hs x r a _ (λb h2=>Pb d hd hs r b h2) h
theorem XR {r:BC}:∀(ys a:km PV),QL (a++ys)->DS (Aq 0) EJ (aV 0) (none::r) QL ys a
 | [],a,h=>by rw[ACb] at h;exact h
 | y::ys,a,h=>XR ys (a ++ [y]) (by rw[ADs];exact h)
end
end PL
namespace L2
open PySem PySem.Spec PyProof.Rows
def vO (K:AAY)(l:kf):It:=
 ⟨λi H=>∃xs x,Fy K H l xs/\xs[i]? =some x,
  λi H v a=>∃T x,v= .ref T/\H T=none/\a=upd H T (.tup [.int i,x])/\∀xs,Fy K H l xs->xs[i]? =some x,
  λi H=>∃xs,Fy K H l xs/\xs.length<=i⟩
def cO {P:gn}{w:fe}{K:AAY}{es:km kd}{F:Nat}{pos:Pos}{e it l:kf}(B:e≠it):La P w K (.Tuple es F pos) (vO K l) [e,it] e (λk h=>(∃b,IsEnum h e it (k:Nat) b)/\h.IsListIter it l k) where
 mem:=by simp
 obj:=λk h st p hp=>by
  obtain⟨⟨b,he⟩,hi⟩:=st;have f:p=e\/p=it:=by simpa using hp
  rcases f with q|q
  .subst q;exact⟨_,he,λv z=>nomatch z⟩
  .subst q;obtain⟨o,a,c,d⟩:=hi;exact⟨o,a,λv z=>by rw[d] at z;cases z⟩
 keep:=λk h h' st j=>by obtain⟨⟨b,he⟩,hi⟩:=st;exact⟨⟨b,j e (by simp) _ he⟩,hi.at λo a=>j it (by simp) o a⟩
 item:=by
  intro X n hw r hc k Tb s C H E I m st t;subst n hw r;obtain⟨⟨b,he⟩,hi⟩:=st;obtain⟨xs,x,hq,hx⟩:=t;obtain⟨y,rv,p,hz⟩:=I.list hq;obtain⟨u,hu,G⟩:=rv.get hx;have i:e<s.heap.objs.size:=AAd he;have A:it<s.heap.objs.size:=by obtain⟨o,a,_⟩:=id hi;exact AAd a
  refine wpAny_pyNext_enum_item he hi p.isList (x:=u) (by simpa using hu) B λh1 J L M T N=> ?_;refine⟨_,rfl,wpAny_letOwnedTupleGo_enum (s:={s with heap:=h1,toks:=s.toks+1}) J λh2 c1 c2=> ?_⟩;have g:∀p o,p≠e->h1.get? p=some o->h2.get? p=some o:=λp o q z=>c2.extBut _ _ q z;have D:∀p∈ [e,it],p<s.heap.objs.size:=λp hp=>by
   have f:p=e\/p=it:=by simpa using hp
   rcases f with q|q
   .rw [q];exact i
   .rw [q];exact A
  have j:∀p o,p ∉ [e,it] ->s.heap.get? p=some o->h2.get? p=some o:=λp o hp z=>by
   have f:p≠e/\p≠it:=by simpa using hp
   exact g p o f.1 (N p o f.1 f.2 z)
  have O:Inv X Tb C (upd H s.heap.objs.size (.tup [.int k,x])) {s with heap:=h2,toks:=s.toks+1}:=I.turnedN m D j (AAf _)
   ⟨(by show 2<=sizeLine;decide), [.int k s.toks,u], .cons ⟨_,rfl⟩ (.cons G .nil),⟨_,g _ _ (ABK i) M,rfl,_,rfl⟩⟩
  have Q:H s.heap.objs.size=none:=I.fresh;refine⟨.ref s.heap.objs.size,upd H s.heap.objs.size (.tup [.int k,x]),O,rfl,⟨_,x,rfl,Q,rfl,λR h'=> ?_⟩,⟨⟨u, ?_⟩, ?_⟩,λp hp=> ?_⟩
  .rw [I.list_inj h' hq];exact hx
  .have:((k+1:Nat):Int)=(k:Int)+1:=by push_cast;rfl
   rw[this];exact c1
  .exact L.at λo z=>g it o B.symm z
  .rw [Ao (AAh (D p hp))];exact(m p hp).1
 done:=by
  intro X n hw r hc k Tb s C H E I m st t;subst n hw r;obtain⟨⟨b,he⟩,hi⟩:=st;obtain⟨xs,hq,hx⟩:=t;obtain⟨y,rv,p,hz⟩:=I.list hq;have hl:=rv.length;refine wpAny_pyNext_enum_end (I.ok.hd hc) he hi p.isList (by simp;omega) λh' S=>⟨rfl, ?_⟩;exact I.turnedL (t':=s.toks) m λp o hp z=>by
   have f:p≠e/\p≠it:=by simpa using hp
   exact S p o f.2 z
 self:=λ_ _ _ _ _ st h=>by obtain⟨⟨b,he⟩,_⟩:=st;exact wpAny_pyIter_enum he h
section
variable {X:Cx}
def rj (K:AAY)(b:TA):TI:=λc H R=>b c H λvs a=>∃l,vs= [.ref l] /\(∃xs,Fy K a l xs)/\R (vO K l) a
def ju {e:kd}{d:TA}{p pos b:Pos}{es:km kd}{g:Nat}(i:Gl X "enumerate")(hm:X.mg "enumerate" =none)(ha:PA X [e] d)(hs:starEach [e] X.env= [(false,eval e X.env)] :=by rfl):PI X (.Tuple es g b) (.Call (.Name "enumerate" p) [e] [] pos) (rj X.K d):=by
 intro Tb s j H R I h;refine Call_ (FB I i hm boot_enumerate (ACU (Bi (ha pos Tb s j H _ I h) λu a ⟨vs,k,c,r1,m⟩=> ?_) (by rw[hs];rfl) rfl));obtain⟨l,rfl,⟨xs,hl⟩,q⟩:=m;cases r1 with
 | cons r n=>
 cases n;cases r;obtain⟨o,rv,p,hz⟩:=c.list hl;refine call_enumerate_list p.isList λh' b1 b2 v t=> ?_;refine wpAny_pyIter_enum b1 ?_;have f:∀p∈ [a.heap.objs.size+1,a.heap.objs.size],a.heap.objs.size<=p:=λp hp=>by
  have w:p=a.heap.objs.size+1\/p=a.heap.objs.size:=by simpa using hp
  omega
 exact⟨_,_,_,_,k,rfl,c.kept (t':=a.toks) t,cO (Nat.succ_ne_self _),⟨⟨.none,b1⟩,b2⟩,λp hp=>c.fpOk (f p hp) (c.hok.fresh (f p hp)),q⟩
end
end L2
namespace PL
open PySem PySem.Spec PyProof.Rows L2
def Fo (k:Nat):km PV->km PV
 | [] => []
 | x::r=> .tup [.int k,x] :: Fo (k+1) r
theorem Rt:∀(xs:km PV) (k:Nat),(Fo k xs).length=xs.length
 | [],_=>rfl
 | _::r,k=>by rw[Fo,AAz,Rt r,AAz]
theorem M0:∀(xs:km PV) (k i:Nat) (z:PV),(Fo k xs)[i]? =some z->∃x,xs[i]? =some x/\z= .tup [.int ((k+i:Nat):Int),x]
 | [],_,_,_,h=>by simp[Fo] at h
 | x::r,k,0,z,h=>⟨x,rfl,by simp[Fo] at h;rw[<-h];rfl⟩
 | x::r,k,i+1,z,h=>by obtain⟨y,h1,h2⟩:=M0 r (k+1) i z (by simpa[Fo] using h);refine⟨y,by simpa using h1, ?_⟩;rw[h2,show k+1+i=k+(i+1) by omega]
def bF {K:AAY}{T M:kf->Prop}{H:Hp}{l:kf}{xs:km PV}(va:IH T M H)(r:Ce K T M H (.ref l) (.lst xs)):VS K M (vO K l) (Fo 0 xs) T H:=by
 obtain⟨a,vs,e,hq,g,j,rs⟩:=C0 r;cases e;have b:Fy K H l vs:= .inl (.inl hq);refine⟨λi z h=> ?_,λi z v k h d=> ?_,λi h=>⟨vs,b, ?_⟩⟩
 .obtain ⟨x,hx,_⟩:=M0 xs 0 i z h;obtain⟨u,hu,_⟩:=rs.get hx;exact⟨vs,u,b,hu⟩
 .obtain ⟨x,hx,rfl⟩:=M0 xs 0 i z h;obtain⟨p,u,rfl,hn,rfl,hu⟩:=d;obtain⟨m,c,f⟩:=rs.get' (hu vs b);rw[hx] at c;cases c;have st:=Dv.lay (o:= .tup [.int (i:Nat),u]) va.tp hn;rw[Nat.zero_add];exact⟨st, .tup (.inl Ap) (.cons (.int _) (.cons (f.stp st va) .nil))⟩
 .rw [rs.length];rw[Rt] at h;exact h
section
variable {X:Cx}
def vc (r:AA):AI:=λτ Q=>r τ λa=>match a with | [.lst xs] =>Q (Fo 0 xs)|_=>False
def wm {e:kd}{r:AA}{p pos b:Pos}{es:km kd}{c:Nat}(d:Gl X "enumerate")(hm:X.mg "enumerate" =none)(ha:SA X [e] r)(hs:starEach [e] X.env= [(false,eval e X.env)] :=by rfl):SI X (.Tuple es c b) (.Call (.Name "enumerate" p) [e] [] pos) true (vc r):=by
 obtain⟨t,f,s⟩:=ha;refine⟨_,ju d hm f hs,λB T g τ H R u i h k=>s B T g τ H _ _ i h λvs xs j l m r1 h1=> ?_⟩;split at h1 <;> first | exact h1.elim|skip
 cases r1 with
 | cons ra t=> cases t;obtain⟨a,n,rfl,hq,_,_,rs⟩:=C0 ra;exact⟨a,rfl,⟨n, .inl (.inl hq)⟩,k _ _ j l m (λM2 v w o va _=>bF va (ra.mv o)) h1⟩
end
section
variable {X:Cx}{a b c:kd}{ta tb tc:AE}{pos:Pos}
def uW (f d:Ik)(ta tb tc:AE):AE:=λτ Q=>ta τ λx=>tb τ λy=>f x y λz=>ji z λk=>if k=true then tc τ λw=>d y w Q else Q (.bl false)
def pF {r p:R2}{f A:Ik}{t u v:TE}(E:B8 X.K r f)(F:B8 X.K p A)(ha:Fj X.K t ta)(hb:Fj X.K u tb)(hc:Fj X.K v tc):Fj X.K (g6 r p t u v) (uW f A ta tb tc):=by
 intro B T m τ H Q G s h k;refine ha B T m τ H _ _ s h λI x J L e r1 h1=> ?_;refine hb B J m τ L _ _ (s.stp e) h1 λC y M N g r2 h2=> ?_;have n:=(s.stp e).stp g;refine E M _ N I C x y _ _ n.va (r1.stp g (s.stp e).va) r2 h2 λw z T3 D j O q=> ?_;obtain⟨i,rfl,l⟩:=UG q;clear q;refine⟨i,O.toB, ?_⟩;have d:=n.stp j;cases i with
 | false=> rw[AAa (by decide)] at l ⊢;exact k _ _ T3 D ((e.trans g).trans j) (.bl false) l
 | true=> rw[AAb rfl] at l ⊢;refine hc B T3 m τ D _ _ d l λP y4 R S o U W=> ?_;exact F R _ S C P y y4 Q G (d.stp o).va ((r2.stp j n.va).stp o d.va) U W λw z Y Z s5 r5 q=>k w z Y Z (((e.trans g).trans j).trans (o.trans s5)) r5 q
def t8 {op d:CmpOp}{r e:R2}{f g:Ik}(h:Ee X (compareOp op) r/\B8 X.K r f)(i:Ee X (compareOp d) e/\B8 X.K e g)(ha:SE X a ta)(hb:SE X b tb)(hc:SE X c tc)(hm:lastMarks [op,d] [b,c] =false:=by with_unfolding_all rfl):TJ X (.Compare a [op,d] [b,c] pos) (Am (uW f g ta tb tc)):=
 let ⟨_,p,s⟩:=ha;let ⟨_,j,k⟩:=hb;let ⟨_,p2,l⟩:=hc;⟨_,gF h.1 i.1 p j p2 hm,Oq (pF h.2 i.2 s k l)⟩
end
instance{f a:Ik}{b c d:AE}{τ:BC}{Q:PV->Prop}:Wp (uW f a b c d τ Q) (b τ λx=>c τ λy=>f x y λz=>ji z λk=>if k=true then d τ λw=>a y w Q else Q (.bl false)):=⟨id⟩
end PL
namespace L2
open PySem PySem.Spec PyProof.Rows
def kH:typeLookup (.type "reversed") "__len__" =pure none:=by rw[AC0,AC1];kernel_rfl
def gS:typeLookup (.type "reversed") "__length_hint__" =pure (some (.builtin "reversed.__length_hint__")):=by rw[AC0,AC1];kernel_rfl
def fZ:1<=sizeLine:=by decide
def Qn {h h':da}{l:kf}{items:Array kj}(x:IsTup h l items)(e:∀o,h.get? l=some o->h'.get? l=some o):IsTup h' l items:=let ⟨o,a,b⟩:=x;⟨o,e o a,b⟩
def Uw:typeOf (.builtin "reversed.__length_hint__")=pure (.type "method_descriptor"):=by kernel_rfl
def Uh:Slot "reversed" "__length_hint__" "reversed.__length_hint__" :=
 .of (owner:="reversed") (n:="__length_hint__") (by rw[AC0,AC1];kernel_rfl) (by decide +kernel) (by decide +kernel) (by decide +kernel)
   (by first | exact .inl (by decide +kernel)|exact .inr (by decide +kernel)) (by rw[ABG];kernel_rfl)
def Q6:entryFor table "reversed.__length_hint__" =some Builtin.«reversed.__length_hint__»:=entryFor_of_tree (by kernel_rfl)
def PU (a:kj):argsOk "reversed.__length_hint__" ⟨[a], []⟩:=by unfold argsOk;rw[signature?_of (id:="reversed.__length_hint__") (n:= ['_','_','t','n','i','h','_','h','t','g','n','e','l','_','_']) (o:= ['d','e','s','r','e','v','e','r']) (by kernel_rfl) QE];kernel_rfl
section
variable {prog:gn}{w:fe}{A:Wf}{E:kj->ki->Prop}{s:ki}
def nE {I l:kf}{items:Array kj}{Q:kj->ki->Prop}(b:Ed s.heap I l ((items.size:Int)-1))(hl:IsTup s.heap l items)(c:(items.size:Int)<2^63)(hQ:∀t d,Q (.int (items.size:Int) t) {s with toks:=d}):wpAny (model prog w) A (call (.builtin "reversed.__length_hint__") [.ref I]) Q E s:=by refine ABJ Uh b.typeIs Q6 ?_ (PU _);unfold Builtin.«reversed.__length_hint__»;refine AAX (ABF (a:=Value.ref I) rfl ?_);refine AAX (AAo b rfl (x:= .ref l) rfl ?_);rw[AAa (by intro z;cases z)];refine AAX (len_tuple hl c ?_);refine AAX (ABF (a:=some (items.size:Int)) rfl ?_);dsimp only;refine AAX (AAo (s:={s with toks:=s.toks+1+1}) b rfl (x:=rawInt ((items.size:Int)-1)) rfl ?_);show wpAny _ _ (if (items.size:Int)<(items.size:Int)-1+1 then _ else _) _ _ _;rw[AAa (by omega)];unfold retInt;refine AAX (wpAny_mkInt (AAZ ⟨_,rfl, ?_⟩));rw[show (items.size:Int)-1+1=items.size by omega];exact hQ _ _
def nu {q m:kf}{k:Nat}{xs:Array kj}{x:kj}{Q:ke kj->ki->Prop}(hq:Ed s.heap q m ((xs.size:Int)-1-k))(hl:IsTup s.heap m xs)(g:(xs.size:Int)<2^63)(hk:k<xs.size)(hx:xs[xs.size-1-k]? =some x)(hQ:∀h' b,Ed h' q m ((xs.size:Int)-1-(k+1:Nat))->Heap.SameBut q s.heap h'->Q (some x) {s with heap:=h',toks:=b}):wpAny (model prog w) A (pyNext (.ref q)) Q E s:=by
 unfold pyNext;refine AAX (ABs (ABe (name:=Str.ofString "__next__") hq.typeIs Ck (ABJ Ck hq.typeIs GE ?_ (Fm _))));unfold Builtin.«reversed.__next__»;refine AAX (ABF (a:=(Value.ref q, [])) rfl ?_);try dsimp only
 refine AAX (AAo hq rfl (x:= .ref m) rfl ?_);refine AAX (AAo hq rfl (x:=rawInt ((xs.size:Int)-1-k)) rfl ?_);show wpAny _ _ (if ((xs.size:Int)-1-k)<0 then _ else _) _ _ s;rw[AAa (by omega)];refine AAX (ABc hl.typeIs ACW.lookup ?_);rw[AAa (by decide)];refine AAX (wpAny_mkInt ?_);have c:seqIndex? ((xs.size:Int)-1-k) xs.size=some (xs.size-1-k):=by
  unfold seqIndex?;have d:¬((xs.size:Int)-1-k<0):=by omega
  have e:(0:Int)<=(xs.size:Int)-1-k:=by omega
  have f:(xs.size:Int)-1-k<xs.size:=by omega
  simp only[AAa d,e,f,decide_true,AEr,ABU];congr 1;omega
 refine AAX (ABs (getItem_tuple hl (by omega) (by omega) c hx ?_));refine AAX (AAo (s:={s with toks:=s.toks+1}) hq rfl (x:=rawInt ((xs.size:Int)-1-k)) rfl ?_);refine AAX (ACe (s:={s with toks:=s.toks+1}) hq rfl (by simp) (AAZ ⟨x,rfl,AAZ (hQ _ _ ?_ (ACf ..))⟩));unfold Ed;rw[ABq _ hq (ADY (ACv rfl _))];rw[show (xs.size:Int)-1-(k+1:Nat)=(xs.size:Int)-1-k-1 by omega];rfl
def qw {q m:kf}{Q:ke kj->ki->Prop}(c:A.handled=none)(hq:Ed s.heap q m (-1))(hQ:∀h' d,Heap.ExtBut q s.heap h'->Q none {s with heap:=h',toks:=d}):wpAny (model prog w) A (pyNext (.ref q)) Q E s:=by
 unfold pyNext;refine AAX (ABs (ABe (name:=Str.ofString "__next__") hq.typeIs Ck (ABJ Ck hq.typeIs GE ?_ (Fm _))));unfold Builtin.«reversed.__next__»;refine AAX (ABF (a:=(Value.ref q, [])) rfl ?_);try dsimp only
 refine AAX (AAo hq rfl (x:= .ref m) rfl ?_);refine AAX (AAo hq rfl (x:=rawInt (-1)) rfl ?_);show wpAny _ _ (if (-1:Int)<0 then _ else _) _ _ s;rw[AAb (by decide)];refine AAX (ABT (AAX ?_))
 wp_delta
 refine AAX (ACe hq rfl (by simp) ?_);have e:(s.heap.update q (Obj.mapFields λxs=>xs.setIfInBounds 1 (rawInt (-1)))).get? q=some (YN m (-1)):=by rw[ABq _ hq (ADY (ACv rfl _))];rfl
 refine ACe e rfl (by simp) ?_;refine AAX (m:=Builtin.SmallTypes.stopIteration) ?_;unfold Builtin.SmallTypes.stopIteration;refine AAX (m:=newExc (.type "StopIteration") []) ?_;simp only[newExc,newTuple];refine AAX (ABM ?_ (by size_fits));refine AAX (m:=firstArgMember _ _) (ABF (a:=Value.none) (by first | rfl|(simp only[firstArgMember];rfl)) (ABM ?_ (by size_fits)));simp only[raiseNew];refine AAX (wpAny_handled ?_);first | rw[show A.in1.handled=none from c] | rw[c]
 refine AAX (AAZ (wpAny_throw ?_));refine AAX (ABy (T:="StopIteration") (b:=true) ⟨_,AAj _ rfl,rfl⟩ (by rw[ABG];kernel_rfl) ?_);rw[AAb rfl];exact AAZ (hQ _ _ ((((ACf ..).trans (ACf ..)).extBut.push _).push _))
def pT (d:A.handled=none)(I l:kf)(f:l≠I)(items:Array kj)(g:(items.size:Int)<2^63):Walks prog w A I [I,l] [I] items.size (λi v=>items[items.size-1-i]? =some v) (λi h=>i<=items.size/\Ed h I l ((items.size:Int)-1-i)/\IsTup h l items) where
 sub b h:=by simp at h;simp[h]
 frame i h h' x e:=⟨x.1,e I (by simp) _ x.2.1,Qn x.2.2 λo=>e l (by simp) o⟩
 item i s Q E hi x hQ:=by obtain⟨h1,h2,a⟩:=x;have hx:items[items.size-1-i]? =some items[items.size-1-i] :=AEU (by omega);refine nu h2 a g hi hx λh' j r c=>hQ _ _ _ hx ⟨by omega,r,Qn a λo=>c.extBut _ o f⟩ λb o hb=>c.extBut _ o (by simpa using hb)
 done s Q E x hQ:=by obtain⟨h1,h2,a⟩:=x;rw[show (items.size:Int)-1-(items.size:Nat)= -1 by omega] at h2;exact qw d h2 λh' j e=>hQ _ _ λb o hb=>e _ o (by simpa using hb)
 self i s Q E x h:=Tn x.2.1 h
def mj {R:Result->ki->Prop}{I l S:kf}{items:Array kj}{c:Nat}{res:kj}(D:A.handled=none)(hl:IsTup s.heap l items)(z:(items.size:Int)<2^63)(n:Ed s.heap I l ((items.size:Int)-1))(G:l≠I)(B:S≠l)(r:S≠I)(u:s.heap.get? S=some {cls:= .type "list",data:= .seq #[] c})(H:∀h' k g h,(∀b o,b≠S->b≠I->s.heap.get? b=some o->h'.get? b=some o)->h'.get? S=some {cls:= .type "list",dict:=none,data:= .seq g h,slots:= #[] }->ItemsOf (λi v=>items[items.size-1-i]? =some v) g items.size->R (.ok (.ret res)) {s with heap:=h',toks:=k})(hn:items.size<=sizeLine):wpAny (model prog w) A.in1 (Builtin.List.listExtendWith (.ref S) (.ref I) res) (λa d=>match a with | .done f=>R (.ok f) d | .again h=>h.quiet=true/\codeAny (model prog w) A h R d) (λe d=>R (.error e) d) s:=by
 have p:s.TypeIs (.ref I) "reversed" :=n.typeIs;have W:=pT (prog:=prog) (w:=w) (A:=A.in1) D I l G items z;have y:S ∉ [I,l] :=λhm=>by
  have:S=I\/S=l:=by simpa using hm
  exact this.elim r B
 unfold Builtin.List.listExtendWith;refine AAX (ACr p ?_);simp only[show Builtin.List.listSameRef (.ref S) (.ref I)=false by simp[Builtin.List.listSameRef,r],show (Value.type "reversed" == Value.type "list")=false by decide,show (Value.type "reversed" == Value.type "tuple")=false by decide,ADq,ABO,ABE];refine AAX (Tn n (AAX (ABV ?_)));unfold Builtin.List.listLengthHint;refine AAX (ABc p kH ?_);show wpAny _ A.in1 (specialOf (Value.ref I) (Str.ofString "__length_hint__") >>= _) _ _ _;refine AAX (ABc p gS ?_)
 wp_delta
 refine AAX (ABy (T:="reversed") (b:=true) p (by rw[ABG];kernel_rfl) ?_);show wpAny _ _ (rule "list.length-hint.hint" >>= _) _ _ _;refine AAX (ABT (AAX ?_));unfold bindSpecial;refine AAX (ABF (s:=s) Uw ?_);refine AAZ ?_;refine AAX (ABs (nE n hl z λt k=> ?_));dsimp only;have J:asInt? (.int (items.size:Int) t)=pure (some (items.size:Int)):=rfl;refine AAX ?_;rw[J];refine AAZ ?_;dsimp only;have f1:Builtin.List.listFitsIndex (items.size:Int)=true:=by unfold Builtin.List.listFitsIndex;rw[AAt (by omega),AAt (by omega)];rfl
 have f2:Builtin.List.listTooLong (items.size:Int).toNat=false:=by unfold Builtin.List.listTooLong;exact AAm (by omega)
 rw[f1,f2,AAa (by decide),AAa (by omega),AAa (by decide)];refine AAZ ?_;have a:∀(j:da) (c0:Nat),(∀b o,b≠S->s.heap.get? b=some o->j.get? b=some o)->j.get? S=some {cls:= .type "list",data:= .seq #[] c0}->wpAny (model prog w) A.in1 (again (Code.builtin "list.extend.loop" {pos:= [Value.ref S,Value.ref I,res] })) (λa d=>match a with | .done f=>R (.ok f) d | .again h=>h.quiet=true/\codeAny (model prog w) A h R d) (λe d=>R (.error e) d) {s with heap:=j,toks:=k}:=λj c0 up h1=>by
  have K:(items.size:Int)-1-((0:Nat):Int)=(items.size:Int)-1:=by omega
  have L:Ed j I l ((items.size:Int)-1):=up I _ r.symm n;have M:IsTup j l items:=Qn hl λo=>up l o B.symm;refine AAZ ⟨plainId_quiet F.plain_extend_loop _,codeAny_extend_loopS W.toS hn _ y _ items.size 0 {s with heap:=j,toks:=k} _ _ rfl (ABH _) ⟨ABH _,by rw[K];exact L,M⟩ h1 (ItemsOf.nil _) λd g h hm N O=> ?_⟩;rw[Moved.eq_with hm];refine H d.heap d.toks g h (λb C h1 h2 e=>hm.heap b C (λwF=> ?_) (up b C h1 e)) N O;have:b=S\/b=I:=by simpa using wF
  exact this.elim h1 h2
 split
 .refine AAX (ABT (AAX ?_));unfold Builtin.List.listTouch;refine AAX (m:=updateSeq S λx=>x.push .none) (ADr (s:={s with toks:=k}) u rfl ?_ (ABH _) (Nat.le_add_left 1 sizeLine));have h2:=ABq (Obj.mapSeq (λx:Array kj=>x.push .none)) u rfl;refine(ADr (f:=λx=>x.pop) (s:={s with heap:=s.heap.update S (Obj.mapSeq λx=>x.push .none),toks:=k}) h2 rfl ?_ fZ (ABH _):wpAny _ _ (updateSeq S λx=>x.pop) _ _ _);have P:=ABq (Obj.mapSeq (λx:Array kj=>x.pop)) h2 rfl;refine a _ _ (λb o hb e=> ?_) P;rw[ACs _ _ (ABW hb),ACs _ _ (ABW hb)];exact e
 .exact a s.heap c (λ_ _ _ e=>e) u
def jP {R:Result->ki->Prop}{I l S:kf}{items:Array kj}{c:Nat}(e:A.handled=none)(hl:IsTup s.heap l items)(f:(items.size:Int)<2^63)(g:Ed s.heap I l ((items.size:Int)-1))(h:l≠I)(j:S≠l)(k:S≠I)(m:s.heap.get? S=some {cls:= .type "list",data:= .seq #[] c})(n:∀h' p d r,(∀b o,b≠S->b≠I->s.heap.get? b=some o->h'.get? b=some o)->h'.get? S=some {cls:= .type "list",dict:=none,data:= .seq d r,slots:= #[] }->ItemsOf (λi v=>items[items.size-1-i]? =some v) d items.size->R (.ok (.ret (.ref S))) {s with heap:=h',toks:=p})(hn:items.size<=sizeLine):codeAny (model prog w) A (Code.builtin "list.__iadd__" {pos:= [.ref S, .ref I] }) R s:=by refine codeAny_builtin F.entry_list_iadd ?_;rw[Around.under_plainId (by decide +kernel)];unfold Builtin.«list.__iadd__»;refine AAX (ABF (a:=(Value.ref S, [Value.ref I])) rfl ?_);exact mj e hl f g h j k m n hn
def XS {Q:km kj->ki->Prop}{I l:kf}{items:Array kj}(j:A.handled=none)(hl:IsTup s.heap l items)(k:(items.size:Int)<2^63)(g:Ed s.heap I l ((items.size:Int)-1))(n:l≠I)(hn:items.size<=sizeLine)(hQ:∀(h':da) (c:Nat) (a:Array kj),s.heap.objs.size<h'.objs.size->(∀b o,b≠I->s.heap.get? b=some o->h'.get? b=some o)->ItemsOf (λi v=>items[items.size-1-i]? =some v) a items.size->Q a.toList {s with heap:=h',toks:=c}):wpAny (model prog w) A (collect (.ref I)) Q E s:=by
 have d:l<s.heap.objs.size:=by obtain⟨o,e,_⟩:=id hl;exact AAd e
 have f:I<s.heap.objs.size:=AAd g;have up:∀b o,s.heap.get? b=some o->(s.heap.push {cls:= .type "list",data:= .seq (#[] :Array kj)}).get? b=some o:=λb o e=>AAe _ e;unfold collect;refine AAX (wpAny_runValue (codeAny_builtin F.entry_proto_collect ?_));refine AAX (m:=newList []) (wpAny_newList ?_ (ABH _));refine AAZ ⟨plainId_quiet (by decide +kernel) _,jP (s:={s with heap:=s.heap.push {cls:= .type "list",data:= .seq (#[] :Array kj)}}) (I:=I) (l:=l) (items:=items) j (Qn hl λo e=>up l o e) k (up I _ g) n (ABK d) (ABK f) (AAj _ rfl) (λh' c a r hk h p=> ?_) hn⟩;dsimp only;refine AAX (wpAny_load h ?_);exact AAZ (hQ h' c a (AAd h) (λb o h1 e=>hk b o (AAh (AAd e)) h1 (up b o e)) p)
def Yi (I l:kf)(items:Array kj):Meets (Builtin.«tuple.__new__» ⟨[.type "tuple", .ref I], []⟩) (λA R s=>A.handled=none/\IsTup s.heap l items/\(items.size:Int)<2^63/\Ed s.heap I l ((items.size:Int)-1)/\l≠I/\items.size<=sizeLine/\∀(h':da) (d:Nat) (c:Array kj),s.heap.objs.size<h'.objs.size->(∀b o,b≠I->s.heap.get? b=some o->h'.get? b=some o)->ItemsOf (λi v=>items[items.size-1-i]? =some v) c items.size->R (.ok (.ret (.ref h'.objs.size))) {s with heap:=h'.push {cls:= .type "tuple",data:= .seq c},toks:=d}):=
 .of_wp λprog w A R s h=>by
   obtain⟨f,hl,g,e,j,hn,h⟩:=h;unfold Builtin.«tuple.__new__»;refine AAX (ABF (a:=true) (by first | rfl|kernel_rfl) ?_);try dsimp only
   rw[AAa (by decide)];refine AAX (ABF (a:=true) (by first | rfl|kernel_rfl) ?_);try dsimp only
   rw[AAa (by decide),AAa (by decide +kernel)];refine AAX (ABF (a:=()) (by first | rfl|kernel_rfl) ?_);refine AAX (ABF F.called_tuple.init.lookup ?_);rw[AAb (by decide +kernel)];refine AAX (ABF (a:=()) (by first | rfl|kernel_rfl) ?_);refine AAX (ABF (a:=()) (by first | rfl|kernel_rfl) ?_);rw[AAb (by decide +kernel)];refine AAX ?_;unfold Builtin.Tuple.tupleIsExact;refine AAX (ACr e.typeIs (AAZ ?_));rw[AAa (by decide +kernel)];refine AAX (XS f hl g e j hn λh' d c hs hk ha=> ?_);refine AAX (AAZ ?_);refine AAX ?_;unfold Builtin.Tuple.tupleExact;refine ABM (AAZ ⟨_,rfl, ?_⟩) (show c.toList.toArray.size<=sizeLine by have:=ha.1;simp;omega);have:=h h' d c hs hk ha;simpa using this
def iD {I l:kf}{items:Array kj}{Q:kj->ki->Prop}(d:A.handled=none)(hl:IsTup s.heap l items)(e:(items.size:Int)<2^63)(f:Ed s.heap I l ((items.size:Int)-1))(g:l≠I)(hn:items.size<=sizeLine)(hQ:∀(h':da) (c:Nat) (a:Array kj),s.heap.objs.size<h'.objs.size->(∀b o,b≠I->s.heap.get? b=some o->h'.get? b=some o)->ItemsOf (λi v=>items[items.size-1-i]? =some v) a items.size->Q (.ref h'.objs.size) {s with heap:=h'.push {cls:= .type "tuple",data:= .seq a},toks:=c}):wpAny (model prog w) A (call (.type "tuple") [.ref I]) Q E s:=
 AEI F.called_tuple (by decide) (F.typeCall_tuple_1 _) (F.newCall_tuple_1 _) (λobj=>F.args_object_init_2 obj _) F.entry_tuple_new (Yi I l items) ⟨d,hl,e,f,g,hn,λh' c a hs hk ha=>⟨⟨_,AAj _ rfl,rfl⟩,hQ h' c a hs hk ha⟩⟩
end
section
variable {X:Cx}
def cC {a:km kj}{b:Array kj}(h:ItemsOf (λi v=>a.toArray[a.toArray.size-1-i]? =some v) b a.toArray.size):b=a.reverse.toArray:=by
 obtain⟨h1,h2⟩:=h;have c:b.size=a.length:=by simpa using h1
 apply Array.ext
 .rw [c];simp
 .intro i hi f;have:=h2 i b[i] (AEU hi);have e:a.reverse[i]? =some b[i] :=by rw[AFO (by omega)];simpa using this
  obtain⟨g,d⟩:=ABC.mp e;simp[<-d]
def uI (K:AAY)(te:TE):TE:=λc H Q=>te c H λx b=>∃a xs,x= .ref a/\Sq K false b a xs/\∀p,b p=none->Q (.ref p) (upd b p (.tup xs.reverse))
def jt {e:kd}{te:TE}{p p2 pos d:Pos}(hc:X.calm=true)(u:Gl X "tuple")(hm:X.mg "tuple" =none)(w:Gl X "reversed")(y:X.mg "reversed" =none)(he:PE X e te)(hs:starEach [.Call (.Name "reversed" p2) [e] [] d] X.env= [(false,eval (.Call (.Name "reversed" p2) [e] [] d) X.env)] :=by rfl)(m:starEach [e] X.env= [(false,eval e X.env)] :=by rfl):PE X (.Call (.Name "tuple" p) [.Call (.Name "reversed" p2) [e] [] d] [] pos) (uI X.K te):=by
 intro Tb s z H Q I h;refine Call_ (FB I u hm PyProof.Rows.boot_tuple (ACU ?_ (by rw[hs];rfl) rfl));rw[hs];show wpAny _ _ (spliced ((false,eval (.Call (.Name "reversed" p2) [e] [] d) X.env) :: [])) _ _ s;refine ACN ?_;refine Call_ (FB I w y boot_reversed (ACU ?_ (by rw[m];rfl) rfl));rw[m];show wpAny _ _ (spliced ((false,eval e X.env) :: [])) _ _ s;refine ACN (Bi (he Tb s z H _ I h) λv f ⟨x,D,i,r1,A⟩=>ACp ?_);obtain⟨a,xs,rfl,hx,q⟩:=A;cases r1;obtain⟨c,r,sv,hz⟩:=i.sq hx;have n:c.toArray.size=xs.length:=by rw[AAp,<-r.length]
 have j:a<f.heap.objs.size:=by obtain⟨o,e,_⟩:=sv;exact AAd e
 have g:(c.toArray.size:Int)<2^63:=by rw[n];exact AEv (AEw.mpr hz) (by decide)
 refine Y1 sv g (ACp ?_);have up:∀b o,f.heap.get? b=some o->(f.heap.push (YN a ((c.toArray.size:Int)-1))).get? b=some o:=λb o e=>AAe _ e;have k:(f.heap.push (YN a ((c.toArray.size:Int)-1))).objs.size=f.heap.objs.size+1:=ABd ..;refine iD (s:={f with heap:=f.heap.push (YN a ((c.toArray.size:Int)-1)),toks:=f.toks+1+1}) (I:=f.heap.objs.size) (l:=a) (items:=c.toArray) (I.ok.hd hc) (Qn sv λo e=>up a o e) g (AAj _ rfl) (AAh j) (by rw[n];exact hz) (λh' B C hsz hk ha=> ?_);rw[cC ha];have hsz:(f.heap.push (YN a ((c.toArray.size:Int)-1))).objs.size<h'.objs.size:=hsz;rw[k] at hsz;refine⟨.ref _,_,i.laid (t':=B) (o:= .tup xs.reverse) (λb t q=>AAe _ (hk b t (AAh (AAd q)) (up b t q))) ?_ ?_,rfl,q _ (i.hok.fresh ?_)⟩
 .omega
 .exact ⟨by rw[AES];exact hz,_,r.reverse,⟨_,AAj _ rfl,rfl,_,rfl⟩⟩
 .omega
end
end L2
namespace PL
open PySem PySem.Spec PyProof.Rows L2
section
variable {X:Cx}
def dH (a:AE):AE:=λτ Q=>a τ λx=>match x with | .tup xs=>Q (.tup xs.reverse)|_=>False
def kK {e:kd}{d:AE}{p p2 pos a:Pos}(hc:X.calm=true)(f:Gl X "tuple")(hm:X.mg "tuple" =none)(g:Gl X "reversed")(i:X.mg "reversed" =none)(he:SE X e d)(hs:starEach [.Call (.Name "reversed" p2) [e] [] a] X.env= [(false,eval (.Call (.Name "reversed" p2) [e] [] a) X.env)] :=by rfl)(j:starEach [e] X.env= [(false,eval e X.env)] :=by rfl):SE X (.Call (.Name "tuple" p) [.Call (.Name "reversed" p2) [e] [] a] [] pos) (dH d):=by
 obtain⟨t,m,s⟩:=he;refine⟨_,jt hc f hm g i m hs j,λB T n τ H Q w b h k=>s B T n τ H _ _ b h λv x r y c r1 h1=> ?_⟩;split at h1 <;> first | exact h1.elim|skip
 obtain⟨_,vs,rfl,hq,rs⟩:=DG r1;refine⟨_,vs,rfl,hq,λq u=> ?_⟩;have l:=Dv.lay (o:= .tup vs.reverse) (b.stp c).tp u;exact k _ _ r _ (c.trans l) (.tup (.inl Ap) (rs.reverse.stp l (b.stp c).va)) h1
def Yv (a b:AE):AA:=λτ Q=>a (frz τ) λx=>b (frz τ) λy=>match x,y with
 | .lst xs, .lst ys=>xs.length+ys.length<=sizeLine/\OJ (xs++ys)=true/\Q (xs++ys)
 | _,_=>False
def o7 {a b:kd}{pos:Pos}{n o:AE}(ha:SE X a n)(hb:SE X b o):SF X (.BinOp a .Add b pos) (Yv n o):=by
 obtain⟨t,p,s⟩:=ha;obtain⟨t',z,A⟩:=hb;refine⟨_,CZ fg p z,λB T r τ H Q M d h k=>s B T r (frz τ) H _ _ d.frz h λu x C D c r1 h1=>A B C r (frz τ) D _ _ (d.frz.stp c) h1 λv y E N e r2 h2=> ?_⟩;split at h2 <;> first | exact h2.elim|skip
 obtain⟨hl,hn,h2⟩:=h2;have f:=d.stp c;have g:=f.stp e;obtain⟨i,vs,rfl,hq,O,P,rs⟩:=C0 (r1.stp e (d.frz.stp c).va);obtain⟨j,F,rfl,G,I,J,rs2⟩:=C0 r2;refine⟨i,j,vs,F,rfl,rfl,hq,G,by rw[rs.length,rs2.length];exact hl,λq w=> ?_⟩;obtain⟨l,m,K,L⟩:=Oe g w (A9.free hn (rs.append rs2));exact k q _ _ E _ ((c.trans e).trans l) m ((c.trans e).none w) Ap K L h2
end
section
variable {X:Cx}{a b c d e:kd}{ta tb tc td:AE}{pos:Pos}
def BF (ha:SE X a ta)(h:starEach [a] X.env=(false,eval a X.env)::starEach [] X.env:=by rfl):SA X [a] (AB ta AM):=A3 ha Dx h
def An (ha:SE X a ta)(hb:SE X b tb)(h:starEach [a,b] X.env=(false,eval a X.env)::starEach [b] X.env:=by rfl)(h2:starEach [b] X.env=(false,eval b X.env)::starEach [] X.env:=by rfl):SA X [a,b] (AB ta (AB tb AM)):=A3 ha (BF hb h2) h
def Cy (ha:SE X a ta)(hb:SE X b tb)(hc:SE X c tc)(h:starEach [a,b,c] X.env=(false,eval a X.env)::starEach [b,c] X.env:=by rfl)(h2:starEach [b,c] X.env=(false,eval b X.env)::starEach [c] X.env:=by rfl)(f:starEach [c] X.env=(false,eval c X.env)::starEach [] X.env:=by rfl):SA X [a,b,c] (AB ta (AB tb (AB tc AM))):=A3 ha (An hb hc h2 f) h
def AW (ha:SE X a ta)(hb:SE X b tb)(hs:TH b:=by exact λ_ _=>rfl):SE X (.Subscript a b pos) (AY Ak ta tb):=tY t6 ha hb hs
def Dn {op:CmpOp}{r:R2}{f:Ik}(g:Ee X (compareOp op) r/\B8 X.K r f)(ha:SE X a ta)(hb:SE X b tb)(hm:behindInMarks op b=false:=by exact CY _):TJ X (.Compare a [op] [b] pos) (Am (AY f ta tb)):=gx g ha hb hm
def B5 (i:Nat){x:Str}{pos':Pos}(hN:X.N.Nodup)(he:SE X e ta)(hi:X.N[i]? =some x:=by rfl)(hx:Loc X.env.scope x:=by exact Or.inl rfl)(hs:swapsWith e (some (.Name x pos')) pos.line X.env=pure false:=by rfl)(f:X.fn x=true\/X.env.scope.names.lookup x=some .local:=by first | exact .inl rfl|exact .inr rfl|assumption):SS X (.Assign [.Name x pos'] e pos) (Aj ta (Aq i)):=Hh hN hi hx he hs f
def EB (i:Nat){x:Str}(hN:X.N.Nodup)(hi:X.N[i]? =some x:=by rfl)(hx:Loc X.env.scope x:=by exact Or.inl rfl)(f:X.fn x=true\/X.env.scope.names.lookup x=some .local:=by first | exact .inl rfl|exact .inr rfl|assumption):SG X (.Name x pos) (Aq i):=EN hN hi hx f
def K1 (i:Nat){own:Nat}{x:Str}(hN:X.N.Nodup)(hi:X.N[i]? =some x:=by rfl)(hx:Loc X.env.scope x:=by exact Or.inl rfl)(hk:i<own:=by decide)(f:X.fn x=true\/X.env.scope.names.lookup x=some .local:=by first | exact .inl rfl|exact .inr rfl|assumption):SK own X (.Name x pos) (Aq i):=Zs hN hi hx hk f
end
def map_pair {a b c:Type}{o:ke a}{f:a->b}{g:a->c}{x:b}{y:c}(h1:o.map f=some x)(h2:o.map g=some y):o.map (λs=>(f s,g s))=some (x,y):=by
 cases o with
 | none=>cases h1
 | some s=>cases h1;cases h2;rfl
def map5 {a A B C D E:Type}{o:ke a}{F:a->A×B×C×D×E}{X:A×B×C×D×E}(h1:o.map (λs=>(F s).1)=some X.1)(h2:o.map (λs=>(F s).2.1)=some X.2.1)(b:o.map (λs=>(F s).2.2.1)=some X.2.2.1)(c:o.map (λs=>(F s).2.2.2.1)=some X.2.2.2.1)(d:o.map (λs=>(F s).2.2.2.2)=some X.2.2.2.2):o.map F=some X:=by
 cases o with
 | none=>cases h1
 | some s=>exact congrArg some (AC8 (AAw h1) (AC8 (AAw h2) (AC8 (AAw b) (AC8 (AAw c) (AAw d)))))
def BD {P:gn}{w:fe}{K:AAY}{mg:Str->ke kj}{base:da}{k a:Nat}{x:Str}{b:km Str}{sp:Sp}(H:Has P w K mg base k x b sp)(h:k<=a:=by decide):Has P w K mg base a x b sp:=H.mono h
end PL
open PySem L2 PL PyProof.Rows
local macro_rules | `(tactic| decreasing_trivial_pre_omega)=> `(tactic| first | assumption|omega|((apply Bd.mono);(focus (repeat' (first | assumption|exact D5.m (by assumption)|exact D5.x (by assumption)|exact D5.y (by assumption)|exact D5.z (by assumption)|exact lI|exact qo|with_reducible apply Bd.add|with_reducible apply Bd.sub|with_reducible apply Bd.mul|with_reducible apply Bd.neg|with_reducible apply Bd.mx|with_reducible apply Bd.mn)));first | omega|decide)|decide|(simp only [List.length_map,List.length_append,List.length_cons,List.length_nil,List.length_take,List.length_drop,List.length_zip,List.length_reverse];omega)|(show _<=16777216;simp only [List.length_map,List.length_append,List.length_cons,List.length_nil,List.length_take,List.length_drop,List.length_zip,List.length_reverse];omega)|(show _<16777216;simp only [List.length_map,List.length_append,List.length_cons,List.length_nil,List.length_take,List.length_drop,List.length_zip,List.length_reverse];omega)|(refine And.intro ?_ ?_ <;> decreasing_trivial_pre_omega)|exact rfl)
local macro_rules | `(tactic| array_mem_dec)=> `(tactic| first
 | refine Wp.go ?_
 | ((refine OY.go ?_ ?_);focus (first | exact True.intro|decreasing_trivial_pre_omega))
 | ((with_reducible apply And.intro);focus decreasing_trivial_pre_omega)
 | ((with_reducible apply s_ifdT);focus decide)
 | ((with_reducible apply oi);focus decide)
 | ((with_reducible apply s_ifnT);focus decide)
 | ((with_reducible apply s_ifnF);focus decide)
 | refine vY.go (λ_=> ?_) (λ_=> ?_)
 | ((with_reducible apply oj);focus assumption)
 | ((with_reducible apply ly);focus exact rfl)
 | ((with_reducible apply tV);(focus (first | exact .inl rfl|exact .inr (.inl rfl)|exact .inr (.inr (.inl rfl))|exact .inr (.inr (.inr rfl))));(focus exact rfl))
 | ((with_reducible apply tS);focus exact rfl)
 | ((with_reducible apply tR);focus exact rfl)
 | intro _
 | with_reducible rfl)
local macro_rules | `(tactic| array_get_dec)=> `(tactic| first | array_mem_dec|refine yU.go ?_|fail)
local macro_rules | `(tactic| ac_rfl)=> `(tactic| repeat' array_mem_dec)
namespace PL
open PySem L2 PyProof.Rows
abbrev Yq:AS:=
 (As (Ar (AB (aV 0) (AB (aC (.int 1)) AM))))
def JP:AF:=A0 1 Yq
def cF {a:PV}{Q:PV->Prop}(h:Yq ⟨λ_=>Q .non,Q,λ_=>False,λ_=>False⟩ [some (.val a)]):JP [a] Q:=h
instance{k:Int}{Q:PV->Prop}:Wp (JP [.int k] Q) (Q (fr (k:Rat))):=⟨λh=>by
 apply cF;repeat' array_get_dec
 exact h⟩
def Ef.open {n B:Nat}{cs:km C4}(p:Ef n B cs):∃a r l,cs=a::r/\r≠ [] /\(a::r).getLast?=some l/\a.1<l.1:=by
 obtain⟨two,c,d,b⟩:=p;match cs,two,b with
 | a::b0::r,_,b=>exact⟨a,b0::r,_,rfl,by simp,ADH (by simp),(AAg.mp b).1 _ (ABx (bJ (ADH (by simp))))⟩
abbrev RZ:AS:=
 (As (iM (Am (AY Fz (aV 1) (aC (.int 2)))) (AY Ak (aV 0) (aC (.int 1))) (AY Ak (aV 0) (aC (.int 0)))))
def Ea:AF:=A0 2 RZ
def WY {a b:PV}{Q:PV->Prop}(h:RZ ⟨λ_=>Q .non,Q,λ_=>False,λ_=>False⟩ [some (.val a),some (.val b)]):Ea [a,b] Q:=h
def mK (b:T3)(v:PV):Prop:=v=qC b\/v= .lst [fr b.1,fr b.2.1,fr b.2.2]
def qV (cs:km C4)(b:T3)(v:PV):Prop:=∃p w,CC cs p/\mK b w/\(v= .tup [p,w] \/v= .lst [p,w])
def Wz (d:Rat×Rat)(v:PV):Prop:=v= .tup [fr d.1,fr d.2] \/v= .lst [fr d.1,fr d.2]
def y7 {a:C4}{r:km C4}{v:PV}{R:PV->Prop}(hv:CC (a::r) v)(h:∀x,(x=cor a\/x=corL a)->R x):Ak v (.int 0) R:=by
 obtain⟨f,b,hv⟩:=hv;have hx:f a=cor a\/f a=corL a:=by rcases b with rfl|rfl <;> simp
 rcases hv with rfl|rfl
 .show cZ (Im (f a::r.map f) 0) R;rw[show Im (f a::r.map f) 0=some (f a) from Cj (j:=0) rfl];exact h _ hx
 .show cZ (Im (f a::r.map f) 0) R;rw[show Im (f a::r.map f) 0=some (f a) from Cj (j:=0) rfl];exact h _ hx
def y8 {cs:km C4}{l:C4}{v:PV}{R:PV->Prop}(hv:CC cs v)(a:cs.getLast?=some l)(h:∀x,(x=cor l\/x=corL l)->R x):Ak v (.int (-1)) R:=by
 obtain⟨f,b,hv⟩:=hv;have hx:f l=cor l\/f l=corL l:=by rcases b with rfl|rfl <;> simp
 rcases hv with rfl|rfl
 .exact Ll a (h _ hx)
 .exact Ll a (h _ hx)
def c0 {x:PV}{c:C4}{R:PV->Prop}(hx:x=cor c\/x=corL c)(h:R (fr c.1)):Ak x (.int 0) R:=by rcases hx with rfl|rfl <;> exact h
def f0 {cs:km C4}{b:T3}{v:PV}{R:PV->Prop}(hv:qV cs b v)(h:∀p,CC cs p->R p):Ak v (.int 0) R:=by obtain⟨p,w,hp,hw,hv⟩:=hv;rcases hv with rfl|rfl <;> exact h p hp
def f1 {cs:km C4}{b:T3}{v:PV}{R:PV->Prop}(hv:qV cs b v)(h:∀w,mK b w->R w):Ak v (.int 1) R:=by obtain⟨p,w,hp,hw,hv⟩:=hv;rcases hv with rfl|rfl <;> exact h w hw
def b2 {b:T3}{w:PV}{R:PV->Prop}(hw:mK b w)(h:R (fr b.2.2)):Ak w (.int 2) R:=by rcases hw with rfl|rfl <;> exact h
def sJ {k n:Nat}(h:k<=n)(hn:n<1000000):k<sizeLine:=ABj h (AA0 hn (ACP rfl))
def Zr {w:PV}{x y:Rat}{k:Int}(a:∀{R:PV->Prop},R (fr x)->Ak w (.int 0) R)(h1:∀{R:PV->Prop},R (fr y)->Ak w (.int 1) R){Q:PV->Prop}(q:Q (fr (if k=2 then y else x))):Ea [w, .int k] Q:=by
 apply WY;ac_rfl
 .rename_i h;rw[AAb h] at q;exact h1 q
 .rename_i h;rw[AAa h] at q;exact a q
def PR {d:Rat×Rat}{w:PV}{k:Int}(hw:Wz d w){Q:PV->Prop}(q:Q (fr (if k=2 then d.2 else d.1))):Ea [w, .int k] Q:=
 Zr (λh=>by rcases hw with rfl|rfl <;> exact h) (λh=>by rcases hw with rfl|rfl <;> exact h) q
def ABm (x y z:Rat):kc:=decide (x-y<z)&&decide (-(x-y)<z)
def IQ:AS:=
 (AZ (BI (Am (AY lM (aV 5) (aC (.int 3)))) (Aj (Db (B0 (AB (AN 1 BB (AB (aV 0) AM)) (AB (AN 1 BB (AB (aV 0) AM)) (AB (AN 1 BB (AB (aV 0) AM)) AM))))) (Aq 3)) (BI (Am (AY lM (aV 5) (aC (.int 0)))) (Aj (AY A4 (AY A4 (TM (aV 3) TR (TU (AY GF (aV 5) (aC (.int 1))))) (Db (B0 (AB (AN 1 BB (AB (aV 0) AM)) AM)))) (TM (aV 3) (TU (aV 5)) TR)) (Aq 3)) Ay))
   (Fl 4 NA (AB (Ar (AB (aV 2) (AB (AY Ak (aV 3) (aC (.int 0))) (AB (AY Ak (aV 3) (aC (.int 1))) (AB (AY Ak (aV 3) (aC (.int 2))) AM))))) AM)))
def IP:AS:=
 (AZ (Aj (AN 2 A8 (AB (aV 0) (AB (aC (.int 6)) AM))) (Aq 5))
   IQ)
def LD:AS:=
 (AZ (Aj (AN 2 Bc (AB (aV 2) (AB (AN 1 C9 (AB (aV 0) AM)) AM))) (Aq 2))
   IP)
def LI:AS:=
 (AZ (Ms (Am (AY cW (DZ Dw (AB (aV 4) AM)) (aV 1))) LD)
   (As (DZ Bx (AB (aV 4) AM))))
def LH:AS:=
 (AZ (II (B0 (AB (Ar (AB (aV 2) (AB (AY Ak (aV 3) (aC (.int 0))) (AB (AY Ak (aV 3) (aC (.int 1))) (AB (AY Ak (aV 3) (aC (.int 2))) AM))))) AM)) 4)
   LI)
def LG:AS:=
 (AZ (Aj (Db (B0 (AB (AN 1 BB (AB (aV 0) AM)) (AB (AN 1 BB (AB (aV 0) AM)) (AB (AN 1 BB (AB (aV 0) AM)) AM))))) (Aq 3))
   LH)
def F2:AS:=
 (AZ (Aj (Ar (AB (AN 2 A8 (AB (aV 0) (AB (aC (.int 12)) AM))) (AB (aC (.int 1)) AM))) (Aq 2))
   LG)
def LF:AS:=
 (AZ (BI (Am (AY Fz (AN 2 A8 (AB (aV 0) (AB (aC (.int 8)) AM))) (aC (.int 0)))) (Aj (AY Ak (Db (B0 (AB (aC (.int 7)) (AB (aC (.int 8)) (AB (aC (.int 9)) (AB (aC (.int 12)) AM)))))) (AN 2 A8 (AB (aV 0) (AB (aC (.int 4)) AM)))) (Aq 1)) Ay)
   F2)
def Oz:AS:=
 (AZ (Aj (AY A4 (aC (.int 2)) (AN 2 A8 (AB (aV 0) (AB (aC (.int 4)) AM)))) (Aq 1))
   LF)
def CS:AF:=A0 6 Oz
def Gy (many:Int)(B k f:ke AV)(j:ke AV)(H:2<=many)(h1:many<=12){Q:PV->Prop}(h:∀cs,Hz 12 6 600 cs->Q (Ah cs)):F2 {nx:=λ_=>Q .non,rt:=Q,bk:=λ_=>False,ct:=λ_=>False} [some (.val .tape),some (.val (.int many)),B,k,j,f] :=by
 refine⟨rfl,DM (by decide) (by decide) λm m0 m1=>⟨lz, ?_⟩⟩;refine⟨rfl,BH λx hx=>⟨rfl,BH λy hy=>⟨rfl,BH λz hz=>⟨lz, ?_⟩⟩⟩⟩;refine⟨lz,lz, ?_⟩;refine⟨(many-1).toNat+1,Ym (λn τ=>∃(cs:km C4) (c:C4) (f:ke AV),n+(cs.length+1)=many.toNat+1/\1<=n/\(∀d∈cs ++ [c],LN 6 (66+48*cs.length) d)/\(Mul 6 60 c.2.1/\Mul 6 60 c.2.2.1/\Mul 6 60 c.2.2.2)/\JQ (cs ++ [c])/\
  τ= [some (.val .tape),some (.val (.int many)),some (.val (fr c.1)),some (.val (.lst [fr c.2.1,fr c.2.2.1,fr c.2.2.2])),some (.own ((cs ++ [c]).map cor)),f]) ?_ ?_ _ _ ⟨[],((m:Rat),x,y,z),f, ?_, ?_, ?_, ?_, ?_, ?_⟩⟩
 .rintro τ ⟨cs,c,f,_,hn,_⟩;omega
 .rintro n τ R C ⟨cs,c,f,hn,I,hb,g,r,rfl⟩;have t:(((cs ++ [c]).map cor).length:Int)=(cs.length:Int)+1:=by simp
  refine F0 (b:=decide ((((cs ++ [c]).map cor).length:Int)<many)) (λz=> ?_) (λz=> ?_)
  .have l:(((cs ++ [c]).map cor).length:Int)<many:=ABw z;rw[t] at l;have u:=hb c (by simp);refine⟨rfl,Hy λs D J E=>⟨rfl,Df ((u.m.bd (n:=12) (by omega) (by decide)).mono (by omega)) (D.mono (by omega)) ?_⟩⟩;refine⟨rfl,DM (by decide) (by decide) λw K L=> ?_⟩;have a:∀(o:Hk) (x y z:Rat) (f:ke AV),o.nx=R->Mul 6 60 x->Mul 6 60 y->Mul 6 60 z->Fl 4 NA (AB (Ar (AB (aV 2) (AB (AY Ak (aV 3) (aC (.int 0))) (AB (AY Ak (aV 3) (aC (.int 1))) (AB (AY Ak (aV 3) (aC (.int 2))) AM))))) AM)
    o [some (.val .tape),some (.val (.int many)),some (.val (fr (c.1+s))),some (.val (.lst [fr x,fr y,fr z])),some (.own ((cs ++ [c]).map cor)),f] :=by
    intro o x y z f F v i A;refine⟨lz, ?_, ?_⟩
    .show _<16777216;omega
    .rw [F];have G:Mul 6 (66+48*(cs.length+1)) (c.1+s):=(u.m.add E).mono (by omega);refine C _ ⟨cs ++ [c],(c.1+s,x,y,z),f,by simp;omega,by omega, ?_,⟨v,i,A⟩,gQ r ?_, ?_⟩
     .intro d hd;rcases AAn.mp hd with hd|hd
      .exact (hb d hd).mono (by simp;omega)
      .simp at hd;subst hd;have e:(cs ++ [c]).length=cs.length+1:=by simp
       rw[e];exact⟨G,v.mono (by omega),i.mono (by omega),A.mono (by omega)⟩
     .show c.1<c.1+s;grind
     .rw [AAu (l₁:=cs ++ [c])];rfl
   refine F0 (b:=decide (3<w)) (λ_=> ?_) (λk=> ?_)
   .exact ⟨rfl,BH λx hx=>⟨rfl,BH λy hy=>⟨rfl,BH λz hz=>⟨lz,a _ x y z _ rfl hx hy hz⟩⟩⟩⟩
   refine F0 (b:=decide (0<w)) (λj=> ?_) (λj=> ?_)
   .have M:¬3<w:=ACO k;have N:0<w:=ABw j;have hw:w=1\/w=2\/w=3:=by omega
    rcases hw with rfl|rfl|rfl
    .exact FV ⟨rfl,BH λp hp=>⟨lz,lz,FV ⟨lz,a _ p _ _ _ rfl hp g.2.1 g.2.2⟩⟩⟩
    .exact FV ⟨rfl,BH λp hp=>⟨lz,lz,FV ⟨lz,a _ _ p _ _ rfl g.1 hp g.2.2⟩⟩⟩
    .exact FV ⟨rfl,BH λp hp=>⟨lz,lz,FV ⟨lz,a _ _ _ p _ rfl g.1 g.2.1 hp⟩⟩⟩
   .exact a _ _ _ _ _ rfl g.1 g.2.1 g.2.2
  .have l:¬(((cs ++ [c]).map cor).length:Int)<many:=ACO z;rw[t] at l;refine h (cs ++ [c]) ⟨by simp;omega,by simp;omega,λd hd=>(hb d hd).mono (by omega),r⟩
 .simp;omega
 .omega
 .intro d hd;simp at hd;subst hd;exact⟨.int (by decide) (by simp;omega),hx.mono (by decide),hy.mono (by decide),hz.mono (by decide)⟩
 .exact ⟨hx,hy,hz⟩
 .exact AE0 _ _
 .simp only[cor,dh,ABY,AAi,ADW];rfl
def NH {Q:PV->Prop}(h:∀cs,Hz 12 6 600 cs->Q (Ah cs)):CS [.tape] Q:=by
 refine⟨rfl,DM (by decide) (by decide) λa d e=>⟨rfl,DM (by decide) (by decide) λb f b1=> ?_⟩⟩;refine F0 (b:=decide (b=0)) (λ_=> ?_) (λ_=> ?_)
 .refine ⟨lz,rfl,DM (by decide) (by decide) λc c0 c1=> ?_⟩;have hc:c=0\/c=1\/c=2\/c=3:=by omega
  rcases hc with rfl|rfl|rfl|rfl
  .exact Gy 7 _ _ _ _ (by omega) (by omega) h
  .exact Gy 8 _ _ _ _ (by omega) (by omega) h
  .exact Gy 9 _ _ _ _ (by omega) (by omega) h
  .exact Gy 12 _ _ _ _ (by omega) (by omega) h
 .exact Gy (2+a) _ _ _ _ (by omega) (by omega) h
abbrev Hl:AS:=
 (As (DZ Bx (AB (Db (CD (IM (aV 0)) 1 [1,2] (Aq 0) EJ (AY A4 (Ar (AB (AN 2 Bc (AB (AY Ak (aV 0) (aC (.int 0))) (AB (aV 1) AM))) AM)) (DZ Bx (AB (Db (CD (Q2 (AB (aC (.int 3)) AM)) 1 [0,2] (Aq 0) EJ (AN 2 Bc (AB (AY Ak (aV 1) (AY A4 (aV 0) (aC (.int 1)))) (AB (AY Ak (aV 2) (aV 0)) AM))))) AM))))) AM)))
def Bj:AF:=A0 3 Hl
def L9 {a b c:PV}{Q:PV->Prop}(h:Hl ⟨λ_=>Q .non,Q,λ_=>False,λ_=>False⟩ [some (.val a),some (.val b),some (.val c)]):Bj [a,b,c] Q:=h
abbrev K7:AS:=
 (AZ (Aj (Db (B0 (AB (Ar (AB (aC (.int 1)) (AB (aC (.int 1)) AM))) (AB (Ar (AB (aC (.int 2)) (AB (aC (.int 1)) AM))) (AB (Ar (AB (aC (.int 3)) (AB (aC (.int 2)) AM))) (AB (Ar (AB (aC (.int 1)) (AB (aC (.int 3)) AM))) (AB (Ar (AB (aC (.int 5)) (AB (aC (.int 1)) AM))) AM))))))) (Aq 1))
   (As (Ar (AB (AY Ak (aV 1) (AN 2 A8 (AB (aV 0) (AB (aC (.int 5)) AM)))) (AB (AY Ak (aV 1) (AN 2 A8 (AB (aV 0) (AB (aC (.int 5)) AM)))) AM)))))
def DK:AF:=A0 2 K7
def QN {a:PV}{Q:PV->Prop}(h:K7 ⟨λ_=>Q .non,Q,λ_=>False,λ_=>False⟩ [some (.val a),none]):DK [a] Q:=h
def jS {xs:km PV}{k:Int}{R:PV->Prop}(a:0<=k)(h1:k<xs.length)(h:∀x∈xs,R x):Ak (.lst xs) (.int k) R:=by show cZ (Im xs k) R;have hk:xs[k.toNat]? =some (xs[k.toNat]'(by omega)):=ABD (by omega);have e:=Cj hk;rw[show ((k.toNat:Nat):Int)=k by omega] at e;rw[e];exact h _ (AEC _)
def KL {xs:km Rat}{k:Int}{R:PV->Prop}(a:0<=k)(h1:k<xs.length)(h:∀x∈xs,R (fr x)):Ak (.lst (xs.map fr)) (.int k) R:=by refine jS a (by simpa using h1) λx hx=> ?_;obtain⟨y,hy,rfl⟩:=AAl.mp hx;exact h y hy
def sm8 {r:Rat}(h:r.num.natAbs<2^8:=by decide +kernel)(h2:r.den<2^8:=by decide +kernel):Bd 8 r:=⟨h,h2⟩
abbrev KO (t:Rat)(o:T3)(c:C4):C4:=(c.1+t,c.2.1+o.1,c.2.2.1+o.2.1,c.2.2.2+o.2.2)
def HQ {cs:km C4}{t:Rat}{o:T3}{v:PV}{B m:Nat}(hv:v= .lst [fr o.1,fr o.2.1,fr o.2.2])(hl:cs.length<=100)(hc:∀c∈cs,D5 B c)(bt:Bd m t)(a:E5 m o)(e:B<=4000)(hm:m<=4000){Q:PV->Prop}(q:Q (Ah (cs.map (KO t o)))):Bj [Ah cs,fr t,v] Q:=by
 subst hv;have f:=a.x;have b:=a.y;have g:=a.z;apply L9;ac_rfl;refine Dr cor cor (KO t o) (D5 B) (λc h R d=> ?_) cs [] hc ?_
 .ac_rfl;rw[show rng 0 (Int.toNat 3)= [.int 0, .int 1, .int 2] from rfl];repeat' array_get_dec
  rw[show (0:Int)+1=1 from rfl];repeat' array_get_dec
  rw[show (1:Int)+1=2 from rfl];repeat' array_get_dec
  rw[show (2:Int)+1=3 from rfl];repeat' array_get_dec
  exact d
 ac_rfl;exact q
instance{a b:AE}{τ:BC}{c:km PV->Prop}:Wp (mY a b τ c) (a τ λx=>b τ λy=>match x,y with | .tup xs, .tup ys=>xs.length=ys.length/\c (F1 xs ys.reverse)|_,_=>False):=⟨id⟩
section
variable {τ:BC}
instance{i:Nat}{a b:AE}{nx bk ct:BC->Prop}{rt:PV->Prop}:Wp (Q1 i a b ⟨nx,rt,bk,ct⟩ τ) (b τ λy=>Ld i τ λxs=>a τ λk=>fY k λk=>ZY (Pt xs.length k) λj=>UX τ i (.own (xs.set j y)) nx):=⟨id⟩
instance{i:Nat}{xs:km PV}{P:km PV->Prop}[h:ie τ i (.own xs)] :Wp (Ld i τ P) (P xs):=⟨λk=>by unfold Ld;rw[h.e];exact k⟩
end
instance{c:C4}{Q:PV->Prop}:Wp (Xb (cor c) none (some 1) Q) (Q (.tup [fr c.1])):=⟨λh=>Hg h⟩
abbrev MQ:AS:=
 (AZ (Aj (AN 1 CS (AB (aV 0) AM)) (Aq 6))
   (As (AN 3 Bj (AB (aV 6) (AB (AN 2 B6 (AB (AY Ak (AY Ak (aV 1) (Jv EA (aC (.int 1)))) (aC (.int 0))) (AB (AY Ak (AY Ak (aV 6) (aC (.int 0))) (aC (.int 0))) AM))) (AB (Db (B0 (AB (Ar (AB (aC (.int 0)) (AB (aC (.int 1)) AM))) (AB (Ar (AB (aC (.int 0)) (AB (aC (.int 1)) AM))) (AB (Ar (AB (aC (.int 0)) (AB (aC (.int 1)) AM))) AM))))) AM))))))
abbrev Ja:AS:=
 (AZ (Aj (Ar (AB (AN 1 BB (AB (aV 0) AM)) (AB (AN 1 BB (AB (aV 0) AM)) (AB (AN 1 BB (AB (aV 0) AM)) AM)))) (Aq 8))
   (As (AY A4 (AY A4 (TM (aV 1) TR (TU (aV 7))) (Ar (AB (AY A4 (TM (AY Ak (aV 1) (aV 7)) TR (TU (aC (.int 1)))) (aV 8)) AM))) (TM (aV 1) (TU (AY A4 (aV 7) (aC (.int 1)))) TR))))
abbrev MR:AS:=
 (AZ (Aj (AN 2 A8 (AB (aV 0) (AB (DZ Dw (AB (aV 1) AM)) AM))) (Aq 7))
   Ja)
abbrev MS:AS:=
 (AZ (Aj (TM (AY Ak (aV 1) (AN 2 A8 (AB (aV 0) (AB (DZ Dw (AB (aV 1) AM)) AM)))) (TU (aC (.int 1))) TR) (Aq 8))
   (As (Ar (AB (AY A4 (Ar (AB (AY Ak (AY Ak (aV 1) (aC (.int 0))) (aC (.int 0))) AM)) (aV 8)) (AB (AY A4 (Ar (AB (AN 2 Bc (AB (AY Ak (AY Ak (aV 1) (Jv EA (aC (.int 1)))) (aC (.int 0))) (AB (AN 1 C9 (AB (aV 0) AM)) AM))) AM)) (aV 8)) AM)))))
abbrev K8:AS:=
 (AZ (BI (Am (AY Fz (aV 3) (aC (.int 6)))) MS Ay)
   (As (AN 1 CS (AB (aV 0) AM))))
abbrev Ma:AS:=
 (AZ (BI (Am (AY Fz (aV 3) (aC (.int 5)))) MR Ay)
   K8)
abbrev MZ:AS:=
 (AZ (BI (Am (AY Fz (aV 3) (aC (.int 4)))) MQ Ay)
   Ma)
abbrev MY:AS:=
 (AZ (BI (Am (AY Fz (aV 3) (aC (.int 3)))) (As (DZ Bx (AB (Db (CD (mY (aV 1) (aV 1)) 2 [] (JR 2 (Af (Aq 0) (Af (Aq 1) Bw))) EJ (AY A4 (Ar (AB (AY Ak (aV 0) (aC (.int 0))) AM)) (TM (aV 1) (TU (aC (.int 1))) TR)))) AM))) Ay)
   MZ)
abbrev MX:AS:=
 (AZ (BI (Am (AY Fz (aV 3) (aC (.int 2)))) (As (AN 3 Bj (AB (aV 1) (AB (AY Ak (Db (B0 (AB (AN 1 C9 (AB (aV 0) AM)) (AB (Ar (AB (aC (.int 0)) (AB (aC (.int 1)) AM))) AM)))) (AN 2 A8 (AB (aV 0) (AB (aC (.int 2)) AM)))) (AB (aV 4) AM))))) Ay)
   MY)
abbrev GU:AS:=
 (AZ (BI (Am (AY cW (aV 3) (aC (.int 2)))) (As (AN 3 Bj (AB (aV 1) (AB (Ar (AB (aC (.int 0)) (AB (aC (.int 1)) AM))) (AB (aV 4) AM))))) Ay)
   MX)
abbrev MW:AS:=
 (AZ (BI (Am (AY Fz (aV 3) (aC (.int 0)))) (Q1 4 (aV 5) (Qz (AN 2 BN (AB (AY Ak (aV 4) (aV 5)) (AB (AY Ak (Db (B0 (AB (Ar (AB (aC (.int 1)) (AB (aC (.int 2)) AM))) (AB (Ar (AB (Jv EA (aC (.int 1))) (AB (aC (.int 1)) AM))) (AB (Ar (AB (Jv EA (aC (.int 1))) (AB (aC (.int 3)) AM))) AM))))) (AN 2 A8 (AB (aV 0) (AB (aC (.int 3)) AM)))) AM))))) Ay)
   GU)
abbrev MV:AS:=
 (AZ (Q1 4 (aV 5) (AY Ak (aV 2) (DZ Te (AB (AY Fz (aV 5) (aC (.int 2))) AM))))
   MW)
abbrev MU:AS:=
 (AZ (Aj (AN 2 A8 (AB (aV 0) (AB (aC (.int 3)) AM))) (Aq 5))
   MV)
abbrev MT:AS:=
 (AZ (II (B0 (AB (Ar (AB (aC (.int 0)) (AB (aC (.int 1)) AM))) (AB (Ar (AB (aC (.int 0)) (AB (aC (.int 1)) AM))) (AB (Ar (AB (aC (.int 0)) (AB (aC (.int 1)) AM))) AM)))) 4)
   MU)
abbrev Jo:AS:=
 (AZ (Aj (AN 2 A8 (AB (aV 0) (AB (aC (.int 9)) AM))) (Aq 3))
   MT)
def Dc:AF:=A0 9 Jo
def ON {a b c:PV}{Q:PV->Prop}(h:Jo ⟨λ_=>Q .non,Q,λ_=>False,λ_=>False⟩ [some (.val a),some (.val b),some (.val c),none,none,none,none,none,none]):Dc [a,b,c] Q:=h
def Zl {cs ds:km C4}(h:JQ cs)(e:ds.map (·.1)=cs.map (·.1)):JQ ds:=by have h1:(cs.map (·.1)).Pairwise (· < ·):=ADt.mpr h;rw[<-e] at h1;exact ADt.mp h1
def k9 (a b:km C4):F1 (a.map cor) (b.map cor)=(a.zip b).map λp:C4×C4=> .tup [cor p.1,cor p.2] :=by unfold F1;rw[List.zipWith_map,List.zip,List.map_zipWith]
def Mul.negQ {D N:Nat}{a:Rat}(h:Mul D N a):Mul D N (-a):=by obtain⟨b,k,rfl,hk⟩:=h;exact⟨b, -k,by rw[Rat.neg_divInt],by omega⟩
def Mul.subQ {D N M:Nat}{a b:Rat}(ha:Mul D N a)(hb:Mul D M b):Mul D (N+M) (a-b):=by rw[Rat.sub_eq_add_neg];exact ha.add (Mul.negQ hb)
def lZ {a b c:PV}:Pt [a,b,c].length 0=some 0:=by show Pt 3 0=_;decide
def lb {a b c:PV}:Pt [a,b,c].length 1=some 1:=by show Pt 3 1=_;decide
def lc {a b c:PV}:Pt [a,b,c].length 2=some 2:=by show Pt 3 2=_;decide
def uK:PV.tup [.int (-1), .int 3] =fr (-1/3):=by unfold fr;rw[show (-1/3:Rat).num= -1 by decide +kernel,show (-1/3:Rat).den=3 by decide +kernel];rfl
abbrev Qu:AS:=
 (AZ (Aj (AN 2 Fd (AB (AY Ak (AY Ak (aV 0) (Jv EA (aC (.int 1)))) (aC (.int 0))) (AB (AY Ak (AY Ak (aV 1) (Jv EA (aC (.int 1)))) (aC (.int 0))) AM))) (Aq 3))
   (As (iM (Am (AN 2 Av (AB (aV 2) (AB (aV 3) AM)))) (Ar (AB (aV 2) (AB (aV 3) AM))) (aC .non))))
abbrev O7:AS:=
 (AZ (Aj (AN 2 C8 (AB (AY Ak (AY Ak (aV 0) (aC (.int 0))) (aC (.int 0))) (AB (AY Ak (AY Ak (aV 1) (aC (.int 0))) (aC (.int 0))) AM))) (Aq 2))
   Qu)
def Du:AF:=A0 4 O7
def UP {a b:PV}{Q:PV->Prop}(h:O7 ⟨λ_=>Q .non,Q,λ_=>False,λ_=>False⟩ [some (.val a),some (.val b),none,none]):Du [a,b] Q:=h
abbrev Ss:AS:=
 (AZ (Aj (AN 2 Eb (AB (aV 1) (AB (aV 3) AM))) (Aq 5))
   (As (Db (CD (Q2 (AB (aC (.int 3)) AM)) 1 [2,4,5] (Aq 0) EJ (AN 2 KB (AB (AN 2 EG (AB (AY Ak (aV 2) (aV 0)) (AB (AY Ak (aV 3) (aV 0)) AM))) (AB (AN 2 Ea (AB (aV 1) (AB (aV 0) AM))) AM)))))))
abbrev RW:AS:=
 (AZ (Aj (AN 2 Eb (AB (aV 0) (AB (aV 3) AM))) (Aq 4))
   Ss)
def Gk:AF:=A0 6 RW
def WV {a b c d:PV}{Q:PV->Prop}(h:RW ⟨λ_=>Q .non,Q,λ_=>False,λ_=>False⟩ [some (.val a),some (.val b),some (.val c),some (.val d),none,none]):Gk [a,b,c,d] Q:=h
def absR (r:Rat):Rat:=if r<0 then -r else r
def Bd.absR {n:Nat}{r:Rat}(h:Bd n r):Bd n (absR r):=by unfold PL.absR;split;exact h.neg;exact h
def KQ (p q:T3)(d:Rat×Rat):T3:=((p.1-q.1)/d.1,(p.2.1-q.2.1)/d.1,(p.2.2-q.2.2)/d.2)
def jA (o:T3):Rat:=mx (mx (mx 0 (absR o.1)) (absR o.2.1)) (absR o.2.2)
def iA (a l b c:C4)(m:Rat):Prop:=(¬m<a.1/\¬m<b.1)/\m<l.1/\m<c.1
instance {a l b c:C4}{m:Rat}:Decidable (iA a l b c m):=by unfold iA;infer_instance
def jd {cs ds:km C4}{v w u:PV}{d:Rat×Rat}{m:Rat}{p a:T3}(hv:CC cs v)(hw:CC ds w)(hu:Wz d u)(hc:∀c∈cs,D5 150 c)(b:∀c∈ds,D5 150 c)(e:JQ cs)(f:JQ ds)(i:cs≠ [])(j:ds≠ [])(hl:cs.length<=100)(o:ds.length<=100)(bm:Bd 200 m)(b1:Bd 100 d.1)(b2:Bd 100 d.2)(p1:d.1≠0)(p2:d.2≠0)(g:spotC cs m=some p)(h:spotC ds m=some a){Q:PV->Prop}(q:Q (.lst [fr (KQ p a d).1,fr (KQ p a d).2.1,fr (KQ p a d).2.2])):Gk [v,w,u,fr m] Q:=by
 have t1:=E5.spotC bm e hc p g;have t2:=E5.spotC bm f b a h;have k:=t1.x;have l:=t1.y;have n:=t1.z;have y1:=t2.x;have y2:=t2.y;have y3:=t2.z;have r:=k.sub y1;have s:=l.sub y2;have t:=n.sub y3;apply WV;ac_rfl;refine FR hv hc e i (by omega) bm (by decide) ?_;rw[g,show MI (some p)= .tup [fr p.1,fr p.2.1,fr p.2.2] from rfl];ac_rfl;refine FR hw b f j (by omega) bm (by decide) ?_;rw[h,show MI (some a)= .tup [fr a.1,fr a.2.1,fr a.2.2] from rfl];ac_rfl;rw[show rng 0 (Int.toNat 3)= [.int 0, .int 1, .int 2] from rfl];repeat' array_get_dec
 refine PR hu ?_;rw[AAa (by decide)];repeat' array_get_dec
 refine PR hu ?_;rw[AAa (by decide)];repeat' array_get_dec
 refine PR hu ?_;rw[AAb (by decide)];repeat' array_get_dec
 exact q
def Wn {a l b c:C4}{r r2:km C4}{v w:PV}(hv:CC (a::r) v)(hw:CC (b::r2) w)(e:(a::r).getLast?=some l)(d:(b::r2).getLast?=some c)(j:Bd 3000 a.1)(k:Bd 3000 l.1)(f:Bd 3000 b.1)(g:Bd 3000 c.1){Q:PV->Prop}(h:mx a.1 b.1<mn l.1 c.1->Q (.tup [fr (mx a.1 b.1),fr (mn l.1 c.1)]))(i:¬mx a.1 b.1<mn l.1 c.1->Q .non):Du [v,w] Q:=by
 apply UP;ac_rfl;refine y7 hv λx hx=> ?_;ac_rfl;refine c0 hx ?_;ac_rfl;refine y7 hw λx hx=> ?_;ac_rfl;refine c0 hx ?_;ac_rfl;refine y8 hv e λx hx=> ?_;ac_rfl;refine c0 hx ?_;ac_rfl;refine y8 hw d λx hx=> ?_;ac_rfl;refine c0 hx ?_;ac_rfl
 .exact h ‹_›
 .exact i ‹_›
abbrev Me:AS:=
 (AZ (Aj (AY Q8 (AY A4 (aV 2) (aV 3)) (aC (.int 2))) (Aq 4))
   (BI (Am (AN 2 Av (AB (AY Ak (aV 0) (aV 4)) (AB (aV 1) AM)))) (Aj (AY A4 (aV 4) (aC (.int 1))) (Aq 2)) (Aj (aV 4) (Aq 3))))
abbrev Mh:AS:=
 (AZ (Ms (Am (AY cW (aV 2) (aV 3))) Me)
   (As (aV 2)))
abbrev Mf:AS:=
 (AZ (Aj (DZ Dw (AB (aV 0) AM)) (Aq 3))
   Mh)
abbrev Js:AS:=
 (AZ (Aj (aC (.int 0)) (Aq 2))
   Mf)
def Dg:AF:=A0 5 Js
def OS {a b:PV}{Q:PV->Prop}(h:Js ⟨λ_=>Q .non,Q,λ_=>False,λ_=>False⟩ [some (.val a),some (.val b),none,none,none]):Dg [a,b] Q:=h
abbrev Ni:AS:=
 (AZ (Aj (Qz (AN 2 Dg (AB (aV 1) (AB (aV 2) AM)))) (Aq 3))
   (BI (VX (EI (Am (AY Fz (aV 3) (DZ Dw (AB (aV 1) AM)))) (Am (AY Nm (AY Ak (aV 1) (aV 3)) (aV 2))))) (Fl 1 fL (AB (aV 3) (AB (aV 2) AM))) Ay))
abbrev VH:AS:=
 (AZ (FA (IM (aV 0)) (Aq 2) Ni)
   (As (aV 1)))
abbrev VG:AS:=
 (AZ (II (B0 AM) 1)
   VH)
def Gr:AF:=A0 4 VG
def YR {a:PV}{Q:PV->Prop}(h:VG ⟨λ_=>Q .non,Q,λ_=>False,λ_=>False⟩ [some (.val a),none,none,none]):Gr [a] Q:=h
abbrev U5:AS:=
 (AZ (XE 3 qy (dG (aV 1) (aV 4) (aV 5)))
   (Fl 2 NA (AB (Ar (AB (aV 4) (AB (aV 5) (AB (aV 3) AM)))) AM)))
abbrev U8:AS:=
 (AZ (FA (IM (AN 1 Gr (AB (Db (CD (IM (Db (XF (AB (aV 1) AM)))) 2 [] (JR 2 (Af (Aq 0) (Af (Aq 1) Bw))) EJ (aV 0))) AM))) (Aq 4) (FA (IM (Ar (AB (aC (.int 0)) (AB (aC (.int 1)) AM)))) (Aq 5) (BI (Am (im (aV 4) (aV 5) (aV 1))) U5 Ay)))
   (As (aV 2)))
abbrev U7:AS:=
 (AZ (Aj (aC (.int 0)) (Aq 3))
   U8)
abbrev U6:AS:=
 (AZ (II (B0 AM) 2)
   U7)
abbrev U4:AS:=
 (AZ (Aj (AN 1 JN (AB (aV 0) AM)) (Aq 1))
   U6)
def Ig:AF:=A0 6 U4
def YO {a:PV}{Q:PV->Prop}(h:U4 ⟨λ_=>Q .non,Q,λ_=>False,λ_=>False⟩ [some (.val a),none,none,none,none,none]):Ig [a] Q:=h
abbrev SY:AS:=
 (AZ (Fl 2 NA (AB (Ar (AB (AY Ak (aV 3) (aC (.int 0))) (AB (AY Ak (aV 3) (aC (.int 1))) (AB (aV 4) AM)))) AM))
   (Aj (aC .non) (Aq 3)))
abbrev G6:AS:=
 (AZ (BI (Am (AY Vg (aV 3) (aC .non))) (Fl 2 NA (AB (Ar (AB (AY Ak (aV 3) (aC (.int 0))) (AB (AY Ak (aV 3) (aC (.int 1))) (AB (aC .non) AM)))) AM)) Ay)
   (As (DZ Bx (AB (aV 2) AM))))
abbrev Sa:AS:=
 (AZ (FA (IM (AN 1 Ig (AB (aV 0) AM))) (JR 3 (Af (Aq 4) (Af (Aq 5) (Af (Aq 6) Bw)))) (BI (Lb (Am (AY XZ (aV 3) (aC .non))) (Am (AY mq (aV 6) (aV 1)))) (Aj (Ar (AB (aV 4) (AB (AY GF (aC (.int 1)) (aV 5)) AM))) (Aq 3)) (BI (Lb (Am (AY Vg (aV 3) (aC .non))) (Am (AY cW (aV 6) (aV 1)))) SY Ay)))
   G6)
abbrev SZ:AS:=
 (AZ (Aj (aC .non) (Aq 3))
   Sa)
abbrev RS:AS:=
 (AZ (II (B0 AM) 2)
   SZ)
def FX:AF:=A0 7 RS
def WQ {a b:PV}{Q:PV->Prop}(h:RS ⟨λ_=>Q .non,Q,λ_=>False,λ_=>False⟩ [some (.val a),some (.val b),none,none,none,none,none]):FX [a,b] Q:=h
abbrev O8:AS:=
 (As (AN 2 FX (AB (aV 0) (AB (aC (.int 1)) AM))))
def Fg:AF:=A0 1 O8
def UQ {a:PV}{Q:PV->Prop}(h:O8 ⟨λ_=>Q .non,Q,λ_=>False,λ_=>False⟩ [some (.val a)]):Fg [a] Q:=h
def ins:km Rat->Rat->km Rat
 | [],x=> [x]
 | q::r,x=>if q<x then q::ins r x else if q=x then q::r else x::q::r
abbrev TK (qs:km Rat):Prop:=qs.Pairwise (· < ·)
theorem Tt {x y:Rat}:∀{qs:km Rat},y∈ins qs x↔y=x\/y∈qs
 | [] =>by simp[ins]
 | q::r=>by
   unfold ins;split
   .rw [AAc,Tt,AAc];grind
   .split
    .rename_i h;subst h;simp
    .simp
theorem Zw {x:Rat}:∀{qs:km Rat},TK qs->TK (ins qs x)
 | [],_=>by simp[ins]
 | q::r,h=>by
   obtain⟨h1,h2⟩:=AAg.mp h;unfold ins;split
   .rename_i hq;refine AAg.mpr ⟨λy hy=> ?_,Zw h2⟩;rcases Tt.mp hy with rfl|hy
    .exact hq
    .exact h1 y hy
   .split
    .exact h
    .refine AAg.mpr ⟨λy hy=> ?_,h⟩;rcases AAc.mp hy with rfl|hy
     .grind
     .have:=h1 y hy;grind
theorem ZN {x:Rat}:∀{qs:km Rat},(ins qs x).length<=qs.length+1
 | [] =>by simp[ins]
 | q::r=>by
   have:=ZN (x:=x) (qs:=r);unfold ins;split
   .simp;omega
   .split <;> simp
structure At (qs:List Rat) (x:Rat) (k:Nat):Prop where
 le:k<=qs.length
 lo:∀q∈qs.take k,q<x
 hi:∀q∈qs.drop k,¬q<x
theorem XH:∀{qs:km Rat} {x:Rat} {k:Nat},TK qs->At qs x k->ins qs x=if qs[k]? =some x then qs else qs.take k++x::qs.drop k
 | [],x,k,_,h=>by have:=h.le;simp at this;subst this;simp[ins]
 | q::r,x,0,_,h=>by
   have:=h.hi q (by simp);unfold ins;rw[AAa this];by_cases e:q=x
   .rw [AAb e,AAb (by simp[e])]
   .rw [AAa e,AAa (by simp[e])];rfl
 | q::r,x,k+1,hs,h=>by have hq:=h.lo q (by simp);have ih:=XH (qs:=r) (x:=x) (k:=k) (AAg.mp hs).2 ⟨by have:=h.le;simp at this;exact this,λy hy=>h.lo y (by simp[hy]),λy hy=>h.hi y (by simpa using hy)⟩;unfold ins;rw[AAb hq,ih];simp only[List.getElem?_cons_succ,ADe,List.drop_succ_cons];split <;> rfl
theorem Um:∀{a b:km Rat},TK a->TK b->(∀x,x∈a↔x∈b)->a=b
 | [], [],_,_,_=>rfl
 | [],y::b,_,_,h=>by have:=(h y).mpr (by simp);simp at this
 | x::a, [],_,_,h=>by have:=(h x).mp (by simp);simp at this
 | x::a,y::b,ha,hb,h=>by
   obtain⟨f,g⟩:=AAg.mp ha;obtain⟨b1,b2⟩:=AAg.mp hb;have c:x=y:=by
    rcases AAc.mp ((h x).mp (by simp)) with e|e
    .exact e
    .rcases AAc.mp ((h y).mpr (by simp)) with d|d
     .exact d.symm
     .have:=b1 x e;have:=f y d;grind
   subst c;congr 1;refine Um g b2 λz=>⟨λhz=> ?_,λhz=> ?_⟩
   .rcases AAc.mp ((h z).mp (by simp[hz])) with e|e
    .subst e;have:=f z hz;grind
    .exact e
   .rcases AAc.mp ((h z).mpr (by simp[hz])) with e|e
    .subst e;have:=b1 z hz;grind
    .exact e
def Cq (xs:km Rat):km Rat:=xs.foldl ins []
theorem On:∀(xs qs:km Rat),TK qs->TK (xs.foldl ins qs)/\(∀y,y∈xs.foldl ins qs↔y∈xs\/y∈qs)/\(xs.foldl ins qs).length<=qs.length+xs.length
 | [],qs,h=>⟨h,by simp,by simp⟩
 | x::xs,qs,h=>by
   obtain⟨h1,h2,a⟩:=On xs (ins qs x) (Zw h);refine⟨h1,λy=> ?_, ?_⟩
   .rw [ACQ,h2,Tt,AAc];grind
   .have:=ZN (x:=x) (qs:=qs);rw[ACQ,AAz];omega
def Ca {xs:km Rat}:TK (Cq xs):=(On xs [] .nil).1
def CW {xs:km Rat}{y:Rat}:y∈Cq xs↔y∈xs:=by rw[Cq,(On xs [] .nil).2.1];simp
def G0 {xs:km Rat}:(Cq xs).length<=xs.length:=by have:=(On xs [] .nil).2.2;unfold Cq;simpa using this
def gR {a b:km Rat}(h:∀x,x∈a↔x∈b):Cq a=Cq b:=Um Ca Ca λx=>by rw[CW,CW,h]
theorem Z4:∀{qs:km Rat} {m:Nat} {c x:Rat},TK qs->qs[m]? =some c->c<x->∀q∈qs.take (m+1),q<x
 | [],m,c,x,_,e,_=>by simp at e
 | a::r,0,c,x,_,e,h=>by simp at e;subst e;simp[h]
 | a::r,m+1,c,x,hs,e,h=>by
   obtain⟨h1,h2⟩:=AAg.mp hs;have b:r[m]? =some c:=by simpa using e
   intro q hq;rw[ADe] at hq;rcases AAc.mp hq with rfl|hq
   .have:=h1 c (ABN b);grind
   .exact Z4 h2 b h q hq
theorem ZC:∀{qs:km Rat} {m:Nat} {c x:Rat},TK qs->qs[m]? =some c->¬c<x->∀q∈qs.drop m,¬q<x
 | [],m,c,x,_,e,_=>by simp at e
 | a::r,0,c,x,hs,e,h=>by
   simp at e;subst e;intro q hq;rcases AAc.mp hq with rfl|hq
   .exact h
   .have:=(AAg.mp hs).1 q hq;grind
 | a::r,m+1,c,x,hs,e,h=>by intro q hq;exact ZC (AAg.mp hs).2 (by simpa using e) h q (by simpa using hq)
def dX {qs:km Rat}{x:Rat}{B M:Nat}(hs:TK qs)(hl:qs.length<=1000000)(hq:∀q∈qs,Bd B q)(hx:Bd M x)(r:B<=4000)(hM:M<=4000){Q:PV->Prop}(q:∀k:Nat,At qs x k->Q (.int k)):Dg [.lst (qs.map fr),fr x] Q:=by
 apply OS;repeat' array_get_dec
 refine uO (λn τ=>∃(lo hi:Nat) (z:ke AV),hi-lo<n/\lo<=hi/\hi<=qs.length/\(∀q∈qs.take lo,q<x)/\(∀q∈qs.drop hi,¬q<x)/\τ= [some (.val (.lst (qs.map fr))),some (.val (fr x)),some (.val (.int lo)),some (.val (.int hi)),z]) ?_ ?_ (n:=qs.length+1) ⟨0,qs.length,none,by omega,by omega,by omega,by simp,by simp,rfl⟩
 .rintro n τ R d ⟨lo,hi,z,h1,h2,i,f,g,rfl⟩;have j:frz [some (.val (.lst (qs.map fr))),some (.val (fr x)),some (.val (.int lo)),some (.val (.int hi)),z] = [some (.val (.lst (qs.map fr))),some (.val (fr x)),some (.val (.int lo)),some (.val (.int hi)),i8 z] :=rfl;rw[j];repeat' array_get_dec
  .rename_i l;refine⟨⟨by decide,by decide⟩, ?_⟩;have o:((lo:Int)+hi).fdiv 2=((lo+hi)/2:Nat):=by rw[ACu _ (by decide)];omega
   rw[o];have m1:(lo+hi)/2<hi:=by omega
   have m2:lo<=(lo+hi)/2:=by omega
   generalize (lo+hi)/2=m at *;repeat' array_get_dec
   rename_i c p hc;have a:qs[m]? =some c:=p;have s:=hq c hc;repeat' array_get_dec
   .rename_i b;refine d _ ⟨m+1,hi,_,by omega,by omega,i,Z4 hs a b,g,rfl⟩
   .rename_i b;refine d _ ⟨lo,m,_,by omega,m2,by omega,f,ZC hs a b,rfl⟩
  .rename_i l;have e:lo=hi:=by omega
   subst e;exact q lo ⟨by omega,f,g⟩
 .rintro τ ⟨lo,hi,z,h,_⟩;omega
def R4 {v:PV}{xs:km Rat}{B:Nat}(hv:v= .lst (xs.map fr)\/v= .tup (xs.map fr))(hl:xs.length<=1000)(hx:∀x∈xs,Bd B x)(n:B<=4000){Q:PV->Prop}(q:Q (.lst ((Cq xs).map fr))):Gr [v] Q:=by
 apply YR;have key:∀{b f:ke AV},Ex (Aq 2) Ni ⟨As (aV 1) ⟨λ_=>Q .non,Q,λ_=>False,λ_=>False⟩,Q,λ_=>False,λ_=>False⟩ (xs.map fr) [some (.val v),some (.own []),b,f] :=by
  intro b f;refine DN fr (λa vs τ=>∃b f,τ= [some (.val v),some (.own ((Cq a).map fr)),b,f]) ?_ ?_ ⟨_,_,rfl⟩
  .rintro τ ⟨b,f,rfl⟩;repeat' array_get_dec
   exact q
  .rintro a c vs e τ R o ⟨b,f,rfl⟩;have ul:a.length<=1000:=by have:=congrArg List.length e;simp at this;omega
   have s:=G0 (xs:=a);have p:∀y∈Cq a,Bd B y:=λy hy=>hx y (by rw[<-e];simp[CW.mp hy]);have r:Bd B c:=hx c (by rw[<-e];simp);have g:∀(m:km Rat) b f,m=ins (Cq a) c->R [some (.val v),some (.own (m.map fr)),b,f] :=λm b f h=>o _ ⟨b,f,by rw[h,show Cq (a ++ [c])=ins (Cq a) c by unfold Cq;rw[ADu];rfl]⟩;repeat' array_get_dec
   refine dX Ca (by omega) p r n n λk hk=> ?_;have t:=hk.le;have j:=XH Ca hk;repeat' array_get_dec
   .rename_i h1;have l:(Cq a)[k]? =none:=AFS (by omega);rw[l,AAa (by simp)] at j;have:=g _ (some (.val (fr c))) (some (.val (.int k))) j.symm;rw[AAu,AAi,ADF,ACh] at this;exact this
   .rename_i h1 d l _ h2;have i:(Cq a)[k]? =some d:=l;rw[i,AAa (by simpa using h2)] at j;have:=g _ (some (.val (fr c))) (some (.val (.int k))) j.symm;rw[AAu,AAi,ADF,ACh] at this;exact this
   .rename_i h1 d l _ h2;have i:(Cq a)[k]? =some d:=l;rw[i,AAb (by rw[h2])] at j;exact g _ _ _ j.symm
 rcases hv with rfl|rfl;all_goals
  ac_rfl;exact key
abbrev Pl:=Rat×Int
abbrev Bz:=Rat×Int×ke Rat
def bp (s:Bz):Pl:=(s.1,1-s.2.1)
def ep (s:Bz):ke Pl:=s.2.2.map λe=>(e,0)
def F6 (p:Pl):FK:=((p.1.num,p.1.den),p.2)
def To {p q:Pl}(h:F6 p=F6 q):p=q:=by obtain⟨a,i⟩:=p;obtain⟨b,j⟩:=q;unfold F6 at h;simp only[AE1,Int.ofNat_inj] at h;obtain⟨⟨h1,h2⟩,c⟩:=h;have:a=b:=Rat.ext h1 h2;rw[this,c]
def qv:ke Rat->PV|none=> .non|some e=>fr e
def HW (s:Bz):PV:= .tup [fr s.1, .int s.2.1,qv s.2.2]
def tN (s:Bz):PV:= .lst [fr s.1, .int s.2.1,qv s.2.2]
def oY {s:Bz}{x:PV}(h:x=HW s\/x=tN s):Zn x=some ((s.1.num,(s.1.den:Int)),s.2.1,s.2.2.map λe=>(e.num,(e.den:Int))):=by obtain⟨b,i,e⟩:=s;rcases h with rfl|rfl <;> cases e <;> rfl
def iF {m:km (FK×Int)}{k a:FK}{v:Int}:BX (RO m k v) a=if a=k then some v else BX m a:=by
 unfold RO;by_cases hk:(m.any λp=>decide (p.1=k))=true
 .rw [AAb hk];induction m with
  | nil=>simp at hk
  | cons p r ih=>
    by_cases e:p.1=k
    .by_cases b:a=k
     .subst b;simp[BX,e]
     .have:¬k=a:=λz=>b z.symm;by_cases d:(r.any λp=>decide (p.1=k))=true
      .have:=ih d;simpa[BX,e,b,this, ‹¬k=a›] using this
      .have hm:r.map (λp=>if p.1=k then (p.1,v) else p)=r:=by
        conv=>rhs;rw[<-List.map_id r]
        apply ACy;intro q hq;have:¬q.1=k:=λz=>d (AE2.mpr ⟨q,hq,by simpa using z⟩);rw[AAa this];rfl
       simp only[AAi,e,ABU,hm];simp[BX,e,b,this]
    .have d:(r.any λp=>decide (p.1=k))=true:=by simpa[e] using hk
     have:=ih d;by_cases c:p.1=a
     .have:¬a=k:=λz=>e (c.trans z);simp[BX,e,c,this]
     .simpa [BX,e,c] using this
 .rw [AAa hk];induction m with
  | nil=>
    by_cases b:a=k
    .subst b;simp[BX]
    .have:¬k=a:=λz=>b z.symm;simp[BX,b,this]
  | cons p r ih=>
    have e:¬p.1=k:=λz=>hk (by simp[z]);have d:¬(r.any λp=>decide (p.1=k))=true:=λz=>hk (by simp only[ABg,z,Bool.or_true]);have:=ih d;by_cases c:p.1=a
    .have:¬a=k:=λz=>e (c.trans z);simp[BX,c,this]
    .simpa [BX,c] using this
def jU {m:km (FK×Int)}{k a:FK}{v:Int}:a∈(RO m k v).map (·.1)↔a=k\/a∈m.map (·.1):=by
 unfold RO;split
 .rename_i hk;obtain⟨q,hq,e⟩:=AE2.mp hk;have e:q.1=k:=by simpa using e
  have:(m.map λp=>if p.1=k then (p.1,v) else p).map (·.1)=m.map (·.1):=by rw[ABf];apply ACy;intro p _;by_cases z:p.1=k <;> simp[z]
  rw[this];refine⟨.inr,λh=>h.elim (λz=> ?_) id⟩;rw[z,<-e];exact AAl.mpr ⟨q,hq,rfl⟩
 .rw [AAu,AAn];simp only[AAi,ADW,ABZ];exact Or.comm
def kr {m:km (FK×Int)}{k:FK}:(BX m k).isSome=true↔k∈m.map (·.1):=by
 unfold BX;rw[ADo,List.find?_isSome,AAl];constructor
 .rintro ⟨p,hp,e⟩;exact⟨p,hp,by simpa using e⟩
 .rintro ⟨p,hp,e⟩;exact⟨p,hp,by simpa using e⟩
def QD (s:Bz)(p:Pl):Int:=(if bp s=p then 1 else 0)-(if ep s=some p then 1 else 0)
def cnt (ss:km Bz)(p:Pl):Int:=(ss.map λs=>QD s p).sum
def Lv (ss:km Bz)(p:Pl):Prop:=∃s∈ss,bp s=p\/ep s=some p
def M4 {m:km (FK×Int)}{k a:FK}{d:Int}:(BX (bump m k d) a).getD 0=(BX m a).getD 0+if a=k then d else 0:=by
 unfold bump;rw[iF];by_cases e:a=k
 .subst e;simp
 .simp [e]
def Pu {m:km (FK×Int)}{k a:FK}{d:Int}:a∈(bump m k d).map (·.1)↔a=k\/a∈m.map (·.1):=jU
inductive IA:List PV->List Bz->Prop where
 | nil:IA [] []
 | cons {x:PV} {s:Bz} {xs:List PV} {ss:List Bz} (h:x=HW s\/x=tN s) (t:IA xs ss):IA (x::xs) (s::ss)
def IA.length:∀{xs:km PV} {ss:km Bz},IA xs ss->xs.length=ss.length
 | _,_, .nil=>rfl
 | _,_, .cons _ t=>by simp[t.length]
def cB (ss:km Bz):IA (ss.map HW) ss:=by
 induction ss with
 | nil=>exact .nil
 | cons s ss ih=>exact .cons (.inl rfl) ih
def Wl {m:km (FK×Int)}{s:Bz}:(∀p,(BX (Hi m (s.1.num,(s.1.den:Int)) s.2.1 (s.2.2.map λe=>(e.num,(e.den:Int)))) (F6 p)).getD 0=(BX m (F6 p)).getD 0+QD s p)/\ ∀k,k∈(Hi m (s.1.num,(s.1.den:Int)) s.2.1 (s.2.2.map λe=>(e.num,(e.den:Int)))).map (·.1)↔k∈m.map (·.1)\/∃p,(bp s=p\/ep s=some p)/\k=F6 p:=by
 obtain⟨b,h,e⟩:=s;have a:∀p:Pl,(F6 p=((b.num,(b.den:Int)),1-h))↔bp (b,h,e)=p:=λp=>⟨λz=>(To (p:=p) (q:=(b,1-h)) z).symm,λz=>by rw[<-z];rfl⟩;cases e with
 | none=>
   refine⟨λp=> ?_,λk=> ?_⟩
   .show (BX (bump m ((b.num,(b.den:Int)),1-h) 1) (F6 p)).getD 0=_;rw[M4];simp only[a,QD,ep];simp
   .show k∈(bump m ((b.num,(b.den:Int)),1-h) 1).map (·.1)↔_;rw[Pu];constructor
    .rintro (z|z)
     .exact .inr ⟨_, .inl rfl,z⟩
     .exact .inl z
    .rintro (z|⟨p,z|z,hk⟩)
     .exact .inr z
     .exact .inl (by rw[hk,<-z];rfl)
     .cases z
 | some e=>
   have c:∀p:Pl,(F6 p=((e.num,(e.den:Int)),0))↔ep (b,h,some e)=some p:=λp=>⟨λz=>by rw[<-To (p:=(e,0)) (q:=p) z.symm];rfl,λz=>by cases z;rfl⟩;refine⟨λp=> ?_,λk=> ?_⟩
   .show (BX (bump (bump m ((b.num,(b.den:Int)),1-h) 1) ((e.num,(e.den:Int)),0) (-1)) (F6 p)).getD 0=_;rw[M4,M4];simp only[a,c,QD];split <;> split <;> omega
   .show k∈(bump (bump m ((b.num,(b.den:Int)),1-h) 1) ((e.num,(e.den:Int)),0) (-1)).map (·.1)↔_;rw[Pu,Pu];constructor
    .rintro (z|z|z)
     .exact .inr ⟨(e,0), .inr rfl,z⟩
     .exact .inr ⟨_, .inl rfl,z⟩
     .exact .inl z
    .rintro (z|⟨p,z|z,hk⟩)
     .exact .inr (.inr z)
     .exact .inr (.inl (by rw[hk,<-z];rfl))
     .exact .inl (by rw[hk];exact(c p).mpr z)
theorem SM:∀{xs:km PV} {ss:km Bz} (m0:km (FK×Int)),IA xs ss->∃m,GR xs m0=some m/\(∀p,(BX m (F6 p)).getD 0=(BX m0 (F6 p)).getD 0+cnt ss p)/\(∀k,k∈m.map (·.1)↔k∈m0.map (·.1)\/∃p,Lv ss p/\k=F6 p)/\m.length<=m0.length+2*ss.length
 | _,_,m0, .nil=>⟨m0,rfl,λp=>by simp[cnt],λk=>by simp[Lv],by simp⟩
 | x::xs,s::ss,m0, .cons h t=>by
   obtain⟨m,h1,h2,d,f⟩:=SM (Hi m0 (s.1.num,(s.1.den:Int)) s.2.1 (s.2.2.map λe=>(e.num,(e.den:Int)))) t;obtain⟨t1,t2⟩:=Wl (m:=m0) (s:=s);refine⟨m, ?_,λp=> ?_,λk=> ?_, ?_⟩
   .unfold GR;rw[oY h];exact h1
   .rw [h2,t1];simp[cnt];omega
   .rw [d,t2];constructor
    .rintro ((z|⟨p,z,e⟩)|⟨p,⟨c,a,z⟩,e⟩)
     .exact .inl z
     .exact .inr ⟨p,⟨s,by simp,z⟩,e⟩
     .exact .inr ⟨p,⟨c,by simp[a],z⟩,e⟩
    .rintro (z|⟨p,⟨c,a,z⟩,e⟩)
     .exact .inl (.inl z)
     .rcases AAc.mp a with rfl|a
      .exact .inl (.inr ⟨p,z,e⟩)
      .exact .inr ⟨p,⟨c,a,z⟩,e⟩
   .have:=N0 (m:=m0) (b:=(s.1.num,(s.1.den:Int))) (h:=s.2.1) (e:=s.2.2.map λe=>(e.num,(e.den:Int)));simp only[AAz];omega
def Qq (x p:Pl):kc:=decide (x.1<p.1)||(decide (x.1=p.1)&&decide (x.2<=p.2))
def Bp (s:Bz)(p:Pl):kc:=(decide (s.1<p.1)||(decide (s.1=p.1)&&decide (0<s.2.1+p.2)))&&(match s.2.2 with | none=>true|some e=>decide (p.1<e))
structure C3 (B:Nat) (s:Bz):Prop where
 b:Bd B s.1
 h:s.2.1=0\/s.2.1=1
 e:∀e,s.2.2=some e->s.1<e/\Bd B e
def tm (s:Bz)(p:Pl):Int:=(if Qq (bp s) p=true then 1 else 0)-(if (ep s).any (Qq · p)=true then 1 else 0)
def uL {B:Nat}{s:Bz}{p:Pl}(ok:C3 B s)(hp:0<=p.2):tm s p=if Bp s p=true then 1 else 0:=by
 obtain⟨b,h,e⟩:=s;obtain⟨q,i⟩:=p;have g:h=0\/h=1:=ok.h;have hp:0<=i:=hp;have d:Qq (bp (b,h,e)) (q,i)=(decide (b<q)||(decide (b=q)&&decide (0<h+i))):=by unfold Qq bp;congr 2;exact ADk.mpr (by show 1-h<=i↔0<h+i;omega)
 cases e with
 | none=> unfold tm Bp;rw[d];simp[ep]
 | some e=>
   have j:b<e:=(ok.e e rfl).1;have f:(ep (b,h,some e)).any (Qq · (q,i))= !decide (q<e):=by
    show Qq (e,0) (q,i)=_;unfold Qq;by_cases z:q<e
    .have a:¬e<q:=by grind
     have c:¬e=q:=by grind
     simp[z,a,c]
    .by_cases a:e<q
     .simp [z,a]
     .have c:e=q:=by grind
      simp[c,hp]
   unfold tm Bp;rw[d,f];by_cases z:q<e
   .simp [z]
   .have a:b<q:=by grind
    simp[z,a]
def Hn (ss:km Bz)(p:Pl):Nat:=(ss.filter (Bp · p)).length
theorem Xm {B:Nat}{p:Pl}(hp:0<=p.2):∀{ss:km Bz},(∀s∈ss,C3 B s)->(Hn ss p:Int)=(ss.map λs=>tm s p).sum
 | [],_=>rfl
 | s::ss,h=>by
   have ih:=Xm hp (ss:=ss) λx hx=>h x (by simp[hx]);have e:=uL (p:=p) (h s (by simp)) hp;rw[AAi,ADj,<-ih,e];unfold Hn;rw[ABk];split
   .simp;omega
   .simp
def Of (x p:Pl):Prop:=x.1<p.1\/(x.1=p.1/\x.2<p.2)
def M9 {a b c:Pl}(h:Of a b)(h2:Of b c):Of a c:=by
 unfold Of at *;rcases h with h|⟨h,h'⟩ <;> rcases h2 with h2|⟨h2,d⟩
 .left;grind
 .left;grind
 .left;grind
 .right;exact⟨by grind,by omega⟩
def Iu {x p:Pl}:Qq x p=true↔Of x p\/x=p:=by
 obtain⟨a,i⟩:=x;obtain⟨b,j⟩:=p;unfold Qq Of;simp only[AC2,ABS,AC3,AE1];constructor
 .rintro (h|⟨h,h2⟩)
  .exact .inl (.inl h)
  .by_cases e:i=j
   .exact .inr ⟨h,e⟩
   .exact .inl (.inr ⟨h,by omega⟩)
 .rintro ((h|⟨h,h2⟩)|⟨h,h2⟩)
  .exact .inl h
  .exact .inr ⟨h,by omega⟩
  .exact .inr ⟨h,by omega⟩
def Og {p:Pl}:¬Of p p:=by
 unfold Of;rintro(h|⟨_,h⟩)
 .grind
 .omega
def V1 (x:Pl):ke Pl->kc|none=>false|some p=>Qq x p
def kh (s:Bz)(o:ke Pl):Int:=(if V1 (bp s) o=true then 1 else 0)-(if (ep s).any (V1 · o)=true then 1 else 0)
def wX:ke Pl->Pl->Prop|none,_=>True|some q,p=>Of q p
def MK {x p:Pl}{o:ke Pl}(hx:V1 x o=true\/x=p\/Of p x)(a:wX o p):Qq x p=(V1 x o||decide (x=p))/\¬(V1 x o=true/\x=p):=by
 have h1:V1 x o=true->Of x p:=λh=>by
  cases o with
  | none=>cases h
  | some q=>rcases Iu.mp h with h|h
            .exact M9 h a
            .rw [h];exact a
 refine⟨?_,λh=>by rw[h.2] at h1;exact Og (h1 (h.2 ▸ h.1))⟩;rw[ACa,AC2,AC3,Iu];constructor
 .rintro (h|h)
  .rcases hx with z|z|z
   .exact .inl z
   .exact .inr z
   .exact absurd (M9 h z) Og
  .exact .inr h
 .rintro (h|h)
  .exact .inl (h1 h)
  .exact .inr h
def eJ {A:kc}{E:Prop}[Decidable E](h:¬(A=true/\E)):(if (A||decide E)=true then (1:Int) else 0)=(if A=true then 1 else 0)+if E then 1 else 0:=by cases A <;> by_cases e:E <;> simp_all
def ko {s:Bz}{p:Pl}{o:ke Pl}(hb:V1 (bp s) o=true\/bp s=p\/Of p (bp s))(he:∀x,ep s=some x->V1 x o=true\/x=p\/Of p x)(a:wX o p):tm s p=kh s o+QD s p:=by
 obtain⟨b1,b2⟩:=MK hb a;unfold tm kh QD;rw[b1,eJ b2];cases e:ep s with
 | none=>simp
 | some x=>
   obtain⟨b,c⟩:=MK (he x e) a;have h1:(if (some x).any (Qq · p)=true then (1:Int) else 0)=(if V1 x o=true then 1 else 0)+if x=p then 1 else 0:=by show (if Qq x p=true then (1:Int) else 0)=_;rw[b,eJ c]
   rw[h1];show _=(_-(if V1 x o=true then (1:Int) else 0))+(_-(if some x=some p then (1:Int) else 0));have h2:(if some x=some p then (1:Int) else 0)=if x=p then 1 else 0:=by by_cases z:x=p <;> simp[z]
   rw[h2];omega
def aI (X:km Pl):Prop:=X.Pairwise Of
def J8 (ss:km Bz):Int->km Pl->Prop
 | _, [] =>True
 | c,p::r=>(Hn ss p:Int)=c+cnt ss p/\J8 ss (Hn ss p) r
theorem Zy {a:Type}(f g:a->Int):∀xs:km a,(xs.map λx=>f x+g x).sum=(xs.map f).sum+(xs.map g).sum
 | [] =>rfl
 | x::xs=>by simp only[AAi,ADj,Zy f g xs];omega
theorem Pa {B:Nat}{ss:km Bz}(ok:∀s∈ss,C3 B s):∀(X:km Pl) (o:ke Pl),aI X->(∀p∈X,wX o p/\0<=p.2)->(∀s∈ss,(V1 (bp s) o=true\/bp s∈X)/\∀x,ep s=some x->V1 x o=true\/x∈X)->J8 ss ((ss.map λs=>kh s o).sum) X
 | [],_,_,_,_=>True.intro
 | p::r,o,hs,ho,hk=>by
   obtain⟨h1,h2⟩:=AAg.mp hs;obtain⟨op,a⟩:=ho p (by simp);have cls:∀x,(V1 x o=true\/x∈p::r)->V1 x o=true\/x=p\/Of p x:=λx h=>by
    rcases h with h|h
    .exact .inl h
    .rcases AAc.mp h with h|h
     .exact .inr (.inl h)
     .exact .inr (.inr (h1 x h))
   have e:(Hn ss p:Int)=(ss.map λs=>kh s o).sum+cnt ss p:=by rw[Xm a ok];unfold cnt;rw[<-Zy];congr 1;apply ACy;intro s hs;exact ko (cls _ (hk s hs).1) (λx ex=>cls x ((hk s hs).2 x ex)) op
   refine⟨e, ?_⟩;have:=Pa ok r (some p) h2 (λq hq=>⟨h1 q hq,(ho q (by simp[hq])).2⟩) (λs hs=>⟨?_,λx ex=> ?_⟩)
   .rw [show (ss.map λs=>kh s (some p)).sum=(Hn ss p:Int) from(Xm a ok).symm] at this;exact this
   .rcases cls _ (hk s hs).1 with z|z|z
    .exact .inl (by rw[show V1 (bp s) (some p)=Qq (bp s) p from rfl,(MK (.inl z) op).1,z];rfl)
    .exact .inl (Iu.mpr (.inr z))
    .rcases (hk s hs).1 with y|y
     .exact .inl (by rw[show V1 (bp s) (some p)=Qq (bp s) p from rfl,(MK (.inl y) op).1,y];rfl)
     .rcases AAc.mp y with y|y
      .exact .inl (Iu.mpr (.inr y))
      .exact .inr y
   .rcases (hk s hs).2 x ex with y|y
    .exact .inl (by rw[show V1 x (some p)=Qq x p from rfl,(MK (.inl y) op).1,y];rfl)
    .rcases AAc.mp y with y|y
     .exact .inl (Iu.mpr (.inr y))
     .exact .inr y
def places (qs:km Rat):km Pl:=qs.flatMap λq=> [(q,0),(q,1)]
def CA {qs:km Rat}{p:Pl}:p∈places qs↔p.1∈qs/\(p.2=0\/p.2=1):=by
 obtain⟨a,i⟩:=p;unfold places;simp only[AC4,AAc,AAq,AAr,AE1];constructor
 .rintro ⟨q,hq,⟨rfl,rfl⟩|⟨rfl,rfl⟩⟩
  .exact ⟨hq, .inl rfl⟩
  .exact ⟨hq, .inr rfl⟩
 .rintro ⟨h,h2⟩;exact⟨a,h,h2.elim (λz=> .inl ⟨rfl,z⟩) (λz=> .inr ⟨rfl,z⟩)⟩
theorem El:∀{qs:km Rat},TK qs->aI (places qs)
 | [],_=>List.Pairwise.nil
 | q::r,h=>by
   obtain⟨h1,h2⟩:=AAg.mp h;have ih:=El h2;have a:∀(i:Int),∀p∈places r,Of (q,i) p:=λi p hp=> .inl (h1 _ (CA.mp hp).1);show aI ((q,0)::(q,1)::places r);refine AAg.mpr ⟨λp hp=> ?_,AAg.mpr ⟨a 1,ih⟩⟩;rcases AAc.mp hp with rfl|hp
   .exact .inr ⟨rfl,by show (0:Int)<1;decide⟩
   .exact a 0 p hp
def Cg (ss:km Bz):km Rat:=ss.flatMap λs=>s.1::s.2.2.toList
def Dm (ss:km Bz):km Pl:=places (Cq (Cg ss))
def Pw {B:Nat}{ss:km Bz}(ok:∀s∈ss,C3 B s){s:Bz}(hs:s∈ss):bp s∈Dm ss/\∀x,ep s=some x->x∈Dm ss:=by
 refine⟨CA.mpr ⟨CW.mpr (AC4.mpr ⟨s,hs,by simp[bp]⟩), ?_⟩,λx ex=> ?_⟩
 .have:=(ok s hs).h;unfold bp;simp only;omega
 .obtain ⟨e,he,rfl⟩:=ADJ.mp ex;exact CA.mpr ⟨CW.mpr (AC4.mpr ⟨s,hs,by simp[he]⟩), .inl rfl⟩
def Ip {B:Nat}{ss:km Bz}(ok:∀s∈ss,C3 B s):J8 ss 0 (Dm ss):=by
 have h:=Pa ok (Dm ss) none (El Ca) (λp hp=>⟨True.intro,by rcases (CA.mp hp).2 with z|z <;> omega⟩) (λs hs=>⟨.inr (Pw ok hs).1,λx ex=> .inr ((Pw ok hs).2 x ex)⟩);have:(ss.map λs=>kh s none).sum=0:=by
  clear h ok;induction ss with
  | nil=>rfl
  | cons s ss ih=> rw[AAi,ADj,ih];unfold kh;cases ep s <;> rfl
 rw[this] at h;exact h
def C2 (val:Pl->ke Int)(st:km (Pl×Int)×Int)(p:Pl):km (Pl×Int)×Int:=match val p with | some v=>(st.1 ++ [(p,st.2+v)],st.2+v)|none=>st
theorem Ux {ss:km Bz}{val:Pl->ke Int}(h1:∀p v,val p=some v->v=cnt ss p)(h2:∀p,val p=none->cnt ss p=0):∀(X:km Pl) (a:km (Pl×Int)) (c:Int),J8 ss c X->(X.foldl (C2 val) (a,c)).1=a++(X.filter λp=>(val p).isSome).map λp=>(p,(Hn ss p:Int))
 | [],a,c,_=>by simp
 | p::r,a,c,h=>by
   rw[ACQ];cases e:val p with
   | none=>
     have hc:(Hn ss p:Int)=c:=by rw[h.1,h2 p e];omega
     rw[show C2 val (a,c) p=(a,c) by unfold C2;rw[e],Ux h1 h2 r a c (hc ▸ h.2),ABk,AAa (by rw[e];decide)]
   | some v=>
     have hc:c+v=(Hn ss p:Int):=by rw[h.1,h1 p v e]
     rw[show C2 val (a,c) p=(a ++ [(p,c+v)],c+v) by unfold C2;rw[e],hc,Ux h1 h2 r _ _ h.2,ABk,AAb (by rw[e];rfl),AAi,ADs];rfl
section
variable {ta tb td:AE}{r:AA}{τ:BC}{Q:PV->Prop}{QL:km PV->Prop}{m:km (FK×Int)}
def sV (xs:km PV)(Q:km PV->Prop):Prop:=match xs with | [.dct kvs] =>Q (kvs.map λp=>Xr p.1)|_=>False
instance:Wp (XF r τ QL) (r τ λxs=>sV xs QL):=⟨id⟩
instance:Wp (sV [.dct m] QL) (QL (m.map λp=>Xr p.1)):=⟨id⟩
class ii (m:List (FK×Int)) (k:FK) (i:outParam Int):Prop where
 e:BX m k=some i
def wa (m:km (FK×Int))(k:FK)(Q:PV->Prop):Prop:=match BX m k with | some i=>Q (.int i)|none=>False
instance:Wp (im ta tb td τ Q) (ta τ λx=>tb τ λy=>td τ λm=>qA m λa=>QC x y λk=>Q (.bl (BX a k).isSome)):=⟨id⟩
instance:Wp (dG td ta tb τ Q) (td τ λm=>ta τ λx=>tb τ λy=>qA m λa=>QC x y λk=>wa a k Q):=⟨id⟩
instance{k:FK}{i:Int}[h:ii m k i] :Wp (wa m k Q) (Q (.int i)):=⟨λz=>by unfold wa;rw[h.e];exact z⟩
instance{R:km (FK×Int)->Prop}:Wp (qA (.dct m) R) (R m):=⟨id⟩
instance{q:Rat}{i:Int}{R:FK->Prop}:Wp (QC (fr q) (.int i) R) (R (F6 (q,i))):=⟨id⟩
end
def gz {v:PV}{xs:km PV}{m:km (FK×Int)}(hv:v= .tup xs\/v= .lst xs)(hl:xs.length<=1000)(h:GR xs [] =some m){Q:PV->Prop}(q:Q (.dct m)):JN [v] Q:=by
 have hz:2*xs.length+2<sizeLine:=ABj (by omega:_<=2002) (AA0 (by decide:2002<2003) (ACP rfl));rcases hv with rfl|rfl
 .exact ⟨hz,m,h,q⟩
 .exact ⟨hz,m,h,q⟩
def un (k:FK):Rat:=mkRat k.1.1 k.1.2.toNat
def pR (p:Pl):un (F6 p)=p.1:=by unfold un F6;show mkRat p.1.num ((p.1.den:Int).toNat)=p.1;rw[AC7];exact Rat.mkRat_self p.1
def nR (p:Pl):Xr (F6 p)= .tup [fr p.1, .int p.2] :=rfl
def ut (x:Pl×Int):PV:= .tup [fr x.1.1, .int x.1.2, .int x.2]
def Tr (ss:km Bz)(key:Pl->kc):km (Pl×Int):=((Dm ss).filter key).map λp=>(p,(Hn ss p:Int))
def bL {v:PV}{xs:km PV}{ss:km Bz}{B:Nat}(hv:v= .tup xs\/v= .lst xs)(F:IA xs ss)(ok:∀s∈ss,C3 B s)(hl:ss.length<=400)(I:B<=4000){Q:PV->Prop}(q:∀key:Pl->kc,(∀p,key p=true↔Lv ss p)->Q (.lst ((Tr ss key).map ut))):Ig [v] Q:=by
 obtain⟨m,t1,t2,D,J⟩:=SM [] F;have hx:=F.length;have K:∀p:Pl,(BX m (F6 p)).isSome=true↔Lv ss p:=λp=>by
  rw[kr,D];constructor
  .rintro (z|⟨S,z,e⟩)
   .cases z
   .rw [To e];exact z
  .exact λz=> .inr ⟨p,z,rfl⟩
 have G:=q (λp=>(BX m (F6 p)).isSome) K;have i:∀p w,BX m (F6 p)=some w->w=cnt ss p:=λp w e=>by have:=t2 p;rw[e] at this;simpa[BX] using this
 have M:∀p,BX m (F6 p)=none->cnt ss p=0:=λp e=>by have:=t2 p;rw[e] at this;simp[BX] at this;omega
 have N:=Ux i M (Dm ss) [] 0 (Ip ok);have mk:∀k∈m,∃p,k.1=F6 p/\Lv ss p:=λk hk=>by
  rcases (D k.1).mp (AAl.mpr ⟨k,hk,rfl⟩) with z|⟨p,z,e⟩
  .cases z
  .exact ⟨p,e,z⟩
 have ms:∀x,x∈m.map (λk=>un k.1)↔x∈Cg ss:=λx=>by
  rw[AAl];unfold Cg;rw[AC4];constructor
  .rintro ⟨k,hk,rfl⟩;obtain⟨p,e,s,hs,z⟩:=mk k hk;rw[e,pR];refine⟨s,hs, ?_⟩;rcases z with z|z
   .rw [<-z];simp[bp]
   .obtain ⟨T,he,rfl⟩:=ADJ.mp z;simp[he]
  .rintro ⟨s,hs,hx⟩;have go:∀p:Pl,Lv ss p->∃a∈m,un a.1=p.1:=λp hp=>by obtain⟨a,ha,e⟩:=AAl.mp ((D (F6 p)).mpr (.inr ⟨p,hp,rfl⟩));exact⟨a,ha,by rw[e,pR]⟩
   rcases AAc.mp hx with rfl|hx
   .exact go (bp s) ⟨s,hs, .inl rfl⟩
   .have hx:s.2.2=some x:=by simpa using hx
    exact go (x,0) ⟨s,hs, .inr (by unfold ep;rw[hx];rfl)⟩
 have bm:∀x∈m.map (λk=>un k.1),Bd B x:=λx h=>by
  obtain⟨s,hs,hx⟩:=AC4.mp ((ms x).mp h);rcases AAc.mp hx with rfl|hx
  .exact (ok s hs).b
  .exact ((ok s hs).e x (by simpa using hx)).2
 have H:Cq (m.map λk=>un k.1)=Cq (Cg ss):=gR ms;have U:m.length<=800:=by simp at J;omega
 apply YO;ac_rfl;refine gz hv (by omega) t1 ?_;ac_rfl;refine Dr (λk:FK×Int=>Xr k.1) fr (λk=>un k.1) (λk=>k∈m) (λk hk R A=> ?_) m [] (λ_ h=>h) ?_
 .obtain ⟨p,e,_⟩:=mk k hk;rw[e,pR] at A;rw[e,nR];repeat' array_get_dec
  exact A
 ac_rfl;rw[ABY];refine R4 (.inl rfl) (by rw[AAk];omega) bm I ?_;rw[H];have W:(Cq (Cg ss)).length<=800:=by rw[<-H];exact AA1 G0 (by rw[AAk];omega)
 ac_rfl;refine DN fr (λd vs τ=>∃t y,τ= [some (.val v),some (.val (.dct m)),some (.own (((places d).foldl (C2 λp=>BX m (F6 p)) ([],0)).1.map ut)),some (.val (.int ((places d).foldl (C2 λp=>BX m (F6 p)) ([],0)).2)),t,y]) ?_ ?_ ⟨_,_,rfl⟩
 .rintro τ ⟨t,y,rfl⟩;repeat' array_get_dec
  have e:Tr ss (λp=>(BX m (F6 p)).isSome)=((places (Cq (Cg ss))).foldl (C2 λp=>BX m (F6 p)) ([],0)).1:=by rw[show places (Cq (Cg ss))=Dm ss from rfl,N];rfl
  rw[e] at G;exact G
 .rintro d c vs e τ R A ⟨t,y,rfl⟩;have ep:places (d ++ [c])=places d ++ [(c,0),(c,1)] :=by unfold places;simp
  have es:(places (d ++ [c])).foldl (C2 λp=>BX m (F6 p)) ([],0)=C2 (λp=>BX m (F6 p)) (C2 (λp=>BX m (F6 p)) ((places d).foldl (C2 λp=>BX m (F6 p)) ([],0)) (c,0)) (c,1):=by rw[ep,ADu];rfl
  have O:((places d).foldl (C2 λp=>BX m (F6 p)) ([],0)).1.length<=2*d.length:=by
   have go:∀(X:km Pl) (st:km (Pl×Int)×Int),(X.foldl (C2 λp=>BX m (F6 p)) st).1.length<=st.1.length+X.length:=by
    intro X;induction X with
    | nil=>intro st;simp
    | cons p X ih=>
      intro st;have h1:=ih (C2 (λp=>BX m (F6 p)) st p);have h2:(C2 (λp=>BX m (F6 p)) st p).1.length<=st.1.length+1:=by unfold C2;split <;> simp
      rw[ACQ,AAz];omega
   have h1:=go (places d) ([],0);have h2:(places d).length=2*d.length:=by
    unfold places;clear A es ep e h1;induction d with
    | nil=>rfl
    | cons u d ih=>rw[AE3,ABR,ih];simp;omega
   simp at h1;omega
  have ul:d.length<=800:=by have:=congrArg List.length e;simp at this;omega
  generalize (places d).foldl (C2 λp=>BX m (F6 p)) ([],0)=st at *;obtain⟨L,n⟩:=st;have j:∀(L2:km (Pl×Int)) E t y,(L2,E)=C2 (λp=>BX m (F6 p)) (C2 (λp=>BX m (F6 p)) (L,n) (c,0)) (c,1)->R [some (.val v),some (.val (.dct m)),some (.own (L2.map ut)),some (.val (.int E)),t,y] :=λL2 E t y h=>A _ ⟨t,y,by rw[es,<-h]⟩;clear A;have o:(Rat.num 0:Int)=0:=rfl;have r:((Rat.den 0:Nat):Int)=1:=rfl;have P:L.length<=1600:=by have h:L.length<=2*d.length:=O;omega
  cases l:BX m (F6 (c,0)) with
  | none=>
    cases g:BX m (F6 (c,1)) with
    | none=>
      have f:=j L n;repeat' array_get_dec
      simp only[o,r,l];repeat' array_get_dec
      simp only[o,r,g];repeat' array_get_dec
      exact f _ _ (by unfold C2;simp only[l,g])
    | some i=>
      have f:=j (L ++ [((c,1),n+i)]) (n+i);rw[AAu] at f;haveI:ii m (F6 (c,1)) i:=⟨g⟩;repeat' array_get_dec
      simp only[o,r,l];repeat' array_get_dec
      simp only[o,r,g];repeat' array_get_dec
      exact f _ _ (by unfold C2;simp only[l,g])
  | some C=>
    haveI:ii m (F6 (c,0)) C:=⟨l⟩;cases g:BX m (F6 (c,1)) with
    | none=>
      have f:=j (L ++ [((c,0),n+C)]) (n+C);rw[AAu] at f;repeat' array_get_dec
      simp only[o,r,l];repeat' array_get_dec
      simp only[o,r,g];repeat' array_get_dec
      exact f _ _ (by unfold C2;simp only[l,g])
    | some i=>
      have f:=j (L ++ [((c,0),n+C)] ++ [((c,1),n+C+i)]) (n+C+i);rw[AAu,AAu] at f;haveI:ii m (F6 (c,1)) i:=⟨g⟩;repeat' array_get_dec
      simp only[o,r,l];repeat' array_get_dec
      simp only[o,r,g];repeat' array_get_dec
      exact f _ _ (by unfold C2;simp only[l,g])
def stepI (st:km Bz×ke Pl)(x:Pl×kc):km Bz×ke Pl:=
 match st.2,x.2 with
 | none,true=>(st.1,some x.1)
 | some b,false=>(st.1 ++ [(b.1,1-b.2,some x.1.1)],none)
 | _,_=>st
def Vh (st:km Bz×ke Pl):km Bz:=match st.2 with | none=>st.1|some b=>st.1 ++ [(b.1,1-b.2,none)]
def J0 (X:km (Pl×kc)):km Bz:=Vh (X.foldl stepI ([],none))
def qq:ke Pl->PV|none=> .non|some b=> .tup [fr b.1, .int (1-b.2)]
def cJ {st:km Bz×ke Pl}{x:Pl×kc}:(stepI st x).1.length<=st.1.length+1:=by unfold stepI;split <;> simp
theorem M3:∀(X:km (Pl×kc)) (st:km Bz×ke Pl),(X.foldl stepI st).1.length<=st.1.length+X.length
 | [],st=>by simp
 | x::X,st=>by have h1:=M3 X (stepI st x);have h2:=cJ (st:=st) (x:=x);rw[ACQ,AAz];omega
theorem NB:∀{ss:km Bz},(Cg ss).length<=2*ss.length
 | [] =>by simp[Cg]
 | s::ss=>by
   have ih:=NB (ss:=ss);unfold Cg at *;rw[AE3,ABR,AAz,AAz];have:s.2.2.toList.length<=1:=by cases s.2.2 <;> simp
   omega
theorem Ka:∀{qs:km Rat},(places qs).length=2*qs.length
 | [] =>rfl
 | q::qs=>by have ih:=Ka (qs:=qs);unfold places at *;rw[AE3,ABR,ih,AAz];simp;omega
def fK {ss:km Bz}{key:Pl->kc}:(Tr ss key).length<=4*ss.length:=by unfold Tr Dm;rw[AAk];have h1:=ACX key (places (Cq (Cg ss)));have h2:=Ka (qs:=Cq (Cg ss));have a:=G0 (xs:=Cg ss);have b:=NB (ss:=ss);omega
def XW {v:PV}{xs:km PV}{ss:km Bz}{B:Nat}{n:Int}(hv:v= .tup xs\/v= .lst xs)(u:IA xs ss)(ok:∀s∈ss,C3 B s)(hl:ss.length<=400)(w:B<=4000){Q:PV->Prop}(q:∀key:Pl->kc,(∀p,key p=true↔Lv ss p)->Q (.tup ((J0 ((Tr ss key).map λx=>(x.1,decide (n<=x.2)))).map HW))):FX [v, .int n] Q:=by
 apply WQ;ac_rfl;refine bL hv u ok hl w λkey hk=> ?_;have m:=q key hk;have y:(Tr ss key).length<=2000:=AA1 fK (by omega);clear q;generalize Tr ss key=Ls at *;ac_rfl;refine DN ut (λj vs τ=>∃a d g,τ= [some (.val v),some (.val (.int n)),some (.own (((j.map λx=>(x.1,decide (n<=x.2))).foldl stepI ([],none)).1.map HW)),some (.val (qq ((j.map λx=>(x.1,decide (n<=x.2))).foldl stepI ([],none)).2)),a,d,g]) ?_ ?_ ⟨_,_,_,rfl⟩
 .rintro τ ⟨a,d,g,rfl⟩;have o:=M3 (Ls.map λx=>(x.1,decide (n<=x.2))) ([],none);unfold J0 at m;generalize (Ls.map λx=>(x.1,decide (n<=x.2))).foldl stepI ([],none)=st at *;obtain⟨L,b⟩:=st;have r:L.length<=2000:=by have h:L.length<=0+_:=o;rw[AAk] at h;omega
  cases b with
  | none=>
    have l:Q (.tup (L.map HW)):=m;show G6 _ [some (.val v),some (.val (.int n)),some (.own (L.map HW)),some (.val .non),a,d,g];repeat' array_get_dec
    exact l
  | some b=>
    have l:Q (.tup ((L ++ [(b.1,1-b.2,none)]).map HW)):=m;rw[AAu] at l;show G6 _ [some (.val v),some (.val (.int n)),some (.own (L.map HW)),some (.val (.tup [fr b.1, .int (1-b.2)])),a,d,g];repeat' array_get_dec
    exact l
 .rintro j c vs e τ R t ⟨a,d,g,rfl⟩;have o:=M3 (j.map λx=>(x.1,decide (n<=x.2))) ([],none);have ul:j.length<=2000:=by have:=congrArg List.length e;simp at this;omega
  have es:((j ++ [c]).map λx=>(x.1,decide (n<=x.2))).foldl stepI ([],none)=stepI ((j.map λx=>(x.1,decide (n<=x.2))).foldl stepI ([],none)) (c.1,decide (n<=c.2)):=by rw[AAu,ADu];rfl
  generalize (j.map λx=>(x.1,decide (n<=x.2))).foldl stepI ([],none)=st at *;obtain⟨L,b⟩:=st;have r:L.length<=2000:=by have h:L.length<=0+_:=o;rw[AAk] at h;omega
  have i:∀L2 b2 a d g,(L2,b2)=stepI (L,b) (c.1,decide (n<=c.2))->R [some (.val v),some (.val (.int n)),some (.own (L2.map HW)),some (.val (qq b2)),a,d,g] :=λL2 b2 a d g h=>t _ ⟨a,d,g,by rw[es,<-h]⟩;clear t;obtain⟨p,k⟩:=c;show JR 3 (Af (Aq 4) (Af (Aq 5) (Af (Aq 6) Bw))) (.tup [fr p.1, .int p.2, .int k]) _ _;cases b with
  | none=>
    show JR 3 (Af (Aq 4) (Af (Aq 5) (Af (Aq 6) Bw))) (.tup [fr p.1, .int p.2, .int k]) [some (.val v),some (.val (.int n)),some (.own (L.map HW)),some (.val .non),a,d,g] _;repeat' array_get_dec
    .rename_i h;exact i L (some p) _ _ _ (by unfold stepI;simp only[AAt h])
    .rename_i h;exact i L none _ _ _ (by unfold stepI;simp only[AAm h])
  | some b=>
    show JR 3 (Af (Aq 4) (Af (Aq 5) (Af (Aq 6) Bw))) (.tup [fr p.1, .int p.2, .int k]) [some (.val v),some (.val (.int n)),some (.own (L.map HW)),some (.val (.tup [fr b.1, .int (1-b.2)])),a,d,g] _;repeat' array_get_dec
    .rename_i h;have f:=i (L ++ [(b.1,1-b.2,some p.1)]) none (some (.val (fr p.1))) (some (.val (.int p.2))) (some (.val (.int k))) (by unfold stepI;simp only[AAm (show ¬n<=k by omega)]);rw[AAu] at f;exact f
    .rename_i h;exact i L (some b) _ _ _ (by unfold stepI;simp only[AAt (show n<=k by omega)])
def XC (In key:Pl->kc):kc->km Pl->Prop
 | _, [] =>True
 | c,p::r=>(key p=false->In p=c)/\XC In key (In p) r
def Yc {st:km Bz×ke Pl}{p:Pl}{i:kc}:(stepI st (p,i)).2.isSome=i:=by obtain⟨L,b⟩:=st;cases b <;> cases i <;> rfl
def Yb {st:km Bz×ke Pl}{p:Pl}{i:kc}(h:i=st.2.isSome):stepI st (p,i)=st:=by obtain⟨L,b⟩:=st;cases b <;> cases i <;> first | rfl|cases h
theorem JX {In key:Pl->kc}:∀(X:km Pl) (st:km Bz×ke Pl),XC In key st.2.isSome X->(X.map λp=>(p,In p)).foldl stepI st=((X.filter key).map λp=>(p,In p)).foldl stepI st
 | [],st,_=>rfl
 | p::r,st,h=>by
   rw[AAi,ACQ,ABk];cases k:key p with
   | true=> rw[AAb rfl,AAi,ACQ];exact JX r _ (by rw[Yc];exact h.2)
   | false=> have e:=h.1 k;rw[AAa (by decide),Yb e];exact JX r st (by have:=h.2;rw[e] at this;exact this)
theorem K0 {ss:km Bz}{key:Pl->kc}{n:Int}(hk:∀p,key p=false->cnt ss p=0):∀(X:km Pl) (c:Int),J8 ss c X->XC (λp=>decide (n<=(Hn ss p:Int))) key (decide (n<=c)) X
 | [],_,_=>True.intro
 | p::r,c,h=>⟨λk=>(by show decide (n<=(Hn ss p:Int))=_;rw[h.1,hk p k,Int.add_zero]),K0 hk r _ h.2⟩
def canon (n:Int)(ss:km Bz):km Bz:=J0 ((Dm ss).map λp=>(p,decide (n<=(Hn ss p:Int))))
def Vb {ss:km Bz}{p:Pl}(h:¬Lv ss p):cnt ss p=0:=by
 have key:∀ss:km Bz,(∀s∈ss,¬(bp s=p\/ep s=some p))->cnt ss p=0:=by
  intro ss;induction ss with
  | nil=>intro _;rfl
  | cons s ss ih=>
    intro h;have h1:=h s (by simp);have e:cnt (s::ss) p=QD s p+cnt ss p:=by simp[cnt]
    rw[e,ih λx hx=>h x (by simp[hx])];unfold QD;rw[AAa λz=>h1 (.inl z),AAa λz=>h1 (.inr z)];rfl
 exact key ss λs hs z=>h ⟨s,hs,z⟩
def dP {ss:km Bz}{B:Nat}{n:Int}{key:Pl->kc}(ok:∀s∈ss,C3 B s)(hn:0<n)(hk:∀p,key p=true↔Lv ss p):J0 ((Tr ss key).map λx=>(x.1,decide (n<=x.2)))=canon n ss:=by
 unfold canon J0 Tr;rw[ABf];have h:=JX (In:=λp=>decide (n<=(Hn ss p:Int))) (key:=key) (Dm ss) ([],none) (by
  have:=K0 (n:=n) (key:=key) (λp z=>Vb λy=>by rw[(hk p).mpr y] at z;cases z) (Dm ss) 0 (Ip ok);rw[AAm (by omega)] at this;exact this)
 rw[h];rfl
def XV {v:PV}{xs:km PV}{ss:km Bz}{B:Nat}{n:Int}(hv:v= .tup xs\/v= .lst xs)(a:IA xs ss)(ok:∀s∈ss,C3 B s)(hl:ss.length<=400)(b:B<=4000)(hn:0<n){Q:PV->Prop}(q:Q (.tup ((canon n ss).map HW))):FX [v, .int n] Q:=
 XW hv a ok hl b λkey hk=>by rw[dP ok hn hk];exact q
def Wo {v:PV}{xs:km PV}{ss:km Bz}{B:Nat}(hv:v= .tup xs\/v= .lst xs)(a:IA xs ss)(ok:∀s∈ss,C3 B s)(hl:ss.length<=400)(b:B<=4000){Q:PV->Prop}(q:Q (.tup ((canon 1 ss).map HW))):Fg [v] Q:=by
 apply UQ;repeat' array_get_dec
 exact XV hv a ok hl b (by decide) q
def Tj {ss:km Bz}{p:Pl}:decide ((1:Int)<=(Hn ss p:Int))=ss.any (Bp · p):=by
 rw[ACa,AC3,AE2];unfold Hn;constructor
 .intro h;obtain⟨s,hs⟩:=List.exists_mem_of_length_pos (l:=ss.filter (Bp · p)) (by omega);have:=ABo.mp hs;exact⟨s,this.1,this.2⟩
 .rintro ⟨s,hs,h⟩;have:=List.length_pos_of_mem (ABo.mpr ⟨hs,h⟩:s∈ss.filter (Bp · p));omega
def Dk (In:Pl->kc):km Pl->ke Pl->km Bz
 | [],none=> []
 | [],some b=> [(b.1,1-b.2,none)]
 | p::r,none=>if In p=true then Dk In r (some p) else Dk In r none
 | p::r,some b=>if In p=true then Dk In r (some b) else (b.1,1-b.2,some p.1)::Dk In r none
theorem QM {In:Pl->kc}:∀(X:km Pl) (a:km Bz) (b:ke Pl),Vh ((X.map λp=>(p,In p)).foldl stepI (a,b))=a++Dk In X b
 | [],a,none=>by simp[Vh,Dk]
 | [],a,some b=>by simp[Vh,Dk]
 | p::r,a,none=>by
   rw[AAi,ACQ];unfold Dk;cases e:In p with
   | true=>exact QM r a (some p)
   | false=>exact QM r a none
 | p::r,a,some b=>by
   rw[AAi,ACQ];unfold Dk;cases e:In p with
   | true=>exact QM r a (some b)
   | false=> show Vh ((r.map λp=>(p,In p)).foldl stepI (a ++ [(b.1,1-b.2,some p.1)],none))=a++((b.1,1-b.2,some p.1)::Dk In r none);rw[QM r _ none];simp
def R5 {In:Pl->kc}{X:km Pl}:J0 (X.map λp=>(p,In p))=Dk In X none:=by unfold J0;rw[QM];rfl
def Oc {q p:Pl}{e:ke Rat}(hq:q.2=0\/q.2=1)(hp:0<=p.2):Bp (q.1,1-q.2,e) p=(Qq q p&&(match e with | none=>true|some e=>decide (p.1<e))):=by unfold Bp Qq;congr 2;congr 1;exact ADk.mpr (by show 0<1-q.2+p.2↔q.2<=p.2;omega)
def J9 (In:Pl->kc):kc->km Pl->Prop
 | _, [] =>True
 | c,p::r=>(c=true->In p=false->p.2=0)/\J9 In (In p) r
theorem Zh {In:Pl->kc}:∀(X:km Pl),aI X->(∀x∈X,x.2=0\/x.2=1)-> (J9 In false X->(∀p:Pl,0<=p.2->(∀x∈X,Of p x)->(Dk In X none).any (Bp · p)=false)/\∀p∈X,(Dk In X none).any (Bp · p)=In p)/\ (J9 In true X->∀q:Pl,(q.2=0\/q.2=1)->(∀x∈X,Of q x)->(∀p:Pl,0<=p.2->(∀x∈X,Of p x)->(Dk In X (some q)).any (Bp · p)=Qq q p)/\∀p∈X,(Dk In X (some q)).any (Bp · p)=In p)
 | [],_,_=>⟨λ_=>⟨λp _ _=>rfl,λp hp=>by cases hp⟩,λ_ q hq _=>⟨λp hp _=>by show (Bp (q.1,1-q.2,none) p||false)=_;rw[Oc hq hp];simp,λp hp=>by cases hp⟩⟩
 | x::r,hs,h01=>by
   obtain⟨h1,h2⟩:=AAg.mp hs;have ih:=Zh (In:=In) r h2 λy hy=>h01 y (by simp[hy]);have j:=h01 x (by simp);have f:0<=x.2:=by omega
   have g:∀p:Pl,(∀y∈x::r,Of p y)->∀y∈r,Of p y:=λp h y hy=>h y (by simp[hy]);have l:∀p:Pl,Of p x->Qq x p=false:=λp h=>by
    rw[<-Bool.not_eq_true,Iu];rintro(z|z)
    .exact Og (M9 z h)
    .rw [z] at h;exact Og h
   have m:Qq x x=true:=Iu.mpr (.inr rfl);refine⟨λhd=> ?_,λhd q hq k=> ?_⟩
   .unfold Dk;cases e:In x with
    | true=>
      have a:=hd.2;rw[e] at a;obtain⟨b,d⟩:=ih.2 a x j h1;rw[AAb rfl];refine⟨λp c hp=> ?_,λp hp=> ?_⟩
      .rw [b p c (g p hp),l p (hp x (by simp))]
      .rcases AAc.mp hp with rfl|hp
       .rw [b p f h1,m,e]
       .exact d p hp
    | false=>
      have a:=hd.2;rw[e] at a;obtain⟨b,d⟩:=ih.1 a;rw[AAa (by decide)];refine⟨λp c hp=>b p c (g p hp),λp hp=> ?_⟩;rcases AAc.mp hp with rfl|hp
      .rw [b p f h1,e]
      .exact d p hp
   .unfold Dk;have n:Qq q x=true:=Iu.mpr (.inl (k x (by simp)));cases e:In x with
    | true=>
      have a:=hd.2;rw[e] at a;obtain⟨b,d⟩:=ih.2 a q hq (g q k);rw[AAb rfl];refine⟨λp c hp=>b p c (g p hp),λp hp=> ?_⟩;rcases AAc.mp hp with rfl|hp
      .rw [b p f h1,n,e]
      .exact d p hp
    | false=>
      have a:=hd.2;rw[e] at a;obtain⟨b,d⟩:=ih.1 a;have s:=hd.1 rfl e;rw[AAa (by decide)];have i:∀p:Pl,(p=x\/Of x p)->¬p.1<x.1:=λp h=>by rcases h with h|h|⟨h,_⟩ <;> grind
      refine⟨λp c hp=> ?_,λp hp=> ?_⟩
      .have o:p.1<x.1:=by
        rcases hp x (by simp) with z|⟨_,z⟩
        .exact z
        .omega
       show (Bp (q.1,1-q.2,some x.1) p||(Dk In r none).any (Bp · p))=_;rw[Oc hq c,b p c (g p hp)];simp[o]
      .show (Bp (q.1,1-q.2,some x.1) p||(Dk In r none).any (Bp · p))=_;rcases AAc.mp hp with rfl|hp
       .rw [Oc hq f,b p f h1,e];simp[i p (.inl rfl)]
       .rw [Oc hq (by have:=h01 p (by simp[hp]);omega),d p hp];simp[i p (.inr (h1 p hp))]
theorem WM {In:Pl->kc}(P:Rat->Prop):∀(X:km Pl) (b:ke Pl),aI X->(∀x∈X,(x.2=0\/x.2=1)/\P x.1)->J9 In b.isSome X->(∀q,b=some q->(q.2=0\/q.2=1)/\P q.1/\∀x∈X,Of q x)-> ∀s∈Dk In X b,P s.1/\(s.2.1=0\/s.2.1=1)/\∀e,s.2.2=some e->s.1<e/\P e
 | [],none,_,_,_,_=>λs hs=>by cases hs
 | [],some q,_,_,_,hb=>λs hs=>by obtain⟨h1,h2,_⟩:=hb q rfl;simp only[Dk,ABZ] at hs;subst hs;exact⟨h2,by show 1-q.2=0\/1-q.2=1;omega,λe he=>by cases he⟩
 | x::r,b,hs,h01,hd,hb=>by
   obtain⟨h1,h2⟩:=AAg.mp hs;have ih:=λb d hb=>WM (In:=In) P r b h2 (λy hy=>h01 y (by simp[hy])) d hb;have a:=hd.2;cases b with
   | none=>
     unfold Dk;cases e:In x with
     | true=> rw[AAb rfl];rw[e] at a;exact ih (some x) a λq hq=>by cases hq;exact⟨(h01 x (by simp)).1,(h01 x (by simp)).2,h1⟩
     | false=> rw[AAa (by decide)];rw[e] at a;exact ih none a λq hq=>by cases hq
   | some q=>
     obtain⟨g,c,f⟩:=hb q rfl;unfold Dk;cases e:In x with
     | true=> rw[AAb rfl];rw[e] at a;exact ih (some q) a λh hq=>by cases hq;exact⟨g,c,λy hy=>f y (by simp[hy])⟩
     | false=>
       rw[AAa (by decide)];rw[e] at a;have i:=hd.1 rfl e;intro s hs;rcases AAc.mp hs with rfl|hs
       .refine ⟨c,by show 1-q.2=0\/1-q.2=1;omega,λj he=> ?_⟩;cases he;refine⟨?_,(h01 x (by simp)).2⟩;rcases f x (by simp) with z|⟨_,z⟩
        .exact z
        .omega
       .exact ih none a (λq hq=>by cases hq) s hs
theorem KJ {ss:km Bz}:∀(X:km Pl) (c:Int),(∀x∈X,x.2=0\/x.2=1)->J8 ss c X->J9 (λp=>ss.any (Bp · p)) (decide (1<=c)) X
 | [],_,_,_=>True.intro
 | p::r,c,h01,h=>by
   have ih:=KJ r (Hn ss p) (λx hx=>h01 x (by simp[hx])) h.2;rw[Tj] at ih;refine⟨λhc hi=> ?_,ih⟩;rcases h01 p (by simp) with z|z
   .exact z
   .have hc:1<=c:=by simpa using hc
    have hi:ss.any (Bp · p)=false:=hi;rw[<-Tj] at hi;have hi:¬(1:Int)<=Hn ss p:=by simpa using hi
    have c0:0<=cnt ss p:=by
     have go:∀ss:km Bz,0<=cnt ss p:=by
      intro ss;induction ss with
      | nil=>exact Int.le_refl _
      | cons s ss ih=>
        have e:cnt (s::ss) p=QD s p+cnt ss p:=by simp[cnt]
        have o:0<=QD s p:=by
         unfold QD;have:¬ep s=some p:=λy=>by obtain⟨b,_,a⟩:=ADJ.mp y;have:(0:Int)=p.2:=congrArg Prod.snd a;omega
         rw[AAa this];split <;> decide
        omega
     exact go ss
    have:=h.1;omega
def Ul {ss:km Bz}:∀x∈Dm ss,x.2=0\/x.2=1:=λx hx=>(CA.mp hx).2
def Rm {ss:km Bz}:canon 1 ss=Dk (λp=>ss.any (Bp · p)) (Dm ss) none:=by unfold canon;rw[<-R5];congr 1;apply ACy;intro p _;rw[Tj]
def Ql {ss:km Bz}{B:Nat}(ok:∀s∈ss,C3 B s):J9 (λp=>ss.any (Bp · p)) false (Dm ss):=KJ (Dm ss) 0 Ul (Ip ok)
def XO {ss:km Bz}{B:Nat}(ok:∀s∈ss,C3 B s):∀s∈canon 1 ss,s.1∈Cg ss/\(s.2.1=0\/s.2.1=1)/\∀e,s.2.2=some e->s.1<e/\e∈Cg ss:=by rw[Rm];exact WM (· ∈Cg ss) (Dm ss) none (El Ca) (λx hx=>⟨Ul x hx,CW.mp (CA.mp hx).1⟩) (Ql ok) λq hq=>by cases hq
def ZT {ss:km Bz}{B:Nat}(ok:∀s∈ss,C3 B s):∀x∈Cg ss,Bd B x:=λx h=>by
 obtain⟨s,hs,hx⟩:=AC4.mp h;rcases AAc.mp hx with rfl|hx
 .exact (ok s hs).b
 .exact ((ok s hs).e x (by simpa using hx)).2
def dQ {ss:km Bz}{B:Nat}(ok:∀s∈ss,C3 B s):∀s∈canon 1 ss,C3 B s:=λs hs=>by obtain⟨h1,h2,a⟩:=XO ok s hs;exact⟨ZT ok _ h1,h2,λe he=>⟨(a e he).1,ZT ok _ (a e he).2⟩⟩
theorem Jz (f:Rat->kc):∀qs:km Rat,(places qs).filter (λp=>f p.1)=places (qs.filter f)
 | [] =>rfl
 | q::qs=>by show ((q,0)::(q,1)::places qs).filter (λp=>f p.1)=_;rw[ABk,ABk,ABk,Jz f qs];cases f q <;> rfl
def ix_any {xs:km PV}{k:Int}{R:PV->Prop}(a:0<=k)(h1:k<xs.length)(h:∀x∈xs,R x):Ak (.lst xs) (.int k) R:=by
 have hk:k.toNat<xs.length:=by omega
 have e:Im xs ((k.toNat:Nat):Int)=some xs[k.toNat] :=Cj (ABD hk);rw[show ((k.toNat:Nat):Int)=k by omega] at e;show cZ (Im xs k) R;rw[e];exact h _ (AEC hk)
theorem Rg:∀{qs:km Rat} {x:Rat},TK qs->At qs x (qs.filter λq=>decide (q<x)).length
 | [],x,_=>⟨AAf _,by simp,by simp⟩
 | q::r,x,h=>by
   obtain⟨h1,h2⟩:=AAg.mp h;obtain⟨d,a,b⟩:=Rg (x:=x) h2;rw[ABk];by_cases e:q<x
   .rw [AAb (AAt e),AAz];refine⟨by rw[AAz];omega,λy hy=> ?_,λy hy=>b y (by simpa using hy)⟩;rw[ADe] at hy;rcases AAc.mp hy with rfl|hy
    .exact e
    .exact a y hy
   .have hn:∀y∈q::r,¬y<x:=λy hy=>by
     rcases AAc.mp hy with rfl|hy
     .exact e
     .have:=h1 y hy;grind
    have c:r.filter (λq=>decide (q<x))= [] :=List.filter_eq_nil_iff.mpr λy hy=>by simpa using hn y (by simp[hy])
    rw[AAa (by simpa using e),c];exact⟨ABH _,by simp,λy hy=>hn y (by simpa using hy)⟩
def D0 (ms:km Rat)(ss:km Bz):km Pl:=places (Cq (ms++Cg ss))
def Lh {B:Nat}{ms:km Rat}{ss:km Bz}(ok:∀s∈ss,C3 B s):J8 ss 0 (D0 ms ss):=by
 have c:∀s∈ss,bp s∈D0 ms ss/\∀x,ep s=some x->x∈D0 ms ss:=λs hs=>by
  obtain⟨h1,h2⟩:=Pw ok hs;have up:∀x∈Dm ss,x∈D0 ms ss:=λx hx=>by obtain⟨a,b⟩:=CA.mp hx;exact CA.mpr ⟨CW.mpr (AAy _ (CW.mp a)),b⟩
  exact⟨up _ h1,λx ex=>up _ (h2 x ex)⟩
 have h:=Pa ok (D0 ms ss) none (El Ca) (λp hp=>⟨True.intro,by rcases (CA.mp hp).2 with z|z <;> omega⟩) (λs hs=>⟨.inr (c s hs).1,λx ex=> .inr ((c s hs).2 x ex)⟩);have z:(ss.map λs=>kh s none).sum=0:=by
  clear h c ok;induction ss with
  | nil=>rfl
  | cons s ss ih=> rw[AAi,ADj,ih];unfold kh;cases ep s <;> rfl
 rw[z] at h;exact h
def XN {B:Nat}{ms:km Rat}{ss:km Bz}{n:Int}(ok:∀s∈ss,C3 B s)(hn:0<n):J0 ((D0 ms ss).map λp=>(p,decide (n<=(Hn ss p:Int))))=canon n ss:=by
 have hk:∀p:Pl,decide (p.1∈Cg ss)=false->cnt ss p=0:=λp hp=>Vb λ⟨s,hs,z⟩=>by
  have hp:¬p.1∈Cg ss:=by simpa using hp
  refine hp (AC4.mpr ⟨s,hs, ?_⟩);rcases z with z|z
  .rw [<-z];simp[bp]
  .obtain ⟨c,he,rfl⟩:=ADJ.mp z;simp[he]
 have a:=K0 (n:=n) (ss:=ss) (key:=λp=>decide (p.1∈Cg ss)) hk (D0 ms ss) 0 (Lh ok);rw[AAm (by omega)] at a;have h:=JX (D0 ms ss) ([],none) a;have b:(D0 ms ss).filter (λp=>decide (p.1∈Cg ss))=Dm ss:=by unfold D0 Dm;rw[Jz (λx=>decide (x∈Cg ss))];congr 1;refine Um (Ca.filter _) Ca λx=> ?_;rw[ABo,CW,CW,AC3];exact⟨λh=>h.2,λh=>⟨AAy _ h,h⟩⟩
 rw[b] at h;show Vh _=Vh _;rw[h]
def VY {B:Nat}{ss:km Bz}(ok:∀s∈ss,C3 B s){p:Pl}(hp:p.2=0\/p.2=1):(canon 1 ss).any (Bp · p)=ss.any (Bp · p):=by
 have hm:p∈D0 [p.1] ss:=CA.mpr ⟨CW.mpr (by simp),hp⟩;have a:∀x∈D0 [p.1] ss,x.2=0\/x.2=1:=λx hx=>(CA.mp hx).2;have b:=KJ (D0 [p.1] ss) 0 a (Lh ok);have e:canon 1 ss=Dk (λp=>ss.any (Bp · p)) (D0 [p.1] ss) none:=by rw[<-XN (ms:= [p.1]) ok (by decide),<-R5];congr 1;apply ACy;intro q _;rw[Tj]
 rw[e];exact((Zh (D0 [p.1] ss) (El Ca) a).1 b).2 p hm
def hN (L:km Bz)(p:Pl):Nat:=(L.filter (Bp · p)).length
theorem OZ {a:Type}(f:a->kc):∀xs:km a,Io (xs.map λx=> .bl (f x))=some (xs.map f)
 | [] =>rfl
 | x::xs=>by show (Io (xs.map λx=> .bl (f x))).map (f x :: ·)=_;rw[OZ f xs];rfl
def qr (xs:km PV):Eh xs (some 1) none=xs.drop 1:=by
 unfold Eh;rw[HT.sIx_none,show ((1:Int))=((1:Nat):Int) from rfl,HT.sIx_nat];cases xs with
 | nil=>rfl
 | cons x xs=> rw[AEE (by simp)];simp
def pY (a b:km Rat):F1 (a.map fr) (b.map fr)=(a.zip b).map λp=> .tup [fr p.1,fr p.2] :=by unfold F1;rw[List.zipWith_map,List.zip,List.map_zipWith]
theorem Pe:∀(X:km (Pl×kc)) (st:km Bz×ke Pl),2*(X.foldl stepI st).1.length+(if (X.foldl stepI st).2.isSome then 1 else 0)<=2*st.1.length+(if st.2.isSome then 1 else 0)+X.length
 | [],st=>AAf _
 | x::X,st=>by
   have h1:=Pe X (stepI st x);have h2:2*(stepI st x).1.length+(if (stepI st x).2.isSome then 1 else 0)<=2*st.1.length+(if st.2.isSome then 1 else 0)+1:=by obtain⟨L,b⟩:=st;obtain⟨p,c⟩:=x;cases b <;> cases c <;> simp[stepI] <;> omega
   rw[ACQ,AAz];omega
def cA (X:km (Pl×kc)):2*(J0 X).length<=X.length+1:=by have h:=Pe X ([],none);unfold J0;generalize X.foldl stepI ([],none)=st at *;obtain⟨L,b⟩:=st;cases b <;> simp[Vh] at * <;> omega
def XM {n:Int}{ss:km Bz}:(canon n ss).length<=2*ss.length:=by unfold canon Dm;have h:=cA ((places (Cq (Cg ss))).map λp=>(p,decide (n<=(Hn ss p:Int))));have a:=G0 (xs:=Cg ss);have b:=NB (ss:=ss);have c:=Ka (qs:=Cq (Cg ss));rw[AAk] at h;omega
inductive LX:List PV->List (List Bz)->Prop where
 | nil:LX [] []
 | cons {x:PV} {xs:List PV} {ss:List Bz} {r:List PV} {rs:List (List Bz)} (h:x= .tup xs\/x= .lst xs) (hr:IA xs ss) (t:LX r rs):LX (x::r) (ss::rs)
def LX.length:∀{xs:km PV} {ss:km (km Bz)},LX xs ss->xs.length=ss.length
 | _,_, .nil=>rfl
 | _,_, .cons _ _ t=>by simp[t.length]
def LX.app:∀{a b:km PV} {ss d:km (km Bz)},LX a ss->LX b d->LX (a++b) (ss++d)
 | _,_,_,_, .nil,h=>h
 | _,_,_,_, .cons a b c,h=> .cons a b (c.app h)
def lt_size {k n:Nat}(h:k<=n)(hn:n<1000000):k<sizeLine:=ABj h (AA0 hn (ACP rfl))
def lin (p q:T3)(s:Rat):T3:=(p.1+s*(q.1-p.1),p.2.1+s*(q.2.1-p.2.1),p.2.2+s*(q.2.2-p.2.2))
def nX {a D b e m x X:Rat}(c:D≠0)(h:e-b≠0):x+(m-a)/D*X=(x+(b-a)/D*X)+(m-b)/(e-b)*((x+(e-a)/D*X)-(x+(b-a)/D*X)):=by grind
def bA {a c:C4}{b e m:Rat}(h1:a.1<c.1)(h2:b<e):inter a c m=lin (inter a c b) (inter a c e) ((m-b)/(e-b)):=by
 have d:c.1-a.1≠0:=by grind
 have f:e-b≠0:=by grind
 simp only[inter,lin];rw[<-nX d f,<-nX d f,<-nX d f]
def fE (p q:T3):lin p q 0=p:=by obtain⟨a,b,c⟩:=p;simp[lin,Rat.zero_mul,Rat.add_zero]
theorem Na {b e m:Rat}{p q:T3}(f:b<e)(h1:b<=m)(h2:m<=e):∀{a:C4} {r:km C4},JQ (a::r)->(∀c∈r,¬(b<c.1/\c.1<e))->spotG a r b=some p->spotG a r e=some q->spotG a r m=some (lin p q ((m-b)/(e-b)))
 | a, [],_,_,hp,_=>by cases hp
 | a,c::r,hr,hn,hp,hq=>by
   have g:=(AAg.mp hr).1 c (by simp);have h:JQ (c::r):=(AAg.mp hr).2;by_cases i:c.1<b
   .simp only[spotG] at hp hq ⊢;rw[AAb i] at hp;rw[AAb (by grind)] at hq ⊢;exact Na f h1 h2 h (λx hx=>hn x (by simp[hx])) hp hq
   .simp only[spotG] at hp hq ⊢;rw[AAa i] at hp;by_cases k:b=c.1
    .subst k;rw[Pp g] at hp;cases hp;by_cases j:c.1<m
     .rw [AAb j];rw[AAb (by grind)] at hq;refine Na f h1 h2 h (λx hx=>hn x (by simp[hx])) ?_ hq;cases r with
      | nil=>cases hq
      | cons d r=> have l:=(AAg.mp h).1 d (by simp);simp only[spotG];rw[AAa (by grind),Vw l]
     .have n:m=c.1:=by grind
      subst n;rw[AAa j,Pp g];have z:(c.1-c.1)/(e-c.1)=0:=by grind
      rw[z,fE]
    .have o:¬c.1<e:=λz=>hn c (by simp) ⟨by grind,z⟩;cases hp;rw[AAa o] at hq;cases hq;rw[AAa (by grind)];rw[<-bA g f]
def SJ {b e m:Rat}{p q:T3}{cs:km C4}(d:JQ cs)(f:b<e)(h1:b<=m)(h2:m<=e)(hn:∀c∈cs,¬(b<c.1/\c.1<e))(hp:spotC cs b=some p)(hq:spotC cs e=some q):spotC cs m=some (lin p q ((m-b)/(e-b))):=by
 cases cs with
 | nil=>cases hp
 | cons a r=>
   simp only[spotC] at hp hq ⊢;by_cases k:b<a.1
   .rw [AAb k] at hp;cases hp
   .rw [AAa k] at hp;rw[AAa (by grind)] at hq ⊢;exact Na f h1 h2 d (λc hc=>hn c (by simp[hc])) hp hq
def C3.mono {B C:Nat}{s:Bz}(h:C3 B s)(k:B<=C):C3 C s:=⟨h.b.mono k,h.h,λe he=>⟨(h.e e he).1,(h.e e he).2.mono k⟩⟩
def vj (r s:Bz):Prop:=∃e,r.2.2=some e/\(e<s.1\/(e=s.1/\s.2.1=0))
def Sep (ss:km Bz):Prop:=ss.Pairwise vj
def dM (q:Pl)(e:ke Rat):bp (q.1,1-q.2,e)=q:=by obtain⟨a,b⟩:=q;show (a,1-(1-b))=(a,b);rw[show 1-(1-b)=b by omega]
theorem Gz {In:Pl->kc}:∀(X:km Pl) (b:ke Pl),∀s∈Dk In X b,bp s∈X\/b=some (bp s)
 | [],none=>λs hs=>by cases hs
 | [],some q=>λs hs=>by simp only[Dk,ABZ] at hs;subst hs;exact .inr (by rw[dM])
 | x::r,none=>λs hs=>by
   unfold Dk at hs;split at hs
   .rcases Gz r (some x) s hs with h|h
    .exact .inl (by simp[h])
    .cases h;exact .inl (by simp)
   .rcases Gz r none s hs with h|h
    .exact .inl (by simp[h])
    .cases h
 | x::r,some q=>λs hs=>by
   unfold Dk at hs;split at hs
   .rcases Gz r (some q) s hs with h|h
    .exact .inl (by simp[h])
    .exact .inr h
   .rcases AAc.mp hs with rfl|hs
    .exact .inr (by rw[dM])
    .rcases Gz r none s hs with h|h
     .exact .inl (by simp[h])
     .cases h
theorem Zi {In:Pl->kc}:∀(X:km Pl) (b:ke Pl),aI X->(∀x∈X,x.2=0\/x.2=1)->J9 In b.isSome X->Sep (Dk In X b)
 | [],none,_,_,_=> .nil
 | [],some q,_,_,_=>AE0 _ _
 | x::r,b,hs,h01,hd=>by
   obtain⟨h1,h2⟩:=AAg.mp hs;have ih:=λb d=>Zi (In:=In) r b h2 (λy hy=>h01 y (by simp[hy])) d;have a:=hd.2;cases b with
   | none=>
     unfold Dk;cases e:In x with
     | true=>rw[AAb rfl];rw[e] at a;exact ih (some x) a
     | false=>rw[AAa (by decide)];rw[e] at a;exact ih none a
   | some q=>
     unfold Dk;cases e:In x with
     | true=>rw[AAb rfl];rw[e] at a;exact ih (some q) a
     | false=>
       rw[AAa (by decide)];rw[e] at a;have g:=hd.1 rfl e;refine AAg.mpr ⟨λs hs=> ?_,ih none a⟩;rcases Gz r none s hs with h|h
       .refine ⟨x.1,rfl, ?_⟩;have k:=h1 _ h;have c:=h01 _ (ABn x h);have c:1-s.2.1=0\/1-s.2.1=1:=c;rcases k with k|⟨k,f⟩
        .exact .inl k
        .have f:x.2<1-s.2.1:=f;exact .inr ⟨k,by omega⟩
       .cases h
def aT {B:Nat}{ss:km Bz}(ok:∀s∈ss,C3 B s):Sep (canon 1 ss):=by rw[Rm];exact Zi (Dm ss) none (El Ca) Ul (Ql ok)
def Dt {B:Nat}{s:Bz}{m x:Rat}(os:C3 B s)(hx:s.2.2=some x):Bp s (m,0)=true↔(s.1<m\/(s.1=m/\s.2.1=1))/\m<x:=by
 unfold Bp;rw[hx];have:0<s.2.1+0↔s.2.1=1:=by have:=os.h;omega
 simp only[ABS,AC2,ADb,this]
section
variable {B:Nat}{s:Bz}{a:km Bz}{e:Rat}
theorem Dz (h:Sep (s::a))(ok:∀t∈s::a,C3 B t)(b:∀t∈s::a,∃x,t.2.2=some x)(he:s.2.2=some e){m:Rat}(hm:m<=e):a.any (Bp · (m,0))=false:=by
 rw[AC6];intro t c z;obtain⟨x,hx⟩:=b t (by simp[c]);have k:=(Dt (ok t (by simp[c])) hx).mp z;obtain⟨g,h1,h2⟩:=(AAg.mp h).1 t c;rw[he] at h1;cases h1;rcases h2 with h2|⟨h2,i⟩
 .rcases k.1 with d|⟨d,f⟩ <;> grind
 .rcases k.1 with d|⟨d,f⟩
  .grind
  .omega
end
def Iw {a b:Rat}(h:a<b):a<(a+b)/2/\(a+b)/2<b:=⟨by grind,by grind⟩
def R9 {B C:Nat}{s t:Bz}{a b:km Bz}{e f:Rat}(ha:Sep (s::a))(d:∀x∈s::a,C3 B x)(o:∀x∈s::a,∃y,x.2.2=some y)(hb:Sep (t::b))(c:∀x∈t::b,C3 C x)(l:∀x∈t::b,∃y,x.2.2=some y)(he:s.2.2=some e)(g:t.2.2=some f)(h:∀m:Rat,(s::a).any (Bp · (m,0))=(t::b).any (Bp · (m,0))):¬s.1<t.1:=by
 intro z;have os:=d s (by simp);have j:=c t (by simp);have i:=(os.e e he).1;have p:=(j.e f g).1;obtain⟨m,m1,m2,m3⟩:∃m,s.1<m/\m<e/\m<t.1:=by
  by_cases w:e<t.1
  .exact ⟨_,(Iw i).1,(Iw i).2,by have:=(Iw i).2;grind⟩
  .exact ⟨_,(Iw z).1,by have:=(Iw z).2;grind,(Iw z).2⟩
 have k:=h m;rw[ABg,ABg,(Dt os he).mpr ⟨.inl m1,m2⟩,Dz hb c l g (by grind)] at k;have n:Bp t (m,0)=false:=AEV.mpr λy=>by have:=(Dt j g).mp y;grind
 rw[n] at k;simp at k
theorem Qc {B C:Nat}:∀{a b:km Bz},Sep a->Sep b->(∀x∈a,C3 B x)->(∀x∈b,C3 C x)->(∀x∈a,∃y,x.2.2=some y)->(∀x∈b,∃y,x.2.2=some y)->(∀m:Rat,a.any (Bp · (m,0))=b.any (Bp · (m,0)))->a=b
 | [], [],_,_,_,_,_,_,_=>rfl
 | s::a, [],_,_,ok,_,fa,_,h=>by obtain⟨e,he⟩:=fa s (by simp);have os:=ok s (by simp);have l:=Iw (os.e e he).1;have k:=h ((s.1+e)/2);rw[ABg,(Dt os he).mpr ⟨.inl l.1,l.2⟩] at k;simp at k
 | [],s::a,_,_,_,ok,_,fa,h=>by obtain⟨e,he⟩:=fa s (by simp);have os:=ok s (by simp);have l:=Iw (os.e e he).1;have k:=h ((s.1+e)/2);rw[ABg,(Dt os he).mpr ⟨.inl l.1,l.2⟩] at k;simp at k
 | s::a,t::b,ha,hb,oka,okb,fa,fb,h=>by
   obtain⟨e,he⟩:=fa s (by simp);obtain⟨f,c⟩:=fb t (by simp);have os:=oka s (by simp);have d:=okb t (by simp);have u:=(os.e e he).1;have E:=(d.e f c).1;have F:=R9 ha oka fa hb okb fb he c h;have G:=R9 hb okb fb ha oka fa c he λm=>(h m).symm;have i:s.1=t.1:=by grind
   have A:∀m,(s::a).any (Bp · (m,0))=(Bp s (m,0)||a.any (Bp · (m,0))):=λm=>by rw[ABg]
   have g:∀m,(t::b).any (Bp · (m,0))=(Bp t (m,0)||b.any (Bp · (m,0))):=λm=>by rw[ABg]
   have o:s.2.1=t.2.1:=by
    have k:=h s.1;rw[A,g,Dz ha oka fa he (by grind),Dz hb okb fb c (by grind),ADq,ADq] at k;have p:=Dt (m:=s.1) os he;have r:=Dt (m:=s.1) d c;have:s.2.1=1↔t.2.1=1:=by
     constructor
     .intro z;have:=r.mp (by rw[<-k];exact p.mpr ⟨.inr ⟨rfl,z⟩,u⟩);rcases this.1 with w|⟨_,w⟩
      .grind
      .exact w
     .intro z;have:=p.mp (by rw[k];exact r.mpr ⟨.inr ⟨i.symm,z⟩,by grind⟩);rcases this.1 with w|⟨_,w⟩
      .grind
      .exact w
    have:=os.h;have:=d.h;omega
   have v:e=f:=by
    by_cases w:e<f
    .have k:=h e;rw[A,g,Dz ha oka fa he (by grind),(Dt d c).mpr ⟨.inl (by grind),w⟩] at k;have n:Bp s (e,0)=false:=AEV.mpr λy=>by have:=(Dt os he).mp y;grind
     rw[n] at k;simp at k
    .by_cases D:f<e
     .have k:=h f;rw[A,g,Dz hb okb fb c (by grind),(Dt os he).mpr ⟨.inl (by grind),D⟩] at k;have n:Bp t (f,0)=false:=AEV.mpr λy=>by have:=(Dt d c).mp y;grind
      rw[n] at k;simp at k
     .grind
   have j:s=t:=by obtain⟨x,y,z⟩:=s;obtain⟨H,I,J⟩:=t;simp only at i o he c;subst i o he c v;rfl
   subst j;congr 1;refine Qc (AAg.mp ha).2 (AAg.mp hb).2 (λx hx=>oka x (by simp[hx])) (λx hx=>okb x (by simp[hx])) (λx hx=>fa x (by simp[hx])) (λx hx=>fb x (by simp[hx])) λm=> ?_;by_cases w:m<=e
   .rw [Dz ha oka fa he w,Dz hb okb fb he w]
   .have k:=h m;have n:Bp s (m,0)=false:=AEV.mpr λy=>by have:=(Dt os he).mp y;grind
    rw[A,g,n] at k;simpa using k
abbrev J1:AS:=
 (AZ (FA (IM (aV 0)) (JR 2 (Af (Aq 2) (Af (Aq 3) Bw))) (XE 1 DW (AY Q8 (aV 3) (AN 2 Gi (AB (aV 1) (AB (aV 3) AM))))))
   (As (aV 1)))
abbrev Hv:AS:=
 (AZ (Aj (aC (.int 1)) (Aq 1))
   J1)
def Cp:AF:=A0 4 Hv
def MC {a:PV}{Q:PV->Prop}(h:Hv ⟨λ_=>Q .non,Q,λ_=>False,λ_=>False⟩ [some (.val a),none,none,none]):Cp [a] Q:=h
def Wb (xs:km Rat):Nat:=xs.foldl (λN r=>N*(r.den/Nat.gcd N r.den)) 1
def Zo (xs:km Rat)(r:Rat):Wb (xs ++ [r])=Wb xs*(r.den/Nat.gcd (Wb xs) r.den):=by unfold Wb;rw[ADu];rfl
def kN {N d:Nat}(hN:0<N)(hd:0<d):0<N*(d/Nat.gcd N d)/\N ∣ N*(d/Nat.gcd N d)/\d ∣ N*(d/Nat.gcd N d)/\N*(d/Nat.gcd N d)<=N*d:=by have g:Nat.gcd N d ∣ d:=ADh ..;have a:0<Nat.gcd N d:=ADE _ hd;refine⟨Nat.mul_pos hN (Nat.div_pos (AEP hd g) a),Nat.dvd_mul_right .., ?_,Nat.mul_le_mul_left _ (ADf ..)⟩;rw[<-Nat.mul_div_assoc _ g];exact Nat.dvd_lcm_right ..
theorem UZ {W:Nat}:∀(n:Nat) (xs:km Rat),xs.length=n->(∀x∈xs,Bd W x)->0<Wb xs/\(∀x∈xs,x.den ∣ Wb xs)/\Wb xs<2^(n*W+1)
 | 0,xs,e,_=>by have:xs= [] :=List.length_eq_zero_iff.mp e;subst this;exact⟨by decide,by simp,by simp[Wb]⟩
 | n+1,xs,e,h=>by
   obtain⟨ys,r,rfl⟩:∃ys r,xs=ys ++ [r] :=⟨xs.dropLast,xs.getLast (by intro z;subst z;cases e),(List.dropLast_concat_getLast _).symm⟩;have a:ys.length=n:=by simpa using e
   obtain⟨h1,h2,b⟩:=UZ n ys a λx hx=>h x (by simp[hx]);have c:=(h r (by simp)).bot;rw[Zo];obtain⟨d,f,g,i⟩:=kN h1 r.den_pos;refine⟨d,λx hx=> ?_, ?_⟩
   .rcases AAn.mp hx with hx|hx
    .exact Nat.dvd_trans (h2 x hx) f
    .simp at hx;subst hx;exact g
   .refine ABj i ?_;have:=fN b c;rw[show n*W+1+W=(n+1)*W+1 by rw[Nat.succ_mul];omega] at this;exact this
def cH {v:PV}{xs:km Rat}{W:Nat}(hv:v= .lst (xs.map fr))(hx:∀x∈xs,Bd W x)(hl:xs.length<=6)(hW:W<=1400){Q:PV->Prop}(q:Q (.int (Wb xs:Nat))):Cp [v] Q:=by
 subst hv;apply MC;ac_rfl;refine DN fr (λa vs τ=>∃b d,τ= [some (.val (.lst (xs.map fr))),some (.val (.int (Wb a:Nat))),b,d]) ?_ ?_ ⟨_,_,rfl⟩
 .rintro τ ⟨b,d,rfl⟩;ac_rfl;exact q
 .rintro a c vs e τ R g ⟨b,d,rfl⟩;have hu:∀x∈a,Bd W x:=λx h=>hx x (by rw[<-e];simp[h]);have ul:a.length<=6:=by rw[<-e] at hl;simp at hl;omega
  obtain⟨h1,h2,i⟩:=UZ a.length a rfl hu;have f:=(hx c (by rw[<-e];simp)).bot;have k:a.length*W<=6*1400:=Nat.mul_le_mul ul hW;have l:0<Nat.gcd (Wb a) c.den:=ADE _ c.den_pos;have gl:Nat.gcd (Wb a) c.den<2^8900:=Aw (ABj (AEP c.den_pos (ADh ..)) f) (by omega);ac_rfl;refine Ie _ _ _ ?_;ac_rfl;refine⟨⟨by omega,by simpa using gl⟩, ?_⟩;have j:((c.den:Nat):Int).fdiv ((Nat.gcd (Wb a) c.den:Nat):Int)=((c.den/Nat.gcd (Wb a) c.den:Nat):Int):=by rw[ACu _ (by omega),ADi]
  rw[j];have dl:c.den/Nat.gcd (Wb a) c.den<2^1400:=Aw (ABj (ADf ..) f) hW;ac_rfl;refine⟨MulOk.of (m:=8401) (n:=1400) (by simpa using Aw i (by omega)) (by rw[AEW];exact dl), ?_⟩;exact g _ ⟨some (.val (.int c.num)),some (.val (.int c.den)),by rw[Zo,AEQ];rfl⟩
abbrev Ml:AS:=
 (AZ (Fl 3 NA (AB (Ar (AB (aV 6) (AB (aV 7) AM))) AM))
   (Fl 3 NA (AB (Ar (AB (Jv EA (aV 6)) (AB (Jv EA (aV 7)) AM))) AM)))
abbrev Mj:AS:=
 (AZ (Aj (AY DW (AY Ak (aV 5) (aC (.int 0))) (AY Q8 (aV 2) (AY Ak (aV 5) (aC (.int 1))))) (Aq 7))
   Ml)
abbrev Qr:AS:=
 (AZ (Aj (AY DW (AY Ak (aV 4) (aC (.int 0))) (AY Q8 (aV 2) (AY Ak (aV 4) (aC (.int 1))))) (Aq 6))
   Mj)
abbrev Qt:AS:=
 (AZ (FA (pq (AB (aV 0) (AB (aV 1) AM))) (JR 2 (Af (Aq 4) (Af (Aq 5) Bw))) Qr)
   (As (Ar (AB (aV 2) (AB (aV 3) AM)))))
abbrev Qs:AS:=
 (AZ (II (B0 AM) 3)
   Qt)
abbrev O5:AS:=
 (AZ (Aj (AN 1 Cp (AB (AY A4 (aV 0) (aV 1)) AM)) (Aq 2))
   Qs)
def Fe:AF:=A0 8 O5
def UO {a b:PV}{Q:PV->Prop}(h:O5 ⟨λ_=>Q .non,Q,λ_=>False,λ_=>False⟩ [some (.val a),some (.val b),none,none,none,none,none,none]):Fe [a,b] Q:=h
def E7 (N:Nat)(r:Rat):Int:=r.num*((N:Int).fdiv (r.den:Int))
def JJ {N:Nat}{r:Rat}(h:r.den ∣ N):(E7 N r:Rat)=r*N:=by
 obtain⟨k,rfl⟩:=h;have hd:=r.den_pos;unfold E7;rw[AEQ,Int.mul_fdiv_cancel_left _ (by omega),AEX];have hn:((r.den:Int):Rat)≠0:=λz=>by have:(r.den:Int)=0:=Rat.intCast_inj.mp z;omega
 have e:r=(r.num:Rat)/((r.den:Int):Rat):=by rw[<-Rat.divInt_eq_div,ABv]
 have a:r*((r.den:Int):Rat)=r.num:=by
  conv=>lhs;arg 1;rw[e]
  grind
 rw[<-a,show ((r.den*k:Nat):Rat)=((r.den:Int):Rat)*((k:Int):Rat) by rw[<-AEX,<-AEQ,Rat.intCast_natCast]];grind
abbrev IJ (p:Int×Int):PV:= .tup [.int p.1, .int p.2]
def X1 (t:T3):PV:= .lst [fr t.1,fr t.2.1,fr t.2.2]
structure Pc where
 b:Rat
 e:Rat
 o0:T3
 o1:T3
def Pc.six (p:Pc):km Rat:= [p.o0.1,p.o0.2.1,p.o0.2.2,p.o1.1,p.o1.2.1,p.o1.2.2]
def Pc.N (p:Pc):Nat:=Wb p.six
def Pc.lns (p:Pc):km (Int×Int):= [(E7 p.N p.o0.1,E7 p.N p.o1.1),(-E7 p.N p.o0.1, -E7 p.N p.o1.1),(E7 p.N p.o0.2.1,E7 p.N p.o1.2.1),(-E7 p.N p.o0.2.1, -E7 p.N p.o1.2.1),(E7 p.N p.o0.2.2,E7 p.N p.o1.2.2),(-E7 p.N p.o0.2.2, -E7 p.N p.o1.2.2)]
def qB (p:Pc):PV:= .tup [fr p.b,fr p.e, .int p.N, .lst (p.lns.map IJ)]
def gm {W:Nat}{p:Pc}(a:E5 W p.o0)(h1:E5 W p.o1):∀x∈p.six,Bd W x:=by
 intro x hx;simp only[Pc.six,AAc,AAq,AAr] at hx;rcases hx with rfl|rfl|rfl|rfl|rfl|rfl
 .exact a.x
 .exact a.y
 .exact a.z
 .exact h1.x
 .exact h1.y
 .exact h1.z
def ZD {N d k:Nat}(h:N<2^k):((N:Int).fdiv (d:Int)).natAbs<2^k:=by rw[ACu _ (by omega),<-ADi,AEW];exact ABj (ADf ..) h
def fF {p:Pc}{W:Nat}(b:E5 W p.o0)(h1:E5 W p.o1)(hW:W<=1400){Q:PV->Prop}(q:Q (.tup [.int p.N, .lst (p.lns.map IJ)])):Fe [X1 p.o0,X1 p.o1] Q:=by
 have hs:=gm b h1;obtain⟨f,g,d⟩:=UZ 6 p.six rfl hs;have e:(p.N:Nat)<2^8401:=Aw d (by omega);have a:∀r:Rat,Bd W r->VN (p.N:Int) (r.den:Int)/\MulOk r.num ((p.N:Int).fdiv (r.den:Int)):=λr c=>
  ⟨⟨Bf r,by simpa using Aw c.bot (by omega)⟩,MulOk.of (m:=1400) (n:=8401) (Aw c.top hW) (ZD e)⟩
 unfold X1;apply UO;repeat' array_get_dec
 refine cH (xs:=p.six) (W:=W) rfl hs (by show 6<=6;omega) hW ?_;have q:Q (.tup [.int p.N, .lst [IJ (E7 p.N p.o0.1,E7 p.N p.o1.1),IJ (-E7 p.N p.o0.1, -E7 p.N p.o1.1),IJ (E7 p.N p.o0.2.1,E7 p.N p.o1.2.1),IJ (-E7 p.N p.o0.2.1, -E7 p.N p.o1.2.1),IJ (E7 p.N p.o0.2.2,E7 p.N p.o1.2.2),IJ (-E7 p.N p.o0.2.2, -E7 p.N p.o1.2.2)]]):=q;unfold E7 at q;rw[show Wb p.six=p.N from rfl];generalize p.N=N at *;repeat' array_get_dec
 refine⟨(a _ b.x).1,(a _ b.x).2, ?_⟩;repeat' array_get_dec
 refine⟨(a _ h1.x).1,(a _ h1.x).2, ?_⟩;repeat' array_get_dec
 refine⟨(a _ b.y).1,(a _ b.y).2, ?_⟩;repeat' array_get_dec
 refine⟨(a _ h1.y).1,(a _ h1.y).2, ?_⟩;repeat' array_get_dec
 refine⟨(a _ b.z).1,(a _ b.z).2, ?_⟩;repeat' array_get_dec
 refine⟨(a _ h1.z).1,(a _ h1.z).2, ?_⟩;repeat' array_get_dec
 exact q
abbrev Yp:AS:=
 (AZ (Aj (AY A4 (AN 3 CI (AB (aV 0) (AB (aV 2) (AB (aV 3) AM)))) (AN 3 CI (AB (aV 1) (AB (aV 2) (AB (aV 3) AM))))) (Aq 4))
   (As (AN 1 Gr (AB (AY A4 (Db (B0 (AB (aV 2) (AB (aV 3) AM)))) (Db (CD (IM (aV 4)) 1 [] (Aq 0) EJ (AY Ak (aV 0) (aC (.int 0)))))) AM))))
def JO:AF:=A0 5 Yp
def cE {a b c d:PV}{Q:PV->Prop}(h:Yp ⟨λ_=>Q .non,Q,λ_=>False,λ_=>False⟩ [some (.val a),some (.val b),some (.val c),some (.val d),none]):JO [a,b,c,d] Q:=h
def DH (cs ds:km C4)(b e:Rat):km Rat:=Cq ([b,e] ++ ((cs.filter (Mu b e)++ds.filter (Mu b e)).map (·.1)))
def D8 {cs ds:km C4}{b e x:Rat}:x∈DH cs ds b e↔x=b\/x=e\/(b<x/\x<e/\∃c,(c∈cs\/c∈ds)/\c.1=x):=by
 unfold DH;rw[CW];simp only[AER,ABY,AAc,AAl,AAn,ABo,Mu,ABS,ADb];constructor
 .rintro (h|h|⟨c,h,rfl⟩)
  .exact .inl h
  .exact .inr (.inl h)
  .rcases h with⟨h1,h2,a⟩|⟨h1,h2,a⟩
   .exact .inr (.inr ⟨h2,a,c, .inl h1,rfl⟩)
   .exact .inr (.inr ⟨h2,a,c, .inr h1,rfl⟩)
 .rintro (h|h|⟨h1,h2,c,h,rfl⟩)
  .exact .inl h
  .exact .inr (.inl h)
  .exact .inr (.inr ⟨c,h.elim (λh=> .inl ⟨h,h1,h2⟩) (λh=> .inr ⟨h,h1,h2⟩),rfl⟩)
def JZ {cs ds:km C4}{b e:Rat}:(DH cs ds b e).length<=2+(cs.length+ds.length):=by unfold DH;refine AA1 G0 ?_;have h1:=ACX (Mu b e) cs;have h2:=ACX (Mu b e) ds;simp only[ABR,AAk,AAz,ADn];omega
def Wr {cs ds:km C4}{v w:PV}{b e:Rat}{B:Nat}(hv:CC cs v)(hw:CC ds w)(hl:cs.length<=100)(j:ds.length<=100)(hc:∀c∈cs,D5 B c)(g:∀c∈ds,D5 B c)(a:B<=4000)(d:Bd B b)(f:Bd B e){Q:PV->Prop}(q:Q (.lst ((DH cs ds b e).map fr))):JO [v,w,fr b,fr e] Q:=by
 have h1:=ACX (Mu b e) cs;have h2:=ACX (Mu b e) ds;apply cE;ac_rfl;refine Ew hv (by omega) hc a (d.mono a) (f.mono a) ?_;ac_rfl;refine Ew hw (by omega) g a (d.mono a) (f.mono a) ?_;ac_rfl;rw[<-AAu];ac_rfl;refine Dr cor fr (λc=>c.1) (λ_=>True) (λc _ R i=> ?_) _ [] (by simp) ?_
 .ac_rfl;exact i
 rw[ABY];ac_rfl;refine R4 (xs:= [b,e] ++ (cs.filter (Mu b e)++ds.filter (Mu b e)).map (·.1)) (B:=B) (.inl rfl) (by simp only[ABR,AAk,AAz,ADn];omega) (λx hx=> ?_) a q;rcases AAn.mp hx with hx|hx
 .simp only[AAc,AAq,AAr] at hx;rcases hx with rfl|rfl
  .exact d
  .exact f
 .obtain ⟨c,h,rfl⟩:=AAl.mp hx;rcases AAn.mp h with h|h
  .exact (hc c (ABo.mp h).1).m
  .exact (g c (ABo.mp h).1).m
abbrev VA:AS:=
 (AZ (Aj (AN 2 Fe (AB (AY Ak (aV 5) (AY GF (aV 7) (aC (.int 1)))) (AB (AY Ak (aV 5) (aV 7)) AM))) (JR 2 (Af (Aq 8) (Af (Aq 9) Bw))))
   (Fl 6 NA (AB (Ar (AB (AY Ak (aV 4) (AY GF (aV 7) (aC (.int 1)))) (AB (AY Ak (aV 4) (aV 7)) (AB (aV 8) (AB (aV 9) AM))))) AM)))
abbrev VF:AS:=
 (AZ (FA (ip (AB (aC (.int 1)) (AB (DZ Dw (AB (aV 4) AM)) AM))) (Aq 7) VA)
   (As (aV 6)))
abbrev VE:AS:=
 (AZ (II (B0 AM) 6)
   VF)
abbrev VD:AS:=
 (AZ (Aj (Db (CD (IM (aV 4)) 1 [0,1,2] (Aq 0) EJ (AN 4 Gk (AB (aV 1) (AB (aV 2) (AB (aV 3) (AB (aV 0) AM))))))) (Aq 5))
   VE)
abbrev VC:AS:=
 (AZ (Aj (AN 4 JO (AB (aV 0) (AB (aV 1) (AB (AY Ak (aV 3) (aC (.int 0))) (AB (AY Ak (aV 3) (aC (.int 1))) AM))))) (Aq 4))
   VD)
abbrev VB:AS:=
 (AZ (BI (Am (AY XZ (aV 3) (aC .non))) (As (Db (B0 AM))) Ay)
   VC)
abbrev U9:AS:=
 (AZ (Aj (AN 2 Du (AB (aV 0) (AB (aV 1) AM))) (Aq 3))
   VB)
def Gq:AF:=A0 10 U9
def YQ {a b c:PV}{Q:PV->Prop}(h:U9 ⟨λ_=>Q .non,Q,λ_=>False,λ_=>False⟩ [some (.val a),some (.val b),some (.val c),none,none,none,none,none,none,none]):Gq [a,b,c] Q:=h
def HR (cs ds:km C4)(d:Rat×Rat)(m:Rat):T3:=KQ ((spotC cs m).getD (0,0,0)) ((spotC ds m).getD (0,0,0)) d
def OM (cs ds:km C4)(d:Rat×Rat)(ts:km Rat):km Pc:=(ts.zip ts.tail).map λp=>⟨p.1,p.2,HR cs ds d p.1,HR cs ds d p.2⟩
def zip_get {ts:km Rat}{i:Nat}{x y:Rat}(hx:ts[i]? =some x)(hy:ts[i+1]? =some y):(ts.zip ts.tail)[i]? =some (x,y):=by rw[List.getElem?_zip_eq_some];exact⟨hx,by rw[List.getElem?_tail];exact hy⟩
structure qi (cs ds:List C4) (b e:Rat):Prop where
 lt:b<e
 one:∀m,b<=m->m<=e->∃t,spotC cs m=some t
 other:∀m,b<=m->m<=e->∃t,spotC ds m=some t
def iB {a l b c:C4}{r r2:km C4}(e:r≠ [])(f:r2≠ [])(g:(a::r).getLast?=some l)(d:(b::r2).getLast?=some c)(h:mx a.1 b.1<mn l.1 c.1):qi (a::r) (b::r2) (mx a.1 b.1) (mn l.1 c.1):=by
 have i:a.1<=mx a.1 b.1:=by unfold mx;split <;> grind
 have j:b.1<=mx a.1 b.1:=by unfold mx;split <;> grind
 have k:mn l.1 c.1<=l.1:=by unfold mn;split <;> grind
 have n:mn l.1 c.1<=c.1:=by unfold mn;split <;> grind
 exact⟨h,λm h1 h2=>K3 e g (by grind) (by grind),λm h1 h2=>K3 f d (by grind) (by grind)⟩
def n5 {cs ds:km C4}{d:Rat×Rat}{b e m:Rat}{B M D:Nat}(g:qi cs ds b e)(h1:b<=m)(h2:m<=e)(i:JQ cs)(j:JQ ds)(hc:∀c∈cs,D5 B c)(k:∀c∈ds,D5 B c)(bm:Bd M m)(b1:Bd D d.1)(b2:Bd D d.2)(p1:d.1≠0)(p2:d.2≠0):E5 (2*(M+6*B+10)+1+D) (HR cs ds d m):=by obtain⟨s,es⟩:=g.one m h1 h2;obtain⟨t,h⟩:=g.other m h1 h2;have a:=E5.spotC bm i hc s es;have f:=E5.spotC bm j k t h;unfold HR;rw[es,h];exact⟨(((a.x.sub f.x).div p1 b1)).mono (by omega),(((a.y.sub f.y).div p1 b1)).mono (by omega),(((a.z.sub f.z).div p2 b2)).mono (by omega)⟩
def lC (ts:km Rat):(ts.zip ts.tail).length=ts.length-1:=by rw[List.length_zip,List.length_tail];omega
def UJ {cs ds:km C4}{d:Rat×Rat}{ts:km Rat}:(OM cs ds d ts).length=ts.length-1:=by unfold OM;rw[AAk,lC]
def G4 {cs ds:km C4}{b e:Rat}:TK (DH cs ds b e):=Ca
def EQ {cs ds:km C4}{b e x:Rat}(h:b<e)(hx:x∈DH cs ds b e):b<=x/\x<=e:=by rcases D8.mp hx with rfl|rfl|⟨h1,h2,_⟩ <;> exact⟨by grind,by grind⟩
def Fv {cs ds:km C4}{b e x:Rat}{M:Nat}(hc:∀c∈cs,Bd M c.1)(a:∀c∈ds,Bd M c.1)(d:Bd M b)(f:Bd M e)(hx:x∈DH cs ds b e):Bd M x:=by
 rcases D8.mp hx with rfl|rfl|⟨_,_,c,h,rfl⟩
 .exact d
 .exact f
 .rcases h with h|h
  .exact hc c h
  .exact a c h
def Tc (cs:km C4):Rat:=(cs.head?.getD (0,0,0,0)).1
def lstM (cs:km C4):Rat:=(cs.getLast?.getD (0,0,0,0)).1
def BJ (cs ds:km C4):Rat:=mx (Tc cs) (Tc ds)
def BE (cs ds:km C4):Rat:=mn (lstM cs) (lstM ds)
def MP (cs ds:km C4):km Rat:=DH cs ds (BJ cs ds) (BE cs ds)
structure GS (cs ds:List C4) (d:Rat×Rat) (M W:Nat):Prop where
 c1:∀c∈cs,D5 150 c
 c2:∀c∈ds,D5 150 c
 r1:JQ cs
 r2:JQ ds
 t1:2<=cs.length
 t2:2<=ds.length
 f1:cs.length<=100
 f2:ds.length<=100
 m1:∀c∈cs,Bd M c.1
 m2:∀c∈ds,Bd M c.1
 b1:Bd 100 d.1
 b2:Bd 100 d.2
 p1:0<d.1
 p2:0<d.2
 w:BJ cs ds<BE cs ds->∀m∈MP cs ds,E5 W (HR cs ds d m)
 hM:M<=150
 hW:W<=1050
def open2 {cs:km C4}(h:2<=cs.length):∃a r l,cs=a::r/\r≠ [] /\(a::r).getLast?=some l:=by
 match cs,h with
 | a::b::r,_=> obtain⟨l,c⟩:∃l,(a::b::r).getLast?=some l:=⟨_,ADH (by simp)⟩;exact⟨a,b::r,l,rfl,by simp,c⟩
def Oa {a:C4}{r:km C4}:Tc (a::r)=a.1:=rfl
def CP {cs:km C4}{l:C4}(e:cs.getLast?=some l):lstM cs=l.1:=by unfold lstM;rw[e];rfl
section
variable {cs ds:km C4}{d:Rat×Rat}{M W:Nat}
theorem GS.fstB (D:GS cs ds d M W):Bd M (Tc cs):=by obtain⟨a,r,l,rfl,b,c⟩:=open2 D.t1;exact D.m1 a (by simp)
theorem GS.fstB2 (D:GS cs ds d M W):Bd M (Tc ds):=by obtain⟨a,r,l,rfl,b,c⟩:=open2 D.t2;exact D.m2 a (by simp)
theorem GS.lstB (D:GS cs ds d M W):Bd M (lstM cs):=by obtain⟨a,r,l,rfl,c,b⟩:=open2 D.t1;rw[CP b];exact D.m1 l (ABx b)
theorem GS.lstB2 (D:GS cs ds d M W):Bd M (lstM ds):=by obtain⟨a,r,l,rfl,c,b⟩:=open2 D.t2;rw[CP b];exact D.m2 l (ABx b)
theorem GS.begB (D:GS cs ds d M W):Bd M (BJ cs ds):=D.fstB.mx D.fstB2
theorem GS.endB (D:GS cs ds d M W):Bd M (BE cs ds):=D.lstB.mn D.lstB2
theorem GS.tog (D:GS cs ds d M W)(h:BJ cs ds<BE cs ds):qi cs ds (BJ cs ds) (BE cs ds):=by obtain⟨a,r,l,rfl,e,c⟩:=open2 D.t1;obtain⟨g,r2,i,rfl,f,b⟩:=open2 D.t2;unfold BJ BE at h ⊢;rw[Oa,Oa,CP c,CP b] at h ⊢;exact iB e f c b h
end
def Z5 {cs ds:km C4}{d:Rat×Rat}{M W:Nat}(D:GS cs ds d M W){v w:PV}(hv:CC cs v)(hw:CC ds w){Q:PV->Prop}(c:BJ cs ds<BE cs ds->Q (.tup [fr (BJ cs ds),fr (BE cs ds)]))(e:¬BJ cs ds<BE cs ds->Q .non):Du [v,w] Q:=by have i:=D.fstB;have j:=D.fstB2;have g:=D.lstB;have h:=D.lstB2;have hM:=D.hM;obtain⟨a,r,l,rfl,k,f⟩:=open2 D.t1;obtain⟨m,r2,n,rfl,o,b⟩:=open2 D.t2;unfold BJ BE at c e;rw[Oa,Oa,CP f,CP b] at c e;rw[CP f] at g;rw[CP b] at h;exact Wn hv hw f b (i.mono (by omega)) (g.mono (by omega)) (j.mono (by omega)) (h.mono (by omega)) c e
def QF (cs ds:km C4)(d:Rat×Rat):km Pc:=if BJ cs ds<BE cs ds then OM cs ds d (MP cs ds) else []
def R3 {cs ds:km C4}{d:Rat×Rat}{M W:Nat}(D:GS cs ds d M W){v w u:PV}(hv:CC cs v)(hw:CC ds w)(hu:Wz d u){Q:PV->Prop}(q:Q (.lst ((QF cs ds d).map qB))):Gq [v,w,u] Q:=by
 have hM:=D.hM;have hW:=D.hW;have o:=D.f1;have r:=D.f2;apply YQ;ac_rfl;refine Z5 D hv hw (λh=> ?_) (λh=> ?_);rotate_left
 .unfold QF at q;rw[AAa h] at q;ac_rfl;exact q
 unfold QF at q;rw[AAb h] at q;have A:=D.tog h;ac_rfl;refine Wr (B:=150) hv hw o r D.c1 D.c2 (by decide) (D.begB.mono hM) (D.endB.mono hM) ?_;have F:=JZ (cs:=cs) (ds:=ds) (b:=BJ cs ds) (e:=BE cs ds);have l:∀x∈MP cs ds,BJ cs ds<=x/\x<=BE cs ds:=λx hx=>EQ h hx;have G:∀x∈MP cs ds,Bd M x:=λx hx=>Fv D.m1 D.m2 D.begB D.endB hx;have C:∀x∈MP cs ds,E5 W (HR cs ds d x):=D.w h;have H:(MP cs ds).length<=2+(cs.length+ds.length):=F;rw[show DH cs ds (BJ cs ds) (BE cs ds)=MP cs ds from rfl];generalize MP cs ds=ts at *;ac_rfl;refine Dr fr X1 (HR cs ds d) (λx=>x∈ts) (λx hx R k=> ?_) ts [] (λx hx=>hx) ?_
 .obtain ⟨s,es⟩:=A.one x (l x hx).1 (l x hx).2;obtain⟨t,E⟩:=A.other x (l x hx).1 (l x hx).2;have k:R (X1 (KQ ((spotC cs x).getD (0,0,0)) ((spotC ds x).getD (0,0,0)) d)):=k;rw[es,E] at k;ac_rfl;exact jd hv hw hu D.c1 D.c2 D.r1 D.r2 (by have:=D.t1;intro z;subst z;simp at this) (by have:=D.t2;intro z;subst z;simp at this) o r ((G x hx).mono (by omega)) D.b1 D.b2 (by have:=D.p1;grind) (by have:=D.p2;grind) es E k
 rw[ABY];ac_rfl;refine TZ (λi τ=>∃g j a,τ= [some (.val v),some (.val w),some (.val u),some (.val (.tup [fr (BJ cs ds),fr (BE cs ds)])),some (.val (.lst (ts.map fr))),some (.val (.lst ((ts.map (HR cs ds d)).map X1))),some (.own (((OM cs ds d ts).take i).map qB)),g,j,a]) ?_ ?_ ⟨_,_,_,rfl⟩
 .rintro τ ⟨g,j,a,rfl⟩;rw[ADX (by rw[UJ];omega)];ac_rfl;exact q
 .rintro i hi τ R k ⟨g,j,a,rfl⟩;have I:i+1<ts.length:=by omega
  obtain⟨x,ex⟩:∃x,ts[i]? =some x:=⟨_,ABD (by omega)⟩;obtain⟨y,m⟩:∃y,ts[i+1]? =some y:=⟨_,ABD I⟩;have N:=UJ (cs:=cs) (ds:=ds) (d:=d) (ts:=ts);have J:=C x (ABN ex);have K:=C y (ABN m);have ep:(OM cs ds d ts).take (i+1)=(OM cs ds d ts).take i ++ [⟨x,y,HR cs ds d x,HR cs ds d y⟩] :=by
   have L:(OM cs ds d ts)[i]? =some ⟨x,y,HR cs ds d x,HR cs ds d y⟩:=by unfold OM;rw[ABI,zip_get ex m];rfl
   rw[List.take_succ,L];rfl
  have t1:((1:Int)+(i:Int)-1).toNat=i:=by omega
  have t2:((1:Int)+(i:Int)).toNat=i+1:=by omega
  have n:∀g j a,R [some (.val v),some (.val w),some (.val u),some (.val (.tup [fr (BJ cs ds),fr (BE cs ds)])),some (.val (.lst (ts.map fr))),some (.val (.lst ((ts.map (HR cs ds d)).map X1))),some (.own (((OM cs ds d ts).take i).map qB ++ [qB ⟨x,y,HR cs ds d x,HR cs ds d y⟩])),g,j,a] :=λg j a=>k _ ⟨g,j,a,by rw[ep,AAu];rfl⟩;ac_rfl;rename_i c1 c _ c2 f _;rw[t1,ABI,ex] at c;rw[t2,ABI,m] at f;cases c;cases f;refine fF (p:=⟨x,y,HR cs ds d x,HR cs ds d y⟩) J K (by omega) ?_;ac_rfl;rename_i c1 c _ c2 f _;rw[t1,ex] at c;cases c;rw[t2,m] at f;cases f;ac_rfl;exact n _ _ _
abbrev Nh:AS:=
 (As (AN 2 Ii (AB (aV 0) (AB (AN 2 F3 (AB (AN 2 Ih (AB (AY Ak (aV 2) (aC (.int 0))) (AB (AY Ak (aV 2) (aC (.int 1))) AM))) (AB (AN 2 EG (AB (aV 1) (AB (aV 0) AM))) AM))) AM))))
def DA:AF:=A0 3 Nh
def RQ {a b c:PV}{Q:PV->Prop}(h:Nh ⟨λ_=>Q .non,Q,λ_=>False,λ_=>False⟩ [some (.val a),some (.val b),some (.val c)]):DA [a,b,c] Q:=h
def sv (p:Int×Int):Rat:=(p.1:Rat)/(p.2:Rat)
def Rn {i:Int}(h:0<i):(0:Rat)<(i:Rat):=by have:=ACR.mpr h;simpa using this
def t9 {a b:Int×Int}(ha:0<a.2)(hb:0<b.2):sv a<sv b↔a.1*b.2<b.1*a.2:=by
 have h1:=Rn ha;have h2:=Rn hb;unfold sv;rw[ADK h1,<-ACR,AEX,AEX];have e:(b.1:Rat)/(b.2:Rat)*(a.2:Rat)=(b.1:Rat)*(a.2:Rat)/(b.2:Rat):=by grind
 rw[e,AE4 h2]
structure Sz (p:Int×Int):Prop where
 pos:0<p.2
 t:p.1.natAbs<2^8850
 n:p.2.natAbs<2^8850
def Gv {a b:Int×Int}(ha:Sz a)(hb:Sz b){Q:PV->Prop}(q:Q (.bl (decide (sv a<sv b)))):Av [IJ a,IJ b] Q:=by refine⟨MulOk.of ha.t hb.n,MulOk.of hb.t ha.n, ?_⟩;rw[ADk.mpr (t9 ha.pos hb.pos)] at q;exact q
def bK {a b:Int×Int}(ha:Sz a)(hb:Sz b){Q:PV->Prop}(q:Q (IJ (if sv b<sv a then b else a))):Fd [IJ a,IJ b] Q:=by
 refine⟨rfl,Gv hb ha ?_⟩;refine F0 (b:=decide (sv b<sv a)) (λz=> ?_) (λz=> ?_)
 .rw [AAb (ABw z)] at q;exact q
 .rw [AAa (ACO z)] at q;exact q
def KM {b e:Rat}{p:Int×Int}{M S:Nat}(hp:Sz p)(bs:Bd S (sv p))(a:Bd M b)(c:Bd M e)(hM:M<=300)(f:S<=3200){Q:PV->Prop}(q:Q (fr (b+sv p*(e-b)))):DA [fr b,fr e,IJ p] Q:=by
 have d:p.2≠0:=by have:=hp.pos;omega
 have es:Rat.divInt p.1 p.2=sv p:=Rat.divInt_eq_div ..;have k:=c.sub a;have g:=bs.mul k;apply RQ;ac_rfl;refine Gm _ _ d (Aw hp.n (by decide)) _ ?_;rw[es];ac_rfl;exact q
def lv (l:Int×Int)(s:Rat):Rat:=(l.1:Rat)+s*((l.2:Rat)-(l.1:Rat))
structure NI (N:Nat) (S:Nat) (us:List (Int×Int)) (lo hi:Int×Int) (h:Int):Prop where
 l:Sz lo
 r:Sz hi
 bl:Bd S (sv lo)
 br:Bd S (sv hi)
 h01:h=0\/h=1
 lo0:0<=sv lo
 hi1:sv hi<=1
 sem:∀s,0<=s->s<1->((∀l∈us,lv l s<N)↔(sv lo<s\/(sv lo=s/\h=1))/\s<sv hi)
def pM:sv (0,1)=0:=by decide +kernel
def cK:sv (1,1)=1:=by decide +kernel
def nw {N S:Nat}(a:1<=S):NI N S [] (0,1) (1,1) 1:=by
 refine⟨⟨by decide, ?_, ?_⟩,⟨by decide, ?_, ?_⟩, ?_, ?_, .inr rfl,by rw[pM];grind,by rw[cK];grind,λs b h1=> ?_⟩
 .exact Aw (m:=1) (by decide) (by decide)
 .exact Aw (m:=1) (by decide) (by decide)
 .exact Aw (m:=1) (by decide) (by decide)
 .exact Aw (m:=1) (by decide) (by decide)
 .rw [pM];exact lI.mono a
 .rw [cK];exact qo.mono a
 .rw [pM,cK];exact⟨λ_=>⟨by grind,h1⟩,λ_=>by simp⟩
structure Jk (N W:Nat) (l:Int×Int):Prop where
 a:l.1.natAbs<2^8848
 b:l.2.natAbs<2^8848
 n:N<2^8848
 n0:0<N
 ex:∃u v:Rat,Bd W u/\Bd W v/\(l.1:Rat)=u*N/\(l.2:Rat)=v*N
def c8 {N:Nat}(h:0<N):(0:Rat)<(N:Rat):=Rat.natCast_pos.mpr h
def Zx {a b:Int}{k:Nat}(ha:a.natAbs<2^k)(hb:b.natAbs<2^k):(a-b).natAbs<2^(k+1):=Uo ha hb
def Eo {a:km (Int×Int)}{l:Int×Int}{P:Int×Int->Prop}:(∀x∈a ++ [l],P x)↔(∀x∈a,P x)/\P l:=by
 constructor
 .intro h;exact⟨λx hx=>h x (by simp[hx]),h l (by simp)⟩
 .rintro ⟨h1,h2⟩ x hx;rcases AAn.mp hx with hx|hx
  .exact h1 x hx
  .simp at hx;subst hx;exact h2
def ES (N:Nat):((N:Int):Rat)=(N:Rat):=Rat.intCast_natCast N
def M8 {N W:Nat}{l:Int×Int}(h:Jk N W l)(h1:(N:Int)<=l.1)(h2:l.2<(N:Int)):Sz (l.1-N,l.1-l.2)/\Bd (3*W+3) (sv (l.1-N,l.1-l.2))/\0<=sv (l.1-N,l.1-l.2)/\∀s,lv l s<N↔sv (l.1-N,l.1-l.2)<s:=by
 obtain⟨u,v,d,g,e,f⟩:=h.ex;have hn:=c8 h.n0;have p2:0<l.1-l.2:=by omega
 have k:((N:Rat))<=(l.1:Rat):=by rw[<-ES];exact AC5.mpr h1
 have m:(l.2:Rat)<(N:Rat):=by rw[<-ES];exact ACR.mpr h2
 have es:sv (l.1-N,l.1-l.2)=((l.1:Rat)-N)/((l.1:Rat)-l.2):=by unfold sv;show ((l.1-(N:Int):Int):Rat)/((l.1-l.2:Int):Rat)=_;rw[AEY,AEY,ES]
 have c:(0:Rat)<(l.1:Rat)-l.2:=by grind
 have i:u-v≠0:=by
  intro z;have:u=v:=by grind
  subst this;grind
 have j:sv (l.1-N,l.1-l.2)=(u-1)/(u-v):=by
  rw[es,e,f];have:u*(N:Rat)-v*N≠0:=by rw[e,f] at c;grind
  have:(N:Rat)≠0:=by grind
  grind
 refine⟨⟨p2,Aw (Zx h.a (by simpa using h.n)) (by decide),Aw (Zx h.a h.b) (by decide)⟩, ?_, ?_,λs=> ?_⟩
 .rw [j];exact((d.sub qo).div i (d.sub g)).mono (by omega)
 .rw [es,<-ADL,ADK c];grind
 .rw [es,ADK c];unfold lv;constructor <;> intro z <;> grind
def Ti {N W:Nat}{l:Int×Int}(h:Jk N W l)(h1:l.1<(N:Int))(h2:(N:Int)<l.2):Sz (N-l.1,l.2-l.1)/\Bd (3*W+3) (sv (N-l.1,l.2-l.1))/\sv (N-l.1,l.2-l.1)<=1/\∀s,lv l s<N↔s<sv (N-l.1,l.2-l.1):=by
 obtain⟨u,v,d,g,e,f⟩:=h.ex;have hn:=c8 h.n0;have p2:0<l.2-l.1:=by omega
 have k:(l.1:Rat)<(N:Rat):=by rw[<-ES];exact ACR.mpr h1
 have m:(N:Rat)<(l.2:Rat):=by rw[<-ES];exact ACR.mpr h2
 have es:sv (N-l.1,l.2-l.1)=((N:Rat)-l.1)/((l.2:Rat)-l.1):=by unfold sv;show (((N:Int)-l.1:Int):Rat)/((l.2-l.1:Int):Rat)=_;rw[AEY,AEY,ES]
 have c:(0:Rat)<(l.2:Rat)-l.1:=by grind
 have i:v-u≠0:=by
  intro z;have:u=v:=by grind
  subst this;grind
 have j:sv (N-l.1,l.2-l.1)=(1-u)/(v-u):=by
  rw[es,e,f];have:v*(N:Rat)-u*N≠0:=by rw[e,f] at c;grind
  have:(N:Rat)≠0:=by grind
  grind
 refine⟨⟨p2,Aw (Zx (by simpa using h.n) h.a) (by decide),Aw (Zx h.b h.a) (by decide)⟩, ?_, ?_,λs=> ?_⟩
 .rw [j];exact((qo.sub d).div i (g.sub d)).mono (by omega)
 .rw [es,<-ADL,AE4 c];grind
 .rw [es,AE4 c];unfold lv;constructor <;> intro z <;> grind
section
variable {N W:Nat}{us:km (Int×Int)}{lo hi l:Int×Int}{h:Int}
def nv (i:NI N (3*W+3) us lo hi h)(o:Jk N W l)(h1:(N:Int)<=l.1)(h2:l.2<(N:Int))(k:¬sv (l.1-N,l.1-l.2)<sv lo):NI N (3*W+3) (us ++ [l]) (l.1-N,l.1-l.2) hi 0:=by
 obtain⟨a,b,c,e⟩:=M8 o h1 h2;refine⟨a,i.r,b,i.br, .inl rfl,c,i.hi1,λs d f=> ?_⟩;rw[Eo,i.sem s d f,e s];constructor
 .rintro ⟨⟨x,y⟩,z⟩;exact⟨.inl z,y⟩
 .rintro ⟨x|⟨_,x⟩,y⟩
  .exact ⟨⟨.inl (by grind),y⟩,x⟩
  .cases x
def ja (i:NI N (3*W+3) us lo hi h)(o:Jk N W l)(h1:(N:Int)<=l.1)(h2:l.2<(N:Int))(k:sv (l.1-N,l.1-l.2)<sv lo):NI N (3*W+3) (us ++ [l]) lo hi h:=by
 obtain⟨a,b,c,e⟩:=M8 o h1 h2;refine⟨i.l,i.r,i.bl,i.br,i.h01,i.lo0,i.hi1,λs d f=> ?_⟩;rw[Eo,i.sem s d f,e s];constructor
 .rintro ⟨x,z⟩;exact x
 .rintro ⟨x,y⟩;refine⟨⟨x,y⟩, ?_⟩;rcases x with x|⟨x,_⟩ <;> grind
def jZ (i:NI N (3*W+3) us lo hi h)(o:Jk N W l)(h1:l.1<(N:Int))(h2:(N:Int)<l.2):NI N (3*W+3) (us ++ [l]) lo (if sv (N-l.1,l.2-l.1)<sv hi then (N-l.1,l.2-l.1) else hi) h:=by
 obtain⟨a,b,c,e⟩:=Ti o h1 h2;by_cases k:sv (N-l.1,l.2-l.1)<sv hi
 .rw [AAb k];refine⟨i.l,a,i.bl,b,i.h01,i.lo0,c,λs d f=> ?_⟩;rw[Eo,i.sem s d f,e s];constructor
  .rintro ⟨⟨x,y⟩,z⟩;exact⟨x,z⟩
  .rintro ⟨x,y⟩;exact⟨⟨x,by grind⟩,y⟩
 .rw [AAa k];refine⟨i.l,i.r,i.bl,i.br,i.h01,i.lo0,i.hi1,λs d f=> ?_⟩;rw[Eo,i.sem s d f,e s];constructor
  .rintro ⟨x,z⟩;exact x
  .rintro ⟨x,y⟩;exact⟨⟨x,y⟩,by grind⟩
def sT (i:NI N (3*W+3) us lo hi h)(h1:l.1<(N:Int))(h2:¬(N:Int)<l.2):NI N (3*W+3) (us ++ [l]) lo hi h:=by
 have b:(l.1:Rat)<(N:Rat):=by rw[<-ES];exact ACR.mpr h1
 have c:(l.2:Rat)<=(N:Rat):=by rw[<-ES];exact AC5.mpr (by omega)
 refine⟨i.l,i.r,i.bl,i.br,i.h01,i.lo0,i.hi1,λs a d=> ?_⟩;rw[Eo,i.sem s a d];constructor
 .rintro ⟨x,z⟩;exact x
 .intro x;refine⟨x, ?_⟩;have y:lv l s=(1-s)*(l.1:Rat)+s*(l.2:Rat):=by unfold lv;grind
  have e:(1-s)*(l.1:Rat)<(1-s)*N:=ADv b (by grind);have f:s*(l.2:Rat)<=s*N:=ADM c a;rw[y];grind
end
abbrev Sf:AS:=
 (AZ (Aj (aV 10) (Aq 1))
   (Aj (aC (.int 0)) (Aq 2)))
abbrev Sg:AS:=
 (AZ (Aj (Ar (AB (AY GF (aV 8) (aV 6)) (AB (AY GF (aV 8) (aV 9)) AM))) (Aq 10))
   (BI (B2 (Am (AN 2 Av (AB (aV 10) (AB (aV 1) AM))))) Sf Ay))
abbrev Si:AS:=
 (AZ (BI (Lb (Am (AY mq (aV 8) (aV 6))) (Am (AY mq (aV 9) (aV 6)))) (As (Db (B0 AM))) Ay)
   (BI (Am (AY mq (aV 8) (aV 6))) Sg (BI (Am (AY lM (aV 9) (aV 6))) (Aj (AN 2 Fd (AB (aV 3) (AB (Ar (AB (AY GF (aV 6) (aV 8)) (AB (AY GF (aV 9) (aV 8)) AM))) AM))) (Aq 3)) Ay)))
abbrev So:AS:=
 (AZ (BI (B2 (Am (AN 2 Av (AB (aV 1) (AB (aV 3) AM))))) (As (Db (B0 AM))) Ay)
   (As (Db (B0 (AB (Ar (AB (AN 3 DA (AB (aV 4) (AB (aV 5) (AB (aV 1) AM)))) (AB (aV 2) (AB (AN 3 DA (AB (aV 4) (AB (aV 5) (AB (aV 3) AM)))) AM)))) AM)))))
abbrev Sn:AS:=
 (AZ (FA (IM (aV 7)) (JR 2 (Af (Aq 8) (Af (Aq 9) Bw))) Si)
   So)
abbrev Sm:AS:=
 (AZ (Aj (Ar (AB (aC (.int 1)) (AB (aC (.int 1)) AM))) (Aq 3))
   Sn)
abbrev Sk:AS:=
 (AZ (Aj (aC (.int 1)) (Aq 2))
   Sm)
abbrev Sj:AS:=
 (AZ (Aj (Ar (AB (aC (.int 0)) (AB (aC (.int 1)) AM))) (Aq 1))
   Sk)
abbrev RV:AS:=
 (AZ (Aj (aV 0) (JR 4 (Af (Aq 4) (Af (Aq 5) (Af (Aq 6) (Af (Aq 7) Bw))))))
   Sj)
def Gj:AF:=A0 11 RV
def WU {a:PV}{Q:PV->Prop}(h:RV ⟨λ_=>Q .non,Q,λ_=>False,λ_=>False⟩ [some (.val a),none,none,none,none,none,none,none,none,none,none]):Gj [a] Q:=h
def ZU (N:Nat)(lns:km (Int×Int))(b e m:Rat):Prop:=b<=m/\m<e/\∀l∈lns,lv l ((m-b)/(e-b))<N
structure dA (N:Nat) (lns:List (Int×Int)) (b e:Rat) (B:Nat) (ss:List Bz):Prop where
 few:ss.length<=1
 ok:∀s∈ss,C3 B s
 fin:∀s∈ss,∃x,s.2.2=some x
 sem:∀m,ss.any (Bp · (m,0))=true↔ZU N lns b e m
def R1 {N:Nat}{lns:km (Int×Int)}{b e:Rat}{B:Nat}(h:∀s,0<=s->s<1->¬∀l∈lns,lv l s<N)(d:b<e):dA N lns b e B [] :=by
 refine⟨by simp,by simp,by simp,λm=> ?_⟩;refine⟨λz=>by simp at z,λz=> ?_⟩;obtain⟨h1,h2,c⟩:=z;have a:0<e-b:=by grind
 refine absurd c (h _ ?_ ?_)
 .rw [<-ADL,ADK a];grind
 .rw [ADK a];grind
def bR {N S B M:Nat}{lns:km (Int×Int)}{b e:Rat}{lo hi:Int×Int}{h:Int}(i:NI N S lns lo hi h)(p:b<e)(k:sv lo<sv hi)(a:Bd M b)(g:Bd M e)(r:3*M+S+3<=B):dA N lns b e B [(b+sv lo*(e-b),h,some (b+sv hi*(e-b)))] :=by
 have l:0<e-b:=by grind
 have mono:∀{x y:Rat},x<y->b+x*(e-b)<b+y*(e-b):=λ{x y} h=>by have:=AFT h l;grind
 refine⟨by simp,λs hs=> ?_,λs hs=> ?_,λm=> ?_⟩
 .simp at hs;subst hs;refine⟨(a.add (i.bl.mul (g.sub a))).mono (by omega),i.h01,λx hx=> ?_⟩;cases hx;exact⟨mono k,(a.add (i.br.mul (g.sub a))).mono (by omega)⟩
 .simp at hs;subst hs;exact⟨_,rfl⟩
 .obtain ⟨s,rfl⟩:∃s,m=b+s*(e-b):=⟨(m-b)/(e-b),by grind⟩;have es:(b+s*(e-b)-b)/(e-b)=s:=by grind
  unfold ZU;rw[es];have j:∀x y:Rat,b+x*(e-b)<b+y*(e-b)↔x<y:=λx y=>by
   refine⟨λz=> ?_,mono⟩;by_cases w:x<y
   .exact w
   .by_cases f:y<x
    .have:=mono f;grind
    .have:x=y:=by grind
     subst this;grind
  have n:∀x y:Rat,b+x*(e-b)=b+y*(e-b)↔x=y:=λx y=>by
   refine⟨λz=> ?_,λz=>by rw[z]⟩;by_cases w:x<y
   .have:=mono w;grind
   .by_cases f:y<x
    .have:=mono f;grind
    .grind
  have A: [((b+sv lo*(e-b),h,some (b+sv hi*(e-b))):Bz)].any (Bp · (b+s*(e-b),0))=true↔(sv lo<s\/(sv lo=s/\h=1))/\s<sv hi:=by
   simp only[ABg,List.any_nil,ADq,Bp,ABS,AC2,ADb,j,n];have:0<h+0↔h=1:=by have:=i.h01;omega
   rw[this]
  rw[A];constructor
  .intro z;have c:0<=s:=by have:=i.lo0;rcases z.1 with y|⟨y,_⟩ <;> grind
   have d:s<1:=by have:=i.hi1;have:=z.2;grind
   refine⟨?_, ?_,(i.sem s c d).mpr z⟩
   .have:=Rat.mul_nonneg c (show 0<=e-b by grind);grind
   .have:=mono d;grind
  .rintro ⟨t,u,o⟩;have c:0<=s:=by rw[<-ADL];intro w;have:=mono w;grind
   have d:s<1:=by have:=(j s 1).mp (by grind);exact this
   exact(i.sem s c d).mp o
def Xz {b e:Rat}{N M W:Nat}{lns:km (Int×Int)}(ok:∀l∈lns,Jk N W l)(p:b<e)(t:Bd M b)(u:Bd M e)(hM:M<=300)(hW:W<=1050)(hl:lns.length<=1000){Q:PV->Prop}(q:∀ss,dA N lns b e (3*M+3*W+6) ss->Q (.lst (ss.map HW))):Gj [.tup [fr b,fr e, .int N, .lst (lns.map IJ)]] Q:=by
 apply WU;ac_rfl;refine DN IJ (λv vs τ=>∃lo hi h f g c,NI N (3*W+3) v lo hi h/\τ= [some (.val (.tup [fr b,fr e, .int N, .lst (lns.map IJ)])),some (.val (IJ lo)),some (.val (.int h)),some (.val (IJ hi)),some (.val (fr b)),some (.val (fr e)),some (.val (.int N)),some (.val (.lst (lns.map IJ))),f,g,c]) ?_ ?_ ⟨(0,1),(1,1),1,_,_,_,nw (by omega),rfl⟩
 .rintro τ ⟨lo,hi,h,f,g,c,i,rfl⟩;ac_rfl;refine Gv i.l i.r ?_;ac_rfl
  .rename_i k;refine q [] (R1 (λs w B=> ?_) p);rw[i.sem s w B];rintro⟨x,y⟩;rcases x with x|⟨x,_⟩ <;> grind
  .rename_i k;refine KM i.l i.bl t u hM (by omega) ?_;ac_rfl;refine KM i.r i.br t u hM (by omega) ?_;ac_rfl;exact q _ (bR i p k t u (by omega))
 .rintro v l vs C τ R D ⟨lo,hi,h,f,g,c,i,rfl⟩;have o:=ok l (by rw[<-C];simp);have d:∀{lo hi h f g c},NI N (3*W+3) (v ++ [l]) lo hi h->R [some (.val (.tup [fr b,fr e, .int N, .lst (lns.map IJ)])),some (.val (IJ lo)),some (.val (.int h)),some (.val (IJ hi)),some (.val (fr b)),some (.val (fr e)),some (.val (.int N)),some (.val (.lst (lns.map IJ))),f,g,c] :=λ{lo hi h f g c} k=>D _ ⟨lo,hi,h,f,g,c,k,rfl⟩;ac_rfl;all_goals first | (exfalso;omega)|skip
  .rename_i j n;refine q [] (R1 (λs w B z=> ?_) p);have z:=z l (by rw[<-C];simp);have E:(N:Rat)<=(l.1:Rat):=by rw[<-ES];exact AC5.mpr j
   have F:(N:Rat)<=(l.2:Rat):=by rw[<-ES];exact AC5.mpr n
   have y:lv l s=(1-s)*(l.1:Rat)+s*(l.2:Rat):=by unfold lv;grind
   have G:(1-s)*N<=(1-s)*(l.1:Rat):=ADM E (by grind);have H:s*N<=s*(l.2:Rat):=ADM F w;rw[y] at z;grind
  .rename_i j n m;obtain⟨a,_,_,_⟩:=M8 o j (by omega);refine Gv a i.l ?_;ac_rfl
   .rename_i A;exact d (nv i o j (by omega) A)
   .rename_i A;exact d (ja i o j (by omega) A)
  .rename_i j n m;obtain⟨a,_,_,_⟩:=Ti o (by omega) m;refine bK i.r a ?_;exact d (jZ i o (by omega) m)
  .rename_i j n m;exact d (sT i (by omega) m)
abbrev O9:AS:=
 (As (AN 1 Fg (AB (Db (Mr (IM (AN 3 Gq (AB (aV 0) (AB (aV 1) (AB (aV 2) AM))))) 2 [] (Aq 1) EJ (IM (AN 1 Gj (AB (aV 1) AM))) 1 (Aq 0) EJ (aV 0))) AM)))
def Fh:AF:=A0 3 O9
def UR {a b c:PV}{Q:PV->Prop}(h:O9 ⟨λ_=>Q .non,Q,λ_=>False,λ_=>False⟩ [some (.val a),some (.val b),some (.val c)]):Fh [a,b,c] Q:=h
def TN {x:Rat}:absR x<1↔x<1/\ -x<1:=by unfold absR;split <;> grind
def m7 {o:T3}:jA o<1↔absR o.1<1/\absR o.2.1<1/\absR o.2.2<1:=by
 unfold jA mx;repeat' split
 all_goals grind
def Ky {N:Nat}{u v s:Rat}(a:0<N)(h1:u.den ∣ N)(h2:v.den ∣ N):(lv (E7 N u,E7 N v) s<N↔u+s*(v-u)<1)/\(lv (-E7 N u, -E7 N v) s<N↔ -(u+s*(v-u))<1):=by
 have hn:=c8 a;have b:lv (E7 N u,E7 N v) s=(u+s*(v-u))*N:=by unfold lv;show ((E7 N u:Int):Rat)+s*(((E7 N v:Int):Rat)-((E7 N u:Int):Rat))=_;rw[JJ h1,JJ h2];grind
 have c:lv (-E7 N u, -E7 N v) s= -(u+s*(v-u))*N:=by unfold lv;show ((-E7 N u:Int):Rat)+s*(((-E7 N v:Int):Rat)-((-E7 N u:Int):Rat))=_;rw[AEZ,AEZ,JJ h1,JJ h2];grind
 have key:∀x:Rat,x*N<N↔x<1:=λx=>by
  constructor
  .intro z;by_cases w:x<1
   .exact w
   .have:=Rat.mul_le_mul_of_nonneg_right (show 1<=x by grind) (show (0:Rat)<=N by grind);grind
  .intro z;have:=AFT z hn;grind
 rw[b,c,key,key];exact⟨Iff.rfl,Iff.rfl⟩
def Ue {W:Nat}{p:Pc}(a:E5 W p.o0)(h1:E5 W p.o1):0<p.N/\(∀x∈p.six,x.den ∣ p.N)/\p.N<2^(6*W+1):=UZ 6 p.six rfl (gm a h1)
def ZQ {W:Nat}{p:Pc}(r:E5 W p.o0)(h1:E5 W p.o1)(s:Rat):(∀l∈p.lns,lv l s<p.N)↔jA (lin p.o0 p.o1 s)<1:=by
 obtain⟨g,h,_⟩:=Ue r h1;have i:=h p.o0.1 (by simp[Pc.six]);have j:=h p.o0.2.1 (by simp[Pc.six]);have k:=h p.o0.2.2 (by simp[Pc.six]);have m:=h p.o1.1 (by simp[Pc.six]);have n:=h p.o1.2.1 (by simp[Pc.six]);have o:=h p.o1.2.2 (by simp[Pc.six]);rw[m7,TN,TN,TN];unfold Pc.lns lin;simp only[AAc,AAq,AAr,forall_eq_or_imp,forall_eq];rw[(Ky g i m).1,(Ky g i m).2,(Ky g j n).1,(Ky g j n).2,(Ky g k o).1,(Ky g k o).2];constructor
 .rintro ⟨a,b,c,d,e,f⟩;exact⟨⟨a,b⟩,⟨c,d⟩,e,f⟩
 .rintro ⟨⟨a,b⟩,⟨c,d⟩,e,f⟩;exact⟨a,b,c,d,e,f⟩
def gZ {N W:Nat}{r:Rat}(a:Bd W r)(hN:N<2^(6*W+1)):(E7 N r).natAbs<2^(W+(6*W+1)):=BW a.top (ZD hN)
def fG {W:Nat}{p:Pc}(b:E5 W p.o0)(h1:E5 W p.o1)(hW:W<=1200):∀l∈p.lns,Jk p.N W l:=by
 obtain⟨d,a,c⟩:=Ue b h1;have one:∀{u v:Rat},Bd W u->Bd W v->u.den ∣ p.N->v.den ∣ p.N->Jk p.N W (E7 p.N u,E7 p.N v)/\Jk p.N W (-E7 p.N u, -E7 p.N v):=λ{u v} bu bv du a=>by
  have e:=gZ bu c;have f:=gZ bv c;have g:=Aw (n:=8848) c (by omega);refine⟨⟨Aw e (by omega),Aw f (by omega),g,d,u,v,bu,bv,JJ du,JJ a⟩,⟨Aw (by rw[ADg];exact e) (by omega),Aw (by rw[ADg];exact f) (by omega),g,d, -u, -v,bu.neg,bv.neg, ?_, ?_⟩⟩
  .show ((-E7 p.N u:Int):Rat)=_;rw[AEZ,JJ du];grind
  .show ((-E7 p.N v:Int):Rat)=_;rw[AEZ,JJ a];grind
 have h:=one b.x h1.x (a _ (by simp[Pc.six])) (a _ (by simp[Pc.six]));have i:=one b.y h1.y (a _ (by simp[Pc.six])) (a _ (by simp[Pc.six]));have j:=one b.z h1.z (a _ (by simp[Pc.six])) (a _ (by simp[Pc.six]));intro l hl;simp only[Pc.lns,AAc,AAq,AAr] at hl;rcases hl with rfl|rfl|rfl|rfl|rfl|rfl
 .exact h.1
 .exact h.2
 .exact i.1
 .exact i.2
 .exact j.1
 .exact j.2
def jc {p q a b:T3}{d:Rat×Rat}{s:Rat}:KQ (lin p q s) (lin a b s) d=lin (KQ p a d) (KQ q b d) s:=by
 unfold KQ lin;simp only[AEO];congr 1
 .grind
 .congr 1 <;> grind
def Ww {ts:km Rat}(h:TK ts):∀p∈ts.zip ts.tail,p.1∈ts/\p.2∈ts/\p.1<p.2/\∀x∈ts,¬(p.1<x/\x<p.2):=by
 induction ts with
 | nil=>intro p hp;simp at hp
 | cons a r ih=>
   cases r with
   | nil=>intro p hp;simp at hp
   | cons b r=>
     have h1:=AAg.mp h;intro p hp;simp only[AEa,List.zip_cons_cons,AAc] at hp;rcases hp with rfl|hp
     .refine ⟨by simp,by simp,h1.1 b (by simp),λx hx z=> ?_⟩;rcases AAc.mp hx with rfl|hx
      .grind
      .rcases AAc.mp hx with rfl|hx
       .grind
       .have:=(AAg.mp h1.2).1 x hx;grind
     .obtain ⟨c,d,e,f⟩:=ih h1.2 p hp;refine⟨by simp[c],by simp[d],e,λx hx z=> ?_⟩;rcases AAc.mp hx with rfl|hx
      .have:=h1.1 p.1 c;grind
      .exact f x hx z
theorem SU:∀{ts:km Rat} {m:Rat} {a z:Rat},TK ts->ts.head?=some a->ts.getLast?=some z->a<=m->m<z->∃p∈ts.zip ts.tail,p.1<=m/\m<p.2
 | [],_,_,_,_,h,_,_,_=>by cases h
 | [a],m,_,_,_,h1,h2,h3,h4=>by simp at h1 h2;subst h1 h2;grind
 | a::b::r,m,x,z,h,h1,h2,h3,h4=>by
   simp at h1;subst h1;by_cases k:m<b
   .exact ⟨(a,b),by simp,h3,k⟩
   .obtain ⟨p,hp,q⟩:=SU (m:=m) (a:=b) (z:=z) (AAg.mp h).2 rfl (by simpa[ADI] using h2) (by grind) h4;exact⟨p,by simp only[AEa,List.zip_cons_cons,AAc];exact .inr (by simpa using hp),q⟩
section
variable {cs ds:km C4}{d:Rat×Rat}{M W:Nat}
structure vU (cs ds:List C4) (d:Rat×Rat) (M W:Nat) (p:Pc):Prop where
 lt:p.b<p.e
 w0:E5 W p.o0
 w1:E5 W p.o1
 bb:Bd M p.b
 be:Bd M p.e
 lo:BJ cs ds<=p.b
 hi:p.e<=BE cs ds
 at0:p.o0=HR cs ds d p.b
 vf:p.o1=HR cs ds d p.e
 lin:∀m,p.b<=m->m<=p.e->HR cs ds d m=lin p.o0 p.o1 ((m-p.b)/(p.e-p.b))
theorem GS.pc (D:GS cs ds d M W):∀p∈QF cs ds d,vU cs ds d M W p:=by
 intro p hp;unfold QF at hp;by_cases h:BJ cs ds<BE cs ds
 .rw [AAb h] at hp;have e:=D.tog h;have j:∀x∈MP cs ds,BJ cs ds<=x/\x<=BE cs ds:=λx hx=>EQ h hx;have k:∀x∈MP cs ds,Bd M x:=λx hx=>Fv D.m1 D.m2 D.begB D.endB hx;have l:∀x∈MP cs ds,E5 W (HR cs ds d x):=D.w h;unfold OM at hp;obtain⟨q,hq,rfl⟩:=AAl.mp hp;obtain⟨f,g,i,s⟩:=Ww G4 q hq;have a:=j _ f;have b:=j _ g;refine⟨i,l _ f,l _ g,k _ f,k _ g,a.1,b.2,rfl,rfl,λm m1 m2=> ?_⟩;have m1:q.1<=m:=m1;have m2:m<=q.2:=m2;have n:∀c,c∈cs\/c∈ds->¬(q.1<c.1/\c.1<q.2):=λc hc z=>by refine s c.1 (D8.mpr (.inr (.inr ⟨by grind,by grind,c,hc,rfl⟩))) z
  obtain⟨v,o⟩:=e.one q.1 a.1 a.2;obtain⟨y,r⟩:=e.one q.2 b.1 b.2;obtain⟨t1,f1⟩:=e.other q.1 a.1 a.2;obtain⟨t2,f2⟩:=e.other q.2 b.1 b.2;have t:=SJ D.r1 i m1 m2 (λc hc=>n c (.inl hc)) o r;have u:=SJ D.r2 i m1 m2 (λc hc=>n c (.inr hc)) f1 f2;show HR cs ds d m=PL.lin (HR cs ds d q.1) (HR cs ds d q.2) ((m-q.1)/(q.2-q.1));unfold HR;rw[t,u,o,r,f1,f2];exact jc
 .rw [AAa h] at hp;cases hp
theorem Ut (h:BJ cs ds<BE cs ds):(MP cs ds).head?=some (BJ cs ds):=by
 have b:BJ cs ds∈MP cs ds:=D8.mpr (.inl rfl);have hs:TK (MP cs ds):=G4;have hi:∀x∈MP cs ds,BJ cs ds<=x:=λx hx=>(EQ h hx).1;generalize MP cs ds=ts at *;cases ts with
 | nil=>cases b
 | cons a r=>
   rcases AAc.mp b with e|e
   .rw [e];rfl
   .have:=(AAg.mp hs).1 _ e;have:=hi a (by simp);grind
theorem Uu (h:BJ cs ds<BE cs ds):(MP cs ds).getLast?=some (BE cs ds):=by
 have b:BE cs ds∈MP cs ds:=D8.mpr (.inr (.inl rfl));have hs:TK (MP cs ds):=G4;have hi:∀x∈MP cs ds,x<=BE cs ds:=λx hx=>(EQ h hx).2;generalize MP cs ds=ts at *;obtain⟨l,a⟩:∃l,ts.getLast?=some l:=⟨_,ADH (by intro z;subst z;cases b)⟩;rw[a];have f:=hi l (ABx a);obtain⟨i,c,e⟩:=List.mem_iff_getElem.mp b;rw[AFM] at a;obtain⟨hl,a⟩:=ABC.mp a;by_cases k:i=ts.length-1
 .subst k;rw[<-e,<-a]
 .have:=AFN.mp hs i (ts.length-1) c hl (by omega);rw[e,a] at this;grind
theorem GS.cover (D:GS cs ds d M W){m:Rat}(h1:BJ cs ds<=m)(h2:m<BE cs ds):∃p∈QF cs ds d,p.b<=m/\m<p.e:=by
 have h:BJ cs ds<BE cs ds:=by grind
 unfold QF;rw[AAb h];obtain⟨p,hp,k⟩:=SU G4 (Ut h) (Uu h) h1 h2;exact⟨_,AAl.mpr ⟨p,hp,rfl⟩,k⟩
def Fp (cs ds:km C4)(d:Rat×Rat)(m:Rat):Prop:=BJ cs ds<=m/\m<BE cs ds/\jA (HR cs ds d m)<1
instance {m:Rat}:Decidable (Fp cs ds d m):=by unfold Fp;infer_instance
theorem GS.near_iff (D:GS cs ds d M W){m:Rat}:(∃p∈QF cs ds d,ZU p.N p.lns p.b p.e m)↔Fp cs ds d m:=by
 constructor
 .rintro ⟨p,hp,h1,h2,a⟩;have o:=D.pc p hp;have lo:=o.lo;have hi:=o.hi;rw[ZQ o.w0 o.w1,<-o.lin m h1 (by grind)] at a;exact⟨by grind,by grind,a⟩
 .rintro ⟨h1,h2,a⟩;obtain⟨p,hp,c,f⟩:=D.cover h1 h2;have o:=D.pc p hp;refine⟨p,hp,c,f, ?_⟩;rw[ZQ o.w0 o.w1,<-o.lin m c (by grind)];exact a
theorem Zb (D:GS cs ds d M W):(QF cs ds d).length<=201:=by
 have h1:=D.f1;have h2:=D.f2;unfold QF;split
 .rw [UJ];have:=JZ (cs:=cs) (ds:=ds) (b:=BJ cs ds) (e:=BE cs ds);unfold MP;omega
 .simp
structure c9 (cs ds:List C4) (d:Rat×Rat) (B:Nat) (ss:List Bz):Prop where
 few:ss.length<=201
 ok:∀s∈ss,C3 B s
 fin:∀s∈ss,∃x,s.2.2=some x
 sem:∀m,ss.any (Bp · (m,0))=true↔Fp cs ds d m
 pf:ss.length<=(QF cs ds d).length
theorem ZS {p:Pc}:p.lns.length=6:=rfl
theorem Wq (D:GS cs ds d M W){v w u:PV}(hv:CC cs v)(hw:CC ds w)(hu:Wz d u){Q:PV->Prop}(q:∀ss,c9 cs ds d (3*M+3*W+6) ss->Q (.tup ((canon 1 ss).map HW))):Fh [v,w,u] Q:=by
 have hM:=D.hM;have hW:=D.hW;have j:=Zb D;apply UR;ac_rfl;refine R3 D hv hw hu ?_;ac_rfl;refine Pb (λr a=>∃c rs ss,c++rs=QF cs ds d/\r=rs.map qB/\a=ss.map HW/\ss.length<=c.length/\(∀s∈ss,C3 (3*M+3*W+6) s)/\(∀s∈ss,∃x,s.2.2=some x)/\∀m,ss.any (Bp · (m,0))=true↔∃p∈c,ZU p.N p.lns p.b p.e m) ?_ ?_ _ _ ⟨[],_, [],rfl,rfl,rfl,by simp,by simp,by simp,by simp⟩
 .rintro a ⟨c,rs,ss,e,f,rfl,h1,h2,h,i⟩;have:rs= [] :=by cases rs with | nil=>rfl|cons _ _=>cases f
  subst this;rw[ACb] at e;subst e;ac_rfl;refine Wo (.inr rfl) (cB ss) h2 (by omega) (by omega) ?_;exact q ss ⟨by omega,h2,h,λm=>by rw[i,D.near_iff],h1⟩
 .rintro y r a R k ⟨c,rs,ss,e,f,rfl,h1,h2,h,i⟩;cases rs with
  | nil=>cases f
  | cons p rs=>
    cases f;have l:p∈QF cs ds d:=by rw[<-e];simp
    have ul:c.length+1<=201:=by rw[<-e] at j;simp at j;omega
    have o:=D.pc p l;repeat' array_get_dec
    refine Xz (fG o.w0 o.w1 (by omega)) o.lt o.bb o.be (by omega) hW (by rw[ZS];decide) λn g=> ?_;have t:=g.few;repeat' array_get_dec
    refine XR _ _ (k _ ⟨c ++ [p],rs,ss++n,by simpa using e,rfl,by rw[AAu],by simp;omega,λs hs=> ?_,λs hs=> ?_,λm=> ?_⟩)
    .rcases AAn.mp hs with hs|hs
     .exact h2 s hs
     .exact g.ok s hs
    .rcases AAn.mp hs with hs|hs
     .exact h s hs
     .exact g.fin s hs
    .rw [List.any_append,AC2,i,g.sem];constructor
     .rintro (⟨x,hx,z⟩|z)
      .exact ⟨x,by simp[hx],z⟩
      .exact ⟨p,by simp,z⟩
     .rintro ⟨x,hx,z⟩;rcases AAn.mp hx with hx|hx
      .exact .inl ⟨x,hx,z⟩
      .simp at hx;subst hx;exact .inr z
end
abbrev Mc:AS:=
 (AZ (Aj (Qz (DZ Dw (AB (Db (CD (IM (aV 1)) 1 [2] (Aq 0) (Am (AN 2 Av (AB (aV 0) (AB (aV 1) AM)))) (aV 0))) AM))) (Aq 3))
   (BI (VX (EI (Am (AY Fz (aV 3) (DZ Dw (AB (aV 1) AM)))) (Am (AY Nm (AY Ak (aV 1) (aV 3)) (aV 2))))) (Fl 1 fL (AB (aV 3) (AB (aV 2) AM))) Ay))
abbrev Md:AS:=
 (AZ (FA (IM (aV 0)) (Aq 2) Mc)
   (As (aV 1)))
abbrev Jr:AS:=
 (AZ (II (B0 AM) 1)
   Md)
def De:AF:=A0 4 Jr
def OR {a:PV}{Q:PV->Prop}(h:Jr ⟨λ_=>Q .non,Q,λ_=>False,λ_=>False⟩ [some (.val a),none,none,none]):De [a] Q:=h
abbrev Jq:AS:=
 (As (AN 2 BN (AB (AN 2 Bc (AB (aV 0) (AB (aV 1) AM))) (AB (Ar (AB (aC (.int 1)) (AB (aC (.int 2)) AM))) AM))))
def Cv:AF:=A0 2 Jq
def OQ {a b:PV}{Q:PV->Prop}(h:Jq ⟨λ_=>Q .non,Q,λ_=>False,λ_=>False⟩ [some (.val a),some (.val b)]):Cv [a,b] Q:=h
abbrev N9:AS:=
 (AZ (Aj (Db (CD (IM (AY A4 (aV 0) (aV 1))) 1 [2,3] (Aq 0) (Lb (Am (AN 2 Av (AB (aV 1) (AB (AY Ak (aV 0) (aC (.int 0))) AM)))) (Am (AN 2 Av (AB (AY Ak (aV 0) (aC (.int 0))) (AB (aV 2) AM))))) (AY Ak (aV 0) (aC (.int 0))))) (Aq 4))
   (As (AN 1 De (AB (AY A4 (Db (B0 (AB (aV 2) (AB (aV 3) AM)))) (aV 4)) AM))))
abbrev E8:AS:=
 (AZ (BI (B2 (Am (AN 2 Av (AB (aV 2) (AB (aV 3) AM))))) (As (Db (B0 AM))) Ay)
   N9)
abbrev Hm:AS:=
 (AZ (Aj (iM (Am (AN 2 Av (AB (AY Ak (AY Ak (aV 0) (Jv EA (aC (.int 1)))) (aC (.int 0))) (AB (AY Ak (AY Ak (aV 1) (Jv EA (aC (.int 1)))) (aC (.int 0))) AM)))) (AY Ak (AY Ak (aV 0) (Jv EA (aC (.int 1)))) (aC (.int 0))) (AY Ak (AY Ak (aV 1) (Jv EA (aC (.int 1)))) (aC (.int 0)))) (Aq 3))
   E8)
abbrev G5:AS:=
 (AZ (Aj (iM (Am (AN 2 Av (AB (AY Ak (AY Ak (aV 1) (aC (.int 0))) (aC (.int 0))) (AB (AY Ak (AY Ak (aV 0) (aC (.int 0))) (aC (.int 0))) AM)))) (AY Ak (AY Ak (aV 0) (aC (.int 0))) (aC (.int 0))) (AY Ak (AY Ak (aV 1) (aC (.int 0))) (aC (.int 0)))) (Aq 2))
   Hm)
def Ci:AF:=A0 5 G5
def QP {a b:PV}{Q:PV->Prop}(h:G5 ⟨λ_=>Q .non,Q,λ_=>False,λ_=>False⟩ [some (.val a),some (.val b),none,none,none]):Ci [a,b] Q:=h
abbrev Ow:AS:=
 (AZ (Aj (Db (CD (Q2 (AB (aC (.int 3)) AM)) 1 [2,5,6] (Aq 0) EJ (AN 2 DL (AB (AN 2 B6 (AB (AY Ak (aV 2) (aV 0)) (AB (AY Ak (aV 3) (aV 0)) AM))) (AB (AY Ak (aV 1) (DZ Te (AB (AY Fz (aV 0) (aC (.int 2))) AM))) AM))))) (Aq 4))
   (As (AY A4 (aV 4) (Db (CD (IM (aV 4)) 1 [] (Aq 0) EJ (Ar (AB (Jv EA (AY Ak (aV 0) (aC (.int 0)))) (AB (AY Ak (aV 0) (aC (.int 1))) AM))))))))
abbrev Ng:AS:=
 (AZ (Aj (Ar (AB (AN 2 D6 (AB (aV 0) (AB (aV 3) AM))) (AB (AN 2 D6 (AB (aV 1) (AB (aV 3) AM))) AM))) (JR 2 (Af (Aq 5) (Af (Aq 6) Bw))))
   Ow)
def Ev:AF:=A0 7 Ng
def RP {a b c d:PV}{Q:PV->Prop}(h:Ng ⟨λ_=>Q .non,Q,λ_=>False,λ_=>False⟩ [some (.val a),some (.val b),some (.val c),some (.val d),none,none,none]):Ev [a,b,c,d] Q:=h
def RG {v:PV}{ms:km Rat}{B:Nat}(hv:v= .lst (ms.map fr))(o:B<=4000)(hl:ms.length<=10000)(hb:∀m∈ms,Bd B m){Q:PV->Prop}(q:Q (.lst ((Cq ms).map fr))):De [v] Q:=by
 subst hv;apply OR;ac_rfl;refine DN fr (λa vs τ=>∃(b c:ke AV),τ= [some (.val (.lst (ms.map fr))),some (.own ((Cq a).map fr)),b,c]) ?_ ?_ ⟨_,_,rfl⟩
 .rintro τ ⟨b,c,rfl⟩;ac_rfl;exact q
 .rintro a m vs e τ R l ⟨b,c,rfl⟩;have ul:a.length<=10000:=by rw[<-e] at hl;simp at hl;omega
  have p:=G0 (xs:=a);have bm:=hb m (by rw[<-e];simp);have n:∀x∈Cq a,Bd B x:=λx hx=>hb x (by rw[<-e];simp[CW.mp hx]);have hs:TK (Cq a):=Ca;have f:∀(k:km Rat) b c,k=ins (Cq a) m->R [some (.val (.lst (ms.map fr))),some (.own (k.map fr)),b,c] :=λk b c h=>l _ ⟨b,c,by rw[h,show Cq (a ++ [m])=ins (Cq a) m by unfold Cq;rw[ADu];rfl]⟩;clear l;generalize Cq a=rs at *;ac_rfl;refine DB fr fr (λx=>decide (x<m)) (Bd B) (λx r R N h1 h2=> ?_) rs [] n ?_
  .ac_rfl
   .rename_i z;exact h1 (AAt z)
   .rename_i z;exact h2 (AAm z)
  have s:(rs.filter λx=>decide (x<m)).length<=rs.length:=ACX _ _;have i:=XH hs (Rg (x:=m) hs);rw[ABY];generalize (rs.filter λx=>decide (x<m))=fs at *;ac_rfl
  .rename_i h1;have j:rs[fs.length]? =none:=AFS (by omega);rw[j,AAa (by simp)] at i;have:=f _ (some (.val (fr m))) (some (.val (.int fs.length))) i.symm;rw[AAu,AAi,ADF,ACh] at this;exact this
  .rename_i h1 d j _ h2;have g:rs[fs.length]? =some d:=j;rw[g,AAa (by simpa using h2)] at i;have:=f _ (some (.val (fr m))) (some (.val (.int fs.length))) i.symm;rw[AAu,AAi,ADF,ACh] at this;exact this
  .rename_i h1 d j _ h2;have g:rs[fs.length]? =some d:=j;rw[g,AAb (by rw[h2])] at i;exact f _ _ _ i.symm
def Jy {a b:Rat}(c:Bd 3900 a)(d:Bd 3900 b)(hb:Bd 4000 (a+b)){Q:PV->Prop}(q:Q (fr ((a+b)*(1/2)))):Cv [fr a,fr b] Q:=by have e:Bd 8 (1/2:Rat):=sm8;apply OQ;ac_rfl;exact q
def sQ {a b:Rat}(h:b<a):a=mx a b:=by unfold mx;split <;> grind
def sR {a b:Rat}(h:¬b<a):b=mx a b:=by unfold mx;split <;> grind
def sN {a b:Rat}(h:a<b):a=mn a b:=by unfold mn;split <;> grind
def sO {a b:Rat}(h:¬a<b):b=mn a b:=by unfold mn;split <;> grind
def N1 (cs ds:km C4):km Rat:=if BJ cs ds<BE cs ds then MP cs ds else []
def HP {cs ds:km C4}{d:Rat×Rat}{M W:Nat}(D:GS cs ds d M W){Q:PV->Prop}(q:Q (.lst ((N1 cs ds).map fr))):Ci [Ah cs,Ah ds] Q:=by
 have w:=D.fstB;have A:=D.fstB2;have C:=D.lstB;have E:=D.lstB2;have j:=D.begB;have k:=D.endB;have hM:=D.hM;have f1:=D.f1;have f2:=D.f2;have hc:∀c∈cs++ds,Bd M c.1:=λc hc=>by
  rcases AAn.mp hc with h|h
  .exact D.m1 c h
  .exact D.m2 c h
 unfold N1 MP DH BJ BE at q;unfold BJ at j;unfold BE at k;obtain⟨a,r,l,b,I,F⟩:=open2 D.t1;obtain⟨m,r2,p,e,J,n⟩:=open2 D.t2;have i:cs.getLast?=some l:=by rw[b];exact F
 have g:ds.getLast?=some p:=by rw[e];exact n
 rw[CP i,CP g] at q k;rw[show Tc cs=a.1 by rw[b];rfl,show Tc ds=m.1 by rw[e];rfl] at q j;rw[CP i] at C;rw[CP g] at E;rw[show Tc cs=a.1 by rw[b];rfl] at w;rw[show Tc ds=m.1 by rw[e];rfl] at A;have s:∀{Q:PV->Prop},Q (cor a)->Ak (Ah cs) (.int 0) Q:=λh=>by rw[b];exact gW h
 have u:∀{Q:PV->Prop},Q (cor m)->Ak (Ah ds) (.int 0) Q:=λh=>by rw[e];exact gW h
 have rest:∀{f t:Rat} {v:ke AV},f=mx a.1 m.1->t=mn l.1 p.1->E8 ⟨λ_=>Q .non,Q,λ_=>False,λ_=>False⟩ [some (.val (Ah cs)),some (.val (Ah ds)),some (.val (fr f)),some (.val (fr t)),v] :=by
  rintro f t v G H;rw[<-G] at q j;rw[<-H] at q k;ac_rfl
  .rename_i z;rw[AAa z] at q;exact q
  .rename_i z;rw[AAb z] at q;refine DB cor (λc=>fr c.1) (Mu f t) (λc=>Bd M c.1) (λc K R N h1 h2=> ?_) (cs++ds) [] hc ?_
   .ac_rfl
    .rename_i y1 y2;exact h1 (by unfold Mu;rw[AAt y1,AAt y2];rfl)
    .rename_i y1 y2;exact h2 (by unfold Mu;rw[AAt y1,AAm y2];rfl)
    .rename_i y1;exact h2 (by unfold Mu;rw[AAm y1];rfl)
   rw[ABY];have o:=ACX (Mu f t) (cs++ds);rw[ABR] at o;ac_rfl;refine RG (ms:= [f,t] ++ (cs.filter (Mu f t)++ds.filter (Mu f t)).map (·.1)) (B:=M) ?_ (by omega) ?_ ?_ q
   .rw [<-AE5,AAu,ABf];rfl
   .rw [<-AE5];simp only[ABR,AAk,AAz,ADn];omega
   .intro x hx;rcases AAn.mp hx with hx|hx
    .simp only[AAc,AAq,AAr] at hx;rcases hx with rfl|rfl
     .exact j
     .exact k
    .obtain ⟨c,h,rfl⟩:=AAl.mp hx;rw[<-AE5] at h;exact hc c (ABo.mp h).1
 apply QP;unfold G5 Hm;generalize E8=T at rest ⊢;clear q;ac_rfl;refine u ?_;ac_rfl;refine s ?_;ac_rfl
 .rename_i z;refine s ?_;ac_rfl
  .rename_i y;exact rest (sQ z) (sN y)
  .rename_i y;exact rest (sQ z) (sO y)
 .rename_i z;refine u ?_;ac_rfl
  .rename_i y;exact rest (sR z) (sN y)
  .rename_i y;exact rest (sR z) (sO y)
def Us {cs ds:km C4}(h:BJ cs ds<BE cs ds):N1 cs ds=MP cs ds:=AAb h
def wW (o:T3):km Rat:= [o.1,o.2.1,o.2.2, -o.1, -o.2.1, -o.2.2]
abbrev fk (p:Rat×Rat):PV:= .tup [fr p.1,fr p.2]
def iJ (ts:km Rat):F1 (ts.map fr) (Eh (ts.map fr) (some 1) none)=(ts.zip ts.tail).map fk:=by rw[qr,<-ACh,pY];rw[List.drop_one]
def sm3 {r:Rat}(h:r.num.natAbs<2^3:=by decide +kernel)(h2:r.den<2^3:=by decide +kernel):Bd 3 r:=⟨h,h2⟩
def sm2 {r:Rat}(h:r.num.natAbs<2^2:=by decide +kernel)(h2:r.den<2^2:=by decide +kernel):Bd 2 r:=⟨h,h2⟩
def Rf {Q:PV->Prop}(q:∀d:Rat×Rat,Bd 3 d.1->Bd 3 d.2->1/3<=d.1->1/3<=d.2->Q (.tup [fr d.1,fr d.2])):DK [.tape] Q:=by
 apply QN;have all:∀x∈ [(1:Rat),2,3/2,1/3,5],Bd 3 x/\1/3<=x:=by intro x hx;simp only[AAc,AAq,AAr] at hx;rcases hx with rfl|rfl|rfl|rfl|rfl <;> exact⟨sm3,by decide +kernel⟩
 ac_rfl;refine KL (xs:= [(1:Rat),2,3/2,1/3,5]) (by omega) (by show _<(5:Int);omega) λx hx=> ?_;ac_rfl;refine KL (xs:= [(1:Rat),2,3/2,1/3,5]) (by omega) (by show _<(5:Int);omega) λy hy=> ?_;ac_rfl;exact q (x,y) (all x hx).1 (all y hy).1 (all x hx).2 (all y hy).2
def Tv {n:Nat}{cs:km C4}{t:Rat}{o:T3}(p:Ef n 10 cs)(bt:Bd 11 t)(e:E5 11 o):Ef n 22 (cs.map (KO t o)):=by
 refine⟨by simpa using p.two,by simpa using p.few,λc hc=> ?_, ?_⟩
 .obtain ⟨d,hd,rfl⟩:=AAl.mp hc;have b:=p.bd d hd;exact⟨(b.m.add bt).mono (by decide),(b.x.add e.x).mono (by decide),(b.y.add e.y).mono (by decide),(b.z.add e.z).mono (by decide)⟩
 .refine ADt.mpr (p.ris.imp λ{a b} h=> ?_);show a.1+t<b.1+t;grind
def jJ {ss:km Bz}(a:∀s∈ss,∃x,s.2.2=some x)(k:Rat):∃m,k<m/\ss.any (Bp · (m,0))=false:=by
 induction ss with
 | nil=>exact⟨k+1,by grind,rfl⟩
 | cons s ss ih=>
   obtain⟨x,hx⟩:=a s (by simp);have c:∀(b:km Bz),(∀s∈b,∃x,s.2.2=some x)->∃n:Rat,k<n/\∀s∈b,∀x,s.2.2=some x->x<n:=by
    intro b;induction b with
    | nil=>intro _;exact⟨k+1,by grind,by simp⟩
    | cons t b d=>
      intro e;obtain⟨n,h1,h2⟩:=d λs hs=>e s (by simp[hs]);obtain⟨y,hy⟩:=e t (by simp);by_cases z:y<n
      .refine ⟨n,h1,λs hs x hx=> ?_⟩;rcases AAc.mp hs with rfl|hs
       .rw [hy] at hx;cases hx;exact z
       .exact h2 s hs x hx
      .refine ⟨y+1,by grind,λs hs x hx=> ?_⟩;rcases AAc.mp hs with rfl|hs
       .rw [hy] at hx;cases hx;grind
       .have:=h2 s hs x hx;grind
   obtain⟨n,h1,h2⟩:=c (s::ss) a;refine⟨n,h1, ?_⟩;rw[AC6];intro t f z;obtain⟨y,hy⟩:=a t f;have:=h2 t f y hy;unfold Bp at z;rw[hy] at z;simp at z;grind
def aS {B:Nat}{ss:km Bz}(ok:∀s∈ss,C3 B s)(a:∀s∈ss,∃x,s.2.2=some x):∀r∈canon 1 ss,∃x,r.2.2=some x:=by
 intro r b;cases e:r.2.2 with
 | some x=>exact⟨x,rfl⟩
 | none=> exfalso;obtain⟨m,h1,h2⟩:=jJ a r.1;rw[<-VY ok (p:=(m,0)) (.inl rfl)] at h2;rw[AC6] at h2;refine h2 r b ?_;unfold Bp;rw[e];simp;exact .inl h1
structure Told (P:Rat->Prop) (B:Nat) (cc:List Bz):Prop where
 ok:∀s∈cc,C3 B s
 fin:∀s∈cc,∃x,s.2.2=some x
 few:cc.length<=2000
 sem:∀m,cc.any (Bp · (m,0))=true↔P m
def c9.told {cs ds:km C4}{d:Rat×Rat}{B:Nat}{ss:km Bz}(n:c9 cs ds d B ss):Told (Fp cs ds d) B (canon 1 ss):=
 ⟨dQ n.ok,aS n.ok n.fin,by have:=XM (n:=1) (ss:=ss);have:=n.few;omega,λm=>by rw[VY n.ok (p:=(m,0)) (.inl rfl)];exact n.sem m⟩
def b9 {s:Bz}{x:Rat}(h:s.2.2=some x):HW s= .tup [fr s.1, .int s.2.1,fr x] :=by unfold HW;rw[h];rfl
abbrev O4:AS:=
 (As (aM (DZ Xe (AB (aV 0) (AB (aC (.ty "int")) AM))) (Jv mr (DZ Xe (AB (aV 0) (AB (aC (.ty "bool")) AM))))))
def BR:AF:=A0 1 O4
def MA {a:PV}{Q:PV->Prop}(h:O4 ⟨λ_=>Q .non,Q,λ_=>False,λ_=>False⟩ [some (.val a)]):BR [a] Q:=h
def D9 {i:Int}{Q:PV->Prop}(q:Q (.bl true)):BR [.int i] Q:=by apply MA;ac_rfl;exact q
def dz {B:Nat}{s:Bz}{m x:Rat}(os:C3 B s)(hx:s.2.2=some x):Bp s (m,0)=true↔(s.1<m\/(s.1=m/\s.2.1=1))/\m<x:=by
 unfold Bp;rw[hx];have:0<s.2.1+0↔s.2.1=1:=by have:=os.h;omega
 simp only[ABS,AC2,ADb,this]
structure CB2 (Bm Bs:Nat) (c:C4):Prop where
 m:Bd Bm c.1
 p:E5 Bs c.2
def bC:PV->kc | .int _=>true|_=>false
def Wu {x:PV}(hk:kdOf x≠none){Q:PV->Prop}(q:Q (.bl (bC x))):BR [x] Q:=by
 apply MA;cases x <;> first | exact absurd rfl hk|skip
 all_goals
  repeat' array_get_dec
  exact q
def Tl:km PV->kc
 | [.int a, .int b] =>decide (0<b)&&decide (Nat.gcd a.natAbs b.natAbs=1)
 | _=>false
def eQ {xs:km PV}(h:¬(xs.length:Int)=2):Tl xs=false:=by
 match xs,h with
 | [],_=>rfl
 | [a],_=>cases a <;> rfl
 | [a,b],h=>exact absurd rfl h
 | a::b::c::r,_=>cases a <;> cases b <;> rfl
def pP {xs:km PV}(h:(xs.length:Int)=2):∃a b,xs= [a,b] :=by
 match xs,h with
 | [],h=>simp at h
 | [a],h=>simp at h
 | [a,b],_=>exact⟨a,b,rfl⟩
 | a::b::c::r,h=>simp at h;omega
def mF {x:PV}(h:bC x=true):∃i,x= .int i:=by cases x <;> first | exact⟨_,rfl⟩|cases h
def nN {x y:PV}(h:bC x=false):Tl [x,y] =false:=by cases x <;> first | rfl|cases h
def nO {x y:PV}(h:bC y=false):Tl [x,y] =false:=by cases x <;> cases y <;> first | rfl|cases h
abbrev LM:AS:=
 (AZ (BI (EI (B2 (Am (AN 1 BR (AB (aV 1) AM)))) (B2 (Am (AN 1 BR (AB (aV 2) AM))))) (As (aC (.bl false))) Ay)
   (As (aM (AY lM (aV 2) (aC (.int 0))) (AY Fz (AN 2 Gi (AB (DZ Td (AB (aV 1) AM)) (AB (aV 2) AM))) (aC (.int 1))))))
abbrev Sc:AS:=
 (AZ (Aj (aV 0) (JR 2 (Af (Aq 1) (Af (Aq 2) Bw))))
   LM)
abbrev RT:AS:=
 (AZ (BI (EI (B2 (Am (Lc (aV 0) ["tuple","list"]))) (Am (AY Nm (DZ Dw (AB (aV 0) AM)) (aC (.int 2))))) (As (aC (.bl false))) Ay)
   Sc)
def EY:AF:=A0 3 RT
def WR {a:PV}{Q:PV->Prop}(h:RT ⟨λ_=>Q .non,Q,λ_=>False,λ_=>False⟩ [some (.val a),none,none]):EY [a] Q:=h
def fq {x y z:PV}(hx:x= .tup [y,z] \/x= .lst [y,z])(hy:kdOf y≠none)(hz:kdOf z≠none){Q:PV->Prop}(q:Q (.bl (Tl [y,z]))):LM {nx:=λx=>Q PV.non,rt:=Q,bk:=λx=>False,ct:=λx=>False} [some (.val x),some (.val y),some (.val z)] :=by
 repeat' array_get_dec
 refine Wu hy ?_;repeat' array_get_dec
 cases c:bC y with
 | false=>rw[nN c] at q;exact q
 | true=>
   obtain⟨a,rfl⟩:=mF c;repeat' array_get_dec
   refine Wu hz ?_;repeat' array_get_dec
   cases d:bC z with
   | false=>rw[nO d] at q;exact q
   | true=>
     obtain⟨b,rfl⟩:=mF d;repeat' array_get_dec
     .rename_i hb;obtain⟨n,rfl⟩:∃n:Nat,b=n:=⟨b.toNat,by omega⟩;refine Ie _ _ _ ?_;repeat' array_get_dec
      have e:Tl [.int a, .int (n:Int)] =decide (((Nat.gcd a.natAbs n:Nat):Int)=1):=by show (decide (0<(n:Int))&&decide (Nat.gcd a.natAbs (n:Int).natAbs=1))=_;rw[AAt hb,Bool.true_and,AEW];exact ADk.mpr ⟨λh=>by rw[h];rfl,λh=>by omega⟩
      rw[e] at q;exact q
     .rename_i hb;have e:Tl [.int a, .int b] =false:=by show (decide (0<b)&&_)=_;rw[AAm hb,AEh]
      rw[e] at q;exact q
def WJ {B:Nat}{x:PV}{xs:km PV}(hx:x= .tup xs\/x= .lst xs)(hl:xs.length<=100)(hi:(∀y∈xs,kdOf y≠none)/\∀a b,xs= [a, .int b] ->b.natAbs<B){Q:PV->Prop}(q:Q (.bl (Tl xs))):EY [x] Q:=by
 apply WR;rcases hx with rfl|rfl;all_goals
  repeat' array_get_dec
  .rename_i z;rw[eQ z] at q;exact q
  .rename_i h2;obtain⟨y,z,rfl⟩:=pP h2;exact fq (by first | exact .inl rfl|exact .inr rfl) (hi.1 y (by simp)) (hi.1 z (by simp)) q
def jR (r:Rat):Tl [.int r.num, .int (r.den:Int)] =true:=by show (decide (0<(r.den:Int))&&decide (Nat.gcd r.num.natAbs (r.den:Int).natAbs=1))=true;have:=r.den_pos;rw[AAt (by omega),Bool.true_and,AEW];exact AAt r.reduced
def Za {r:Rat}{x:PV}(hx:x=fr r\/x= .lst [.int r.num, .int (r.den:Int)]){Q:PV->Prop}(q:Q (.bl true)):EY [x] Q:=by
 refine WJ (B:=r.den+1) hx (by simp) ⟨λy hy=> ?_,λa b e=> ?_⟩ (by rw[jR];exact q)
 .simp only[AAc,AAq,AAr] at hy;rcases hy with rfl|rfl <;> exact λz=>by cases z
 .cases e;simp
instance{r:AA}{τ:BC}{a:km PV->Prop}:Wp (vc r τ a) (r τ λb=>match b with | [.lst xs] =>a (Fo 0 xs)|_=>False):=⟨id⟩
structure yT (s:Bz):Prop where
 st:C3 740 s
 h:s.2.1=1
 e:s.2.2.isSome=true
abbrev Sd:AS:=
 (AZ (Aj (iM (Am (AY mq (aV 5) (aV 0))) (Ar (AB (aC (.int 1)) (AB (aC (.int 1)) AM))) (Ar (AB (AY GF (aV 4) (aV 0)) (AB (AY GF (aV 4) (aV 5)) AM)))) (Aq 6))
   (BI (EI (Am (AY XZ (aV 2) (aC .non))) (Am (AN 2 Av (AB (AY Ak (aV 2) (aC (.int 1))) (AB (aV 6) AM))))) (Aj (Ar (AB (aV 3) (AB (aV 6) AM))) (Aq 2)) Ay))
abbrev Se:AS:=
 (AZ (FA (vc (AB (aV 1) AM)) (JR 2 (Af (Aq 3) (Af (JR 2 (Af (Aq 4) (Af (Aq 5) Bw))) Bw))) (BI (Am (AY mq (aV 4) (aV 0))) Sd Ay))
   (As (aV 2)))
abbrev RU:AS:=
 (AZ (Aj (aC .non) (Aq 2))
   Se)
def FZ:AF:=A0 7 RU
def WT {a b:PV}{Q:PV->Prop}(h:RU ⟨λ_=>Q .non,Q,λ_=>False,λ_=>False⟩ [some (.val a),some (.val b),none,none,none,none,none]):FZ [a,b] Q:=h
abbrev VI:AS:=
 (AZ (Aj (iM (Am (AY Fz (AY Xa (aV 2) (aC (.int 2))) (aC (.int 0)))) (aC (.int 1)) (Jv EA (aC (.int 1)))) (Aq 3))
   (As (Ar (AB (aV 0) (AB (aV 1) (AB (AY Q8 (aV 2) (aC (.int 2))) (AB (aV 3) AM)))))))
def Ff:AF:=A0 4 VI
def YS {a b c:PV}{Q:PV->Prop}(h:VI ⟨λ_=>Q .non,Q,λ_=>False,λ_=>False⟩ [some (.val a),some (.val b),some (.val c),none]):Ff [a,b,c] Q:=h
abbrev S0:AS:=
 (AZ (Aj (AN 3 DA (AB (aV 3) (AB (aV 4) (AB (aV 8) AM)))) (Aq 2))
   (As (Db (B0 (AB (AN 3 Ff (AB (aV 3) (AB (aV 2) (AB (aV 7) AM)))) (AB (AN 3 Ff (AB (aV 2) (AB (aV 4) (AB (aV 1) AM)))) AM))))))
abbrev Sy:AS:=
 (AZ (Aj (AY Ak (AN 2 FZ (AB (aV 5) (AB (Db (CD (IM (aV 6)) 2 [] (JR 2 (Af (Aq 0) (Af (Aq 1) Bw))) EJ (Ar (AB (aV 1) (AB (aV 0) AM))))) AM))) (aC (.int 0))) (Aq 1))
   S0)
abbrev Sx:AS:=
 (AZ (BI (Am (AY Fz (aV 8) (Ar (AB (aC (.int 1)) (AB (aC (.int 1)) AM))))) (As (Db (B0 (AB (AN 3 Ff (AB (aV 3) (AB (aV 4) (AB (aV 7) AM)))) AM)))) Ay)
   Sy)
abbrev Sw:AS:=
 (AZ (Aj (AN 2 FZ (AB (aV 5) (AB (aV 6) AM))) (JR 2 (Af (Aq 7) (Af (Aq 8) Bw))))
   Sx)
abbrev RY:AS:=
 (AZ (Aj (aV 0) (JR 4 (Af (Aq 3) (Af (Aq 4) (Af (Aq 5) (Af (Aq 6) Bw))))))
   Sw)
def Gs:AF:=A0 9 RY
def WX {a:PV}{Q:PV->Prop}(h:RY ⟨λ_=>Q .non,Q,λ_=>False,λ_=>False⟩ [some (.val a),none,none,none,none,none,none,none,none]):Gs [a] Q:=h
def UY (N:Nat)(l:Int×Int):Int×Int:=if (N:Int)<=l.2 then (1,1) else (l.1-N,l.1-l.2)
def YX {N W:Nat}{l:Int×Int}(h:Jk N W l)(h1:(N:Int)<=l.1):Sz (UY N l)/\Bd (3*W+3) (sv (UY N l)):=by
 unfold UY;split
 .refine ⟨⟨by decide,Aw (m:=1) (by decide) (by decide),Aw (m:=1) (by decide) (by decide)⟩, ?_⟩;rw[cK];exact qo.mono (by omega)
 .have:=M8 h h1 (by omega);exact⟨this.1,this.2.1⟩
structure mO (N:Nat) (us:List (Int×Int)) (k:Nat) (l:Int×Int):Prop where
 at_:us[k]? =some l
 up:(N:Int)<=l.1
 top:∀x∈us,(N:Int)<=x.1->sv (UY N x)<=sv (UY N l)
 fst:∀j x,j<k->us[j]? =some x->(N:Int)<=x.1->sv (UY N x)<sv (UY N l)
def mO.one {N:Nat}{c:km (Int×Int)}{k a:Nat}{l b:Int×Int}(h:mO N c k l)(h':mO N c a b):k=a/\l=b:=by
 have e:k=a:=by
  rcases Nat.lt_trichotomy k a with z|z|z
  .have:=h'.fst k l z h.at_ h.up;have:=h.top b (ABN h'.at_) h'.up;exfalso;grind
  .exact z
  .have:=h.fst a b z h'.at_ h'.up;have:=h'.top l (ABN h.at_) h.up;exfalso;grind
 subst e;have:=h.at_;rw[h'.at_] at this;exact⟨rfl,(AAw this).symm⟩
def ic (N:Nat)(a:km (Int×Int))(v:PV):Prop:=(v= .non/\∀x∈a,¬(N:Int)<=x.1)\/∃k l,v= .tup [.int (k:Nat),IJ (UY N l)] /\mO N a k l
def Px {N W:Nat}{lns:km (Int×Int)}(ok:∀l∈lns,Jk N W l)(hl:lns.length<=1000)(ex:∃l∈lns,(N:Int)<=l.1){Q:PV->Prop}(q:∀k l,mO N lns k l->Q (.tup [.int (k:Nat),IJ (UY N l)])):FZ [.int N, .lst (lns.map IJ)] Q:=by
 apply WT;ac_rfl;show Ex _ _ _ (Fo 0 (lns.map IJ)) _;refine JT (λy τ=>∃c f v i m n p,c++f=lns/\y=Fo c.length (f.map IJ)/\ic N c v/\τ= [some (.val (.int N)),some (.val (.lst (lns.map IJ))),some (.val v),i,m,n,p]) ?_ ?_ _ _ ⟨[],lns, .non,_,_,_,_,rfl,rfl, .inl ⟨rfl,by simp⟩,rfl⟩
 .rintro τ ⟨c,f,v,i,m,n,p,e,s,hv,rfl⟩;have:f= [] :=by cases f with | nil=>rfl|cons _ _=>simp[Fo] at s
  subst this;rw[ACb] at e;subst e;ac_rfl;rcases hv with⟨_,h⟩|⟨k,l,rfl,h⟩
  .obtain ⟨l,hl,hN⟩:=ex;exact absurd hN (h l hl)
  .exact q k l h
 .rintro x y τ R A ⟨c,f,v,i,m,n,p,e,s,hv,rfl⟩;cases f with
  | nil=>simp[Fo] at s
  | cons l f=>
    rw[AAi,Fo] at s;cases s;have B:l∈lns:=by rw[<-e];simp
    have o:=ok l B;have keep:∀v i m n p,ic N (c ++ [l]) v->R [some (.val (.int N)),some (.val (.lst (lns.map IJ))),some (.val v),i,m,n,p] :=λv i m n p h=>A _ ⟨c ++ [l],f,v,i,m,n,p,by simpa using e,by simp,h,rfl⟩;clear A;have lower:¬(N:Int)<=l.1->ic N (c ++ [l]) v:=λh=>by
     rcases hv with⟨rfl,h2⟩|⟨k,g,rfl,h2⟩
     .exact .inl ⟨rfl,Eo.mpr ⟨h2,h⟩⟩
     .exact .inr ⟨k,g,rfl,⟨by rw[ABQ];exact h2.at_;exact(ABC.mp h2.at_).1,h2.up,Eo.mpr ⟨h2.top,λz=>absurd z h⟩,λj x d hx=>h2.fst j x d (by rw[ABQ (ACt d (ABC.mp h2.at_).1)] at hx;exact hx)⟩⟩
    have take:(N:Int)<=l.1->(∀x∈c,(N:Int)<=x.1->sv (UY N x)<sv (UY N l))->ic N (c ++ [l]) (.tup [.int (c.length:Nat),IJ (UY N l)]):=λh h2=> .inr ⟨c.length,l,rfl,⟨by simp,h,Eo.mpr ⟨λx hx z=>by have:=h2 x hx z;grind,λ_=>ADN⟩,λj x d hx z=>h2 x (by rw[ABQ d] at hx;exact ABN hx) z⟩⟩;have u:=λh=>YX o h;ac_rfl
    .rename_i h1 h2;have t:UY N l=(1,1):=AAb h2;rw[t] at take u;rcases hv with⟨rfl,a⟩|⟨k,g,rfl,a⟩
     .ac_rfl;exact keep _ _ _ _ _ (take h1 λx hx z=>absurd z (a x hx))
     .have r:g∈lns:=by rw[<-e];exact AD3 _ (ABN a.at_)
      ac_rfl;refine Gv (b:=(1,1)) (YX (ok g r) a.up).1 (u h1).1 ?_;ac_rfl
      .rename_i z;exact keep _ _ _ _ _ (take h1 λx hx w=>by have:=a.top x hx w;grind)
      .rename_i z;exact keep _ _ _ _ _ (.inr ⟨k,g,rfl,⟨by rw[ABQ];exact a.at_;exact(ABC.mp a.at_).1,a.up,Eo.mpr ⟨a.top,λ_=>by rw[t];grind⟩,λj x d hx=>a.fst j x d (by rw[ABQ (ACt d (ABC.mp a.at_).1)] at hx;exact hx)⟩⟩)
    .rename_i h1 h2;have t:UY N l=(l.1-N,l.1-l.2):=AAa h2;rw[t] at take u;rcases hv with⟨rfl,a⟩|⟨k,g,rfl,a⟩
     .ac_rfl;exact keep _ _ _ _ _ (take h1 λx hx z=>absurd z (a x hx))
     .have r:g∈lns:=by rw[<-e];exact AD3 _ (ABN a.at_)
      ac_rfl;refine Gv (b:=(l.1-N,l.1-l.2)) (YX (ok g r) a.up).1 (u h1).1 ?_;ac_rfl
      .rename_i z;exact keep _ _ _ _ _ (take h1 λx hx w=>by have:=a.top x hx w;grind)
      .rename_i z;exact keep _ _ _ _ _ (.inr ⟨k,g,rfl,⟨by rw[ABQ];exact a.at_;exact(ABC.mp a.at_).1,a.up,Eo.mpr ⟨a.top,λ_=>by rw[t];grind⟩,λj x d hx=>a.fst j x d (by rw[ABQ (ACt d (ABC.mp a.at_).1)] at hx;exact hx)⟩⟩)
    .rename_i h1;exact keep _ _ _ _ _ (lower h1)
def sK {N:Nat}{l:Int×Int}{s:Rat}(a:0<=s)(h1:s<=1)(b:(N:Int)<=l.1)(c:(N:Int)<=l.2):(N:Rat)<=lv l s:=by
 have d:(N:Rat)<=(l.1:Rat):=by rw[<-ES];exact AC5.mpr b
 have e:(N:Rat)<=(l.2:Rat):=by rw[<-ES];exact AC5.mpr c
 have y:lv l s=(1-s)*(l.1:Rat)+s*(l.2:Rat):=by unfold lv;grind
 have f:(1-s)*N<=(1-s)*(l.1:Rat):=ADM d (by grind);have g:s*N<=s*(l.2:Rat):=ADM e a;rw[y];grind
def e8 {N W:Nat}{l:Int×Int}(o:Jk N W l)(h1:(N:Int)<=l.1){s:Rat}(a:0<=s)(hs:s<=1):(N:Rat)<=lv l s↔s<=sv (UY N l):=by
 unfold UY;by_cases h:(N:Int)<=l.2
 .rw [AAb h,cK];exact⟨λ_=>hs,λ_=>sK a hs h1 h⟩
 .rw [AAa h];have:=(M8 o h1 (by omega)).2.2.2 s;grind
def ir (l:Int×Int):Int×Int:=(l.2,l.1)
def fJ (l:Int×Int)(s:Rat):lv (ir l) s=lv l (1-s):=by unfold lv ir;grind
def X2 {N W:Nat}{l:Int×Int}(o:Jk N W l):Jk N W (ir l):=by obtain⟨u,v,a,b,c,d⟩:=o.ex;exact⟨o.b,o.a,o.n,o.n0,v,u,b,a,d,c⟩
def jW (l:Int×Int):lv l 0=(l.1:Rat):=by unfold lv;grind
def ni (l:Int×Int):lv l 1=(l.2:Rat):=by unfold lv;grind
def Mw {N:Nat}{k:Int}:(N:Rat)<=(k:Rat)↔(N:Int)<=k:=by rw[<-ES];exact AC5
def below {N:Nat}{lns:km (Int×Int)}{s:Rat}(h:∀l∈lns,∃u,s<u/\∀t,s<t->t<u->lv l t<N):∃u,s<u/\∀t,s<t->t<u->∀l∈lns,lv l t<N:=by
 induction lns with
 | nil=>exact⟨s+1,by grind,by simp⟩
 | cons l r ih=>
   obtain⟨u,h1,h2⟩:=ih λx hx=>h x (by simp[hx]);obtain⟨v,d,a⟩:=h l (by simp);refine⟨if u<v then u else v,by split <;> assumption,λt t1 t2 x hx=> ?_⟩;have b:t<u:=by split at t2 <;> grind
   have c:t<v:=by split at t2 <;> grind
   rcases AAc.mp hx with rfl|hx
   .exact a t t1 c
   .exact h2 t t1 b x hx
def Yh {N W:Nat}{lns:km (Int×Int)}(ok:∀l∈lns,Jk N W l)(a:∀s,0<=s->s<1->∃l∈lns,(N:Rat)<=lv l s){s:Rat}(i:0<=s)(b:s<1)(top:∀x∈lns,(N:Int)<=x.1->sv (UY N x)<=s):∃l∈lns,¬(N:Int)<=l.1/\(N:Int)<=l.2/\(N:Rat)<=lv l s:=by
 refine AE6 λf=> ?_;obtain⟨u,h1,h2⟩:=below (N:=N) (lns:=lns) (s:=s) λl hl=>by
  have o:=ok l hl;by_cases h:(N:Int)<=l.1
  .refine ⟨1,b,λt t1 t2=> ?_⟩;have:=e8 o h (s:=t) (by grind) (by grind);have:=top l hl h;grind
  .by_cases k:(N:Int)<=l.2
   .have z:¬(N:Rat)<=lv l s:=λz=>f ⟨l,hl,h,k,z⟩;by_cases e:(N:Int)=l.2
    .refine ⟨1,b,λt t1 t2=> ?_⟩;have c:(l.1:Rat)<(N:Rat):=by rw[<-ES];exact ACR.mpr (by omega)
     have d:(l.2:Rat)=(N:Rat):=by rw[<-ES,e]
     have:=ADv c (show 0<1-t by grind);unfold lv;rw[d];grind
    .have hs:=(Ti o (by omega) (by omega)).2.2.2;refine⟨sv (N-l.1,l.2-l.1),(hs s).mp (by grind),λt _ t2=>(hs t).mpr t2⟩
   .refine ⟨1,b,λt t1 t2=> ?_⟩;have c:(l.1:Rat)<(N:Rat):=by rw[<-ES];exact ACR.mpr (by omega)
    have d:(l.2:Rat)<(N:Rat):=by rw[<-ES];exact ACR.mpr (by omega)
    have:=ADv c (show 0<1-t by grind);have:=ADM (show (l.2:Rat)<=(N:Rat) by grind) (show 0<=t by grind);have y:lv l t=(1-t)*(l.1:Rat)+t*(l.2:Rat):=by unfold lv;grind
    rw[y];grind
 have ⟨t,t1,t2,g⟩:∃t,s<t/\t<u/\t<1:=by
  by_cases z:u<1
  .exact ⟨(s+u)/2,by grind,by grind,by grind⟩
  .exact ⟨(s+1)/2,by grind,by grind,by grind⟩
 obtain⟨l,hl,z⟩:=a t (by grind) g;have:=h2 t t1 t2 l hl;grind
abbrev Su:AS:=
 (AZ (Aj (AY Ak (aV 3) (aC (.int 0))) (JR 3 (Af (Aq 4) (Af (Aq 5) (Af (Aq 6) Bw)))))
   (As (Ar (AB (aC (.str "near")) (AB (AN 2 KB (AB (AN 2 Ii (AB (aV 4) (AB (aV 6) AM))) (AB (AN 1 JP (AB (aC (.int 2)) AM)) AM))) AM)))))
abbrev Sv:AS:=
 (AZ (BI (mX (aV 3)) Su Ay)
   (As (Ar (AB (aC (.str "clear")) (AB (DZ Bx (AB (Db (Mr (IM (AN 3 Gq (AB (aV 0) (AB (aV 1) (AB (aV 2) AM))))) 2 [] (Aq 1) EJ (IM (AN 1 Gs (AB (aV 1) AM))) 1 (Aq 0) EJ (aV 0))) AM)) AM)))))
abbrev RX:AS:=
 (AZ (Aj (AN 3 Fh (AB (aV 0) (AB (aV 1) (AB (aV 2) AM)))) (Aq 3))
   Sv)
def Go:AF:=A0 7 RX
def WW {a b c:PV}{Q:PV->Prop}(h:RX ⟨λ_=>Q .non,Q,λ_=>False,λ_=>False⟩ [some (.val a),some (.val b),some (.val c),none,none,none,none]):Go [a,b,c] Q:=h
abbrev U3:AS:=
 (AZ (BI (EI (B2 (Am (AN 1 EY (AB (aV 1) AM)))) (EI (B2 (Am (AN 1 EY (AB (aV 2) AM)))) (EI (B2 (Am (AN 1 BR (AB (aV 3) AM)))) (B2 (Am (AN 1 BR (AB (aV 4) AM))))))) (As (aC (.bl false))) Ay)
   (As (aM (AY (lN false) (aV 3) (Ar (AB (aC (.int 0)) (AB (aC (.int 1)) (AB (aC (.int 2)) AM))))) (AY (lN false) (aV 4) (Ar (AB (aC (.int 1)) (AB (Jv EA (aC (.int 1))) AM)))))))
abbrev U2:AS:=
 (AZ (Aj (aV 0) (JR 4 (Af (Aq 1) (Af (Aq 2) (Af (Aq 3) (Af (Aq 4) Bw))))))
   U3)
abbrev U1:AS:=
 (AZ (BI (EI (B2 (Am (Lc (aV 0) ["tuple","list"]))) (Am (AY Nm (DZ Dw (AB (aV 0) AM)) (aC (.int 4))))) (As (aC (.bl false))) Ay)
   U2)
def Fc:AF:=A0 5 U1
def QQ {a:PV}{Q:PV->Prop}(h:U1 ⟨λ_=>Q .non,Q,λ_=>False,λ_=>False⟩ [some (.val a),none,none,none,none]):Fc [a] Q:=h
abbrev W3:AS:=
 (AZ (Aj (AN 2 EG (AB (AY Ak (AN 2 Eb (AB (aV 0) (AB (aV 4) AM))) (aV 7)) (AB (AY Ak (AN 2 Eb (AB (aV 1) (AB (aV 4) AM))) (aV 7)) AM))) (Aq 9))
   (BI (Am (AN 2 Av (AB (AN 2 F3 (AB (AN 1 JP (AB (aV 8) AM)) (AB (aV 9) AM))) (AB (AN 2 Ea (AB (aV 2) (AB (aV 7) AM))) AM)))) (As (aC (.bl false))) Ay))
abbrev W4:AS:=
 (AZ (FA (IM (AN 4 JO (AB (aV 0) (AB (aV 1) (AB (aV 5) (AB (aV 6) AM)))))) (Aq 4) W3)
   (As (aC (.bl true))))
abbrev Yo:AS:=
 (AZ (Aj (aV 3) (JR 4 (Af (Aq 5) (Af (Aq 6) (Af (Aq 7) (Af (Aq 8) Bw))))))
   W4)
def LS:AF:=A0 10 Yo
def cD {a b c d:PV}{Q:PV->Prop}(h:Yo ⟨λ_=>Q .non,Q,λ_=>False,λ_=>False⟩ [some (.val a),some (.val b),some (.val c),some (.val d),none,none,none,none,none,none]):LS [a,b,c,d] Q:=h
abbrev IG:AS:=
 (AZ (BI (B2 (Am (AN 4 LS (AB (aV 0) (AB (aV 1) (AB (aV 2) (AB (Ar (AB (aV 8) (AB (aV 9) (AB (AY Ak (aV 5) (aC (.int 2))) (AB (AY Ak (aV 5) (aC (.int 3))) AM))))) AM))))))) (As (aC (.bl false))) Ay)
   (Aj (aV 9) (Aq 6)))
abbrev IF:AS:=
 (AZ (BI (EI (Am (AY Nm (aV 8) (aV 6))) (EI (B2 (Am (AN 2 Av (AB (aV 8) (AB (aV 9) AM))))) (Am (AN 2 Av (AB (aV 7) (AB (aV 9) AM)))))) (As (aC (.bl false))) Ay)
   IG)
abbrev IE:AS:=
 (AZ (Aj (DZ Bx (AB (AY Ak (aV 5) (aC (.int 1))) AM)) (Aq 9))
   IF)
abbrev ID:AS:=
 (AZ (Aj (DZ Bx (AB (AY Ak (aV 5) (aC (.int 0))) AM)) (Aq 8))
   IE)
abbrev J3:AS:=
 (AZ (BI (B2 (Am (AN 1 Fc (AB (aV 5) AM)))) (As (aC (.bl false))) Ay)
   ID)
abbrev J7:AS:=
 (AZ (FA (IM (aV 3)) (Aq 5) J3)
   (As (AY Fz (aV 6) (aV 7))))
abbrev J6:AS:=
 (AZ (Aj (aV 4) (JR 2 (Af (Aq 6) (Af (Aq 7) Bw))))
   J7)
abbrev J5:AS:=
 (AZ (BI (Am (AY XZ (aV 4) (aC .non))) (As (AY Fz (DZ Dw (AB (aV 3) AM)) (aC (.int 0)))) Ay)
   J6)
abbrev J4:AS:=
 (AZ (Aj (AN 2 Du (AB (aV 0) (AB (aV 1) AM))) (Aq 4))
   J5)
abbrev Hw:AS:=
 (AZ (BI (B2 (Am (Lc (aV 3) ["tuple","list"]))) (As (aC (.bl false))) Ay)
   J4)
def Bk:AF:=A0 10 Hw
def MD {a b c d:PV}{Q:PV->Prop}(h:Hw ⟨λ_=>Q .non,Q,λ_=>False,λ_=>False⟩ [some (.val a),some (.val b),some (.val c),some (.val d),none,none,none,none,none,none]):Bk [a,b,c,d] Q:=h
structure Rw where
 b:Rat
 e:Rat
 sd:Nat
 up:Bool
abbrev Fu (u:kc):Int:=if u=true then 1 else -1
def IL (r:Rw):PV:= .tup [fr r.b,fr r.e, .int (r.sd:Nat), .int (Fu r.up)]
def Ei (b e:Rat)(k:Nat):Rw:=⟨b,e,k/2,decide (k % 2=0)⟩
def NJ {b e:Rat}{k:Nat}{Q:PV->Prop}(q:Q (IL (Ei b e k))):Ff [fr b,fr e, .int (k:Nat)] Q:=by
 have c:((k:Int).fdiv 2)=((k/2:Nat):Int):=by rw[ACu _ (by decide)];omega
 have d:((k:Int).fmod 2)=((k % 2:Nat):Int):=by rw[ADS _ (by decide)];omega
 apply YS;ac_rfl
 .rename_i h;refine⟨⟨by decide,Aw (m:=2) (by decide) (by decide)⟩, ?_⟩;rw[c];have a:IL (Ei b e k)= .tup [fr b,fr e, .int ((k/2:Nat):Int), .int 1] :=by unfold IL Ei Fu;rw[AAt (show k % 2=0 by omega),AAb rfl]
  rw[a] at q;ac_rfl;exact q
 .rename_i h;refine⟨⟨by decide,Aw (m:=2) (by decide) (by decide)⟩, ?_⟩;rw[c];have a:IL (Ei b e k)= .tup [fr b,fr e, .int ((k/2:Nat):Int), .int (-1)] :=by unfold IL Ei Fu;rw[AAm (show ¬k % 2=0 by omega)];rfl
  rw[a] at q;ac_rfl;exact q
def VL (b e:Rat):km Rw->Prop
 | [] =>b=e
 | r::rs=>r.b=b/\VL r.e e rs
theorem VL.app {x e:Rat}{a:km Rw}:∀{rs:km Rw} {b:Rat},VL b x rs->VL x e a->VL b e (rs++a)
 | [],b,h,k=>by cases h;exact k
 | r::rs,b,h,k=>⟨h.1,VL.app h.2 k⟩
def PP (N:Nat)(lns:km (Int×Int))(b e:Rat)(rs:km Rw):Prop:=∃k l,mO N lns k l/\(((N:Int)<=l.2/\rs= [Ei b e k])\/(¬(N:Int)<=l.2/\∃a c,mO N (lns.map ir) a c/\rs= [Ei b (b+sv (l.1-N,l.1-l.2)*(e-b)) k,Ei (b+sv (l.1-N,l.1-l.2)*(e-b)) e a]))
def PP.one {N:Nat}{lns:km (Int×Int)}{b e:Rat}{rs d:km Rw}(h:PP N lns b e rs)(h':PP N lns b e d):rs=d:=by
 obtain⟨k,l,a,c⟩:=h;obtain⟨n,o,g,i⟩:=h';obtain⟨rfl,rfl⟩:=a.one g;rcases c with⟨c1,rfl⟩|⟨c1,p,r,j,rfl⟩ <;> rcases i with⟨f,rfl⟩|⟨f,s,t,m,rfl⟩
 .rfl
 .exact absurd c1 f
 .exact absurd f c1
 .obtain ⟨rfl,rfl⟩:=j.one m;rfl
structure lE (N:Nat) (lns:List (Int×Int)) (b e:Rat) (B:Nat) (rs:List Rw):Prop where
 few:rs.length<=2
 ne:rs≠ []
 chn:VL b e rs
 det:PP N lns b e rs
 ok:∀r∈rs,Bd B r.b/\Bd B r.e/\b<=r.b/\r.b<r.e/\r.e<=e/\∃k l,lns[k]? =some l/\r.sd=k/2/\r.up=decide (k % 2=0)/\(N:Rat)<=lv l ((r.b-b)/(e-b))/\(N:Rat)<=lv l ((r.e-b)/(e-b))
def dg {p:Int×Int}{b:kc}(hb:decide (p.1=1/\p.2=1)=b){Q:PV->Prop}(q:Q (.bl b)):Fz (IJ p) (fr 1) Q:=by
 refine⟨⟨rfl,rfl⟩, ?_⟩;have e:Ru (IJ p) (fr 1)=decide (p.1=1/\p.2=1):=by show Ru (.tup [.int p.1, .int p.2]) (.tup [.int 1, .int 1])=_;simp[Ru,pd,NG,PyData.eqv,PyData.eqvAll];rfl
 rw[e,hb];exact q
def YM {b e:Rat}{N M W:Nat}{lns:km (Int×Int)}(ok:∀l∈lns,Jk N W l)(J:b<e)(f:Bd M b)(i:Bd M e)(hM:M<=300)(hW:W<=1050)(hl:lns.length<=1000)(g:∀s,0<=s->s<1->∃l∈lns,(N:Rat)<=lv l s){Q:PV->Prop}(q:∀rs,lE N lns b e (3*M+3*W+6) rs->Q (.lst (rs.map IL))):Gs [.tup [fr b,fr e, .int N, .lst (lns.map IJ)]] Q:=by
 have nz:e-b≠0:=by grind
 have B:(b-b)/(e-b)=0:=by grind
 have C:(e-b)/(e-b)=1:=by grind
 apply WX;ac_rfl;refine Px ok hl ?_ λk l h=> ?_
 .obtain ⟨l,hl,h⟩:=g 0 ADN (by decide);rw[jW] at h;exact⟨l,hl,Mw.mp h⟩
 have K:l∈lns:=ABN h.at_;have ol:=ok l K;by_cases hN:(N:Int)<=l.2
 .rw [show UY N l=(1,1) from AAb hN];ac_rfl;refine dg (b:=true) (by decide) ?_;ac_rfl;refine NJ ?_;ac_rfl;refine q [Ei b e k] ⟨by simp,by simp,⟨rfl,rfl⟩,⟨k,l,h, .inl ⟨hN,rfl⟩⟩,λr j=> ?_⟩;rcases ABZ.mp j with rfl;refine⟨f.mono (by omega),i.mono (by omega),ADN,J,ADN,k,l,h.at_,rfl,rfl, ?_, ?_⟩
  .show (N:Rat)<=lv l ((b-b)/(e-b));rw[B,jW];exact Mw.mpr h.up
  .show (N:Rat)<=lv l ((e-b)/(e-b));rw[C,ni];exact Mw.mpr hN
 .have es:UY N l=(l.1-N,l.1-l.2):=AAa hN;obtain⟨L,D,O,E⟩:=M8 ol h.up (by omega);have P:(l.2:Rat)<(N:Rat):=by rw[<-ES];exact ACR.mpr (by omega)
  have m:sv (l.1-N,l.1-l.2)<1:=(E 1).mp (by rw[ni];exact P);have top:=h.top;rw[es] at top;obtain⟨t,tm,t1,t2,n⟩:=Yh ok g O m top;have S:0<sv (l.1-N,l.1-l.2):=by
   refine AE6 λz=>t1 ?_;have T:sv (l.1-N,l.1-l.2)=0:=by grind
   rw[T,jW] at n;exact Mw.mp n
  rw[es];ac_rfl;have o:¬((l.1-N,l.1-l.2).1=1/\(l.1-N,l.1-l.2).2=1):=by rintro⟨U,X⟩;have:(l.1-(N:Int),l.1-l.2)=(1,1):=AC8 U X;rw[this,cK] at m;exact absurd m (by decide)
  refine dg (b:=false) (AAm o) ?_;ac_rfl;refine Dr IJ IJ ir (λ_=>True) (λa _ R Y=> ?_) lns [] (λ_ _=>trivial) ?_
  .ac_rfl;exact Y
  .rw [ABY];ac_rfl;refine Px (N:=N) (W:=W) (lns:=lns.map ir) (λx hx=> ?_) (by simpa using hl) ⟨ir t,AAl.mpr ⟨t,tm,rfl⟩,t2⟩ λd p h2=> ?_
   .obtain ⟨y,hy,rfl⟩:=AAl.mp hx;exact X2 (ok y hy)
   obtain⟨c,F,rfl⟩:∃c,lns[d]? =some c/\ir c=p:=by
    have:=h2.at_;rw[ABI] at this;cases G:lns[d]? with
    | none=>rw[G] at this;cases this
    | some c=>rw[G] at this;exact⟨c,rfl,AAw this⟩
   have u:c∈lns:=ABN F;have Z:=(e8 (X2 (ok t tm)) t2 (s:=1-sv (l.1-N,l.1-l.2)) (by grind) (by grind)).mp (by rw[fJ,show (1:Rat)-(1-sv (l.1-N,l.1-l.2))=sv (l.1-N,l.1-l.2) by grind];exact n);have tt:=h2.top (ir t) (AAl.mpr ⟨t,tm,rfl⟩) t2;have v:(N:Rat)<=lv c (sv (l.1-N,l.1-l.2)):=by have:=(e8 (X2 (ok c u)) h2.up (s:=1-sv (l.1-N,l.1-l.2)) (by grind) (by grind)).mpr (Rat.le_trans Z tt);rw[fJ,show (1:Rat)-(1-sv (l.1-N,l.1-l.2))=sv (l.1-N,l.1-l.2) by grind] at this;exact this
   have w:(N:Rat)<=lv l (sv (l.1-N,l.1-l.2)):=by have:=E (sv (l.1-N,l.1-l.2));grind
   ac_rfl;refine KM L D f i hM (by omega) ?_;have A:PP N lns b e [Ei b (b+sv (l.1-N,l.1-l.2)*(e-b)) k,Ei (b+sv (l.1-N,l.1-l.2)*(e-b)) e d] :=⟨k,l,h, .inr ⟨hN,d,_,h2,rfl⟩⟩;generalize sv (l.1-N,l.1-l.2)=s at *;have H:(b+s*(e-b)-b)/(e-b)=s:=by grind
   have w0:=Rat.mul_pos S (show 0<e-b by grind);have w1:=ADv m (show 0<e-b by grind);have I:Bd (3*M+3*W+6) (b+s*(e-b)):=(f.add (D.mul (i.sub f))).mono (by omega);ac_rfl;refine NJ ?_;ac_rfl;refine NJ ?_;ac_rfl;refine q [Ei b (b+s*(e-b)) k,Ei (b+s*(e-b)) e d] ⟨by simp,by simp,⟨rfl,rfl,rfl⟩,A,λr j=> ?_⟩;simp only[AAc,AAq,AAr] at j;rcases j with rfl|rfl
   .refine ⟨f.mono (by omega),I,ADN,by show b<b+s*(e-b);grind,by show b+s*(e-b)<=e;grind,k,l,h.at_,rfl,rfl, ?_, ?_⟩
    .show (N:Rat)<=lv l ((b-b)/(e-b));rw[B,jW];exact Mw.mpr h.up
    .show (N:Rat)<=lv l ((b+s*(e-b)-b)/(e-b));rw[H];exact w
   .refine ⟨I,i.mono (by omega),by show b<=b+s*(e-b);grind,by show b+s*(e-b)<e;grind,ADN,d,c,F,rfl,rfl, ?_, ?_⟩
    .show (N:Rat)<=lv c ((b+s*(e-b)-b)/(e-b));rw[H];exact v
    .show (N:Rat)<=lv c ((e-b)/(e-b));rw[C,ni];exact Mw.mpr h2.up
def FT (t:T3)(k:Nat):Rat:=if k=0 then t.1 else if k=1 then t.2.1 else t.2.2
def V3 {W:Nat}{p:Pc}(d:E5 W p.o0)(h1:E5 W p.o1){k:Nat}{l:Int×Int}(e:p.lns[k]? =some l){s:Rat}(h:(p.N:Rat)<=lv l s):k/2<3/\1<=(Fu (decide (k % 2=0)):Rat)*FT (lin p.o0 p.o1 s) (k/2):=by
 obtain⟨f,c,_⟩:=Ue d h1;have key:∀u v,u∈p.six->v∈p.six->((p.N:Rat)<=lv (E7 p.N u,E7 p.N v) s->1<=u+s*(v-u))/\((p.N:Rat)<=lv (-E7 p.N u, -E7 p.N v) s->1<= -(u+s*(v-u))):=λu v hu hv=>by
  have:=Ky (s:=s) f (c u hu) (c v hv);constructor
  .intro z;have:=this.1;grind
  .intro z;have:=this.2;grind
 have g:k<6:=(ABC.mp e).1;have a:((Fu true:Int):Rat)=1:=rfl;have b:((Fu false:Int):Rat)= -1:=rfl;have m:∀x∈ [p.o0.1,p.o0.2.1,p.o0.2.2,p.o1.1,p.o1.2.1,p.o1.2.2],x∈p.six:=λx hx=>hx;match k,g with
 | 0,_=>cases e;refine⟨by decide, ?_⟩;rw[show decide (0 % 2=0)=true from rfl,a];have:=(key _ _ (m p.o0.1 (by simp)) (m p.o1.1 (by simp))).1 h;show 1<=1*(p.o0.1+s*(p.o1.1-p.o0.1));grind
 | 1,_=>cases e;refine⟨by decide, ?_⟩;rw[show decide (1 % 2=0)=false from rfl,b];have:=(key _ _ (m p.o0.1 (by simp)) (m p.o1.1 (by simp))).2 h;show 1<= -1*(p.o0.1+s*(p.o1.1-p.o0.1));grind
 | 2,_=>cases e;refine⟨by decide, ?_⟩;rw[show decide (2 % 2=0)=true from rfl,a];have:=(key _ _ (m p.o0.2.1 (by simp)) (m p.o1.2.1 (by simp))).1 h;show 1<=1*(p.o0.2.1+s*(p.o1.2.1-p.o0.2.1));grind
 | 3,_=>cases e;refine⟨by decide, ?_⟩;rw[show decide (3 % 2=0)=false from rfl,b];have:=(key _ _ (m p.o0.2.1 (by simp)) (m p.o1.2.1 (by simp))).2 h;show 1<= -1*(p.o0.2.1+s*(p.o1.2.1-p.o0.2.1));grind
 | 4,_=>cases e;refine⟨by decide, ?_⟩;rw[show decide (4 % 2=0)=true from rfl,a];have:=(key _ _ (m p.o0.2.2 (by simp)) (m p.o1.2.2 (by simp))).1 h;show 1<=1*(p.o0.2.2+s*(p.o1.2.2-p.o0.2.2));grind
 | 5,_=>cases e;refine⟨by decide, ?_⟩;rw[show decide (5 % 2=0)=false from rfl,b];have:=(key _ _ (m p.o0.2.2 (by simp)) (m p.o1.2.2 (by simp))).2 h;show 1<= -1*(p.o0.2.2+s*(p.o1.2.2-p.o0.2.2));grind
section
variable {cs ds:km C4}{d:Rat×Rat}{M W:Nat}
theorem sj:∀p∈QF cs ds d,∀c,c∈cs\/c∈ds->¬(p.b<c.1/\c.1<p.e):=by
 intro p hp c hc z;unfold QF at hp;by_cases h:BJ cs ds<BE cs ds
 .rw [AAb h] at hp;unfold OM at hp;obtain⟨q,hq,rfl⟩:=AAl.mp hp;obtain⟨a,f,i,g⟩:=Ww G4 q hq;have j:=EQ h a;have k:=EQ h f;have l:q.1<c.1:=z.1;have m:c.1<q.2:=z.2;exact g c.1 (D8.mpr (.inr (.inr ⟨by grind,by grind,c,hc,rfl⟩))) z
 .rw [AAa h] at hp;cases hp
def uS (b e:Rat):km Pc->Prop
 | [] =>b=e
 | p::ps=>p.b=b/\uS p.e e ps
theorem ft:∀{ts:km Rat} {a z:Rat},ts.head?=some a->ts.getLast?=some z->uS a z (OM cs ds d ts)
 | [],a,z,h,_=>by cases h
 | [x],a,z,h,k=>by simp at h k;subst h;subst k;rfl
 | x::y::r,a,z,h,k=>by simp at h;subst h;refine⟨rfl, ?_⟩;have:=ft (ts:=y::r) (a:=y) (z:=z) rfl (by rw[ADI] at k;exact k);exact this
theorem oH (h:BJ cs ds<BE cs ds):uS (BJ cs ds) (BE cs ds) (QF cs ds d):=by unfold QF;rw[AAb h];exact ft (Ut h) (Uu h)
structure mT (cs ds:List C4) (d:Rat×Rat) (B:Nat) (r:Rw):Prop where
 bb:Bd B r.b
 be:Bd B r.e
 lo:BJ cs ds<=r.b
 lt:r.b<r.e
 hi:r.e<=BE cs ds
 sd:r.sd<3
 no:∀c,c∈cs\/c∈ds->¬(r.b<c.1/\c.1<r.e)
 at0:1<=(Fu r.up:Rat)*FT (HR cs ds d r.b) r.sd
 vf:1<=(Fu r.up:Rat)*FT (HR cs ds d r.e) r.sd
def PN:km Pc->km Rw->Prop
 | [],rs=>rs= []
 | p::ps,rs=>∃r1 r2,rs=r1++r2/\PP p.N p.lns p.b p.e r1/\PN ps r2
theorem PN.one:∀{f:km Pc} {rs c:km Rw},PN f rs->PN f c->rs=c
 | [],_,_,h,h'=>by have h:_= [] :=h;have h':_= [] :=h';rw[h,h']
 | p::f,_,_,⟨r1,r2,e,a,b⟩,⟨r1',r2',e',a',b'⟩=>by rw[e,e',a.one a',PN.one b b']
theorem PN.snoc {p:Pc}{t:km Rw}(h:PP p.N p.lns p.b p.e t):∀{c:km Pc} {rs:km Rw},PN c rs->PN (c ++ [p]) (rs++t)
 | [],_,k=>by have k:_= [] :=k;subst k;exact⟨t, [],by simp,h,rfl⟩
 | q::c,_,⟨r1,r2,e,a,b⟩=>⟨r1,r2++t,by rw[e,ADs],a,PN.snoc h b⟩
structure qf (cs ds:List C4) (d:Rat×Rat) (B:Nat) (rs:List Rw):Prop where
 few:rs.length<=402
 some_:BJ cs ds<BE cs ds->rs≠ [] /\VL (BJ cs ds) (BE cs ds) rs
 none_:¬BJ cs ds<BE cs ds->rs= []
 ok:∀r∈rs,mT cs ds d B r
 det:PN (QF cs ds d) rs
theorem GS.far (D:GS cs ds d M W)(a:∀m,¬Fp cs ds d m){p:Pc}(hp:p∈QF cs ds d):∀s,0<=s->s<1->∃l∈p.lns,(p.N:Rat)<=lv l s:=by
 intro s c f;have o:=D.pc p hp;have g:=o.lt;refine AE6 λz=> ?_;have all:∀l∈p.lns,lv l s<p.N:=λl hl=>by rw[<-Rat.not_le];exact λk=>z ⟨l,hl,k⟩
 have h:=Rat.mul_nonneg c (show 0<=p.e-p.b by grind);have i:=ADv f (show 0<p.e-p.b by grind);refine a (p.b+s*(p.e-p.b)) (D.near_iff.mp ⟨p,hp,by grind,by grind, ?_⟩);rw[show (p.b+s*(p.e-p.b)-p.b)/(p.e-p.b)=s by grind];exact all
theorem GS.rows (D:GS cs ds d M W){p:Pc}(hp:p∈QF cs ds d){rs:km Rw}{B:Nat}(h:lE p.N p.lns p.b p.e B rs):∀r∈rs,mT cs ds d B r:=by intro r g;have o:=D.pc p hp;have lo:=o.lo;have hi:=o.hi;obtain⟨b1,b2,i,j,m,k,l,e,a,f,n,s⟩:=h.ok r g;have c1:=V3 o.w0 o.w1 e n;have c2:=V3 o.w0 o.w1 e s;rw[<-o.lin r.b i (by grind),<-a,<-f] at c1;rw[<-o.lin r.e (by grind) m,<-a,<-f] at c2;refine⟨b1,b2,by grind,j,by grind,c1.1,λc hc z=>sj p hp c hc ⟨by grind,by grind⟩,c1.2,c2.2⟩
theorem fM {B:Nat}{s:Bz}{a:km Bz}{x:Rat}{P:Rat->Prop}(t:Told P B (s::a))(hx:s.2.2=some x):P ((s.1+x)/2):=by have os:=t.ok s (by simp);have b:=(os.e x hx).1;refine(t.sem _).mp ?_;rw[ABg,AC2];refine .inl ((dz os hx).mpr ⟨.inl (by grind),by grind⟩)
def Ys (P:Rat->Prop)(B:Nat)(m:Rat):Prop:=∃s a x,Told P B (s::a)/\Sep (s::a)/\s.2.2=some x/\m=(s.1+x)/2
theorem Ys.one {P:Rat->Prop}{B:Nat}{m a:Rat}(h:Ys P B m)(h':Ys P B a):m=a:=by
 obtain⟨s,g,x,t,z,hx,rfl⟩:=h;obtain⟨i,c,j,t',f,b,rfl⟩:=h';have e:=Qc z f t.ok t'.ok t.fin t'.fin λk=>by rw[ACa,t.sem,t'.sem]
 cases e;rw[hx] at b;cases b;rfl
theorem YF (D:GS cs ds d M W){v w u:PV}(hv:CC cs v)(hw:CC ds w)(hu:Wz d u)(S:3*M+3*W+6<=1990){Q:PV->Prop}(H:∀m,Fp cs ds d m->Bd (2*(3*M+3*W+6)+4) m->Ys (Fp cs ds d) (3*M+3*W+6) m->Q (.tup [.str "near",fr m]))(I:(∀m,¬Fp cs ds d m)->∀rs,qf cs ds d (3*M+3*W+6) rs->Q (.tup [.str "clear", .tup (rs.map IL)])):Go [v,w,u] Q:=by
 have hM:=D.hM;have hW:=D.hW;have C:=Zb D;apply WW;ac_rfl;refine Wq D hv hw hu λss n=> ?_;have t:=n.told;have sp:=aT n.ok;generalize canon 1 ss=i at t sp;cases i with
 | nil=>
   have E:∀m,¬Fp cs ds d m:=λm z=>by have:=(t.sem m).mpr z;cases this
   ac_rfl;refine R3 D hv hw hu ?_;ac_rfl;refine Pb (λr f=>∃c rs rows x,c++rs=QF cs ds d/\r=rs.map qB/\f=rows.map IL/\rows.length<=2*c.length/\(c≠ [] ->rows≠ [])/\(∀r∈rows,mT cs ds d (3*M+3*W+6) r)/\((c= [] ->rows= [])/\PN c rows)/\(BJ cs ds<BE cs ds->VL (BJ cs ds) x rows/\uS x (BE cs ds) rs)) ?_ ?_ _ _ ⟨[],_, [],BJ cs ds,rfl,rfl,rfl,by simp,λz=>absurd rfl z,by simp,⟨by simp,rfl⟩,λh=>⟨rfl,oH h⟩⟩
   .rintro f ⟨c,rs,rows,x,e,a,rfl,h1,h2,j,⟨F,k⟩,l⟩;have:rs= [] :=by cases rs with | nil=>rfl|cons _ _=>cases a
    subst this;rw[ACb] at e;subst e;ac_rfl;refine I E rows ⟨by omega,λh=> ?_,λh=> ?_,j,k⟩
    .have A:=l h;have hx:x=BE cs ds:=A.2;subst hx;refine⟨λz=> ?_,A.1⟩;have G:=A.1;rw[z] at G;have:BJ cs ds=BE cs ds:=G;grind
    .refine F ?_;unfold QF;rw[AAa h]
   .rintro y r f R J ⟨c,rs,rows,x,e,a,rfl,h1,h2,j,⟨F,k⟩,l⟩;cases rs with
    | nil=>cases a
    | cons p rs=>
      cases a;have B:p∈QF cs ds d:=by rw[<-e];simp
      have ul:c.length+1<=201:=by rw[<-e] at C;simp at C;omega
      have o:=D.pc p B;repeat' array_get_dec
      refine YM (fG o.w0 o.w1 (by omega)) o.lt o.bb o.be (by omega) hW (by rw[ZS];decide) (D.far E B) λK g=> ?_;have T:=g.few;repeat' array_get_dec
      refine XR _ _ (J _ ⟨c ++ [p],rs,rows++K,p.e,by simpa using e,rfl,by rw[AAu],by simp;omega,λ_ z=>g.ne (List.append_eq_nil_iff.mp z).2,λr a=> ?_,⟨λz=>by simp at z,k.snoc g.det⟩,λh=> ?_⟩)
      .rcases AAn.mp a with a|a
       .exact j r a
       .exact D.rows B g r a
      .obtain ⟨L,N,O⟩:=l h;refine⟨L.app ?_,O⟩;rw[<-N];exact g.chn
 | cons s i=> obtain⟨x,hx⟩:=t.fin s (by simp);have os:=t.ok s (by simp);have b1:=os.b;have b2:=(os.e x hx).2;have mn:=fM t hx;have P:Bd 2 (((2:Int):Rat)):=⟨by decide,by decide⟩;rw[AAi,b9 hx];ac_rfl;exact H _ mn (((b1.add b2).div (by decide) P).mono (by omega)) ⟨s,i,x,t,sp,hx,rfl⟩
theorem dW {p:T3}{k:Nat}(hk:k<3){R:PV->Prop}(h:R (fr (FT p k))):Ak (.tup [fr p.1,fr p.2.1,fr p.2.2]) (.int (k:Nat)) R:=by
 match k,hk with
 | 0,_=>exact h
 | 1,_=>exact h
 | 2,_=>exact h
theorem je {p q:T3}{k:Nat}(p1:0<d.1)(p2:0<d.2){s:Rat}:s*(FT p k-FT q k)<(if k=2 then d.2 else d.1)\/2<k↔s*FT (KQ p q d) k<1\/2<k:=by
 have key:∀{x y:Rat},0<y->(s*x<y↔s*(x/y)<1):=λ{x y} hy=>by
  have e:s*(x/y)=s*x/y:=by grind
  rw[e,ADK hy];grind
 match k with
 | 0=>have:=key (x:=p.1-q.1) p1;simp only[FT,KQ];simpa using this
 | 1=>have:=key (x:=p.2.1-q.2.1) p1;simp only[FT,KQ];simpa using this
 | 2=>have:=key (x:=p.2.2-q.2.2) p2;simp only[FT,KQ];simpa using this
 | k+3=>simp
theorem eH (D:GS cs ds d M W){v w u:PV}{B X:Nat}(hc:∀c∈cs,D5 B c)(f:∀c∈ds,D5 B c)(hv:CC cs v)(hw:CC ds w)(hu:Wz d u){r:Rw}(o:r.sd<3)(A:Bd X r.b)(C:Bd X r.e)(lo:BJ cs ds<=r.b)(H:r.b<r.e)(hi:r.e<=BE cs ds)(Y:2*(X+6*B+10)<=3980)(g:B<=X){Q:PV->Prop}(I:(∀m∈DH cs ds r.b r.e,1<=(Fu r.up:Rat)*FT (HR cs ds d m) r.sd)->Q (.bl true))(J:(¬∀m∈DH cs ds r.b r.e,1<=(Fu r.up:Rat)*FT (HR cs ds d m) r.sd)->Q (.bl false)):LS [v,w,u,IL r] Q:=by
 have E:=D.tog (show BJ cs ds<BE cs ds by grind);have f1:=D.f1;have f2:=D.f2;have K:Bd 2 ((Fu r.up:Int):Rat):=by cases r.up <;> exact⟨by decide,by decide⟩
 unfold IL;apply cD;ac_rfl;refine Wr hv hw f1 f2 (B:=X) (λc h=>(hc c h).mono g) (λc h=>(f c h).mono g) (by omega) A C ?_;ac_rfl;refine DN fr (λF vs τ=>(∀m∈F,1<=(Fu r.up:Rat)*FT (HR cs ds d m) r.sd)/\∃i j,τ= [some (.val v),some (.val w),some (.val u),some (.val (.tup [fr r.b,fr r.e, .int (r.sd:Nat), .int (Fu r.up)])),i,some (.val (fr r.b)),some (.val (fr r.e)),some (.val (.int (r.sd:Nat))),some (.val (.int (Fu r.up))),j]) ?_ ?_ ⟨by simp,_,_,rfl⟩
 .rintro τ ⟨h,i,j,rfl⟩;ac_rfl;exact I h
 .rintro F m vs e τ R L ⟨h,i,j,rfl⟩;have l:m∈DH cs ds r.b r.e:=by rw[<-e];simp
  obtain⟨Z,i2⟩:=EQ H l;have bm:Bd X m:=Fv (λc h=>((hc c h).mono g).m) (λc h=>((f c h).mono g).m) A C l;obtain⟨s,es⟩:=E.one m (by grind) (by grind);obtain⟨t,n⟩:=E.other m (by grind) (by grind);have N:=E5.spotC bm D.r1 hc s es;have O:=E5.spotC bm D.r2 f t n;have G:∀{p:T3},E5 (X+6*B+10) p->Bd (X+6*B+10) (FT p r.sd):=λh=>by unfold FT;split;exact h.x;split;exact h.y;exact h.z
  have c1:=G N;have c2:=G O;have P:HR cs ds d m=KQ s t d:=by unfold HR;rw[es,n];rfl
  have a:(Fu r.up:Rat)*(FT s r.sd-FT t r.sd)<(if r.sd=2 then d.2 else d.1)↔(Fu r.up:Rat)*FT (HR cs ds d m) r.sd<1:=by
   have:=je (p:=s) (q:=t) (k:=r.sd) D.p1 D.p2 (s:=(Fu r.up:Rat));rw[P];have S:¬2<r.sd:=by omega
   simpa[S] using this
  have T:=c1.sub c2;have c4:=K.mul T;have b1:=D.b1;have b2:=D.b2;ac_rfl;refine FR hv hc D.r1 (by have:=D.t1;intro z;rw[z] at this;simp at this) (by omega) bm (by omega) ?_;rw[es];refine dW o ?_;ac_rfl;refine FR hw f D.r2 (by have:=D.t2;intro z;rw[z] at this;simp at this) (by omega) bm (by omega) ?_;rw[n];refine dW o ?_;ac_rfl;refine Zr (x:=d.1) (y:=d.2) (λh=> ?_) (λh=> ?_) ?_
  .rcases hu with rfl|rfl <;> exact h
  .rcases hu with rfl|rfl <;> exact h
  have U:(if ((r.sd:Nat):Int)=2 then d.2 else d.1)=if r.sd=2 then d.2 else d.1:=by
   by_cases h:r.sd=2
   .rw [AAb h,AAb (by omega)]
   .rw [AAa h,AAa (by omega)]
  have bs:Bd 100 (if r.sd=2 then d.2 else d.1):=by split <;> assumption
  rw[U];generalize (if r.sd=2 then d.2 else d.1)=sz at *;ac_rfl
  .rename_i k;refine J λz=> ?_;have:=z m l;have:=a.mp k;grind
  .rename_i k;refine L _ ⟨λx hx=> ?_,_,_,rfl⟩;rcases AAn.mp hx with hx|hx
   .exact h x hx
   .rcases ABZ.mp hx with rfl;rw[<-ADL];exact λz=>k (a.mpr z)
def vI (r:Rat)(v:PV):Prop:=v=fr r\/v= .lst [.int r.num, .int (r.den:Int)]
def pp (r:Rw)(v:PV):Prop:=∃x y,vI r.b x/\vI r.e y/\(v= .tup [x,y, .int (r.sd:Nat), .int (Fu r.up)] \/v= .lst [x,y, .int (r.sd:Nat), .int (Fu r.up)])
theorem pp.self (r:Rw):pp r (IL r):=⟨_,_, .inl rfl, .inl rfl, .inl rfl⟩
theorem sA {k:Nat}(h:k<3){Q:PV->Prop}(q:Q (.bl true)):lN false (.int (k:Nat)) (.tup [.int 0, .int 1, .int 2]) Q:=by
 match k,h with
 | 0,_=>exact⟨⟨rfl,rfl⟩,q⟩
 | 1,_=>exact⟨⟨rfl,rfl⟩,q⟩
 | 2,_=>exact⟨⟨rfl,rfl⟩,q⟩
theorem sB {u:kc}{Q:PV->Prop}(q:Q (.bl true)):lN false (.int (Fu u)) (.tup [.int 1, .int (-1)]) Q:=by
 cases u
 .exact ⟨⟨rfl,rfl⟩,q⟩
 .exact ⟨⟨rfl,rfl⟩,q⟩
theorem bE {r:Rw}{v:PV}(h:pp r v)(hs:r.sd<3){Q:PV->Prop}(q:Q (.bl true)):Fc [v] Q:=by
 obtain⟨x,y,hx,hy,hv⟩:=h;apply QQ;rcases hv with rfl|rfl;all_goals
  ac_rfl;refine Za hx ?_;ac_rfl;refine Za hy ?_;ac_rfl;refine D9 ?_;ac_rfl;refine D9 ?_;ac_rfl;refine sA hs ?_;ac_rfl;refine sB ?_;ac_rfl;exact q
end
structure Rc (cs:List C4):Prop where
 ok:Ef 12 22 cs
 mu:∀c∈cs,Mul 6 2000 c.1
def sP {N:Nat}:Mul 6 N (0:Rat):=⟨by decide,0,by simp,by simp⟩
def Xy {cs:km C4}{t:Rat}{o:T3}(h:∀c∈cs,Mul 6 600 c.1)(a:Mul 6 1400 t):∀c∈cs.map (KO t o),Mul 6 2000 c.1:=λc hc=>by obtain⟨b,hb,rfl⟩:=AAl.mp hc;exact(h b hb).add a
instance (priority:=high){Q:PV->Prop}:OY (C9 [.tape] Q) True (∀a,Bd 8 a->0<a->Mul 6 48 a->Q (fr a)):=⟨λ_ h=>Hy h⟩
def Eg {cs:km C4}{w:Int}{o:T3}{U W z6 z7 z8:ke AV}{X Y Z:BC->Prop}(h:Hz 12 6 600 cs)(E:E5 11 o){Q:PV->Prop}(q:∀ds,Rc ds->Q (Ah ds)):GU {nx:=X,rt:=Q,bk:=Y,ct:=Z} [some (.val .tape),some (.val (Ah cs)),U,some (.val (.int w)),some (.own [fr o.1,fr o.2.1,fr o.2.2]),W,z6,z7,z8] :=by
 have few:=h.few;have two:=h.two;have b:Ef 12 10 cs:=h.ok (by decide) (by decide);obtain⟨a,r,l,s,h0,el,al⟩:=b.open;have I:cs.getLast?=some l:=by rw[s];exact el
 have F:l∈cs:=ABx I;have bl:=(b.bd l F).m;have f:=lI.mono (n:=11) (by decide);have A:∀{ds:km C4},Hz 12 6 600 ds->Rc ds:=λp=>⟨⟨p.two,p.few,λc hc=>(p.mu c hc).bd (by decide) (by decide),p.ris⟩,λc hc=>(p.mu c hc).m.mono (by decide)⟩;have i:∀c∈cs,Mul 6 600 c.1:=λc hc=>(h.mu c hc).m;ac_rfl
 .exact HQ rfl (by omega) b.bd f E (by decide) (by decide) (q _ ⟨Tv b f E,Xy i sP⟩)
 .rename_i sp bs ps J k K L;refine KL (xs:= [sp,0]) K L λt S=> ?_;have bt:Bd 11 t/\Mul 6 1400 t:=by
   simp only[AAc,AAq,AAr] at S;rcases S with rfl|rfl
   .exact ⟨bs.mono (by decide),J.mono (by decide)⟩
   .exact ⟨f,sP⟩
  obtain⟨bt,mt⟩:=bt;ac_rfl;exact HQ rfl (by omega) b.bd bt E (by decide) (by decide) (q _ ⟨Tv b bt E,Xy i mt⟩)
 .show (cs.map cor).length=(cs.map cor).length/\_;refine⟨rfl, ?_⟩;rw[<-List.map_reverse,k9];refine⟨sJ (n:=12) (by simp;omega) (by decide), ?_⟩;refine Dr (λp:C4×C4=> .tup [cor p.1,cor p.2]) cor (λp=>(p.1.1,p.2.2)) (λ_=>True) (λp _ R hR=> ?_) _ [] (by simp) ?_
  .ac_rfl;exact hR
  rw[ABY];ac_rfl;refine q _ ⟨⟨by simp;omega,by simp;omega,λc hc=> ?_, ?_⟩,λc hc=> ?_⟩;rotate_left 2
  .obtain ⟨⟨u,v⟩,hu,rfl⟩:=AAl.mp hc;exact(i u (ACc hu).1).mono (by decide)
  .obtain ⟨⟨u,v⟩,hu,rfl⟩:=AAl.mp hc;have h1:=b.bd u (ACc hu).1;have h2:=b.bd v (List.mem_reverse.mp (ACc hu).2);exact⟨h1.m.mono (by decide),h2.x.mono (by decide),h2.y.mono (by decide),h2.z.mono (by decide)⟩
  .refine Zl h.ris ?_;rw[ABf];have e:((λx:C4=>x.1) ∘ λp:C4×C4=>((p.1.1,p.2.2):C4))=(λx:C4=>x.1) ∘ Prod.fst:=rfl;rw[e,<-ABf,List.map_fst_zip (by simp)]
 .refine NH λds pd=> ?_;have g:Ef 12 10 ds:=pd.ok (by decide) (by decide);obtain⟨G,r2,l2,B,cY,el2,al2⟩:=g.open;have T:=pd.few;have ba2:=(g.bd G (by rw[B];simp)).m;subst B;have bt:Bd 11 (l.1-G.1):=(Mul.subQ (h.mu l F).m (pd.mu G (by simp)).m).bd (by decide) (by decide);ac_rfl;exact HQ (o:=(0,0,0)) rfl (by omega) g.bd bt ⟨f,f,f⟩ (by decide) (by decide) (q _ ⟨Tv g bt ⟨f,f,f⟩,Xy (λc hc=>(pd.mu c hc).m) ((Mul.subQ (h.mu l F).m (pd.mu G (by simp)).m).mono (by decide))⟩)
 .rename_i k K L x bx y M z bz c N H;have j:=b.bd c H;have hk:k.toNat<cs.length:=by omega
  have O:cs[k.toNat] =c:=by rw[ABD hk] at N;exact AAw N
  rw[show (k+1).toNat=k.toNat+1 by omega];refine q _ ⟨⟨by simp;omega,by simp;omega,λd hd=> ?_, ?_⟩,λd hd=> ?_⟩;rotate_left 2
  .rcases AAn.mp hd with hd|hd
   .rcases AAn.mp hd with hd|hd
    .exact (i d (ADO hd)).mono (by decide)
    .simp at hd;subst hd;exact(i c H).mono (by decide)
   .exact (i d (ADP hd)).mono (by decide)
  .rcases AAn.mp hd with hd|hd
   .rcases AAn.mp hd with hd|hd
    .exact (b.bd d (ADO hd)).mono (by decide)
    .simp at hd;subst hd;exact⟨j.m.mono (by decide),bx.mono (by decide),M.mono (by decide),bz.mono (by decide)⟩
   .exact (b.bd d (ADP hd)).mono (by decide)
  .refine Zl h.ris ?_;have e:cs=cs.take k.toNat ++ [c] ++ cs.drop (k.toNat+1):=by rw[ADs,List.singleton_append,<-O,<-ACx hk,List.take_append_drop]
   conv=>rhs;rw[e]
   simp only[AAu,AAi,ADW]
 .rename_i k K L c N H c0 C D sp bs ps J;have j:=b.bd c H;have P:=b.bd c0 D;have e0:c0=a:=by rw[s] at C;exact(AAw C).symm
  refine q [(c0.1,c.2.1,c.2.2.1,c.2.2.2),(l.1+sp,c.2.1,c.2.2.1,c.2.2.2)] ⟨⟨by simp,by simp,λd hd=> ?_, ?_⟩,λd hd=> ?_⟩;rotate_left 2
  .simp only[AAc,AAq,AAr] at hd;rcases hd with rfl|rfl
   .exact (i c0 D).mono (by decide)
   .exact ((i l F).add J).mono (by decide)
  .simp only[AAc,AAq,AAr] at hd;rcases hd with rfl|rfl
   .exact ⟨P.m.mono (by decide),j.x.mono (by decide),j.y.mono (by decide),j.z.mono (by decide)⟩
   .exact ⟨(bl.add bs).mono (by decide),j.x.mono (by decide),j.y.mono (by decide),j.z.mono (by decide)⟩
  .refine AAg.mpr ⟨λd hd=> ?_,AE0 _ _⟩;simp at hd;subst hd;show c0.1<l.1+sp;rw[e0];grind
 .exact NH λds pd=>q ds (A pd)
def XI {cs:km C4}{d:Rat×Rat}(p:Hz 12 6 600 cs)(b1:Bd 3 d.1)(b2:Bd 3 d.2){Q:PV->Prop}(q:∀ds,Rc ds->Q (Ah ds)):Dc [.tape,Ah cs, .tup [fr d.1,fr d.2]] Q:=by
 have e:=p.few;have two:=p.two;apply ON;ac_rfl;rename_i w l m r n r1;have g:r=0\/r=1\/r=2:=by omega
 have a:Bd 11 (0:Rat):=lI.mono (by decide);have b:∀{k:Int} {R:PV->Prop},0<=k->k<3->(∀f:Rat,Bd 2 f->R (fr f))->Ak (.lst [fr (1/2),fr ((-1:Int):Rat), .tup [.int (-1), .int 3]]) (.int k) R:=λi j h=>by rw[uK];refine KL (xs:= [(1/2:Rat),((-1:Int):Rat), -1/3]) i j λx hx=>h x ?_;simp only[AAc,AAq,AAr] at hx;rcases hx with rfl|rfl|rfl <;> exact sm2
 rcases g with rfl|rfl|rfl
 .ac_rfl;rw[show (if decide ((0:Int)=2)=true then (1:Int) else 0)=0 from rfl];ac_rfl;simp only[lZ,ZY,ADQ,ACz];repeat' (first | exact Eg (o:=(d.1,0,0)) p ⟨b1.mono (by decide),a,a⟩ q|array_mem_dec)
  refine b (by omega) (by omega) λf c=> ?_;ac_rfl;simp only[lZ,ZY,ADQ,ACz];repeat' (first | exact Eg (o:=(d.1*f,0,0)) p ⟨(b1.mul c).mono (by decide),a,a⟩ q|array_mem_dec)
 .ac_rfl;rw[show (if decide ((1:Int)=2)=true then (1:Int) else 0)=0 from rfl];ac_rfl;simp only[lb,ZY,ADQ,ACz];repeat' (first | exact Eg (o:=(0,d.1,0)) p ⟨a,b1.mono (by decide),a⟩ q|array_mem_dec)
  refine b (by omega) (by omega) λf c=> ?_;ac_rfl;simp only[lb,ZY,ADQ,ACz];repeat' (first | exact Eg (o:=(0,d.1*f,0)) p ⟨a,(b1.mul c).mono (by decide),a⟩ q|array_mem_dec)
 .ac_rfl;rw[show (if decide ((2:Int)=2)=true then (1:Int) else 0)=1 from rfl];ac_rfl;simp only[lc,ZY,ADQ,ACz];repeat' (first | exact Eg (o:=(0,0,d.2)) p ⟨a,a,b2.mono (by decide)⟩ q|array_mem_dec)
  refine b (by omega) (by omega) λf c=> ?_;ac_rfl;simp only[lc,ZY,ADQ,ACz];repeat' (first | exact Eg (o:=(0,0,d.2*f)) p ⟨a,a,(b2.mul c).mono (by decide)⟩ q|array_mem_dec)
def hU {a c:C4}{r:km C4}{k:Nat}:(a::r).take (k+1)++c::(a::r).drop (k+1)=a::(r.take k++c::r.drop k):=by simp
theorem WN {c:C4}:∀{k:Nat} {a:C4} {r:km C4} {b e:C4},(a::r)[k]? =some b->r[k]? =some e->JQ (a::r)->b.1<c.1->c.1<e.1->JQ (a::(r.take k++c::r.drop k))
 | 0,a,r,b,e,hb,he,hr,h1,h2=>by
   cases r with
   | nil=>simp at he
   | cons x r=>
     simp at hb he;subst hb he;obtain⟨d,f⟩:=AAg.mp hr;obtain⟨g,h⟩:=AAg.mp f;simp only[List.take_zero,List.drop_zero,ABY];refine AAg.mpr ⟨λy hy=> ?_,AAg.mpr ⟨λy hy=> ?_,f⟩⟩
     .rcases AAc.mp hy with rfl|hy
      .exact h1
      .exact d y hy
     .rcases AAc.mp hy with rfl|hy
      .exact h2
      .have:=g y hy;grind
 | k+1,a,r,b,e,hb,he,hr,h1,h2=>by
   cases r with
   | nil=>simp at he
   | cons x r=>
     obtain⟨d,f⟩:=AAg.mp hr;have ih:=WN (c:=c) (k:=k) (a:=x) (r:=r) (b:=b) (e:=e) (by simpa using hb) (by simpa using he) f h1 h2;simp only[ADe,List.drop_succ_cons,AER];refine AAg.mpr ⟨λy hy=> ?_,ih⟩;rcases AAc.mp hy with rfl|hy
     .exact d y (by simp)
     .rcases AAn.mp hy with hy|hy
      .exact d y (by simp[ADO hy])
      .rcases AAc.mp hy with rfl|hy
       .have:a.1<b.1:=d b (ABN (by simpa using hb));grind
       .exact d y (by simp[ADP hy])
def kD {c b e:C4}{cs:km C4}{k:Nat}(hb:cs[k]? =some b)(he:cs[k+1]? =some e)(d:JQ cs)(h1:b.1<c.1)(h2:c.1<e.1):JQ (cs.take (k+1)++c::cs.drop (k+1)):=by
 cases cs with
 | nil=>simp at hb
 | cons a r=> rw[hU];exact WN hb (by simpa using he) d h1 h2
def Mul.up {D N:Nat}{a:Rat}(h:Mul D N a):Mul (12*D) (30*N) a:=by obtain⟨b,k,rfl,hk⟩:=h;refine⟨by omega,12*k, ?_,by omega⟩;rw[show ((12*D:Nat):Int)=12*(D:Int) by push_cast;rfl,Rat.divInt_mul_left (by decide)]
structure MB (A B:Nat) (cs:List C4):Prop where
 m:∀c∈cs,Bd A c.1
 x:∀c∈cs,D5 B c
def eM {A B M:Nat}{a b:C4}{t:Rat}(ha:Bd A a.1)(hb:Bd A b.1)(c:D5 B a)(d:D5 B b)(bt:Bd M t)(h:a.1<b.1):E5 (M+3*A+3*B+4) (inter a b t):=by
 have n:b.1-a.1≠0:=by grind
 have s:=(bt.sub ha).div n (hb.sub ha);exact⟨(c.x.add (s.mul (d.x.sub c.x))).mono (by omega),(c.y.add (s.mul (d.y.sub c.y))).mono (by omega),(c.z.add (s.mul (d.z.sub c.z))).mono (by omega)⟩
theorem SL {A B M:Nat}{t:Rat}(bt:Bd M t):∀{a:C4} {r:km C4},JQ (a::r)->MB A B (a::r)->∀p,spotG a r t=some p->E5 (M+3*A+3*B+4) p
 | a, [],_,_,p,e=>by cases e
 | a,b::r,h,mb,p,e=>by
   simp only[spotG] at e;have d:=(AAg.mp h).1 b (by simp);split at e
   .exact SL bt (AAg.mp h).2 ⟨λc hc=>mb.m c (by simp[hc]),λc hc=>mb.x c (by simp[hc])⟩ p e
   .cases e;exact eM (mb.m a (by simp)) (mb.m b (by simp)) (mb.x a (by simp)) (mb.x b (by simp)) bt d
def JK {A B M:Nat}{cs:km C4}{t:Rat}{p:T3}(bt:Bd M t)(b:JQ cs)(c:MB A B cs)(e:spotC cs t=some p):E5 (M+3*A+3*B+4) p:=by
 cases cs with
 | nil=>cases e
 | cons a r=>
   simp only[spotC] at e;split at e
   .cases e
   .exact SL bt b c p e
def df {cs ds:km C4}{d:Rat×Rat}{n M S D:Nat}(hn:n<=100)(t1:2<=cs.length)(t2:2<=ds.length)(f1:cs.length<=n)(f2:ds.length<=n)(r1:JQ cs)(r2:JQ ds)(c1:∀c∈cs,D5 150 c)(c2:∀c∈ds,D5 150 c)(m1:∀c∈cs,Bd M c.1)(m2:∀c∈ds,Bd M c.1)(b1:Bd D d.1)(b2:Bd D d.2)(F:0<d.1)(G:0<d.2)(B:D<=100)(hM:M<=150)(H:∀m,BJ cs ds<=m->m<=BE cs ds->Bd M m->∀p,spotC cs m=some p->E5 S p)(I:∀m,BJ cs ds<=m->m<=BE cs ds->Bd M m->∀p,spotC ds m=some p->E5 S p)(hW:2*S+1+D<=1050):GS cs ds d M (2*S+1+D) where
 c1:=c1
 c2:=c2
 r1:=r1
 r2:=r2
 t1:=t1
 t2:=t2
 f1:=by omega
 f2:=by omega
 m1:=m1
 m2:=m2
 b1:=b1.mono B
 b2:=b2.mono B
 p1:=F
 p2:=G
 w:=λh m hm=>by
  have J:Bd M (BJ cs ds):=by obtain⟨a,r,l,rfl,j,e⟩:=open2 t1;obtain⟨k,f,o,rfl,u,b⟩:=open2 t2;exact(m1 a (by simp)).mx (m2 k (by simp))
  have K:Bd M (BE cs ds):=by obtain⟨a,r,l,rfl,j,e⟩:=open2 t1;obtain⟨k,f,o,rfl,u,b⟩:=open2 t2;unfold BE;rw[CP e,CP b];exact(m1 l (ABx e)).mn (m2 o (ABx b))
  have C:qi cs ds (BJ cs ds) (BE cs ds):=by obtain⟨a,r,l,rfl,j,e⟩:=open2 t1;obtain⟨k,f,o,rfl,u,b⟩:=open2 t2;unfold BJ BE at h ⊢;rw[CP e,CP b] at h ⊢;exact iB j u e b h
  obtain⟨g,i⟩:=EQ h hm;have bm:Bd M m:=Fv m1 m2 J K hm;obtain⟨s,es⟩:=C.one m g i;obtain⟨t,E⟩:=C.other m g i;have v:=H m g i bm s es;have A:=I m g i bm t E;have p1:d.1≠0:=by grind
  have p2:d.2≠0:=by grind
  unfold HR;rw[es,E];exact⟨(((v.x.sub A.x).div p1 b1)).mono (by omega),(((v.y.sub A.y).div p1 b1)).mono (by omega),(((v.z.sub A.z).div p2 b2)).mono (by omega)⟩
 hM:=hM
 hW:=hW
structure Ju (cs:List C4):Prop where
 ok:Ef 12 28 cs
 mm:∀c∈cs,Bd 11 c.1
def Rc.y {cs:km C4}(p:Rc cs):Ju cs:=⟨⟨p.ok.two,p.ok.few,λc hc=>(p.ok.bd c hc).mono (by decide),p.ok.ris⟩,λc hc=>(p.mu c hc).bd (by decide) (by decide)⟩
def Ju.mb {cs:km C4}(p:Ju cs):MB 11 28 cs:=⟨p.mm,p.ok.bd⟩
def i5 {cs ds:km C4}{d:Rat×Rat}(p:Ju cs)(p2:Ju ds)(b1:Bd 3 d.1)(b2:Bd 3 d.2)(a:0<d.1)(b:0<d.2):GS cs ds d 11 268:=
 df (n:=12) (S:=132) (D:=3) (by decide) p.ok.two p2.ok.two p.ok.few p2.ok.few p.ok.ris p2.ok.ris (λc hc=>(p.ok.bd c hc).mono (by decide)) (λc hc=>(p2.ok.bd c hc).mono (by decide)) p.mm p2.mm b1 b2 a b (by decide) (by decide) (λm _ _ bm q e=>(JK bm p.ok.ris p.mb e)) (λm _ _ bm q e=>(JK bm p2.ok.ris p2.mb e)) (by decide)
section
variable {cs ds:km C4}{d:Rat×Rat}{M W:Nat}
structure NS (cs ds:List C4) (d:Rat×Rat) (X:Nat) (x:Option Rat) (ff:List Bz) (go:Bool):Prop where
 sep:Sep ff
 ok:∀s∈ff,C3 X s
 fin:∀s∈ff,∃e y,s.2.2=some e/\x=some y/\e<=y
 stop:go=false->∀s∈ff,∃e y,s.2.2=some e/\x=some y/\e<y
 on:go=true->∃f0 b h y,ff=f0 ++ [(b,h,some y)] /\x=some y
 sem:∀m,ff.any (Bp · (m,0))=true↔Fp cs ds d m/\∃y,x=some y/\m<y
theorem Vz {xs:km PV}{x:PV}{R:PV->Prop}(h:R x):Ak (.lst (xs ++ [x])) (.int (-1)) R:=by
 show cZ (Im (xs ++ [x]) (-1)) R;have q:Im (xs ++ [x]) (-1)=some x:=by
  unfold Im Pt;rw[ABR,AFE,AAa (by decide),AAb (by omega)];have a:(-1+((xs.length+1:Nat):Int)).toNat=xs.length:=by omega
  rw[Option.bind_some,a,ABh (AAf _),Nat.sub_self];rfl
 rw[q];exact h
end
end PL
namespace PL.K25
open PySem L2 PL PyProof.Rows
abbrev Jb:AS:=
 (AZ (BI (EI (B2 (Am (AN 1 BR (AB (AY Ak (aV 0) (aC (.int 0))) AM)))) (B2 (Am (AN 1 BR (AB (AY Ak (aV 0) (aC (.int 1))) AM))))) (As (aC (.bl false))) Ay)
   (As (aM (AY lM (AY Ak (aV 0) (aC (.int 1))) (aC (.int 0))) (AY Fz (DZ Bx (AB (aV 0) AM)) (AN 2 BA (AB (AY Ak (aV 0) (aC (.int 0))) (AB (AY Ak (aV 0) (aC (.int 1))) AM)))))))
abbrev Gc:AS:=
 (AZ (BI (EI (B2 (Am (Lc (aV 0) ["list","tuple"]))) (Am (AY Nm (DZ Dw (AB (aV 0) AM)) (aC (.int 2))))) (As (aC (.bl false))) Ay)
   Jb)
def BV:AF:=A0 1 Gc
def Fq {a:PV}{Q:PV->Prop}(h:Gc ⟨λ_=>Q .non,Q,λ_=>False,λ_=>False⟩ [some (.val a)]):BV [a] Q:=h
abbrev Mb:AS:=
 (AZ (BI (EI (B2 (Am (AN 1 BR (AB (AY Ak (aV 0) (aC (.int 2))) AM)))) (EI (B2 (Am (AN 1 BR (AB (AY Ak (aV 0) (aC (.int 3))) AM)))) (EI (B2 (Am (uW yY cW (aC (.int 0)) (AY Ak (aV 0) (aC (.int 2))) (aC (.int 3))))) (Am (AY Nm (DZ Td (AB (AY Ak (aV 0) (aC (.int 3))) AM)) (aC (.int 1))))))) (As (aC (.bl false))) Ay)
   (As (AN 2 Av (AB (AY Ak (aV 0) (aC (.int 0))) (AB (AY Ak (aV 0) (aC (.int 1))) AM)))))
abbrev Jp:AS:=
 (AZ (BI (EI (B2 (Am (Lc (aV 0) ["list","tuple"]))) (EI (Am (AY Nm (DZ Dw (AB (aV 0) AM)) (aC (.int 4)))) (EI (B2 (Am (AN 1 BV (AB (AY Ak (aV 0) (aC (.int 0))) AM)))) (B2 (Am (AN 1 BV (AB (AY Ak (aV 0) (aC (.int 1))) AM))))))) (As (aC (.bl false))) Ay)
   Mb)
def Cu:AF:=A0 1 Jp
def OP {a:PV}{Q:PV->Prop}(h:Jp ⟨λ_=>Q .non,Q,λ_=>False,λ_=>False⟩ [some (.val a)]):Cu [a] Q:=h
abbrev Jc:AS:=
 (AZ (Aj (AY Ak (AN 4 Ev (AB (aV 0) (AB (aV 1) (AB (aV 2) (AB (aV 5) AM))))) (AY Ak (aV 3) (aC (.int 2)))) (Aq 8))
   (BI (Am (AY cW (AY DW (AY Ak (aV 3) (aC (.int 3))) (AY Ak (aV 8) (aC (.int 0)))) (AY Ak (aV 8) (aC (.int 1))))) (As (aC (.bl false))) Ay))
abbrev Je:AS:=
 (AZ (FA (IM (AY A4 (AY A4 (Db (B0 (AB (aV 6) AM))) (aV 4)) (Db (B0 (AB (aV 7) AM))))) (Aq 5) Jc)
   (As (aC (.bl true))))
abbrev Jd:AS:=
 (AZ (Aj (Db (CD (IM (AN 2 Ci (AB (aV 0) (AB (aV 1) AM)))) 1 [6,7] (Aq 0) (Lb (Am (AN 2 Av (AB (aV 1) (AB (aV 0) AM)))) (Am (AN 2 Av (AB (aV 0) (AB (aV 2) AM))))) (aV 0))) (Aq 4))
   Je)
abbrev Gd:AS:=
 (AZ (Aj (Ar (AB (DZ Bx (AB (AY Ak (aV 3) (aC (.int 0))) AM)) (AB (DZ Bx (AB (AY Ak (aV 3) (aC (.int 1))) AM)) AM))) (JR 2 (Af (Aq 6) (Af (Aq 7) Bw))))
   Jd)
def CT:AF:=A0 9 Gd
def Kb {a b c d:PV}{Q:PV->Prop}(h:Gd ⟨λ_=>Q .non,Q,λ_=>False,λ_=>False⟩ [some (.val a),some (.val b),some (.val c),some (.val d),none,none,none,none,none]):CT [a,b,c,d] Q:=h
abbrev N8:AS:=
 (AZ (BI (EI (Am (AY Nm (AY Ak (aV 5) (aC (.int 0))) (AY Ak (aV 4) (aC (.int 0))))) (EI (Am (AY Nm (AY Ak (aV 6) (Jv EA (aC (.int 1)))) (AY Ak (aV 4) (Jv EA (aC (.int 1)))))) (Am (AY Nm (TM (aV 5) (TU (aC (.int 1))) TR) (TM (aV 6) TR (TU (Jv EA (aC (.int 1))))))))) (As (aC (.bl false))) Ay)
   (As (DZ (aZ λbs=>bs.all id) (AB (Db (CD (IM (aV 3)) 1 [0,1,2] (Aq 0) EJ (AN 4 CT (AB (aV 1) (AB (aV 2) (AB (aV 3) (AB (aV 0) AM))))))) AM))))
abbrev N7:AS:=
 (AZ (Aj (Db (CD (IM (aV 3)) 1 [] (Aq 0) EJ (DZ Bx (AB (AY Ak (aV 0) (aC (.int 1))) AM)))) (Aq 6))
   N8)
abbrev N6:AS:=
 (AZ (Aj (Db (CD (IM (aV 3)) 1 [] (Aq 0) EJ (DZ Bx (AB (AY Ak (aV 0) (aC (.int 0))) AM)))) (Aq 5))
   N7)
abbrev N5:AS:=
 (AZ (BI (EI (Am (AY Fz (DZ Dw (AB (aV 4) AM)) (aC (.int 0)))) (Am (AY Fz (DZ Dw (AB (aV 3) AM)) (aC (.int 0))))) (As (AY Fz (DZ Dw (AB (aV 4) AM)) (DZ Dw (AB (aV 3) AM)))) Ay)
   N6)
abbrev N4:AS:=
 (AZ (Aj (AN 2 Ci (AB (aV 0) (AB (aV 1) AM))) (Aq 4))
   N5)
abbrev LJ:AS:=
 (AZ (BI (EI (B2 (Am (Lc (aV 3) ["list","tuple"]))) (Am (AY (lN false) (aC (.bl false)) (Db (CD (IM (aV 3)) 1 [] (Aq 0) EJ (AN 1 Cu (AB (aV 0) AM))))))) (As (aC (.bl false))) Ay)
   N4)
def CH:AF:=A0 7 LJ
def QO {a b c d:PV}{Q:PV->Prop}(h:LJ ⟨λ_=>Q .non,Q,λ_=>False,λ_=>False⟩ [some (.val a),some (.val b),some (.val c),some (.val d),none,none,none]):CH [a,b,c,d] Q:=h
abbrev Jg:AS:=
 (AZ (Aj (AN 2 A8 (AB (aV 0) (AB (aC (.int 3)) AM))) (Aq 7))
   (Q1 6 (aV 7) (AN 2 BN (AB (AY Ak (aV 1) (DZ Te (AB (AY Fz (aV 7) (aC (.int 2))) AM))) (AB (AY Ak (Db (B0 (AB (Ar (AB (aC (.int 1)) (AB (aC (.int 1)) AM))) (AB (Ar (AB (Jv EA (aC (.int 1))) (AB (aC (.int 1)) AM))) (AB (Ar (AB (aC (.int 3)) (AB (aC (.int 2)) AM))) AM))))) (AN 2 A8 (AB (aV 0) (AB (aC (.int 3)) AM)))) AM)))))
abbrev Ch:AS:=
 (AZ (Q1 6 (aV 4) (AN 2 BN (AB (AY Ak (aV 1) (DZ Te (AB (AY Fz (aV 4) (aC (.int 2))) AM))) (AB (AY Ak (Db (B0 (AB (Ar (AB (aC (.int 1)) (AB (aC (.int 1)) AM))) (AB (Ar (AB (aC (.int 1)) (AB (aC (.int 1)) AM))) (AB (Ar (AB (aC (.int 2)) (AB (aC (.int 1)) AM))) AM))))) (AN 2 A8 (AB (aV 0) (AB (aC (.int 3)) AM)))) AM))))
   (Fl 3 NA (AB (Qz (AY A4 (Ar (AB (AY Ak (aV 5) (aC (.int 0))) AM)) (DZ Bx (AB (Db (CD (Q2 (AB (aC (.int 3)) AM)) 1 [5,6] (Aq 0) EJ (AN 2 Bc (AB (AY Ak (aV 1) (AY A4 (aV 0) (aC (.int 1)))) (AB (AY Ak (aV 2) (aV 0)) AM))))) AM)))) AM)))
abbrev EE:AS:=
 (AZ (BI (Am (AY Fz (AN 2 A8 (AB (aV 0) (AB (aC (.int 3)) AM))) (aC (.int 0)))) Jg Ay)
   Ch)
abbrev FP:AS:=
 (AZ (II (B0 (AB (Ar (AB (aC (.int 0)) (AB (aC (.int 1)) AM))) (AB (Ar (AB (aC (.int 0)) (AB (aC (.int 1)) AM))) (AB (Ar (AB (aC (.int 0)) (AB (aC (.int 1)) AM))) AM)))) 6)
   EE)
abbrev Jj:AS:=
 (AZ (FA (IM (aV 2)) (Aq 5) FP)
   (As (Ar (AB (aV 2) (AB (DZ Bx (AB (aV 3) AM)) AM)))))
abbrev Ji:AS:=
 (AZ (Aj (AN 2 A8 (AB (aV 0) (AB (aC (.int 3)) AM))) (Aq 4))
   Jj)
abbrev Jh:AS:=
 (AZ (II (B0 AM) 3)
   Ji)
abbrev Ge:AS:=
 (AZ (Aj (AN 1 CS (AB (aV 0) AM)) (Aq 2))
   Jh)
def CV:AF:=A0 8 Ge
def Kh {a b:PV}{Q:PV->Prop}(h:Ge ⟨λ_=>Q .non,Q,λ_=>False,λ_=>False⟩ [some (.val a),some (.val b),none,none,none,none,none,none]):CV [a,b] Q:=h
def Tp {cs ds:km C4}{d:Rat×Rat}{M W B X:Nat}(hc:∀c∈cs,D5 B c)(f:∀c∈ds,D5 B c)(n:X+6*B+10<=1900)(D:GS cs ds d M W){b e m:Rat}(g:qi cs ds b e)(h1:b<=m)(h2:m<=e)(bm:Bd X m){Q:PV->Prop}(q:Q (.lst ((wW (HR cs ds d m)).map fr))):Ev [Ah cs,Ah ds, .tup [fr d.1,fr d.2],fr m] Q:=by
 have hM:=D.hM;obtain⟨s,es⟩:=g.one m h1 h2;obtain⟨t,a⟩:=g.other m h1 h2;have t1:=(E5.spotC bm D.r1 hc s es).mono (B':=1900) (by omega);have t2:=(E5.spotC bm D.r2 f t a).mono (B':=1900) (by omega);have h:=t1.x;have i:=t1.y;have j:=t1.z;have y1:=t2.x;have y2:=t2.y;have y3:=t2.z;have o:=h.sub y1;have p:=i.sub y2;have r:=j.sub y3;have b1:=D.b1;have b2:=D.b2;have u:d.1≠0:=by have:=D.p1;grind
 have v:d.2≠0:=by have:=D.p2;grind
 have f1:=D.f1;have f2:=D.f2;have k:=D.t1;have l:=D.t2;apply RP;ac_rfl;refine Fb hc D.r1 (by intro z;subst z;simp at k) (by omega) bm (by omega) ?_;rw[es,show MI (some s)= .tup [fr s.1,fr s.2.1,fr s.2.2] from rfl];ac_rfl;refine Fb f D.r2 (by intro z;subst z;simp at l) (by omega) bm (by omega) ?_;rw[a,show MI (some t)= .tup [fr t.1,fr t.2.1,fr t.2.2] from rfl];ac_rfl;rw[show rng 0 (Int.toNat 3)= [.int 0, .int 1, .int 2] from rfl];repeat' array_get_dec
 rw[show (if decide ((0:Int)=2)=true then (1:Int) else 0)=0 from rfl];repeat' array_get_dec
 rw[show (if decide ((1:Int)=2)=true then (1:Int) else 0)=0 from rfl];repeat' array_get_dec
 rw[show (if decide ((2:Int)=2)=true then (1:Int) else 0)=1 from rfl];repeat' array_get_dec
 have q:Q (.lst ((wW (KQ ((spotC cs m).getD (0,0,0)) ((spotC ds m).getD (0,0,0)) d)).map fr)):=q;rw[es,a] at q;exact q
def fH {r:Rat}{v:PV}(b:Bd 8000 r)(hv:vI r v){Q:PV->Prop}(q:Q (.bl true)):BV [v] Q:=by
 have c:=r.den_pos;have hv:v= .tup [.int r.num, .int (r.den:Int)] \/v= .lst [.int r.num, .int (r.den:Int)] :=hv;have a:∀{Q:PV->Prop},Q (.bl true)->Fz (.tup [.int r.num, .int (r.den:Int)]) (fr r) Q:=λ{Q} q=>by show Fz (fr r) (fr r) Q;refine⟨⟨rfl,rfl⟩, ?_⟩;rw[TY,AAt rfl];exact q
 rcases hv with rfl|rfl;all_goals
  apply Fq;ac_rfl;refine D9 ?_;ac_rfl;refine D9 ?_;ac_rfl;rotate_left
  .exfalso;omega
  refine B7 _ _ (Bf r) (Aw b.top (by decide)) (Aw b.botI (by decide)) ?_;rw[ABv];exact a q
section
variable {cs ds:km C4}{d:Rat×Rat}{M W:Nat}
theorem nP {o:T3}{k:Nat}(hk:k<3){R:PV->Prop}(h:R (fr (FT o k))):Ak (.lst ((wW o).map fr)) (.int (k:Nat)) R:=by
 match k,hk with
 | 0,_=>exact h
 | 1,_=>exact h
 | 2,_=>exact h
theorem ZW {g:Rat}:g.num<(g.den:Int)↔g<1:=by rw[Rat.lt_iff];show _↔g.num*1<1*(g.den:Int);omega
theorem tZ {u:kc}{n:Int}{k:Nat}(h:n.natAbs<2^k)(hk:k<=100000):MulOk (Fu u) n:=by
 cases u
 .exact MulOk.of (m:=2) (n:=k) (by decide) h (by omega) (by omega)
 .exact MulOk.of (m:=2) (n:=k) (by decide) h (by omega) (by omega)
theorem Y2 {e:Rat}:∀{rs:km Rw} {b:Rat},VL b e rs->(rs.map (·.b)).tail=(rs.map (·.e)).dropLast
 | [],_,_=>rfl
 | [r],_,_=>rfl
 | r::s::rs,_,h=>by have ih:=Y2 (rs:=s::rs) h.2;have h1:s.b=r.e:=h.2.1;simp only[AAi,AEa,List.dropLast_cons₂] at ih ⊢;rw[h1,ih]
theorem Ro {e:Rat}:∀{rs:km Rw} {b:Rat},rs≠ [] ->VL b e rs->(rs.map (·.e)).getLast?=some e
 | [],_,h,_=>absurd rfl h
 | [r],_,_,h=>by have:r.e=e:=h.2;simp[this]
 | r::s::rs,_,_,h=>by have:=Ro (rs:=s::rs) (by simp) h.2;simpa using this
theorem dY (xs:km Rat):Eh (xs.map fr) (some 1) none=xs.tail.map fr:=by have h1:∀ys:km PV,Eh ys (some 1) none=ys.drop 1:=qr;rw[h1,<-ACh,List.drop_one]
theorem e7 {xs:km Rat}{x:Rat}(e:xs.getLast?=some x){R:PV->Prop}(h:R (fr x)):Ak (.lst (xs.map fr)) (.int (-1)) R:=by obtain⟨u,hu⟩:=AE7.mp e;rw[hu,AAu];exact Vz h
def yZ (r:Rat):PV:= .lst [.int r.num, .int (r.den:Int)]
def rwL (r:Rw):PV:= .lst [yZ r.b,yZ r.e, .int (r.sd:Nat), .int (Fu r.up)]
theorem pp.lists (r:Rw):pp r (rwL r):=⟨_,_, .inr rfl, .inr rfl, .inr rfl⟩
theorem TV {d:Rat×Rat}{k:Int}{R:PV->Prop}(h:∀x,(x=d.1\/x=d.2)->R (fr x)):Ak (.tup [fr d.1,fr d.2]) (.int (if decide (k=2)=true then 1 else 0)) R:=by
 by_cases e:k=2
 .rw [AAt e,AAb rfl];exact h _ (.inr rfl)
 .rw [AAm e,AAa (by decide)];exact h _ (.inl rfl)
theorem uv {a b c:PV}{P:Nat->Prop}(h:P 0):ZY (Pt [a,b,c].length 0) P:=h
theorem uw {a b c:PV}{P:Nat->Prop}(h:P 1):ZY (Pt [a,b,c].length 1) P:=h
theorem ux {a b c:PV}{P:Nat->Prop}(h:P 2):ZY (Pt [a,b,c].length 2) P:=h
theorem Ou {d:Rat×Rat}{c:C4}{k:km C4}{x y z:Rat}{a:Int}{n:PV}{b:ke AV}{D:Hk}(b1:Bd 3 d.1)(b2:Bd 3 d.2)(o:D5 22 c)(gl:k.length<=12)(r:Bd 5 x)(l:Bd 5 y)(s:Bd 5 z)(C:0<=a)(E:a<3)(q:∀(e:C4) g b,e.1=c.1->D5 28 e->D.nx [some (.val .tape),some (.val (.tup [fr d.1,fr d.2])),some (.val n),some (.own ((k ++ [e]).map cor)),some (.val (.int a)),some (.val (cor c)),g,b]):Ch D [some (.val .tape),some (.val (.tup [fr d.1,fr d.2])),some (.val n),some (.own (k.map cor)),some (.val (.int a)),some (.val (cor c)),some (.own [fr x,fr y,fr z]),b] :=by
 obtain⟨nx,rt,bk,ct⟩:=D;have q:∀(e:C4) g b,e.1=c.1->D5 28 e->nx [some (.val .tape),some (.val (.tup [fr d.1,fr d.2])),some (.val n),some (.own ((k ++ [e]).map cor)),some (.val (.int a)),some (.val (cor c)),g,b] :=q;have t:∀f∈ [(1:Rat),1,2],Bd 2 f:=by intro f p;simp only[AAc,AAq,AAr] at p;rcases p with rfl|rfl|rfl <;> exact⟨by decide +kernel,by decide +kernel⟩
 have u:∀w,(w=d.1\/w=d.2)->Bd 3 w:=λw h=>by rcases h with rfl|rfl <;> assumption
 have i:∀(x y z:Rat),Bd 5 x->Bd 5 y->Bd 5 z->∀g b,nx [some (.val .tape),some (.val (.tup [fr d.1,fr d.2])),some (.val n),some (.own (k.map cor ++ [.tup [fr c.1,fr (c.2.1+x),fr (c.2.2.1+y),fr (c.2.2.2+z)]])),some (.val (.int a)),some (.val (cor c)),g,b] :=λx y z h1 h2 v g b=>by have:=q (c.1,c.2.1+x,c.2.2.1+y,c.2.2.2+z) g b rfl ⟨o.m.mono (by decide),(o.x.add h1).mono (by decide),(o.y.add h2).mono (by decide),(o.z.add v).mono (by decide)⟩;rw[AAu] at this;exact this
 clear q;rcases (show a=0\/a=1\/a=2 by omega) with rfl|rfl|rfl;all_goals
  ac_rfl;refine TV λw hw=> ?_;have A:=u w hw;ac_rfl;refine KL (xs:= [1,1,2]) (by assumption) (by assumption) λf p=> ?_;have B:=t f p;have j:=A.mul B;ac_rfl;first | refine uv ?_|refine uw ?_|refine ux ?_
  simp only[List.set];ac_rfl;rw[show rng 0 (Int.toNat 3)= [.int 0, .int 1, .int 2] from rfl];repeat' array_get_dec
  rw[show (0:Int)+1=1 from rfl];repeat' array_get_dec
  rw[show (1:Int)+1=2 from rfl];repeat' array_get_dec
  rw[show (2:Int)+1=3 from rfl];repeat' array_get_dec
  first | exact i _ _ _ j l s _ _|exact i _ _ _ r j s _ _|exact i _ _ _ r l j _ _
theorem Oi {cs:km C4}(a:Hz 12 6 600 cs):Rc cs:=⟨⟨a.two,a.few,λc hc=>(a.mu c hc).bd (by decide) (by decide),a.ris⟩,λc hc=>(a.mu c hc).m.mono (by decide)⟩
theorem iG {d:Rat×Rat}(b1:Bd 3 d.1)(b2:Bd 3 d.2){Q:PV->Prop}(q:∀cs ds,Hz 12 6 600 cs->Ju ds->Q (.tup [Ah cs,Ah ds])):CV [.tape, .tup [fr d.1,fr d.2]] Q:=by
 apply Kh;ac_rfl;refine NH λcs l=> ?_;have x:=Oi l;have E:=l.few;ac_rfl;rename_i z o p;refine DN cor (λA vs τ=>∃(a:km C4) (u m n:ke AV),a.map (·.1)=A.map (·.1)/\(∀g∈a,D5 28 g)/\τ= [some (.val .tape),some (.val (.tup [fr d.1,fr d.2])),some (.val (Ah cs)),some (.own (a.map cor)),some (.val (.int z)),u,m,n]) ?_ ?_ ⟨[],_,_,_,rfl,by simp,rfl⟩
 .rintro τ ⟨a,u,m,n,e,v,rfl⟩;ac_rfl;have B:a.length=cs.length:=by have:=congrArg List.length e;simpa using this
  refine q cs a l ⟨⟨by rw[B];exact l.two,by rw[B];exact l.few,v, ?_⟩,λc hc=> ?_⟩
  .have h1:(cs.map (·.1)).Pairwise (· < ·):=ADt.mpr l.ris;rw[<-e] at h1;exact ADt.mp h1
  .have:c.1∈cs.map (·.1):=by rw[<-e];exact AAl.mpr ⟨c,hc,rfl⟩
   obtain⟨F,G,H⟩:=AAl.mp this;rw[<-H];exact x.y.mm F G
 .rintro A c vs e τ R C ⟨a,u,m,n,D,v,rfl⟩;have r:=x.ok.bd c (by rw[<-e];simp);have gl:a.length<=12:=by have h1:=congrArg List.length D;have h2:=congrArg List.length e;simp at h1 h2;omega
  have b:∀(e:C4) m n,e.1=c.1->D5 28 e->R [some (.val .tape),some (.val (.tup [fr d.1,fr d.2])),some (.val (Ah cs)),some (.own ((a ++ [e]).map cor)),some (.val (.int z)),some (.val (cor c)),m,n] :=λe m n h1 h2=>C _ ⟨a ++ [e],_,_,_,by rw[AAu,AAu,D];simp[h1],λg I=>by
   rcases AAn.mp I with h|h
   .exact v g h
   .rcases ABZ.mp h with rfl;exact h2,rfl⟩
  clear C;have J:∀f∈ [(1:Rat), -1,3/2],Bd 2 f:=by intro f s;simp only[AAc,AAq,AAr] at s;rcases s with rfl|rfl|rfl <;> exact⟨by decide +kernel,by decide +kernel⟩
  have K:∀w,(w=d.1\/w=d.2)->Bd 3 w:=λw h=>by rcases h with rfl|rfl <;> assumption
  have i:Bd 5 (0:Rat):=lI.mono (by decide);unfold FP EE;generalize t:Ch=T;ac_rfl
  .rename_i k O P;refine TV λw hw=> ?_;have L:=K w hw;ac_rfl;refine KL (xs:= [1, -1,3/2]) (by assumption) (by assumption) λf s=> ?_;have N:=J f s;have j:=L.mul N;ac_rfl;rcases (show k=0\/k=1\/k=2 by omega) with rfl|rfl|rfl
   .refine uv ?_;simp only[List.set];ac_rfl;subst t;exact Ou b1 b2 r gl j i i o p b
   .refine uw ?_;simp only[List.set];ac_rfl;subst t;exact Ou b1 b2 r gl i j i o p b
   .refine ux ?_;simp only[List.set];ac_rfl;subst t;exact Ou b1 b2 r gl i i j o p b
  .subst t;exact Ou b1 b2 r gl i i i o p b
end
end PL.K25
namespace PL.K26
open PySem L2 PL PL.K25 PyProof.Rows
structure Rx where
 r:Rw
 dbl:Bool
def uX (q:Rat)(b:kc):PV:=if b=true then .tup [.int (2*q.num), .int (2*(q.den:Int))] else fr q
def R6 (x:Rx):PV:= .tup [uX x.r.b x.dbl,fr x.r.e, .int (x.r.sd:Nat), .int (Fu x.r.up)]
structure Il (X:Nat) (x:Rx):Prop where
 bb:Bd X x.r.b
 be:Bd X x.r.e
 sd:x.r.sd<3
def tO {r:Rw}:R6 ⟨r,false⟩=IL r:=rfl
def eO (q:Rat):Tl [.int (2*q.num), .int (2*(q.den:Int))] =false:=by
 have a:(2*q.num).natAbs=2*q.num.natAbs:=by omega
 have b:(2*(q.den:Int)).natAbs=2*q.den:=by omega
 have n:¬Nat.gcd (2*q.num).natAbs (2*(q.den:Int)).natAbs=1:=by rw[a,b,Nat.gcd_mul_left];omega
 show (decide (0<2*(q.den:Int))&&decide (Nat.gcd (2*q.num).natAbs (2*(q.den:Int)).natAbs=1))=false;rw[AAm n,AE8]
def eS {x:Rx}(hs:x.r.sd<3){Q:PV->Prop}(q:Q (.bl (!x.dbl))):Fc [R6 x] Q:=by
 obtain⟨r,b⟩:=x;cases b with
 | false=>exact bE (pp.self r) hs q
 | true=>
   show Fc [.tup [.tup [.int (2*r.b.num), .int (2*(r.b.den:Int))],fr r.e, .int (r.sd:Nat), .int (Fu r.up)]] Q;apply QQ;ac_rfl;refine WJ (B:=2*r.b.den+1) (.inl rfl) (by simp) ⟨λy hy=> ?_,λa b e=> ?_⟩ ?_
   .simp only[AAc,AAq,AAr] at hy;rcases hy with rfl|rfl <;> exact λz=>by cases z
   .cases e;omega
   rw[eO];ac_rfl;exact q
section
variable {cs ds:km C4}{d:Rat×Rat}{M W:Nat}
def cV (cs ds:km C4)(d:Rat×Rat)(r:Rw):Prop:=∀m∈DH cs ds r.b r.e,1<=(Fu r.up:Rat)*FT (HR cs ds d m) r.sd
def Jt (cs ds:km C4)(d:Rat×Rat)(e:Rat):Rat->km Rx->Prop
 | b, [] =>b=e
 | b,x::xs=>(x.dbl=false/\x.r.b=b/\x.r.b<x.r.e/\x.r.e<=e/\cV cs ds d x.r)/\Jt cs ds d e x.r.e xs
def Good (cs ds:km C4)(d:Rat×Rat)(xs:km Rx):Prop:=if BJ cs ds<BE cs ds then Jt cs ds d (BE cs ds) (BJ cs ds) xs else xs= []
theorem Wd (D:GS cs ds d M W){v w u:PV}{B X:Nat}(hc:∀c∈cs,D5 B c)(t:∀c∈ds,D5 B c)(hv:CC cs v)(hw:CC ds w)(hu:Wz d u){xs:km Rx}(y:xs.length<=500)(ok:∀x∈xs,Il X x)(A:2*(X+6*B+10)<=3980)(C:B<=X)(n:M<=X){Q:PV->Prop}(f:Good cs ds d xs->Q (.bl true))(a:¬Good cs ds d xs->Q (.bl false)):Bk [v,w,u, .tup (xs.map R6)] Q:=by
 have J:=D.endB.mono n;apply MD;ac_rfl;refine Z5 D hv hw (λh=> ?_) (λh=> ?_)
 .unfold Good at f a;rw[AAb h] at f a;ac_rfl;refine DN R6 (λE vs τ=>∃x i j l,Bd X x/\BJ cs ds<=x/\(Jt cs ds d (BE cs ds) (BJ cs ds) xs↔Jt cs ds d (BE cs ds) x vs)/\τ= [some (.val v),some (.val w),some (.val u),some (.val _),some (.val (.tup [fr (BJ cs ds),fr (BE cs ds)])),i,some (.val (fr x)),some (.val (fr (BE cs ds))),j,l]) ?_ ?_ ⟨BJ cs ds,_,_,_,D.begB.mono n,by grind,Iff.rfl,rfl⟩
  .rintro τ ⟨x,i,j,l,F,lo,hx,rfl⟩;have hx:Jt cs ds d (BE cs ds) (BJ cs ds) xs↔x=BE cs ds:=hx;ac_rfl;by_cases e:x=BE cs ds
   .rw [AAt e];exact f (hx.mpr e)
   .rw [AAm e];exact a λz=>e (hx.mp z)
  .rintro E x vs e τ R G ⟨b,i,j,l,F,lo,hx,rfl⟩;have o:=ok x (by rw[<-e];simp);obtain⟨r,g⟩:=x;have H:Bd X r.b:=o.bb;have p:Bd X r.e:=o.be;have os:r.sd<3:=o.sd;have hx:Jt cs ds d (BE cs ds) (BJ cs ds) xs↔(g=false/\r.b=b/\r.b<r.e/\r.e<=BE cs ds/\cV cs ds d r)/\Jt cs ds d (BE cs ds) r.e vs:=hx;ac_rfl;refine eS os ?_;cases g with
   | true=> ac_rfl;exact a λz=>by cases (hx.mp z).1.1
   | false=>
     rw[tO];unfold IL;ac_rfl
     .rename_i z;exact a λk=>z (hx.mp k).1.2.1
     .rename_i z;exact a λk=>z (hx.mp k).1.2.2.1
     .rename_i z;exact a λk=>by have:=(hx.mp k).1.2.2.2.1;grind
     .rename_i I s K;refine eH D (r:=r) hc t hv hw hu os H p (by grind) s (by grind) A C (λm=> ?_) (λm=> ?_)
      .ac_rfl;exact G _ ⟨r.e,_,_,_,p,by grind,⟨λk=>(hx.mp k).2,λk=>hx.mpr ⟨⟨rfl,I,s,by grind,m⟩,k⟩⟩,rfl⟩
      .ac_rfl;exact a λk=>m (hx.mp k).1.2.2.2.2
 .unfold Good at f a;rw[AAa h] at f a;ac_rfl;cases xs with
  | nil=>exact f rfl
  | cons x xs=> have e:decide (((x::xs).length:Int)=0)=false:=AAm (by rw[AAz];omega);rw[e];exact a (by simp)
theorem sH {q:Rat}{b:kc}(a:Bd 1990 q){Q:PV->Prop}(h:Q (.bl (!b))):BV [uX q b] Q:=by
 cases b with
 | false=>exact fH (a.mono (by decide)) (.inl rfl) h
 | true=>
   have g:=q.den_pos;show BV [.tup [.int (2*q.num), .int (2*(q.den:Int))]] Q;have i:Bd 1 (1:Rat):=⟨by decide,by decide⟩;have t1:(2*q.num).natAbs<2^1991:=by have:=a.top;rw[ADC];show 2*_<_;omega
   have t2:(2*(q.den:Int)).natAbs<2^1991:=by have:=a.botI;rw[ADC];show 2*_<_;omega
   have c:∀{Q:PV->Prop},Q (.bl false)->Fz (.tup [.int (2*q.num), .int (2*(q.den:Int))]) (fr q) Q:=λ{Q} h=>by
    refine⟨⟨rfl,rfl⟩, ?_⟩;have e:Ru (.tup [.int (2*q.num), .int (2*(q.den:Int))]) (fr q)=(decide (2*q.num=q.num)&&decide (2*(q.den:Int)=q.den)):=by simp[Ru,pd,NG,fr,PyData.eqv,PyData.eqvAll];rfl
    rw[e,AAm (p:=2*(q.den:Int)=q.den) (by omega),AE8];exact h
   apply Fq;ac_rfl;refine D9 ?_;ac_rfl;refine D9 ?_;ac_rfl;rotate_left
   .exfalso;omega
   refine B7 _ _ (by omega) (Aw t1 (by decide)) (Aw t2 (by decide)) ?_;have f:Rat.divInt (2*q.num) (2*(q.den:Int))=q:=by rw[Rat.divInt_mul_left (by decide:(2:Int)≠0),ABv]
   rw[f];exact c h
theorem bD {x:Rx}{X:Nat}(o:Il X x)(f:X<=1990){Q:PV->Prop}(q:Q (.bl (!x.dbl&&decide (x.r.b<x.r.e)))):Cu [R6 x] Q:=by
 obtain⟨r,b⟩:=x;have a:Bd X r.b:=o.bb;have c:Bd X r.e:=o.be;have os:r.sd<3:=o.sd;have q:Q (.bl (!b&&decide (r.b<r.e))):=q;have g:(((Fu r.up).natAbs:Nat):Int)=1:=by cases r.up <;> rfl
 show Cu [.tup [uX r.b b,fr r.e, .int (r.sd:Nat), .int (Fu r.up)]] Q;apply OP;ac_rfl;refine sH (a.mono (by omega)) ?_;cases b with
 | true=> ac_rfl;exact q
 | false=>
   ac_rfl;refine fH (c.mono (by omega)) (.inl rfl) ?_;ac_rfl;refine D9 ?_;ac_rfl;refine D9 ?_;ac_rfl;all_goals first | (exfalso;omega)|skip
   refine Br (a.mono (by omega)) (c.mono (by omega)) ?_;exact q
theorem OZ {a:Type}(f:a->kc):∀xs:km a,Io (xs.map λx=>PV.bl (f x))=some (xs.map f)
 | [] =>rfl
 | x::xs=>by have:=OZ f xs;simp only[AAi,Io,this];rfl
theorem ql {a:Type}{f:a->kc}{xs:km a}{Q:PV->Prop}(c:(∀x∈xs,f x=true)->Q (.bl true))(e:(¬∀x∈xs,f x=true)->Q (.bl false)):aZ (λbs=>bs.all id) [.lst (xs.map λx=>PV.bl (f x))] Q:=by
 refine ly (OZ f xs) ?_;cases h:(xs.map f).all id with
 | true=> refine c λx hx=> ?_;rw[ABi] at h;exact h (f x) (AAl.mpr ⟨x,hx,rfl⟩)
 | false=>
   refine e λz=> ?_;have:(xs.map f).all id=true:=by rw[ABi];intro b hb;obtain⟨x,hx,rfl⟩:=AAl.mp hb;exact z x hx
   rw[this] at h;cases h
theorem wS {a:Type}{f:a->kc}{xs:km a}{Q:PV->Prop}(b:(∀x∈xs,f x=true)->Q (.bl false))(c:(¬∀x∈xs,f x=true)->Q (.bl true)):lN false (.bl false) (.lst (xs.map λx=>PV.bl (f x))) Q:=by
 refine⟨⟨rfl,Gx λx hx=> ?_⟩, ?_⟩
 .obtain ⟨_,_,rfl⟩:=AAl.mp hx;rfl
 rw[AAa (by decide)];cases h:iO (.bl false) (xs.map λx=>PV.bl (f x)) with
 | false=>
   refine b λx hx=> ?_;unfold iO at h;rw[AC6] at h;have:=h (.bl (f x)) (AAl.mpr ⟨x,hx,rfl⟩);cases e:f x with
   | true=>rfl
   | false=> rw[e] at this;exact absurd (by decide +kernel) this
 | true=>
   refine c λz=> ?_;have:iO (.bl false) (xs.map λx=>PV.bl (f x))=false:=by unfold iO;rw[AC6];intro x hx;obtain⟨y,hy,rfl⟩:=AAl.mp hx;rw[z y hy];decide +kernel
   rw[this] at h;cases h
theorem o8 {u:kc}{x:Rat}:Fu u*x.num<(x.den:Int)↔(Fu u:Rat)*x<1:=by
 cases u
 .have h2:=ZW (g:= -x);rw[Rat.neg_num,Rat.neg_den] at h2;have a:((Fu false:Int):Rat)= -1:=rfl;rw[a];have e:(-1:Rat)*x= -x:=by grind
  rw[e,<-h2];show (-1)*x.num<_↔_;rw[show (-1)*x.num= -x.num by omega]
 .have a:((Fu true:Int):Rat)=1:=rfl;rw[a];have e:(1:Rat)*x=x:=by grind
  rw[e,<-ZW];show 1*x.num<_↔_;rw[show 1*x.num=x.num by omega]
theorem WO (D:GS cs ds d M W){B X:Nat}(hc:∀c∈cs,D5 B c)(s:∀c∈ds,D5 B c)(C:X+6*B+10<=1900)(f:M<=X){r:Rw}(E:Bd X r.b)(F:Bd X r.e)(G:r.sd<3)(lo:BJ cs ds<=r.b)(H:r.b<r.e)(hi:r.e<=BE cs ds){Q:PV->Prop}(I:cV cs ds d r->Q (.bl true))(J:¬cV cs ds d r->Q (.bl false)):CT [Ah cs,Ah ds, .tup [fr d.1,fr d.2],IL r] Q:=by
 have bt:BJ cs ds<BE cs ds:=by grind
 have K:∀m∈N1 cs ds,Bd X m:=λm hm=>by rw[Us bt] at hm;exact(Fv D.m1 D.m2 D.begB D.endB hm).mono f
 have L:(N1 cs ds).length<=202:=by rw[Us bt];have:=JZ (cs:=cs) (ds:=ds) (b:=BJ cs ds) (e:=BE cs ds);have:=D.f1;have:=D.f2;unfold MP;omega
 unfold IL;apply Kb;ac_rfl;refine HP D ?_;ac_rfl;refine DB fr fr (λm=>decide (r.b<m)&&decide (m<r.e)) (λm=>m∈N1 cs ds) (λm hm R N h1 h2=> ?_) (N1 cs ds) [] (λ_ h=>h) ?_
 .have bm:=K m hm;ac_rfl
  .rename_i a g;exact h1 (by rw[AAt a,AAt g];rfl)
  .rename_i a g;exact h2 (by rw[AAm g,AE8])
  .rename_i a;exact h2 (by rw[AAm a,AEh])
 .generalize t:(N1 cs ds).filter (λm=>decide (r.b<m)&&decide (m<r.e))=ff;have O:∀m,m∈ff↔m∈N1 cs ds/\r.b<m/\m<r.e:=λm=>by rw[<-t,ABo,ABS,AC3,AC3]
  have U:ff.length<=202:=by rw[<-t];exact AA1 (ACX _ _) L
  have all:∀m,m∈ [r.b] ++ ff ++ [r.e] ↔m∈DH cs ds r.b r.e:=λm=>by
   rw[D8,AAn,AAn,ABZ,ABZ,O,Us bt];unfold MP;rw[D8];constructor
   .rintro ((h|⟨h1,h2,i⟩)|h)
    .exact .inl h
    .rcases h1 with h1|h1|⟨_,_,h1⟩
     .exfalso;grind
     .exfalso;grind
     .exact .inr (.inr ⟨h2,i,h1⟩)
    .exact .inr (.inl h)
   .rintro (h|h|⟨h1,h2,i⟩)
    .exact .inl (.inl h)
    .exact .inr h
    .exact .inl (.inr ⟨.inr (.inr ⟨by grind,by grind,i⟩),h1,h2⟩)
  ac_rfl;rw[show [fr r.b] ++ ([] ++ List.map fr ff) ++ [fr r.e] =([r.b] ++ ff ++ [r.e]).map fr by simp];have v:=D.tog bt;refine DN fr (λw vs τ=>(∀m∈w,1<=(Fu r.up:Rat)*FT (HR cs ds d m) r.sd)/\∃j l,τ= [some (.val (Ah cs)),some (.val (Ah ds)),some (.val (.tup [fr d.1,fr d.2])),some (.val (.tup [fr r.b,fr r.e, .int (r.sd:Nat), .int (Fu r.up)])),some (.val (.lst ([] ++ ff.map fr))),j,some (.val (fr r.b)),some (.val (fr r.e)),l]) ?_ ?_ ⟨by simp,_,_,rfl⟩
  .rintro τ ⟨h,j,l,rfl⟩;ac_rfl;exact I λm hm=>h m ((all m).mpr hm)
  .rintro w m vs e τ R P ⟨h,j,l,rfl⟩;have o:m∈DH cs ds r.b r.e:=(all m).mp (by rw[<-e];simp);obtain⟨Y,Z⟩:=EQ H o;have bm:Bd X m:=Fv (λc h=>(D.m1 c h).mono f) (λc h=>(D.m2 c h).mono f) E F o;have S:=n5 v (show BJ cs ds<=m by grind) (by grind) D.r1 D.r2 hc s bm D.b1 D.b2 (by have:=D.p1;grind) (by have:=D.p2;grind);have T:∀{n:Nat} {p:T3},E5 n p->Bd n (FT p r.sd):=λh=>by unfold FT;split;exact h.x;split;exact h.y;exact h.z
   have c1:=T S;have A:=o8 (u:=r.up) (x:=FT (HR cs ds d m) r.sd);ac_rfl;refine Tp hc s C D v (by grind) (by grind) bm ?_;ac_rfl;refine nP G ?_;ac_rfl;refine⟨tZ c1.top (by omega), ?_⟩;ac_rfl
   .rename_i k;refine J λz=> ?_;have:=z m o;have:=A.mp k;grind
   .rename_i k;refine P _ ⟨λx hx=> ?_,_,_,rfl⟩;rcases AAn.mp hx with hx|hx
    .exact h x hx
    .rcases ABZ.mp hx with rfl;rw[<-ADL];exact λz=>k (A.mpr z)
theorem XQ {e:Rat}:∀{rs:km Rw} {b:Rat},VL b e rs->(∀r∈rs,r.b<r.e)->b<=e
 | [],b,h,_=>by have h:b=e:=h;grind
 | r::rs,b,h,k=>by have h1:=XQ h.2 λr a=>k r (by simp[a]);have h2:=k r (by simp);have c:r.b=b:=h.1;grind
theorem dS {e:Rat}:∀{rs:km Rw} {b:Rat},VL b e rs->(∀r∈rs,r.b<r.e)->∀r∈rs,b<=r.b/\r.e<=e
 | r::rs,b,h,k,r',a=>by
   have c:∀r∈rs,r.b<r.e:=λr a=>k r (by simp[a]);have h1:=XQ h.2 c;have h2:=k r (by simp);have f:r.b=b:=h.1;rcases AAc.mp a with rfl|a
   .exact ⟨by grind,h1⟩
   .have:=dS h.2 c r' a;exact⟨by grind,this.2⟩
theorem dU {e:Rat}:∀{rs:km Rw} {r:Rw},(((r::rs).map (·.b)).tail=((r::rs).map (·.e)).dropLast)->((r::rs).map (·.e)).getLast?=some e->VL r.b e (r::rs)
 | [],r,_,h=>⟨rfl,show r.e=e by simpa using h⟩
 | s::rs,r,h,k=>by simp only[AAi,AEa,List.dropLast_cons₂,List.cons.injEq] at h;have ih:=dU (rs:=rs) (r:=s) (by simpa using h.2) (by simpa using k);refine⟨rfl, ?_⟩;rw[<-h.1];exact ih
def Py (r:Rw):Rx:=⟨r,false⟩
theorem Rv {e:Rat}:∀{rs:km Rw} {b:Rat},(∀r∈rs,r.b<r.e)->(Jt cs ds d e b (rs.map Py)↔VL b e rs/\∀r∈rs,cV cs ds d r)
 | [],b,_=>⟨λh=>⟨h,by simp⟩,λh=>h.1⟩
 | r::rs,b,k=>by
   have i:∀r∈rs,r.b<r.e:=λr a=>k r (by simp[a]);have ih:=Rv (e:=e) (b:=r.e) i;show (_/\Jt cs ds d e r.e (rs.map Py))↔_;rw[ih];constructor
   .rintro ⟨⟨_,h1,_,_,h2⟩,c,f⟩;exact⟨⟨h1,c⟩,λg a=>(AAc.mp a).elim (λz=>z ▸ h2) (f g)⟩
   .rintro ⟨⟨h1,c⟩,f⟩;exact⟨⟨rfl,h1,k r (by simp),XQ c i,f r (by simp)⟩,c,λg a=>f g (by simp[a])⟩
theorem Vk {e:Rat}:∀{xs:km Rx} {b:Rat},Jt cs ds d e b xs->∀x∈xs,(!x.dbl&&decide (x.r.b<x.r.e))=true
 | x::xs,b,h,y,hy=>by
   rcases AAc.mp hy with rfl|hy
   .have h1:=h.1;rw[h1.1,AAt h1.2.2.1];rfl
   .exact Vk h.2 y hy
theorem i7 {xs ys:km Rat}{Q:PV->Prop}(a:xs=ys->Q (.bl false))(b:xs≠ys->Q (.bl true)):Nm (.lst (xs.map fr)) (.lst (ys.map fr)) Q:=by
 have o:∀xs:km Rat,E6 30 (.lst (xs.map fr))=true:=λxs=>by simp only[E6];exact Gx λx hx=>by obtain⟨y,_,rfl⟩:=AAl.mp hx;rfl
 have e:∀xs ys:km Rat,Ru (.lst (xs.map fr)) (.lst (ys.map fr))=decide (xs=ys):=λxs=>by
  induction xs with
  | nil=>
    intro ys;cases ys with
    | nil=>rfl
    | cons y ys=>rw[AAm (by simp)];simp[Ru,pd,NG,PyData.eqv,PyData.eqvAll]
  | cons x xs ih=>
    intro ys;cases ys with
    | nil=>rw[AAm (by simp)];simp[Ru,pd,NG,PyData.eqv,PyData.eqvAll]
    | cons y ys=> have h:Ru (.lst ((x::xs).map fr)) (.lst ((y::ys).map fr))=(Ru (fr x) (fr y)&&Ru (.lst (xs.map fr)) (.lst (ys.map fr))):=rfl;rw[h,TY,ih];by_cases h1:x=y <;> by_cases h2:xs=ys <;> simp[h1,h2]
 refine⟨⟨o xs,o ys⟩, ?_⟩;rw[e];by_cases h:xs=ys
 .rw [AAt h];exact a h
 .rw [AAm h];exact b h
theorem WP:∀{xs:km Rx},(∀x∈xs,(!x.dbl&&decide (x.r.b<x.r.e))=true)->∃rs:km Rw,xs=rs.map Py/\∀r∈rs,r.b<r.e
 | [],_=>⟨[],rfl,by simp⟩
 | ⟨r,b⟩::xs,h=>by
   obtain⟨rs,e,k⟩:=WP (xs:=xs) λx hx=>h x (ABn _ hx);have h1:(!b&&decide (r.b<r.e))=true:=h ⟨r,b⟩ (by simp);rw[ABS,AC3] at h1;have hb:b=false:=by cases b;rfl;cases h1.1
   subst hb;refine⟨r::rs,by rw[e];rfl,λc a=> ?_⟩;rcases AAc.mp a with rfl|a
   .exact h1.2
   .exact k c a
theorem Wc (D:GS cs ds d M W){B X:Nat}(hc:∀c∈cs,D5 B c)(N:∀c∈ds,D5 B c)(O:X+6*B+10<=1900)(P:M<=X){xs:km Rx}(E:xs.length<=500)(ok:∀x∈xs,Il X x){Q:PV->Prop}(u:Good cs ds d xs->Q (.bl true))(i:¬Good cs ds d xs->Q (.bl false)):CH [Ah cs,Ah ds, .tup [fr d.1,fr d.2], .tup (xs.map R6)] Q:=by
 apply QO;ac_rfl;refine Dr R6 (λx:Rx=>PV.bl (!x.dbl&&decide (x.r.b<x.r.e))) id (λx=>Il X x) (λx o R g=> ?_) xs [] ok ?_
 .ac_rfl;exact bD o (by omega) g
 rw[ABY,List.map_id];ac_rfl;refine wS (λall=> ?_) (λv=> ?_);rotate_left
 .ac_rfl;refine i λz=>v ?_;unfold Good at z;split at z
  .exact Vk z
  .subst z;simp
 obtain⟨rs,rfl,F⟩:=WP all;have G:∀r∈rs,Il X (Py r):=λr l=>ok _ (AAl.mpr ⟨r,l,rfl⟩);have S:(rs.map Py).map R6=rs.map IL:=by rw[ABf];rfl
 rw[S];rw[AAk] at E;clear all;ac_rfl;refine HP D ?_;unfold Good at u i;by_cases h:BJ cs ds<BE cs ds
 .rw [AAb h,Rv F] at u i;have w:=Ut h;have j:=Uu h;rw[<-Us h] at w j;obtain⟨t,n,T⟩:∃t n,N1 cs ds=t::n:=by
   cases e:N1 cs ds with
   | nil=>rw[e] at w;cases w
   | cons a b=>exact⟨a,b,rfl⟩
  rw[T] at w j ⊢;have y:t=BJ cs ds:=AAw w;cases rs with
  | nil=>
    have C:decide (((t::n).length:Int)=(([] :km PV).length:Int))=false:=AAm (by simp;omega);have K:¬(VL (BJ cs ds) (BE cs ds) [] /\∀r∈([] :km Rw),cV cs ds d r):=λz=>by have H:BJ cs ds=BE cs ds:=z.1;grind
    ac_rfl
    .exact C ▸ i K
    .exact C ▸ i K
  | cons m f=>
    obtain⟨L,cl⟩:∃L,((m::f).map (·.e)).getLast?=some L:=by
     cases e:((m::f).map (·.e)).getLast? with
     | none=>rw[AFU] at e;cases e
     | some a=>exact⟨a,rfl⟩
    ac_rfl
    .exfalso;rename_i z;simp at z;omega
    .exfalso;rename_i H U;simp at U;omega
    refine Dr IL fr (λr:Rw=>r.b) (λ_=>True) (λr _ R g=> ?_) (m::f) [] (λ_ _=>trivial) ?_
    .unfold IL;ac_rfl;exact g
    rw[ABY];ac_rfl;refine Dr IL fr (λr:Rw=>r.e) (λ_=>True) (λr _ R g=> ?_) (m::f) [] (λ_ _=>trivial) ?_
    .unfold IL;ac_rfl;exact g
    rw[ABY];ac_rfl
    .rename_i c1 p _ c2 s _ z;have p:some m.b=some c1:=p;have s:some t=some c2:=s;cases p;cases s;exact i λk=>z (by rw[y];exact k.1.1)
    rename_i c1 p _ c2 s _ Y;have p:some m.b=some c1:=p;have s:some t=some c2:=s;cases p;cases s;have I:m.b=BJ cs ds:=by rw[Y,y]
    refine e7 cl ?_;ac_rfl;refine e7 j ?_;ac_rfl
    .rename_i z;refine i λk=>z ?_;have:=Ro (by simp) k.1;rw[cl] at this;exact AAw this
    rename_i H;rw[dY,mh,<-List.map_dropLast];refine i7 (λJ=> ?_) (λJ=> ?_);rotate_left
    .ac_rfl;exact i λk=>J (Y2 k.1)
    have ch:VL (BJ cs ds) (BE cs ds) (m::f):=by have:=dU (e:=BE cs ds) J (by rw[cl,H]);rw[I] at this;exact this
    have A:=dS ch F;have Z:∀r,Decidable (cV cs ds d r):=λr=>Classical.propDecidable _;ac_rfl;refine Dr IL (λr:Rw=>PV.bl (decide (cV cs ds d r))) id (λr=>r∈m::f) (λr l R g=> ?_) (m::f) [] (λ_ h=>h) ?_
    .ac_rfl;have o:=G r l;refine WO D hc N O P o.bb o.be o.sd (A r l).1 (F r l) (A r l).2 (λk=> ?_) (λk=> ?_)
     .have k:cV cs ds d r:=k;have g:R (.bl (decide (cV cs ds d r))):=g;rw[AAt k] at g;exact g
     .have k:¬cV cs ds d r:=k;have g:R (.bl (decide (cV cs ds d r))):=g;rw[AAm k] at g;exact g
    rw[ABY,List.map_id];ac_rfl;refine ql (λk=> ?_) (λk=> ?_)
    .exact u ⟨ch,λr l=>ABw (k r l)⟩
    .exact i λz=>k λr l=>AAt (z.2 r l)
 .rw [AAa h] at u i;rw[show N1 cs ds= [] from AAa h];ac_rfl;cases rs with
  | nil=>exact u rfl
  | cons r rs=> have C:decide ((([] :km PV).length:Int)=((r::rs).length:Int))=false:=AAm (by simp;omega);exact C ▸ i (by simp)
end
abbrev K9:AS:=
 (AZ (BI (Am (AY Fz (AN 2 A8 (AB (aV 0) (AB (aC (.int 4)) AM))) (aC (.int 0)))) (Q0 5 6 (AB (AN 2 A8 (AB (aV 0) (AB (aC (.int 3)) AM))) (AB (AY Ak (Db (B0 (AB (aC (.int 1)) (AB (Jv EA (aC (.int 1))) AM)))) (AN 2 A8 (AB (aV 0) (AB (aC (.int 2)) AM)))) AM))) Ay)
   (Fl 4 NA (AB (Ar (AB (aV 7) (AB (aV 8) (AB (aV 5) (AB (aV 6) AM))))) AM)))
abbrev LC:AS:=
 (AZ (FA (pq (AB (aV 3) (AB (TM (aV 3) (TU (aC (.int 1))) TR) AM))) (JR 2 (Af (Aq 7) (Af (Aq 8) Bw))) K9)
   (As (DZ Bx (AB (aV 4) AM))))
abbrev LB:AS:=
 (AZ (II (B0 AM) 4)
   LC)
abbrev LA:AS:=
 (AZ (Q0 5 6 (AB (AN 2 A8 (AB (aV 0) (AB (aC (.int 3)) AM))) (AB (AY Ak (Db (B0 (AB (aC (.int 1)) (AB (Jv EA (aC (.int 1))) AM)))) (AN 2 A8 (AB (aV 0) (AB (aC (.int 2)) AM)))) AM)))
   LB)
abbrev IN:AS:=
 (AZ (Aj (AN 2 Ci (AB (aV 1) (AB (aV 2) AM))) (Aq 3))
   LA)
def CQ:AF:=A0 9 IN
def NK {a b c:PV}{Q:PV->Prop}(h:IN ⟨λ_=>Q .non,Q,λ_=>False,λ_=>False⟩ [some (.val a),some (.val b),some (.val c),none,none,none,none,none,none]):CQ [a,b,c] Q:=h
abbrev GW:AS:=
 (AZ (Aj (AN 4 CH (AB (aV 0) (AB (aV 1) (AB (aV 2) (AB (aV 5) AM))))) (Aq 7))
   (BI (EI (B2 (Am (DZ Xe (AB (aV 6) (AB (aC (.ty "bool")) AM))))) (Am (AY Nm (aV 6) (aV 7)))) (As (aC (.bl false))) Ay))
abbrev GV:AS:=
 (AZ (Aj (AN 4 Bk (AB (aV 0) (AB (aV 1) (AB (aV 2) (AB (aV 5) AM))))) (Aq 6))
   GW)
abbrev C7:AS:=
 (AZ (Aj (Ar (AB (Ar (AB (AY Ak (AY Ak (aV 0) (aC (.int 0))) (aC (.int 0))) (AB (AY Ak (AY Ak (aV 0) (Jv EA (aC (.int 1)))) (aC (.int 0))) (AB (aV 3) (AB (aV 4) AM))))) AM)) (Aq 5))
   GV)
abbrev EC:AS:=
 (AZ (FA (Q2 (AB (aC (.int 3)) AM)) (Aq 3) (FA (IM (Ar (AB (aC (.int 1)) (AB (Jv EA (aC (.int 1))) AM)))) (Aq 4) C7))
   (As (aC (.bl true))))
def Bu:AF:=A0 8 EC
def Jn {a b c:PV}{Q:PV->Prop}(h:EC ⟨λ_=>Q .non,Q,λ_=>False,λ_=>False⟩ [some (.val a),some (.val b),some (.val c),none,none,none,none,none]):Bu [a,b,c] Q:=h
abbrev ED:AS:=
 (AZ (Aj (Qz (Ar (AB (aV 7) (AB (AY Ak (aV 8) (aC (.int 0))) (AB (AY Ak (aV 8) (aC (.int 1))) (AB (AY Ak (aV 8) (aC (.int 2))) AM)))))) (Aq 10))
   (As (AY A4 (AY A4 (TM (aV 5) TR (TU (AY A4 (aV 6) (aC (.int 1))))) (Ar (AB (aV 10) AM))) (TM (aV 5) (TU (AY A4 (aV 6) (aC (.int 1)))) TR))))
abbrev EW:AS:=
 (AZ (Q1 8 (aV 3) (Qz (AN 2 Bc (AB (AY Ak (aV 8) (aV 3)) (AB (AN 2 BN (AB (AY Ak (aV 4) (aV 3)) (AB (aV 9) AM))) AM)))))
   ED)
abbrev Gb:AS:=
 (AZ (Aj (AY Ak (Db (B0 (AB (Ar (AB (Jv EA (aC (.int 1))) (AB (aC (.int 2)) AM))) (AB (Ar (AB (aC (.int 0)) (AB (aC (.int 1)) AM))) (AB (Ar (AB (aC (.int 1)) (AB (aC (.int 2)) AM))) AM))))) (AN 2 A8 (AB (aV 0) (AB (aC (.int 3)) AM)))) (Aq 9))
   EW)
abbrev EV:AS:=
 (AZ (II (dF (AB (AN 2 D6 (AB (aV 5) (AB (aV 7) AM))) AM)) 8)
   Gb)
abbrev Ga:AS:=
 (AZ (Aj (AN 2 Cv (AB (AY Ak (AY Ak (aV 1) (aV 6)) (aC (.int 0))) (AB (AY Ak (AY Ak (aV 1) (AY A4 (aV 6) (aC (.int 1)))) (aC (.int 0))) AM))) (Aq 7))
   EV)
abbrev EU:AS:=
 (AZ (Aj (AN 2 A8 (AB (aV 0) (AB (AY GF (DZ Dw (AB (aV 1) AM)) (aC (.int 1))) AM))) (Aq 6))
   Ga)
abbrev GZ:AS:=
 (AZ (BI (Am (AY Fz (DZ Dw (AB (aV 1) AM)) (aC (.int 12)))) (As (aV 5)) Ay)
   EU)
abbrev DI:AS:=
 (AZ (Aj (Qz (AN 3 Bj (AB (aV 1) (AB (Ar (AB (aC (.int 0)) (AB (aC (.int 1)) AM))) (AB (aV 4) AM))))) (Aq 5))
   GZ)
abbrev GY:AS:=
 (AZ (Q1 4 (aV 3) (AY Ak (aV 2) (DZ Te (AB (AY Fz (aV 3) (aC (.int 2))) AM))))
   DI)
abbrev GX:AS:=
 (AZ (II (B0 (AB (Ar (AB (aC (.int 0)) (AB (aC (.int 1)) AM))) (AB (Ar (AB (aC (.int 0)) (AB (aC (.int 1)) AM))) (AB (Ar (AB (aC (.int 0)) (AB (aC (.int 1)) AM))) AM)))) 4)
   GY)
abbrev GB:AS:=
 (AZ (Aj (AN 2 A8 (AB (aV 0) (AB (aC (.int 3)) AM))) (Aq 3))
   GX)
def Dd:AF:=A0 11 GB
def OO {a b c:PV}{Q:PV->Prop}(h:GB ⟨λ_=>Q .non,Q,λ_=>False,λ_=>False⟩ [some (.val a),some (.val b),some (.val c),none,none,none,none,none,none,none,none]):Dd [a,b,c] Q:=h
abbrev Jf:AS:=
 (AZ (Aj (Ar (AB (Ar (AB (aV 6) (AB (aV 3) (AB (aV 8) (AB (aV 9) AM))))) (AB (Ar (AB (aV 3) (AB (aV 7) (AB (aV 8) (AB (aV 9) AM))))) AM))) (Aq 12))
   (As (AY A4 (AY A4 (aV 10) (aV 12)) (aV 11))))
abbrev IZ:AS:=
 (AZ (Aj (AY A4 (aV 5) (Db (B0 (AB (AY Ak (aV 1) (aV 2)) AM)))) (Aq 5))
   (As (AY A4 (AY A4 (aV 10) (Ar (AB (AY Ak (aV 5) (AY GF (aV 4) (aC (.int 5)))) AM))) (aV 11))))
abbrev IY:AS:=
 (AZ (Aj (AY A4 (aV 5) (Db (B0 (AB (Ar (AB (aV 6) (AB (AN 2 Bc (AB (aV 7) (AB (Ar (AB (aC (.int 1)) (AB (aC (.int 2)) AM))) AM))) (AB (aV 8) (AB (aV 9) AM))))) AM)))) (Aq 5))
   IZ)
abbrev IX:AS:=
 (AZ (Aj (AY A4 (aV 5) (Db (B0 (AB (Ar (AB (AN 2 B6 (AB (aV 6) (AB (Ar (AB (aC (.int 1)) (AB (aC (.int 2)) AM))) AM))) (AB (aV 7) (AB (aV 8) (AB (aV 9) AM))))) AM)))) (Aq 5))
   IY)
abbrev IW:AS:=
 (AZ (Aj (AY A4 (aV 5) (Db (B0 (AB (Ar (AB (aV 6) (AB (aV 6) (AB (aV 8) (AB (aV 9) AM))))) AM)))) (Aq 5))
   IX)
abbrev IV:AS:=
 (AZ (Aj (AY A4 (aV 5) (Db (B0 (AB (Ar (AB (Ar (AB (AY DW (aC (.int 2)) (AY Ak (aV 6) (aC (.int 0)))) (AB (AY DW (aC (.int 2)) (AY Ak (aV 6) (aC (.int 1)))) AM))) (AB (aV 7) (AB (aV 8) (AB (aV 9) AM))))) AM)))) (Aq 5))
   IW)
abbrev IU:AS:=
 (AZ (Aj (AY A4 (aV 5) (Db (B0 (AB (Ar (AB (aV 6) (AB (aV 3) (AB (aV 8) (AB (aV 9) AM))))) AM)))) (Aq 5))
   IV)
abbrev IT:AS:=
 (AZ (Aj (AY A4 (aV 5) (Db (B0 (AB (Ar (AB (aV 6) (AB (AN 2 B6 (AB (aV 7) (AB (Ar (AB (aC (.int 1)) (AB (aC (.int 3)) AM))) AM))) (AB (aV 8) (AB (aV 9) AM))))) AM)))) (Aq 5))
   IU)
abbrev IS:AS:=
 (AZ (Aj (AY A4 (aV 5) (Db (B0 (AB (Ar (AB (AN 2 Bc (AB (aV 6) (AB (Ar (AB (aC (.int 1)) (AB (aC (.int 3)) AM))) AM))) (AB (aV 7) (AB (aV 8) (AB (aV 9) AM))))) AM)))) (Aq 5))
   IT)
abbrev IR:AS:=
 (AZ (Aj (AY A4 (aV 5) (Db (B0 (AB (Ar (AB (aV 7) (AB (aV 6) (AB (aV 8) (AB (aV 9) AM))))) AM)))) (Aq 5))
   IS)
abbrev Es:AS:=
 (AZ (Aj (Db (B0 (AB (Ar (AB (aV 6) (AB (aV 7) (AB (AY Xa (AY A4 (aV 8) (aC (.int 1))) (aC (.int 3))) (AB (aV 9) AM))))) (AB (Ar (AB (aV 6) (AB (aV 7) (AB (aV 8) (AB (Jv EA (aV 9)) AM))))) AM)))) (Aq 5))
   IR)
abbrev FO:AS:=
 (AZ (BI (Am (AY Fz (aV 4) (aC (.int 4)))) (As (Ar (AB (Ar (AB (AY Ak (AY Ak (aV 1) (aC (.int 0))) (aC (.int 0))) (AB (AY Ak (AY Ak (aV 1) (Jv EA (aC (.int 1)))) (aC (.int 1))) (AB (aV 8) (AB (aV 9) AM))))) AM))) Ay)
   Es)
abbrev FN:AS:=
 (AZ (BI (Am (AY Fz (aV 4) (aC (.int 3)))) (As (dH (aV 1))) Ay)
   FO)
abbrev FM:AS:=
 (AZ (BI (Am (AY Fz (aV 4) (aC (.int 2)))) (As (AY A4 (AY A4 (aV 10) (Ar (AB (AY Ak (aV 1) (aV 2)) (AB (AY Ak (aV 1) (aV 2)) AM)))) (aV 11))) Ay)
   FN)
abbrev FJ:AS:=
 (AZ (BI (Am (AY Fz (aV 4) (aC (.int 1)))) (As (AY A4 (aV 10) (aV 11))) Ay)
   FM)
abbrev FI:AS:=
 (AZ (BI (Am (AY Fz (aV 4) (aC (.int 0)))) Jf Ay)
   FJ)
abbrev FH:AS:=
 (AZ (Aj (AN 2 A8 (AB (aV 0) (AB (aC (.int 16)) AM))) (Aq 4))
   FI)
abbrev DV:AS:=
 (AZ (Aj (AN 2 Cv (AB (aV 6) (AB (aV 7) AM))) (Aq 3))
   FH)
abbrev FG:AS:=
 (AZ (Q0 10 11 (AB (TM (aV 1) TR (TU (aV 2))) (AB (TM (aV 1) (TU (AY A4 (aV 2) (aC (.int 1)))) TR) AM)))
   DV)
abbrev DU:AS:=
 (AZ (Aj (AY Ak (aV 1) (aV 2)) (JR 4 (Af (Aq 6) (Af (Aq 7) (Af (Aq 8) (Af (Aq 9) Bw))))))
   FG)
abbrev EX:AS:=
 (AZ (Aj (AN 2 A8 (AB (aV 0) (AB (DZ Dw (AB (aV 1) AM)) AM))) (Aq 2))
   DU)
def CU:AF:=A0 13 EX
def Kg {a b:PV}{Q:PV->Prop}(h:EX ⟨λ_=>Q .non,Q,λ_=>False,λ_=>False⟩ [some (.val a),some (.val b),none,none,none,none,none,none,none,none,none,none,none]):CU [a,b] Q:=h
def e6 {xs:km PV}{x:PV}{R:PV->Prop}(h:R x):Ak (.tup (xs ++ [x])) (.int (-1)) R:=(Vz h:Ak (.lst (xs ++ [x])) (.int (-1)) R)
section
variable {cs ds:km C4}{d:Rat×Rat}{M W:Nat}
theorem ZA (D:GS cs ds d M W){B:Nat}(hc:∀c∈cs,D5 B c)(p:∀c∈ds,D5 B c)(u:B<=200)(hM:M<=B){b:Nat}{up:kc}(hs:b<3){f h i:ke AV}{nx bk ct:BC->Prop}{rt:PV->Prop}(q:∀f h i,nx [some (.val (Ah cs)),some (.val (Ah ds)),some (.val (.tup [fr d.1,fr d.2])),some (.val (.int (b:Nat))),some (.val (.int (Fu up))),f,h,i]):C7 {nx:=nx,rt:=rt,bk:=bk,ct:=ct} [some (.val (Ah cs)),some (.val (Ah ds)),some (.val (.tup [fr d.1,fr d.2])),some (.val (.int (b:Nat))),some (.val (.int (Fu up))),f,h,i] :=by
 obtain⟨a,r,l,rfl,v,s⟩:=open2 D.t1;have t:l∈a::r:=ABx s;have b1:Bd B a.1:=(hc a (by simp)).m;have b2:Bd B l.1:=(hc l t).m;have j:∀{Q:PV->Prop},(Good (a::r) ds d [⟨⟨a.1,l.1,b,up⟩,false⟩] ->Q (.bl true))->(¬Good (a::r) ds d [⟨⟨a.1,l.1,b,up⟩,false⟩] ->Q (.bl false))->Bk [Ah (a::r),Ah ds, .tup [fr d.1,fr d.2], .tup [.tup [fr a.1,fr l.1, .int (b:Nat), .int (Fu up)]]] Q:=λn o=>Wd D (X:=B) hc p (.self _) (.self _) (.inl rfl) (xs:= [⟨⟨a.1,l.1,b,up⟩,false⟩]) (by simp) (λx hx=>by rcases ABZ.mp hx with rfl;exact⟨b1,b2,hs⟩) (by omega) (AAf _) hM n o;have e:∀{Q:PV->Prop},(Good (a::r) ds d [⟨⟨a.1,l.1,b,up⟩,false⟩] ->Q (.bl true))->(¬Good (a::r) ds d [⟨⟨a.1,l.1,b,up⟩,false⟩] ->Q (.bl false))->CH [Ah (a::r),Ah ds, .tup [fr d.1,fr d.2], .tup [.tup [fr a.1,fr l.1, .int (b:Nat), .int (Fu up)]]] Q:=λn o=>Wc D (X:=B) hc p (by omega) hM (xs:= [⟨⟨a.1,l.1,b,up⟩,false⟩]) (by simp) (λx hx=>by rcases ABZ.mp hx with rfl;exact⟨b1,b2,hs⟩) n o;ac_rfl;refine j (λg=> ?_) (λg=> ?_)
 .ac_rfl;refine e (λ_=> ?_) (λk=>absurd g k);ac_rfl;exact q _ _ _
 .ac_rfl;refine e (λk=>absurd k g) (λ_=> ?_);ac_rfl;exact q _ _ _
theorem ZB (D:GS cs ds d M W){B:Nat}(hc:∀c∈cs,D5 B c)(h:∀c∈ds,D5 B c)(j:B<=200)(hM:M<=B){Q:PV->Prop}(q:Q (.bl true)):Bu [Ah cs,Ah ds, .tup [fr d.1,fr d.2]] Q:=by
 apply Jn;unfold EC;generalize k:C7=T;ac_rfl;refine TZ (λi τ=>∃f g a b e,τ= [some (.val (Ah cs)),some (.val (Ah ds)),some (.val (.tup [fr d.1,fr d.2])),f,g,a,b,e]) ?_ ?_ ⟨_,_,_,_,_,rfl⟩
 .rintro τ ⟨f,g,a,b,e,rfl⟩;ac_rfl;exact q
 .rintro i hi τ R l ⟨f,g,a,b,e,rfl⟩;have m:(0:Int)+i=i:=by omega
  rw[m];repeat' array_get_dec
  subst k;refine ZA (up:=true) D hc h j hM (by omega) λa b e=> ?_;repeat' array_get_dec
  refine ZA (up:=false) D hc h j hM (by omega) λa b e=> ?_;repeat' array_get_dec
  exact l _ ⟨_,_,_,_,_,rfl⟩
theorem Zq {k:Int}(a:0<=k)(h1:k<2){R:PV->Prop}(h:∀up,R (.int (Fu up))):Ak (.lst [.int 1, .int (-1)]) (.int k) R:=by
 rcases (show k=0\/k=1 by omega) with rfl|rfl
 .exact h true
 .exact h false
theorem jX (D:GS cs ds d M W)(f1:cs.length<=12)(f2:ds.length<=12){Q:PV->Prop}(q:∀rs:km Rw,rs.length<=30->(∀r∈rs,Il M (Py r))->Q (.tup (rs.map IL))):CQ [.tape,Ah cs,Ah ds] Q:=by
 have j:∀m∈N1 cs ds,Bd M m:=λm hm=>by
  unfold N1 at hm;split at hm
  .exact Fv D.m1 D.m2 D.begB D.endB hm
  .cases hm
 have x:(N1 cs ds).length<=26:=by
  unfold N1;split
  .have:=JZ (cs:=cs) (ds:=ds) (b:=BJ cs ds) (e:=BE cs ds);unfold MP;omega
  .simp
 apply NK;ac_rfl;refine HP D ?_;ac_rfl;refine Zq ‹_› ‹_› λup=> ?_;ac_rfl;rename_i f t u _ _ _;rw[iJ];have k:∀p∈(N1 cs ds).zip (N1 cs ds).tail,p.1∈N1 cs ds/\p.2∈N1 cs ds:=λp hp=>⟨(ACc hp).1,List.mem_of_mem_tail (ACc hp).2⟩;have v:((N1 cs ds).zip (N1 cs ds).tail).length<=26:=by rw[List.length_zip];omega
 generalize (N1 cs ds).zip (N1 cs ds).tail=zs at k v;obtain⟨n,rfl⟩:∃n:Nat,f=n:=⟨f.toNat,by omega⟩;refine DN fk (λl vs τ=>∃(rs:km Rw) (n:Nat) (up:kc) (a c:ke AV),rs.length=l.length/\(∀r∈rs,Il M (Py r))/\n<3/\τ= [some (.val .tape),some (.val (Ah cs)),some (.val (Ah ds)),some (.val (.lst ((N1 cs ds).map fr))),some (.own (rs.map IL)),some (.val (.int (n:Nat))),some (.val (.int (Fu up))),a,c]) ?_ ?_ ⟨[],n,up,_,_,rfl,by simp,by omega,rfl⟩
 .rintro τ ⟨rs,n,up,a,c,hl,ok,hn,rfl⟩;have o:rs.length<=30:=by omega
  ac_rfl;exact q rs o ok
 .rintro l p vs e τ R s ⟨rs,n,up,a,c,hl,ok,hn,rfl⟩;have w:p∈zs:=by rw[<-e];simp
  obtain⟨p1,p2⟩:=k p w;have o:rs.length<=30:=by have:=congrArg List.length e;simp at this;omega
  have g:∀(n:Nat) (up:kc) a c,n<3->R [some (.val .tape),some (.val (Ah cs)),some (.val (Ah ds)),some (.val (.lst ((N1 cs ds).map fr))),some (.own (rs.map IL ++ [.tup [fr p.1,fr p.2, .int (n:Nat), .int (Fu up)]])),some (.val (.int (n:Nat))),some (.val (.int (Fu up))),a,c] :=λn up a c h=>s _ ⟨rs ++ [⟨p.1,p.2,n,up⟩],n,up,a,c,by simp[hl],λr i=>by
   rcases AAn.mp i with i|i
   .exact ok r i
   .rcases ABZ.mp i with rfl;exact⟨j _ p1,j _ p2,h⟩,h,by rw[AAu];rfl⟩
  clear s;unfold fk;ac_rfl
  .refine Zq ‹_› ‹_› λup=> ?_;rename_i f t u _ _ _;obtain⟨n,rfl⟩:∃n:Nat,f=n:=⟨f.toNat,by omega⟩;ac_rfl;exact g n up _ _ (by omega)
  .exact g n up _ _ hn
end
instance{a:AE}{τ:BC}{Q:PV->Prop}:Wp (dH a τ Q) (a τ λx=>match x with | .tup xs=>Q (.tup xs.reverse)|_=>False):=⟨id⟩
def qt {xs:km PV}{k:Nat}(h:k<=xs.length):Eh xs none (some (k:Int))=xs.take k:=by unfold Eh;rw[HT.sIx_none,HT.sIx_nat,AEE h];simp
def i3 {xs:km PV}{k:Nat}(h:k<=xs.length):Eh xs (some (k:Int)) none=xs.drop k:=by unfold Eh;rw[HT.sIx_none,HT.sIx_nat,AEE h];exact ADX (by simp)
def VV (n X:Nat)(xs:km Rx):Prop:=xs.length<=n/\∀x∈xs,Il X x
def NZ {rs:km Rw}{X:Nat}(C:rs≠ [])(hl:rs.length<=450)(ok:∀r∈rs,Il X (Py r))(Z:X<=850)(G:10<=X){Q:PV->Prop}(q:∀xs,VV 460 (2*X+4) xs->Q (.tup (xs.map R6))):CU [.tape, .tup (rs.map IL)] Q:=by
 have l0:0<rs.length:=List.length_pos_iff.mpr C;apply Kg;unfold EX;generalize t:DU=T;ac_rfl;subst t;rename_i D k0 k1;obtain⟨k,rfl⟩:∃k:Nat,D=k:=⟨D.toNat,by omega⟩;have kl:k<rs.length:=by omega
 unfold DU FG;generalize t:DV=T;ac_rfl;rename_i r er H;have o:=ok r H;have g:Bd X r.b:=o.bb;have p:Bd X r.e:=o.be;have os:r.sd<3:=o.sd;rw[show IL r= .tup [fr r.b,fr r.e, .int (r.sd:Nat), .int (Fu r.up)] from rfl];ac_rfl;subst t;rw[show ((k:Int)+1)=((k+1:Nat):Int) by omega,qt (by rw[AAk];omega),i3 (by rw[AAk];omega),<-ADF,<-ACh];have I:∀r∈rs.take k,Il X (Py r):=λr i=>ok r (ADO i);have J:∀r∈rs.drop (k+1),Il X (Py r):=λr i=>ok r (ADP i);have lA:(rs.take k).length<=k:=by rw[ACq];omega
 have lB:(rs.drop (k+1)).length<=450-k:=by rw[ADV];omega
 have s:∀{x:Rx},Il X x->Il (2*X+4) x:=λh=>⟨h.bb.mono (by omega),h.be.mono (by omega),h.sd⟩;have j:∀mid:km Rx,mid.length<=2->(∀x∈mid,Il (2*X+4) x)->Q (.tup ((rs.take k).map IL++mid.map R6++(rs.drop (k+1)).map IL)):=λmid h1 h2=>by
  have:=q ((rs.take k).map Py++mid++(rs.drop (k+1)).map Py) ⟨by simp only[ABR,AAk];omega,λx hx=>by
   rcases AAn.mp hx with hx|hx
   .rcases AAn.mp hx with hx|hx
    .obtain ⟨r,i,rfl⟩:=AAl.mp hx;exact s (I r i)
    .exact h2 x hx
   .obtain ⟨r,i,rfl⟩:=AAl.mp hx;exact s (J r i)⟩
  rw[AAu,AAu,ABf,ABf] at this;exact this
 have bm:=(g.add p).mul (show Bd 2 (1/2:Rat) from⟨by decide +kernel,by decide +kernel⟩);have v:∀x:Rx,Il (2*X+4) x->Q (.tup ((rs.take k).map IL ++ [R6 x] ++ (rs.drop (k+1)).map IL)):=λx h=>j [x] (by simp) (λy hy=>by rcases ABZ.mp hy with rfl;exact h);generalize rs.take k=A at *;generalize rs.drop (k+1)=B at *;unfold DV FH FI FJ FM FN FO;generalize t:Es=T;ac_rfl;refine Jy (g.mono (by omega)) (p.mono (by omega)) ((g.add p).mono (by omega)) ?_;ac_rfl
 .refine j [⟨⟨r.b,(r.b+r.e)*(1/2),r.sd,r.up⟩,false⟩,⟨⟨(r.b+r.e)*(1/2),r.e,r.sd,r.up⟩,false⟩] (by simp) λx hx=> ?_;simp only[AAc,AAq,AAr] at hx;rcases hx with rfl|rfl
  .exact ⟨g.mono (by omega),bm.mono (by omega),os⟩
  .exact ⟨bm.mono (by omega),p.mono (by omega),os⟩
 .have:=j [] (by simp) (by simp);rw[ADW,ACb] at this;exact this
 .rename_i c1 _ m1 c2 _ m2;refine j [Py c1,Py c2] (by simp) λx hx=> ?_;simp only[AAc,AAq,AAr] at hx;rcases hx with rfl|rfl
  .exact s (ok _ m1)
  .exact s (ok _ m2)
 .show Q (.tup (rs.map IL).reverse);have:=q (rs.reverse.map Py) ⟨by rw[AAk,AES];omega,λx hx=>by
   obtain⟨r,i,rfl⟩:=AAl.mp hx;exact s (ok r (List.mem_reverse.mp i))⟩
  rw[ABf,List.map_reverse] at this;exact this
 .rename_i c _ w;have K:=ok c w;rw[show IL c= .tup [fr c.b,fr c.e, .int (c.sd:Nat), .int (Fu c.up)] from rfl];ac_rfl;obtain⟨l,E⟩:∃l,rs.getLast?=some l:=by
   cases e:rs.getLast? with
   | none=>rw[AFU] at e;exact absurd e C
   | some a=>exact⟨a,rfl⟩
  have L:l∈rs:=ABx E;have ol:=ok l L;have z:∀{R:PV->Prop},R (IL l)->Ak (.tup (rs.map IL)) (.int (-1)) R:=λ{R} h=>by obtain⟨u,hu⟩:=AE7.mp E;rw[hu,AAu];exact e6 h
  refine z ?_;rw[show IL l= .tup [fr l.b,fr l.e, .int (l.sd:Nat), .int (Fu l.up)] from rfl];ac_rfl;exact q [⟨⟨c.b,l.e,r.sd,r.up⟩,false⟩] ⟨by simp,λx hx=>by
   rcases ABZ.mp hx with rfl;exact⟨K.bb.mono (by omega),ol.be.mono (by omega),os⟩⟩
 .subst t;have F:Bd 2 (1/3:Rat):=⟨by decide +kernel,by decide +kernel⟩;have b2:Bd 2 (1/2:Rat):=⟨by decide +kernel,by decide +kernel⟩;have M:=g.add F;have N:=p.sub F;have O:=g.sub b2;have P:=p.add b2;rename_i S w0 w1 n0 n1 n2 n3 n4;ac_rfl;refine⟨MulOk.of (m:=2) (n:=X) (by decide) g.top (by omega) (by omega), ?_⟩;ac_rfl;refine⟨MulOk.of (m:=2) (n:=X) (by decide) g.botI (by omega) (by omega), ?_⟩;ac_rfl;rename_i c _ w;have U:((r.sd:Int)+1).fmod 3=(((r.sd+1) % 3:Nat):Int):=by rw[ADS _ (by decide)];omega
  have W: -Fu r.up=Fu (!r.up):=by cases r.up <;> rfl
  have d:Bd (2*X+4) r.b:=g.mono (by omega);have f:Bd (2*X+4) r.e:=p.mono (by omega);rw[U,W];refine PL.ix_any (by omega) (by simp;omega) λx hx=> ?_;obtain⟨y,rfl,Y⟩:∃y,x=R6 y/\Il (2*X+4) y:=by
   simp only[AAn,AAc,AAq,AAr] at hx;rcases hx with(((((((((hx|hx)|hx)|hx)|hx)|hx)|hx)|hx)|hx)|hx)|hx
   .exact ⟨⟨⟨r.b,r.e,(r.sd+1) % 3,r.up⟩,false⟩,hx,d,f,Nat.mod_lt _ (by decide)⟩
   .exact ⟨⟨⟨r.b,r.e,r.sd, !r.up⟩,false⟩,hx,d,f,os⟩
   .exact ⟨⟨⟨r.e,r.b,r.sd,r.up⟩,false⟩,hx,f,d,os⟩
   .exact ⟨⟨⟨r.b+1/3,r.e,r.sd,r.up⟩,false⟩,hx,M.mono (by omega),f,os⟩
   .exact ⟨⟨⟨r.b,r.e-1/3,r.sd,r.up⟩,false⟩,hx,d,N.mono (by omega),os⟩
   .exact ⟨⟨⟨r.b,(r.b+r.e)*(1/2),r.sd,r.up⟩,false⟩,hx,d,bm.mono (by omega),os⟩
   .exact ⟨⟨⟨r.b,r.e,r.sd,r.up⟩,true⟩,hx,d,f,os⟩
   .exact ⟨⟨⟨r.b,r.b,r.sd,r.up⟩,false⟩,hx,d,d,os⟩
   .exact ⟨⟨⟨r.b-1/2,r.e,r.sd,r.up⟩,false⟩,hx,O.mono (by omega),f,os⟩
   .exact ⟨⟨⟨r.b,r.e+1/2,r.sd,r.up⟩,false⟩,hx,d,P.mono (by omega),os⟩
   .exact ⟨Py c,hx,s (ok c w)⟩
  clear hx;ac_rfl;exact v y Y
structure VT (cs:List C4):Prop where
 ok:Ef 12 136 cs
 mm:∀c∈cs,Bd 25 c.1
def Oj {cs:km C4}(p:Ju cs):VT cs:=⟨⟨p.ok.two,p.ok.few,λc hc=>(p.ok.bd c hc).mono (by decide),p.ok.ris⟩,λc hc=>(p.mm c hc).mono (by decide)⟩
def qu {cs ds:km C4}{d:Rat×Rat}(p:VT cs)(p2:VT ds)(b1:Bd 3 d.1)(b2:Bd 3 d.2)(a:0<d.1)(b:0<d.2):GS cs ds d 25 1028:=
 df (n:=12) (S:=512) (D:=3) (by decide) p.ok.two p2.ok.two p.ok.few p2.ok.few p.ok.ris p2.ok.ris (λc hc=>(p.ok.bd c hc).mono (by decide)) (λc hc=>(p2.ok.bd c hc).mono (by decide)) p.mm p2.mm b1 b2 a b (by decide) (by decide) (λm _ _ bm q e=>(JK bm p.ok.ris ⟨p.mm,p.ok.bd⟩ e)) (λm _ _ bm q e=>(JK bm p2.ok.ris ⟨p2.mm,p2.ok.bd⟩ e)) (by decide)
def gt {cs:km C4}{b e:C4}{m:Rat}(c:JQ cs)(hb:b∈cs)(he:e∈cs)(h1:b.1<m)(h2:m<e.1)(two:2<=cs.length):∃t,spotC cs m=some t:=by
 obtain⟨a,r,l,rfl,f,d⟩:=open2 two;refine K3 f d ?_ ?_
 .rcases AAc.mp hb with rfl|hb
  .grind
  .have:=(AAg.mp c).1 b hb;grind
 .obtain ⟨u,hu⟩:=AE7.mp d;rw[hu] at c he;rcases AAn.mp he with he|he
  .have:=(AEu.mp c).2.2 e he l (by simp);grind
  .rcases ABZ.mp he with rfl;grind
def KH {bs:km C4}{m:Rat}{t:T3}{k:Nat}(h:k+1<=bs.length)(i:bs.length<=100){a b c d e f:ke AV}{X Y Z:BC->Prop}{Q:PV->Prop}(q:Q (Ah (bs.take (k+1)++(m,t)::bs.drop (k+1)))):ED {nx:=X,rt:=Q,bk:=Y,ct:=Z} [a,b,c,d,e,some (.val (Ah bs)),some (.val (.int (k:Nat))),some (.val (fr m)),some (.own [fr t.1,fr t.2.1,fr t.2.2]),f,none] :=by
 have g:((k:Int)+1).toNat=k+1:=by omega
 have j:(bs.take (k+1)).length<=bs.length:=by rw[ACq];omega
 ac_rfl;rw[g,ADs];exact q
def My {cs:km C4}{o:T3}(s:Hz 12 6 600 cs)(B:E5 4 o){r:Int}(s0:0<=r)(s1:r<3){R:ke AV}{X Y Z:BC->Prop}{Q:PV->Prop}(q:∀es,VT es->Q (Ah es)):DI {nx:=X,rt:=Q,bk:=Y,ct:=Z} [some (.val .tape),some (.val (Ah cs)),R,some (.val (.int r)),some (.own [fr o.1,fr o.2.1,fr o.2.2]),none,none,none,none,none,none] :=by
 have S:=s.few;have two:=s.two;have U:=Oi s;have D:=U.y;have u:Ef 12 10 cs:=s.ok (by decide) (by decide);have j:E5 11 o:=B.mono (by decide);have d:Ef 12 22 (cs.map (KO 0 o)):=Tv u (lI.mono (by decide)) j;have v:∀c∈cs.map (KO 0 o),Bd 11 c.1:=λc hc=>by
  obtain⟨b,hb,rfl⟩:=AAl.mp hc;have:(KO 0 o b).1=b.1:=by show b.1+0=_;grind
  rw[this];exact D.mm b hb
 unfold DI GZ;generalize i:EU=T;ac_rfl;refine HQ (t:=0) rfl (by omega) u.bd (lI.mono (n:=11) (by decide)) j (by decide) (by decide) ?_;ac_rfl
 .exact q _ ⟨⟨d.two,d.few,λc hc=>(d.bd c hc).mono (by decide),d.ris⟩,λc hc=>(v c hc).mono (by decide)⟩
 subst i;rename_i W;have l12:cs.length<=11:=by omega
 have ml:(cs.map (KO 0 o)).length=cs.length:=AAk ..;unfold EU Ga;generalize i:EV=T;ac_rfl;rename_i L k0 k1 c C mc e w me;obtain⟨k,rfl⟩:∃k:Nat,L=k:=⟨L.toNat,by omega⟩;have C:cs[k]? =some c:=C;have w:cs[k+1]? =some e:=by
  have h:((k:Int)+1).toNat=k+1:=by omega
  rw[h] at w;exact w
 have lt:=Zk s.ris C w;have E:=D.mm c mc;have l:=D.mm e me;have bm:=(E.add l).mul (show Bd 2 (1/2:Rat) from⟨by decide +kernel,by decide +kernel⟩);refine Jy (E.mono (by decide)) (l.mono (by decide)) ((E.add l).mono (by decide)) ?_;have rR:c.1<(c.1+e.1)*(1/2):=by grind
 have ay:(c.1+e.1)*(1/2)<e.1:=by grind
 generalize (c.1+e.1)*(1/2)=m at bm rR ay ⊢;have g:(cs.map (KO 0 o))[k]? =some (KO 0 o c):=by rw[ABI,C];rfl
 have p:(cs.map (KO 0 o))[k+1]? =some (KO 0 o e):=by rw[ABI,w];rfl
 have M:(KO 0 o c).1<m:=by show c.1+0<m;grind
 have N:m<(KO 0 o e).1:=by show m<e.1+0;grind
 generalize cs.map (KO 0 o)=bs at d v ml g p ⊢;obtain⟨t,O⟩:=gt d.ris (ABN g) (ABN p) M N d.two;have F:=JK bm d.ris ⟨v,d.bd⟩ O;have a:∀t:T3,E5 136 t->Q (Ah (bs.take (k+1)++(m,t)::bs.drop (k+1))):=λt G=>by
  refine q _ ⟨⟨?_, ?_,λx hx=> ?_,kD g p d.ris M N⟩,λx hx=> ?_⟩
  .simp only[ABR,AAz,ACq,ADV];omega
  .simp only[ABR,AAz,ACq,ADV];omega
  .rcases AAn.mp hx with hx|hx
   .exact (d.bd x (ADO hx)).mono (by decide)
   .rcases AAc.mp hx with rfl|hx
    .exact ⟨bm.mono (by decide),G.x,G.y,G.z⟩
    .exact (d.bd x (ADP hx)).mono (by decide)
  .rcases AAn.mp hx with hx|hx
   .exact (v x (ADO hx)).mono (by decide)
   .rcases AAc.mp hx with rfl|hx
    .exact bm.mono (by decide)
    .exact (v x (ADP hx)).mono (by decide)
 clear q;subst i;unfold EV Gb;generalize i:EW=T;ac_rfl;refine Fb d.bd d.ris (by intro z;rw[z] at g;cases g) (by omega) bm (by decide) ?_;rw[O,show MI (some t)= .tup [fr t.1,fr t.2.1,fr t.2.2] from rfl];ac_rfl;have eh:PV.tup [.int (-1), .int 2] =fr (-1/2):=by unfold fr;rw[show (-1/2:Rat).num= -1 by decide +kernel,show (-1/2:Rat).den=2 by decide +kernel];rfl
 rw[eh];refine KL (xs:= [-1/2,0,1/2]) (by assumption) (by assumption) λf P=> ?_;have H:Bd 2 f:=by simp only[AAc,AAq,AAr] at P;rcases P with rfl|rfl|rfl <;> exact⟨by decide +kernel,by decide +kernel⟩
 ac_rfl;subst i;have I:Bd 128 t.1:=F.x;have J:Bd 128 t.2.1:=F.y;have K:Bd 128 t.2.2:=F.z;have ox:=B.x;have oy:=B.y;have oz:=B.z;have vx:=ox.mul H;have vy:=oy.mul H;have vz:=oz.mul H;have wx:=I.add vx;have wy:=J.add vy;have wz:=K.add vz;have A:k+1<=bs.length:=by omega
 have c1:Eh (bs.map cor) none (some ((k:Int)+1))=(bs.take (k+1)).map cor:=dZ (by omega) A;have c2:Eh (bs.map cor) (some ((k:Int)+1)) none=(bs.drop (k+1)).map cor:=Ve (by omega) A;unfold EW;generalize i:ED=T;rcases (show r=0\/r=1\/r=2 by omega) with rfl|rfl|rfl
 .ac_rfl;refine uv ?_;simp only[List.set];ac_rfl;subst i;have a:=a (t.1+o.1*f,t.2.1,t.2.2) ⟨wx.mono (by decide),J.mono (by decide),K.mono (by decide)⟩;exact KH A (by omega) a
 .ac_rfl;refine uw ?_;simp only[List.set];ac_rfl;subst i;have a:=a (t.1,t.2.1+o.2.1*f,t.2.2) ⟨I.mono (by decide),wy.mono (by decide),K.mono (by decide)⟩;exact KH A (by omega) a
 .ac_rfl;refine ux ?_;simp only[List.set];ac_rfl;subst i;have a:=a (t.1,t.2.1,t.2.2+o.2.2*f) ⟨I.mono (by decide),J.mono (by decide),wz.mono (by decide)⟩;exact KH A (by omega) a
def aY {cs:km C4}{d:Rat×Rat}(a:Hz 12 6 600 cs)(b1:Bd 3 d.1)(b2:Bd 3 d.2){Q:PV->Prop}(q:∀es,VT es->Q (Ah es)):Dd [.tape,Ah cs, .tup [fr d.1,fr d.2]] Q:=by
 have j:=a.few;have two:=a.two;have m:=Oi a;have k:Ef 12 10 cs:=a.ok (by decide) (by decide);have l:∀w,(w=d.1\/w=d.2)->Bd 3 w:=λw h=>by rcases h with rfl|rfl <;> assumption
 apply OO;unfold GB GX GY;generalize c:DI=T;ac_rfl;rename_i e f g;refine TV λw hw=> ?_;have i:=(l w hw).mono (n:=4) (by decide);have b:Bd 4 (0:Rat):=lI.mono (by decide);rcases (show e=0\/e=1\/e=2 by omega) with rfl|rfl|rfl
 .ac_rfl;refine uv ?_;simp only[List.set];ac_rfl;subst c;exact My (o:=(w,0,0)) a ⟨i,b,b⟩ f g q
 .ac_rfl;refine uw ?_;simp only[List.set];ac_rfl;subst c;exact My (o:=(0,w,0)) a ⟨b,i,b⟩ f g q
 .ac_rfl;refine ux ?_;simp only[List.set];ac_rfl;subst c;exact My (o:=(0,0,w)) a ⟨b,b,i⟩ f g q
abbrev OB:AS:=
 (AZ (BI (EI (B2 (Am (DZ Xe (AB (aV 16) (AB (aC (.ty "bool")) AM))))) (Am (AY Nm (aV 16) (AN 4 CH (AB (aV 12) (AB (aV 13) (AB (aV 14) (AB (aV 7) AM)))))))) (As (aC (.bl false))) Ay)
   (BI (Am (AY Nm (DZ Xf (AB (aV 7) AM)) (aV 15))) (As (aC (.bl false))) Ay))
abbrev OA:AS:=
 (AZ (Aj (AN 4 Bk (AB (aV 12) (AB (aV 13) (AB (aV 14) (AB (aV 7) AM))))) (Aq 16))
   OB)
abbrev G7:AS:=
 (AZ (Aj (DZ Xf (AB (aV 7) AM)) (Aq 15))
   OA)
abbrev Ho:AS:=
 (AZ (Aj (Db (B0 (AB (Ar (AB (aV 8) (AB (aV 9) (AB (aV 3) AM)))) (AB (Ar (AB (aV 9) (AB (aV 8) (AB (aV 3) AM)))) (AB (Ar (AB (aV 8) (AB (aV 9) (AB (aV 10) AM)))) AM))))) (Aq 11))
   (FA (IM (aV 11)) (JR 3 (Af (Aq 12) (Af (Aq 13) (Af (Aq 14) Bw)))) G7))
abbrev G8:AS:=
 (AZ (Aj (AN 1 DK (AB (aV 2) AM)) (Aq 10))
   Ho)
abbrev Co:AS:=
 (AZ (FA (IM (Db (CD (vd 6) 1 [] (Aq 0) (Am (AY Nm (aV 0) (Ar AM))) (aV 0)))) (Aq 7) (II (Yv (aV 6) (Db (CD (Q2 (AB (aC (.int 3)) AM)) 1 [2,7] (Aq 0) EJ (AN 2 CU (AB (aV 1) (AB (aV 2) AM)))))) 6))
   (il 6 (FA (IM (aV 6)) (Aq 7) G8)))
abbrev E9:AS:=
 (AZ (BI (Am (AY Fz (AY Ak (aV 5) (aC (.int 0))) (aC (.str "clear")))) (Q1 6 (aC (.int 1)) (AY Ak (aV 5) (aC (.int 1)))) Ay)
   Co)
abbrev Dq:AS:=
 (AZ (II (B0 (AB (AN 3 CQ (AB (aV 2) (AB (aV 8) (AB (aV 9) AM)))) (AB (Ar AM) AM))) 6)
   E9)
abbrev Hu:AS:=
 (AZ (Aj (AN 3 Go (AB (aV 8) (AB (aV 9) (AB (aV 3) AM)))) (Aq 5))
   Dq)
abbrev Ht:AS:=
 (AZ (BI (EI (B2 (Am (AN 3 Bu (AB (aV 8) (AB (aV 4) (AB (aV 3) AM)))))) (B2 (Am (AN 3 Bu (AB (aV 4) (AB (aV 8) (AB (aV 3) AM))))))) (As (aC (.bl false))) Ay)
   Hu)
abbrev Dp:AS:=
 (AZ (Aj (AN 3 Dd (AB (aV 2) (AB (aV 8) (AB (aV 3) AM)))) (Aq 4))
   Ht)
abbrev Hs:AS:=
 (AZ (BI (Am (AY Fz (AN 2 A8 (AB (aV 2) (AB (aC (.int 4)) AM))) (aC (.int 0)))) (Aj (AN 3 Dc (AB (aV 2) (AB (aV 8) (AB (aV 3) AM)))) (Aq 9)) Ay)
   Dp)
abbrev Hr:AS:=
 (AZ (Aj (AN 2 CV (AB (aV 2) (AB (aV 3) AM))) (JR 2 (Af (Aq 8) (Af (Aq 9) Bw))))
   Hs)
abbrev Hq:AS:=
 (AZ (Aj (AN 1 DK (AB (aV 2) AM)) (Aq 3))
   Hr)
abbrev G9:AS:=
 (AZ (Aj (AN 2 PJ (AB (aV 0) (AB (aV 1) AM))) (Aq 2))
   Hq)
abbrev Mi:AS:=
 (AZ (FA (Q2 (AB (AY A4 (aC (.int 1)) (DZ (q8 min) (AB (aC (.int 3)) (AB (DZ Dw (AB (aV 0) AM)) AM)))) AM)) (Aq 1) G9)
   (As (aC (.bl true))))
def FY:AF:=A0 17 Mi
def WS {a:PV}{Q:PV->Prop}(h:Mi ⟨λ_=>Q .non,Q,λ_=>False,λ_=>False⟩ [some (.val a),none,none,none,none,none,none,none,none,none,none,none,none,none,none,none,none]):FY [a] Q:=h
instance{b c:AE}{τ a:BC}{Q:km PV->Prop}[h:aH τ a] :Wp (Yv b c τ Q) (b a λx=>c a λy=>match x,y with | .lst xs, .lst ys=>xs.length+ys.length<=sizeLine/\OJ (xs++ys)=true/\Q (xs++ys)|_,_=>False):=⟨λk=>by unfold Yv;rw[h.e];exact k⟩
def Iy (xs:km Rx):PV:= .tup (xs.map R6)
def pA {q:Rat}{b:kc}(h:Bd 1800 q):Sh 1 4000 (uX q b):=by
 cases b with
 | false=>exact Sh.fr (h.mono (by decide))
 | true=>
   have t1:(2*q.num).natAbs<2^1900:=by have:=Aw h.top (show 1800<=1899 by decide);rw[ADC];show 2*_<_;omega
   have t2:(2*(q.den:Int)).natAbs<2^1900:=by have:=Aw h.botI (show 1800<=1899 by decide);rw[ADC];show 2*_<_;omega
   exact(Sh.tup (sL (Sh.int t1) (Sh.int t2))).mono (by omega) lz
def pB {xs:km Rx}(h:VV 460 1704 xs):VW (Iy xs):=by
 have a:∀x∈xs,Sh 2 17000 (R6 x):=λx hx=>by have o:=h.2 x hx;have b:Sh 1 4000 (PV.int (x.r.sd:Nat)):=(Sh.int (by have:=o.sd;omega)).mono (by decide) (by decide);have c:Sh 1 4000 (PV.int (Fu x.r.up)):=(Sh.int (by cases x.r.up <;> decide)).mono (by decide) (by decide);exact(Sh.tup (nj (pA (o.bb.mono (by decide))) (Sh.fr (o.be.mono (by decide))) b c)).mono (by decide) lz
 have:=Sh.tup (d:=2) (n:=17000) (xs:=xs.map R6) λy hy=>by obtain⟨x,hx,rfl⟩:=AAl.mp hy;exact a x hx
 refine this.go (by decide) ?_;rw[AAk];have:=h.1;omega
section
variable {cs ds:km C4}{d:Rat×Rat}{M W:Nat}
theorem Xs (D:GS cs ds d M W){B:Nat}(hc:∀c∈cs,D5 B c)(l:∀c∈ds,D5 B c)(y:B<=30)(hM:M<=1704){xs:km Rx}(h:VV 460 1704 xs){m n o p r s t u v e f a b:ke AV}{nx bk ct:BC->Prop}{rt:PV->Prop}(q:∀a b,nx [m,n,o,p,r,s,t,some (.val (Iy xs)),u,v,e,f,some (.val (Ah cs)),some (.val (Ah ds)),some (.val (.tup [fr d.1,fr d.2])),a,b]):G7 {nx:=nx,rt:=rt,bk:=bk,ct:=ct} [m,n,o,p,r,s,t,some (.val (Iy xs)),u,v,e,f,some (.val (Ah cs)),some (.val (Ah ds)),some (.val (.tup [fr d.1,fr d.2])),a,b] :=by
 have z:=pB h;have h1:=h.1;have x:∀{Q:PV->Prop},(Good cs ds d xs->Q (.bl true))->(¬Good cs ds d xs->Q (.bl false))->Bk [Ah cs,Ah ds, .tup [fr d.1,fr d.2],Iy xs] Q:=λi j=>Wd D (X:=1704) hc l (.self _) (.self _) (.inl rfl) (by omega) h.2 (by omega) (by omega) hM i j;have w:∀{Q:PV->Prop},(Good cs ds d xs->Q (.bl true))->(¬Good cs ds d xs->Q (.bl false))->CH [Ah cs,Ah ds, .tup [fr d.1,fr d.2],Iy xs] Q:=λi j=>Wc D (X:=1704) hc l (by omega) hM (by omega) h.2 i j;have hp:Pr (Iy xs)=true:=rfl;generalize Iy xs=P at *;ac_rfl;refine x (λg=> ?_) (λg=> ?_)
 .ac_rfl;refine w (λ_=> ?_) (λk=>absurd g k);ac_rfl;exact q _ _
 .ac_rfl;refine w (λk=>absurd k g) (λ_=> ?_);ac_rfl;exact q _ _
def IK (rs:km Rw):PV:= .tup (rs.map IL)
theorem fR (n:Nat)(rs:km Rw):E6 (n+3) (IK rs)=true:=by unfold IK;simp only[E6];exact Gx λx hx=>by obtain⟨r,_,rfl⟩:=AAl.mp hx;rfl
theorem nr {rs:km Rw}{Q:PV->Prop}(a:rs= [] ->Q (.bl false))(b:rs≠ [] ->Q (.bl true)):Nm (IK rs) (.tup []) Q:=by
 cases rs with
 | nil=>exact⟨⟨rfl,rfl⟩,a rfl⟩
 | cons r rs=>
   refine⟨⟨fR 27 (r::rs),rfl⟩, ?_⟩;have:Ru (IK (r::rs)) (.tup [])=false:=by simp[IK,Ru,pd,NG,PyData.eqv,PyData.eqvAll]
   rw[this];exact b (by simp)
theorem ZV:∀xs:km Rx,OJ (xs.map R6)=true
 | [] =>rfl
 | ⟨r,b⟩::xs=>by
   have h:V4 (R6 ⟨r,b⟩)=true:=by cases b <;> rfl
   rw[AAi,OJ,h,ZV xs];rfl
theorem V6:∀a:km (km Rx),OJ (a.map Iy)=true
 | [] =>rfl
 | xs::a=>by have h:V4 (Iy xs)=true:=ZV xs;rw[AAi,OJ,h,V6 a];rfl
structure VU (rs:List Rw):Prop where
 few:rs.length<=450
 ok:∀r∈rs,Il 850 (Py r)
theorem VU.all {rs:km Rw}(h:VU rs):VV 460 1704 (rs.map Py):=⟨by rw[AAk];exact AA1 h.few (by decide),λx hx=>by
 obtain⟨r,a,rfl⟩:=AAl.mp hx;have o:=h.ok r a;exact⟨o.bb.mono (by decide),o.be.mono (by decide),o.sd⟩⟩
theorem j4 (rs:km Rw):IK rs=Iy (rs.map Py):=by unfold IK Iy;rw[ABf];rfl
theorem fC (p:Ju cs)(p2:Ju ds)(b1:Bd 3 d.1)(b2:Bd 3 d.2)(Q:0<d.1)(S:0<d.2){a rs2:km Rw}(h1:VU a)(h2:VU rs2){E x y z F g h i j k c f:ke AV}{nx bk ct:BC->Prop}{rt:PV->Prop}(q:∀x X Y y z Z F s8 s9 g h i j k c f,nx [E,x,X,Y,y,z,Z,F,s8,s9,g,h,i,j,k,c,f]):Co {nx:=nx,rt:=rt,bk:=bk,ct:=ct} [E,x,some (.val .tape),some (.val (.tup [fr d.1,fr d.2])),y,z,some (.own [IK a,IK rs2]),F,some (.val (Ah cs)),some (.val (Ah ds)),g,h,i,j,k,c,f] :=by
 unfold Co;generalize G:G8=T;rw[show [IK a,IK rs2] = [a,rs2].map IK from rfl];ac_rfl;refine DB IK IK (λrs=> !rs.isEmpty) VU (λrs A R N B C=> ?_) [a,rs2] [] (λrs A=> ?_) ?_
 .ac_rfl;refine nr (λe=> ?_) (λe=> ?_)
  .ac_rfl;exact C (by rw[e];rfl)
  .ac_rfl;exact B (by cases rs with | nil=>exact absurd rfl e|cons _ _=>rfl)
 .simp only[AAc,AAq,AAr] at A;rcases A with rfl|rfl <;> assumption
 have H:([a,rs2].filter λrs=> !rs.isEmpty).length<=2:=ACX _ _;have U:∀rs∈ [a,rs2].filter (λrs=> !rs.isEmpty),VU rs/\rs≠ [] :=λrs A=>by obtain⟨B,C⟩:=ABo.mp A;refine⟨?_,λe=>by rw[e] at C;cases C⟩;simp only[AAc,AAq,AAr] at B;rcases B with rfl|rfl <;> assumption
 generalize [a,rs2].filter (λrs=> !rs.isEmpty)=fs at H U;rw[ABY,show [a,rs2].map IK= [a.map Py,rs2.map Py].map Iy by simp[j4]];ac_rfl;refine DN IK (λD vs τ=>∃(b:km (km Rx)) (l:ke AV),b.length<=2+3*D.length/\(∀xs∈b,VV 460 1704 xs)/\τ= [E,x,some (.val .tape),some (.val (.tup [fr d.1,fr d.2])),y,z,some (.own (b.map Iy)),l,some (.val (Ah cs)),some (.val (Ah ds)),g,h,i,j,k,c,f]) ?_ ?_ ⟨[a.map Py,rs2.map Py],_,by simp,λxs hx=> ?_,rfl⟩
 .rintro τ ⟨b,l,hl,hx,rfl⟩;ac_rfl;refine DN Iy (λD vs τ=>∃l m n o r s t u,τ= [E,x,some (.val .tape),some (.val (.tup [fr d.1,fr d.2])),y,z,some (.val (.lst (b.map Iy))),l,some (.val (Ah cs)),some (.val (Ah ds)),m,n,o,r,s,t,u]) ?_ ?_ ⟨_,_,_,_,_,_,_,_,rfl⟩
  .rintro τ ⟨l,m,n,o,r,s,t,u,rfl⟩;ac_rfl;exact q _ _ _ _ _ _ _ _ _ _ _ _ _ _ _ _
  .rintro D xs vs e τ R I ⟨l,m,n,o,r,s,t,u,rfl⟩;have J:=hx xs (by rw[<-e];simp);have D1:=i5 p p2 b1 b2 Q S;have D2:=i5 p2 p b1 b2 Q S;subst G;unfold G8 Ho;generalize G:G7=T;ac_rfl;refine Rf λd2 b3 b4 g3 g4=> ?_;have D3:=i5 p p2 b3 b4 (by grind) (by grind);repeat' array_get_dec
   subst G;refine Xs D1 p.ok.bd p2.ok.bd (by decide) (by decide) J λc f=> ?_;repeat' array_get_dec
   refine Xs D2 p2.ok.bd p.ok.bd (by decide) (by decide) J λc f=> ?_;repeat' array_get_dec
   refine Xs D3 p.ok.bd p2.ok.bd (by decide) (by decide) J λc f=> ?_;repeat' array_get_dec
   exact I _ ⟨_,_,_,_,_,_,_,_,rfl⟩
 .rintro D rs vs e τ R I ⟨b,l,hl,hx,rfl⟩;have rm:rs∈fs:=by rw[<-e];simp
  have ul:D.length+1<=2:=by rw[<-e] at H;simp at H;omega
  obtain⟨v,K⟩:=U rs rm;ac_rfl;rw[show rng 0 (Int.toNat 3)= [.int 0, .int 1, .int 2] from rfl];repeat' array_get_dec
  refine NZ K v.few v.ok (by decide) (by decide) λL B=> ?_;repeat' array_get_dec
  refine NZ K v.few v.ok (by decide) (by decide) λO C=> ?_;repeat' array_get_dec
  refine NZ K v.few v.ok (by decide) (by decide) λP k3=> ?_;repeat' array_get_dec
  rw[show b.map Iy ++ [PV.tup (L.map R6),PV.tup (O.map R6),PV.tup (P.map R6)] =(b ++ [L,O,P]).map Iy by rw[AAu];rfl];refine⟨V6 _, ?_⟩;repeat' array_get_dec
  refine I _ ⟨b ++ [L,O,P],_,by simp;omega,λxs w=> ?_,rfl⟩;rcases AAn.mp w with w|w
  .exact hx xs w
  .simp only[AAc,AAq,AAr] at w;rcases w with rfl|rfl|rfl <;> assumption
 .simp only[AAc,AAq,AAr] at hx;rcases hx with rfl|rfl
  .exact h1.all
  .exact h2.all
theorem wZ {a b:PV}{P:Nat->Prop}(h:P 1):ZY (Pt [a,b].length 1) P:=h
theorem fB (C:Hz 12 6 600 cs)(p2:Ju ds)(b1:Bd 3 d.1)(b2:Bd 3 d.2)(l:0<d.1)(n:0<d.2){E t u v w x a b c e f h i:ke AV}{nx bk ct:BC->Prop}{rt:PV->Prop}(q:∀t F G u v w x H I a b c e f h i,nx [E,t,F,G,u,v,w,x,H,I,a,b,c,e,f,h,i]):Dp {nx:=nx,rt:=rt,bk:=bk,ct:=ct} [E,t,some (.val .tape),some (.val (.tup [fr d.1,fr d.2])),u,v,w,x,some (.val (Ah cs)),some (.val (Ah ds)),a,b,c,e,f,h,i] :=by
 have p:=(Oi C).y;have D:=i5 p p2 b1 b2 l n;unfold Dp Ht Hu;generalize j:Dq=T;ac_rfl;refine aY C b1 b2 λes s=> ?_;have J:=qu (Oj p) s b1 b2 l n;have K:=qu s (Oj p) b1 b2 l n;ac_rfl;refine ZB J (B:=136) (Oj p).ok.bd s.ok.bd (by decide) (by decide) ?_;ac_rfl;refine ZB K (B:=136) s.ok.bd (Oj p).ok.bd (by decide) (by decide) ?_;ac_rfl;have mk:∀{Q:PV->Prop},(∀rs:km Rw,VU rs->Q (IK rs))->CQ [.tape,Ah cs,Ah ds] Q:=λk=>jX D p.ok.few p2.ok.few λrs hl ok=>k rs ⟨by omega,λr z=>by have o:=ok r z;exact⟨o.bb.mono (by decide),o.be.mono (by decide),o.sd⟩⟩;refine YF D (.self _) (.self _) (.inl rfl) (by decide) (λm _ _ _=> ?_) (λ_ rs P=> ?_)
 .subst j;unfold Dq E9;generalize j:Co=T;ac_rfl;refine mk λA h1=> ?_;ac_rfl;subst j;exact fC (rs2:= []) p p2 b1 b2 l n h1 ⟨by simp,by simp⟩ q
 .have h2:VU rs:=⟨by have:=P.few;omega,λr z=>by have g:=P.ok r z;exact⟨g.bb.mono (by decide),g.be.mono (by decide),g.sd⟩⟩;rw[show PV.tup (rs.map IL)=IK rs from rfl];subst j;unfold Dq E9;generalize j:Co=T;ac_rfl;refine mk λA h1=> ?_;ac_rfl;refine wZ ?_;simp only[List.set];ac_rfl;subst j;exact fC p p2 b1 b2 l n h1 h2 q
theorem fD (j:km Int)(hn:j.length<=63):FY [.scr j] λx=>x= .bl true:=by
 apply WS;unfold Mi;generalize A:G9=T0;repeat' array_get_dec
 refine TZ (λi τ=>∃k l m n o p r s t a b c e f g h,τ= [some (.val (.scr j)),k,l,m,n,o,p,r,s,t,a,b,c,e,f,g,h]) ?_ ?_ ⟨_,_,_,_,_,_,_,_,_,_,_,_,_,_,_,_,rfl⟩
 .rintro τ ⟨k,l,m,n,o,p,r,s,t,a,b,c,e,f,g,h,rfl⟩;repeat' array_get_dec
 .rintro i hi τ R w ⟨k,l,m,n,o,p,r,s,t,a,b,c,e,f,g,h,rfl⟩;have B:(0:Int)+i=i:=by omega
  rw[B];subst A;unfold G9 Hq Hr Hs;generalize z:Dp=T;ac_rfl;refine Rf λd b1 b2 D E=> ?_;ac_rfl;refine iG b1 b2 λcs ds u pd=> ?_;ac_rfl
  .refine XI u b1 b2 λC v=> ?_;ac_rfl;subst z;exact fB u v.y b1 b2 (by grind) (by grind) λ_ _ _ _ _ _ _ _ _ _ _ _ _ _ _ _=>w _ ⟨_,_,_,_,_,_,_,_,_,_,_,_,_,_,_,_,rfl⟩
  .subst z;exact fB u pd b1 b2 (by grind) (by grind) λ_ _ _ _ _ _ _ _ _ _ _ _ _ _ _ _=>w _ ⟨_,_,_,_,_,_,_,_,_,_,_,_,_,_,_,_,rfl⟩
end
end PL.K26
section
namespace K26
open PySem L2 PL PL.K26 PL.K25 PyProof.Rows
def DT {N Q:km Str}{s:Scope}(a:s.kind= .function:=by rfl)(b:s.isCoroutine=false:=by rfl)(c:s.isGenerator=false:=by rfl)(d:N.Nodup:=by decide +kernel)(e:N.take Q.length=Q:=by rfl)(f:∀x∈Q,s.names.lookup x=some .local\/s.names.lookup x=some .cell:=by decide +kernel)(g:∀y∈s.names,y.2≠ .free:=by decide +kernel):FS N Q s:=⟨a,b,c,d,e,f,g⟩
section
variable (P:gn)(w:fe)(K:AAY)(Z:Str->ke kj)(Y:da)(n:Nat)
abbrev B4:=Has P w K Z Y n "_law_draw" ["_law_tape_here","_law_many"] (Cn K 2 A8)
abbrev Tf:=Has P w K Z Y n "_law_apart" ["_law_tape_here"] (Cn K 1 DK)
abbrev DC:=Has P w K Z Y n "_law_part" ["_law_top","_law_bottom"] (Cn K 2 BA)
abbrev DE:=Has P w K Z Y n "_law_sum" ["_law_one","_law_other"] (Cn K 2 Bc)
abbrev Ln:=Has P w K Z Y n "_law_moved" ["_law_plan_here","_law_late","_law_by"] (Cn K 3 Bj)
abbrev HL:=Has P w K Z Y n "_law_off" ["_law_one","_law_other"] (Cn K 2 B6)
abbrev Lo:=Has P w K Z Y n "_law_place" ["_law_tape_here"] (Cn K 1 BB)
abbrev Np:=Has P w K Z Y n "_law_span" ["_law_tape_here"] (Cn K 1 C9)
abbrev Nn:=Has P w K Z Y n "_law_plan" ["_law_tape_here"] (Cn K 1 CS)
abbrev DD:=Has P w K Z Y n "_law_product" ["_law_one","_law_other"] (Cn K 2 BN)
abbrev Q9:=Has P w K Z Y n "_law_beside" ["_law_tape_here","_law_plan_here","_law_apart_here"] (Cn K 3 Dc)
abbrev Ey:=Has P w K Z Y n "_law_less" ["_law_one","_law_other"] (Cn K 2 Av)
abbrev Jx:=Has P w K Z Y n "_law_number" ["_law_thing"] (Cn K 1 BR)
abbrev RC:=Has P w K Z Y n "_law_lowest" ["_law_thing"] (Cn K 1 BV)
abbrev RB:=Has P w K Z Y n "_law_is_row" ["_law_row"] (Cn K 1 Cu)
abbrev Lp:=Has P w K Z Y n "_law_ratio" ["_law_one","_law_other"] (Cn K 2 DL)
abbrev Nq:=Has P w K Z Y n "_law_spot" ["_law_plan_here","_law_m"] (Cn K 2 D6)
abbrev Vm:=Has P w K Z Y n "_law_offs" ["_law_one","_law_other","_law_apart_here","_law_m"] (Cn K 4 Ev)
abbrev RD:=Has P w K Z Y n "_law_rising" ["_law_moments"] (Cn K 1 De)
abbrev HM:=Has P w K Z Y n "_law_turns" ["_law_one","_law_other"] (Cn K 2 Ci)
abbrev M5:=Has P w K Z Y n "_law_row_holds" ["_law_one","_law_other","_law_apart_here","_law_row"] (Cn K 4 CT)
abbrev Lq:=Has P w K Z Y n "_law_shows" ["_law_one","_law_other","_law_apart_here","_law_paper"] (Cn K 4 CH)
abbrev Dj:=Has P w K Z Y n "before" ["one","other"] (Cn K 2 Av)
abbrev Pg:=Has P w K Z Y n "common" ["one","other"] (Cn K 2 Gi)
abbrev Pi:=Has P w K Z Y n "part" ["top","bottom"] (Cn K 2 Ih)
abbrev Ob:=Has P w K Z Y n "minus" ["one","other"] (Cn K 2 EG)
abbrev Ry:=Has P w K Z Y n "size_of" ["apart","side"] (Cn K 2 Ea)
abbrev Xh:=Has P w K Z Y n "over" ["one","other"] (Cn K 2 KB)
abbrev Xi:=Has P w K Z Y n "plus" ["one","other"] (Cn K 2 Ii)
abbrev Tg:=Has P w K Z Y n "times" ["one","other"] (Cn K 2 F3)
abbrev Pj:=Has P w K Z Y n "spot_between" ["former","latter","m"] (Cn K 3 EH)
abbrev Rz:=Has P w K Z Y n "spot_at" ["plan","m"] (Cn K 2 Eb)
abbrev Lr:=Has P w K Z Y n "corners_between" ["plan","begin","end"] (Cn K 3 CI)
abbrev RF:=Has P w K Z Y n "count_below" ["numbers","number"] (Cn K 2 Dg)
abbrev Vq:=Has P w K Z Y n "rising" ["numbers"] (Cn K 1 Gr)
abbrev ZG:=Has P w K Z Y n "turns" ["one","other","begin","end"] (Cn K 4 JO)
abbrev ZH:=Has P w K Z Y n "whole" ["n"] (Cn K 1 JP)
abbrev jI:=Has P w K Z Y n "holds" ["one","other","apart","row"] (Cn K 4 LS)
abbrev Ph:=Has P w K Z Y n "is_whole" ["thing"] (Cn K 1 BR)
abbrev ah:=Has P w K Z Y n "is_part" ["thing"] (Cn K 1 EY)
abbrev dt:=Has P w K Z Y n "is_row" ["thing"] (Cn K 1 Fc)
abbrev af:=Has P w K Z Y n "greater" ["one","other"] (Cn K 2 C8)
abbrev Vo:=Has P w K Z Y n "lesser" ["one","other"] (Cn K 2 Fd)
abbrev Pk:=Has P w K Z Y n "together" ["one","other"] (Cn K 2 Du)
abbrev IB:=Has P w K Z Y n "shows_parting" ["one","other","apart","paper"] (Cn K 4 Bk)
abbrev Lm:=Has P w K Z Y n "_law_dent_right" ["_law_one","_law_other","_law_apart_here"] (Cn K 3 Bu)
abbrev Jw:=Has P w K Z Y n "_law_middle" ["_law_one","_law_other"] (Cn K 2 Cv)
abbrev RA:=Has P w K Z Y n "_law_dented" ["_law_tape_here","_law_plan_here","_law_apart_here"] (Cn K 3 Dd)
abbrev Vl:=Has P w K Z Y n "_law_made" ["_law_tape_here","_law_one","_law_other"] (Cn K 3 CQ)
abbrev RE:=Has P w K Z Y n "_law_spoilt" ["_law_tape_here","_law_paper"] (Cn K 2 CU)
abbrev Vn:=Has P w K Z Y n "_law_tape" ["_law_script","_law_k"] (Cn K 2 PJ)
abbrev M6:=Has P w K Z Y n "_law_wide_pair" ["_law_tape_here","_law_apart_here"] (Cn K 2 CV)
abbrev OH:=Has P w K Z Y n "shared_bottom" ["numbers"] (Cn K 1 Cp)
abbrev Xg:=Has P w K Z Y n "lines_of" ["first","last"] (Cn K 2 Fe)
abbrev am:=Has P w K Z Y n "offs_at" ["one","other","apart","m"] (Cn K 4 Gk)
abbrev Vp:=Has P w K Z Y n "pieces" ["one","other","apart"] (Cn K 3 Gq)
abbrev aj:=Has P w K Z Y n "longest" ["bottom","lines"] (Cn K 2 FZ)
abbrev Nr:=Has P w K Z Y n "moment_at" ["begin","end","share"] (Cn K 3 DA)
abbrev dy:=Has P w K Z Y n "row_of" ["begin","end","at"] (Cn K 3 Ff)
abbrev ap:=Has P w K Z Y n "rows_of" ["piece"] (Cn K 1 Gs)
abbrev ak:=Has P w K Z Y n "near_in" ["piece"] (Cn K 1 Gj)
abbrev Xj:=Has P w K Z Y n "steps_of" ["stretches"] (Cn K 1 JN)
abbrev dw:=Has P w K Z Y n "levels" ["stretches"] (Cn K 1 Ig)
abbrev ae:=Has P w K Z Y n "counted" ["stretches","n"] (Cn K 2 FX)
abbrev Xk:=Has P w K Z Y n "told_set" ["stretches"] (Cn K 1 Fg)
abbrev Xl:=Has P w K Z Y n "too_near" ["one","other","apart"] (Cn K 3 Fh)
abbrev ao:=Has P w K Z Y n "parting" ["one","other","apart"] (Cn K 3 Go)
end
section
variable {P:gn}{w:fe}{K:AAY}{Z:Str->ke kj}{Y:da}{n m:Nat}{f:kf}{U:FuncData}
theorem ME:FS ["_law_tape_here","_law_many","_law_once","_law_found"] ["_law_tape_here","_law_many"] (Be F9):=DT
theorem Tx (F:XB K "_law_draw" "_law_draw" F9 f U):Fi P w K Z Y VJ (n+1) f U ["_law_tape_here","_law_many"] (Cn K 2 A8):=by
 have l:=ME.nd;refine F.ok ME (λvs H Q E h=> ?_) (λv A outer s H vs Q E I h=> ?_)
 .obtain ⟨T,M,xs,y,_,_,r,hl,_⟩:=h;rw[r.length,hl] <;> rfl
 obtain⟨T,M,xs,y,va,_,r,hl,e,hQ⟩:=h;unfold A8 at e;split at e <;> first | exact e.elim|skip
 rename_i m;obtain⟨⟨m0,m1⟩,e⟩:=e;cases r with
 | cons r k=>
 cases k with
 | cons r2 k=>
 cases k;cases r2;cases r with
 | tape tp=>
 rename_i p;obtain⟨d,x,hp,o,z,B⟩:=va.tp p tp;refine⟨_,(CL (Ze (Om ln (Nw F5 (pv 0) BM (λ_ _=>rfl)) BM (CY _)) (CL (GH (i:=3) l rfl (Or.inl rfl) (CZ HV (Nw F5 (pv 0) BM (λ_ _=>rfl)) (pv 1)))
  (CL (UL (CZ fi (Nw F5 (pv 0) BM (λ_ _=>rfl)) (pv 1)) (YH (pv 0) BM Qe))
  (F7 (QJ (pv 3))))) Ol)
  (CL (UL (CZ HV (CZ KZ (CZ JV (Nw F5 (pv 0) BM (λ_ _=>rfl)) BM) BM) BM) (YH (pv 0) BM Qe))
  (CL (GH (i:=2) l rfl (Or.inl rfl) (CZ HV (CZ JV (Nw F5 (pv 0) BM (λ_ _=>rfl)) (CZ KZ (CZ HV (Nw F5 (pv 0) BM (λ_ _=>rfl)) BM) BM)) BM))
  (F7 (QJ (CZ HV (CZ HV (CZ JV (pv 2) (CZ KZ (CZ HV (pv 2) BM) BM)) BM) (pv 1))))))), ?_⟩
 have g:∀(r d' j:Int),0<=r->r<m->0<=d'->0<=j->j<2147483647->Q (.int r) (upd H p (.lst [.int d', .int j])):=λr d' j C r1 a b c=>
  hQ _ (.int r) T _ (hZ va.tp tp a b c) (.int r) (e r C r1)
 refine⟨_,rfl,p,_,_,_,rfl,rfl,Fy.of hp,rfl,_,_,rfl,rfl,_,rfl, ?_⟩;refine sC (λc=> ?_) (λc=> ?_)
 .refine ⟨_,rfl,p,_,_,_,rfl,rfl,Fy.of hp,rfl,_,rfl,_,_,rfl,rfl,m0, ?_⟩;refine⟨_,rfl,p,_,_,_,rfl,rfl,Fy.of hp,rfl,_,rfl,_,_,rfl,rfl,⟨m0,by omega⟩, ?_⟩;refine⟨_,rfl,p,_,_,_,rfl,rfl,hp,rfl, ?_⟩;exact⟨_,rfl,g _ _ _ (ADw _ (by omega)) (ADx _ m0) (Int.ediv_nonneg o (by omega)) z B⟩
 .refine ⟨_,rfl,p,_,_,_,rfl,rfl,Fy.of hp,rfl,_,_,rfl,rfl, .inl (.inr ⟨by decide,by decide⟩),_,_,rfl,rfl,_,_,rfl,rfl,(show (0:Int)<2147483647 by decide), ?_⟩;refine⟨_,rfl,p,_,_,_,rfl,rfl,hp,rfl, ?_⟩;have t:0<=(x*48271+12345) % 2147483647:=ADw _ (by decide);have y1:(x*48271+12345) % 2147483647<2147483647:=ADx _ (by decide);have u:upd H p (.lst ([V.int d,V.int x].set (Int.toNat 1) (V.int ((x*48271+12345) % 2147483647)))) p=some (.lst [.int d, .int ((x*48271+12345) % 2147483647)]):=Ap;have D:0<=(x*48271+12345) % 2147483647*((x*48271+12345) % 2147483647 % 1009+3) % 2147483629:=ADw _ (by decide);have G:(x*48271+12345) % 2147483647*((x*48271+12345) % 2147483647 % 1009+3) % 2147483629<2147483629:=ADx _ (by decide);refine⟨_,rfl,p,_,_,_,rfl,rfl,Fy.of u,rfl,_,rfl,p,_,_,_,rfl,rfl,Fy.of u,rfl,_,_,rfl,rfl,(show (0:Int)<1009 by decide),_,_,rfl,rfl,_,_,rfl,rfl, .inl (.inl (Qi t y1)),_,_,rfl,rfl,(show (0:Int)<2147483629 by decide), ?_⟩;refine⟨_,rfl,_,rfl,_,_,rfl,rfl,(show (0:Int)<997 by decide),_,_,rfl,rfl,_,_,rfl,rfl, .inl (.inl (Qi D (Int.lt_trans G (by decide)))),_,_,rfl,rfl,(show (0:Int)<998244353 by decide),_,rfl,_,_,rfl,rfl,m0, ?_⟩;exact g _ _ _ (ADw _ (by omega)) (ADx _ m0) o t y1
theorem Dh {P:gn}{w:fe}{K:AAY}{Z:Str->ke kj}{Y:da}{x q:Str}{st:Stmt}{f:kf}{U:FuncData}{N:km Str}{k n:Nat}{b:AS}(F:XB K x q st f U)(S:FS N (N.take n) (Be st))(hn:n=(N.take n).length)(h:∀(v:kj) (A:Wf) (o:km Env) (s:ki) (H:Hp) (E:XK),Room k (A.deeper (envOfC q (Be st) s.heap.objs.size f v))->N.Nodup->iL (Vf VJ P w K Z Y N q (Be st) f v A o s H E).nox (Ep st) b):Fi P w K Z Y VJ (k+1) f U (N.take n) (Cn K n (A0 N.length b)):=
 i6 F S hn λv A o s H E r=>h v A o s H E r S.nd
abbrev Z1 (K:AAY)(x:Str)(s:Stmt)(f:kf)(d:FuncData):=XB K x x s f d
abbrev Z2 (P:gn)(w:fe)(K:AAY)(Z:Str->ke kj)(b:da)(n:Nat)(f:kf)(d:FuncData)(N:km Str)(k:Nat)(F:AF):=Fi P w K Z b VJ (n+1) f d (N.take k) (Cn K k F)
theorem RH (F:Z1 K "_law_apart" HX f U)(a:B4 P w K Z Y n):Z2 P w K Z Y n f U ["_law_tape_here","_law_some"] 1 DK:=Dh F DT rfl λ_ _ _ _ _ _ b c=>(AL (B5 1 c (Bo (A2 (A3 (AU (An AJ AJ)) (A3 (AU (An AJ AJ)) (Cy (AU (An AJ AJ)) (AU (An AJ AJ)) (AU (An AJ AJ)))))))) (AR (AX (AU (An (AW (AH 1) (AK a b rfl (An (AH 0) AJ))) (AW (AH 1) (AK a b rfl (An (AH 0) AJ))))))))
theorem UA (F:Z1 K "_law_part" JE f U)(b:Z "abs" =none)(c:Z "int" =none):Z2 P w K Z Y n f U ["_law_top","_law_bottom","_law_sign","_law_one","_law_other"] 2 BA:=Dh F DT rfl λ_ _ _ _ _ _ _ a=>(AL (Nb (i:=3) (j:=4) rfl a rfl rfl (by decide) rfl rfl (An (Au NW rfl b ACj (BF (AH 0))) (Au NW rfl b ACj (BF (AH 1)))) rfl) (AL (MJ AAv (Dn SH (AH 4) AJ) (AR (Nb (i:=3) (j:=4) rfl a rfl rfl (by decide) rfl rfl (An (AH 4) (Ab Uj (AH 3) (AH 4))) rfl))) (AL (B5 2 a (Ab Cc AJ (Ab BP AJ (A1 NX rfl c ACk (BF (DF IC (AH 1) AJ (CY _))))))) (AR (AX (AU (An (Ab FW (Ab BP (AH 2) (AH 0)) (AH 3)) (Ab FW (Ab BP (AH 2) (AH 1)) (AH 3)))))))))
theorem V9 (F:Z1 K "_law_sum" Ko f U)(a:DC P w K Z Y n):Z2 P w K Z Y n f U ["_law_one","_law_other"] 2 Bc:=Dh F DT rfl λ_ _ _ _ _ _ b _=>(AR (AX (AK a b rfl (An (Ab Ai (Ab BP (AW (AH 0) AJ) (AW (AH 1) AJ)) (Ab BP (AW (AH 1) AJ) (AW (AH 0) AJ))) (Ab BP (AW (AH 0) AJ) (AW (AH 1) AJ))))))
theorem RI (F:Z1 K "_law_moved" HY f U)(c:DE P w K Z Y n)(g:Z "range" =none)(d:Z "tuple" =none):Z2 P w K Z Y n f U ["_law_plan_here","_law_late","_law_by"] 3 Bj:=by
 have a:(["_law_one","_law_late","_law_by"] :km Str).Nodup:=by decide +kernel
 have b:(["_law_k","_law_one","_law_by"] :km Str).Nodup:=by decide +kernel
 exact Dh F DT rfl λ_ _ _ _ _ _ e _=>(AR (AX (A1 Bg rfl d AAx (BF (Bo (gf rfl (DP (AH 0)) (i0 (own:=1) (ix:= [1,2]) (N:= ["_law_one","_law_late" ,"_law_by" ]) "_law_one" rfl rfl (λ_ _=>rfl) (λ_=>rfl) rfl rfl rfl rfl rfl (λ_ _ _ _ _ _=>(Zs (i:=0) a rfl (Or.inr rfl) (by decide))) (λ_ _ _ _ _ _=>Bh) (λ_ _ _ _ _ _=>(Ab Ai (AU (BF (AK c e rfl (An (AW (AH 0) AJ) (AH 1))))) (A1 Bg rfl d AAx (BF (Bo (CM rfl (Nz rfl g (BF AJ)) (B9 (own:=1) (ix:= [0,2]) (N:= ["_law_k","_law_one" ,"_law_by" ]) rfl rfl rfl rfl rfl rfl (λ_ _ _ _ _ _=>(K1 0 b)) (λ_ _ _ _ _ _=>Bh) (λ_ _ _ _ _ _=>(AK c e rfl (An (AW (AH 1) (Ab Ai (AH 0) AJ)) (AW (AH 2) (AH 0)))))))))))))))))))
theorem V8 (F:Z1 K "_law_off" Kk f U)(a:DC P w K Z Y n):Z2 P w K Z Y n f U ["_law_one","_law_other"] 2 B6:=Dh F DT rfl λ_ _ _ _ _ _ b _=>(AR (AX (AK a b rfl (An (Ab Cc (Ab BP (AW (AH 0) AJ) (AW (AH 1) AJ)) (Ab BP (AW (AH 1) AJ) (AW (AH 0) AJ))) (Ab BP (AW (AH 0) AJ) (AW (AH 1) AJ))))))
theorem RJ (F:Z1 K "_law_place" HZ f U)(b:B4 P w K Z Y n)(c:DC P w K Z Y n):Z2 P w K Z Y n f U ["_law_tape_here","_law_kind"] 1 BB:=Dh F DT rfl λ_ _ _ _ _ _ a d=>(AL (B5 1 d (AK b a rfl (An (AH 0) AJ))) (AL (Ax (Dn IC (AH 1) AJ) (AR (AX (AU (An (Ab Cc (AK b a rfl (An (AH 0) AJ)) AJ) AJ)))) Al) (AL (Ax (Dn (Bt a) (AH 1) AJ) (AR (AX (AK c a rfl (An (Ab Cc (AK b a rfl (An (AH 0) AJ)) AJ) AJ)))) Al) (AR (AX (AK c a rfl (An (Ab Cc (AK b a rfl (An (AH 0) AJ)) AJ) AJ)))))))
theorem UC (F:Z1 K "_law_span" JG f U)(b:B4 P w K Z Y n)(c:DC P w K Z Y n):Z2 P w K Z Y n f U ["_law_tape_here","_law_way"] 1 C9:=Dh F DT rfl λ_ _ _ _ _ _ a d=>(AL (B5 1 d (AK b a rfl (An (AH 0) AJ))) (AL (Ax (Dn IC (AH 1) AJ) (AR (AX (AU (An (Ab Ai AJ (AK b a rfl (An (AH 0) AJ))) AJ)))) Al) (AR (AX (AK c a rfl (An (Ab Ai AJ (AK b a rfl (An (AH 0) AJ))) (Ab Cc (AH 1) AJ)))))))
theorem UB (F:Z1 K "_law_plan" JF f U)(d:B4 P w K Z Y n)(c:Lo P w K Z Y n)(e:Np P w K Z Y n)(g:DE P w K Z Y n)(h:Z "len" =none)(j:Z "tuple" =none):Z2 P w K Z Y n f U ["_law_tape_here","_law_many","_law_m","_law_spot_here","_law_corners","_law_way"] 1 CS:=Dh F DT rfl λ_ _ _ _ _ _ a b=>(AL (B5 1 b (Ab Ai AJ (AK d a rfl (An (AH 0) AJ)))) (AL (Ax (Dn (Bt a) (AK d a rfl (An (AH 0) AJ)) AJ) (AR (B5 1 b (AW (Bo (A2 (A3 AJ (Cy AJ AJ AJ)))) (AK d a rfl (An (AH 0) AJ))))) Al) (AL (B5 2 b (AU (An (AK d a rfl (An (AH 0) AJ)) AJ))) (AL (B5 3 b (Bo (A2 (Cy (AK c a rfl (BF (AH 0))) (AK c a rfl (BF (AH 0))) (AK c a rfl (BF (AH 0))))))) (AL (D4 (i:=4) b rfl (Or.inl rfl) (A2 (BF (AU (A3 (AH 2) (Cy (AW (AH 3) AJ) (AW (AH 3) AJ) (AW (AH 3) AJ))))))) (AL (MJ AAv (Dn IC (Au CF rfl h AA4 (BF (AH 4))) (AH 1)) (AL (B5 2 b (AK g a rfl (An (AH 2) (AK e a rfl (BF (AH 0)))))) (AL (B5 5 b (AK d a rfl (An (AH 0) AJ))) (AL (Ax (Dn SH (AH 5) AJ) (AR (B5 3 b (Bo (A2 (Cy (AK c a rfl (BF (AH 0))) (AK c a rfl (BF (AH 0))) (AK c a rfl (BF (AH 0)))))))) (AR (Ax (Dn SH (AH 5) AJ) (AR (B5 3 b (Ab Ai (Ab Ai (E3 (AH 3) Wi (Wj (Ab Cc (AH 5) AJ))) (Bo (A2 (BF (AK c a rfl (BF (AH 0))))))) (E3 (AH 3) (Wj (AH 5)) Wi)))) Al))) (AR (EO (i:=4) ACY ACZ DQ (BF (AU (A3 (AH 2) (Cy (AW (AH 3) AJ) (AW (AH 3) AJ) (AW (AH 3) AJ))))))))))) (AR (AX (A1 Bg rfl j AAx (BF (AH 4)))))))))))
theorem OK (F:Z1 K "_law_product" Fs f U)(a:DC P w K Z Y n):Z2 P w K Z Y n f U ["_law_one","_law_other"] 2 BN:=Dh F DT rfl λ_ _ _ _ _ _ b _=>(AR (AX (AK a b rfl (An (Ab BP (AW (AH 0) AJ) (AW (AH 1) AJ)) (Ab BP (AW (AH 0) AJ) (AW (AH 1) AJ))))))
theorem P2 (F:Z1 K "_law_beside" GI f U)(c:B4 P w K Z Y n)(e:Ln P w K Z Y n)(l:HL P w K Z Y n)(g:Lo P w K Z Y n)(h:Nn P w K Z Y n)(o:DD P w K Z Y n)(j:Np P w K Z Y n)(p:DE P w K Z Y n)(r:Z "int" =none)(k:Z "len" =none)(s:Z "reversed" =none)(t:Z "tuple" =none)(u:Z "zip" =none):Z2 P w K Z Y n f U ["_law_tape_here","_law_plan_here","_law_apart_here","_law_way","_law_by","_law_side","_law_other","_law_k","_law_spot_here"] 3 Dc:=by
 have d:(["_law_one","_law_other"] :km Str).Nodup:=by decide +kernel
 exact Dh F DT rfl λ_ _ _ _ _ _ a b=>(AL (B5 3 b (AK c a rfl (An (AH 0) AJ))) (AL (D4 (i:=4) b rfl (Or.inl rfl) (A2 (Cy (AU (An AJ AJ)) (AU (An AJ AJ)) (AU (An AJ AJ))))) (AL (B5 5 b (AK c a rfl (An (AH 0) AJ))) (AL (K4 (i:=4) (AH 5) (AW (AH 2) (A1 NX rfl r ACk (BF (DF (Bt a) (AH 5) AJ (CY _)))))) (AL (Ax (Dn (Bt a) (AH 3) AJ) (AR (K4 (i:=4) (AH 5) (Kz (AK o a rfl (An (AW (AH 4) (AH 5)) (AW (Bo (A2 (Cy (AU (An AJ AJ)) (AU (An (Bl AJ) AJ)) (AU (An (Bl AJ) AJ))))) (AK c a rfl (An (AH 0) AJ)))))))) Al) (AL (Ax (Dn IC (AH 3) AJ) (AR (AX (AK e a rfl (Cy (AH 1) (AU (An AJ AJ)) (AH 4))))) Al) (AL (Ax (Dn (Bt a) (AH 3) AJ) (AR (AX (AK e a rfl (Cy (AH 1) (AW (Bo (A2 (An (AK j a rfl (BF (AH 0))) (AU (An AJ AJ))))) (AK c a rfl (An (AH 0) AJ))) (AH 4))))) Al) (AL (Ax (Dn (Bt a) (AH 3) AJ) (AR (AX (A1 Bg rfl t AAx (BF (Bo (CM rfl (tq rfl u rfl s (AH 1) (AH 1)) (B9 (own:=2) (ix:= []) (N:= ["_law_one","_law_other" ]) rfl rfl rfl rfl rfl rfl (λ_ _ _ _ _ _=>(Uf (n:=2) rfl (E4 (K1 0 d) (E4 (K1 1 d) Os)))) (λ_ _ _ _ _ _=>Bh) (λ_ _ _ _ _ _=>(Ab Ai (AU (BF (AW (AH 0) AJ))) (E3 (AH 1) (Wj AJ) Wi)))))))))) Al) (AL (Ax (Dn (Bt a) (AH 3) AJ) (AL (B5 6 b (AK h a rfl (BF (AH 0)))) (AR (AX (AK e a rfl (Cy (AH 6) (AK l a rfl (An (AW (AW (AH 1) (Bl AJ)) AJ) (AW (AW (AH 6) AJ) AJ))) (Bo (A2 (Cy (AU (An AJ AJ)) (AU (An AJ AJ)) (AU (An AJ AJ)))))))))) Al) (AL (Ax (Dn (Bt a) (AH 3) AJ) (AL (B5 7 b (AK c a rfl (An (AH 0) (Au CF rfl k AA4 (BF (AH 1)))))) (AL (B5 8 b (AU (Cy (AK g a rfl (BF (AH 0))) (AK g a rfl (BF (AH 0))) (AK g a rfl (BF (AH 0)))))) (AR (AX (Ab Ai (Ab Ai (E3 (AH 1) Wi (Wj (AH 7))) (AU (BF (Ab Ai (E3 (AW (AH 1) (AH 7)) Wi (Wj AJ)) (AH 8))))) (E3 (AH 1) (Wj (Ab Ai (AH 7) AJ)) Wi)))))) Al) (AL (Ax (Dn (Bt a) (AH 3) AJ) (AL (B5 8 b (E3 (AW (AH 1) (AK c a rfl (An (AH 0) (Au CF rfl k AA4 (BF (AH 1)))))) (Wj AJ) Wi)) (AR (AX (AU (An (Ab Ai (AU (BF (AW (AW (AH 1) AJ) AJ))) (AH 8)) (Ab Ai (AU (BF (AK p a rfl (An (AW (AW (AH 1) (Bl AJ)) AJ) (AK j a rfl (BF (AH 0))))))) (AH 8))))))) Al) (AR (AX (AK h a rfl (BF (AH 0))))))))))))))))
theorem Tz (F:Z1 K "_law_less" JB f U):Z2 P w K Z Y n f U ["_law_one","_law_other"] 2 Av:=Dh F DT rfl λ_ _ _ _ _ _ _ _=>(AR (AX (DF IC (Ab BP (AW (AH 0) AJ) (AW (AH 1) AJ)) (Ab BP (AW (AH 1) AJ) (AW (AH 0) AJ)) (CY _))))
theorem P7 (F:Z1 K "_law_number" GN f U)(b:Z "bool" =none)(c:Z "int" =none)(a:Z "isinstance" =none):Z2 P w K Z Y n f U ["_law_thing"] 1 BR:=Dh F DT rfl λ_ _ _ _ _ _ _ _=>(AR (AX (Qa (Au NY rfl a ABl (An (AH 0) (R8 (n:="int") rfl c ACk rfl))) (Qb (gc (Au NY rfl a ABl (An (AH 0) (R8 (n:="bool") rfl b boot_bool rfl))))))))
theorem P5 (F:Z1 K "_law_lowest" GL f U)(b:Jx P w K Z Y n)(d:DC P w K Z Y n)(e:Z "isinstance" =none)(g:Z "len" =none)(h:Z "list" =none)(c:Z "tuple" =none):Z2 P w K Z Y n f U ["_law_thing"] 1 BV:=Dh F DT rfl λ_ _ _ _ _ _ a _=>(AL (Ax (FE (Cd (BS (Az (G1 "list" "tuple" rfl e ABl (AH 0) (BK (DO (v:= .ty "list") rfl h ACl rfl) (BK (DO (v:= .ty "tuple") rfl c AAx rfl) DY)) Ps))) (Cm (Dn (FQ a) (Au CF rfl g AA4 (BF (AH 0))) AJ)))) (AR (AX Cr)) Al) (AL (Ax (FE (Cd (BS (Az (AK b a rfl (BF (AW (AH 0) AJ))))) (Cm (BS (Az (AK b a rfl (BF (AW (AH 0) AJ)))))))) (AR (AX Cr)) Al) (AR (AX (Qa (DF SH (AW (AH 0) AJ) AJ (CY _)) (Qb (DF (Bt a) (A1 Bg rfl c AAx (BF (AH 0))) (AK d a rfl (An (AW (AH 0) AJ) (AW (AH 0) AJ))) (CY _))))))))
theorem P4 (F:Z1 K "_law_is_row" GK f U)(d:Ey P w K Z Y n)(b:RC P w K Z Y n)(c:Jx P w K Z Y n)(e:Z "abs" =none)(g:Z "isinstance" =none)(h:Z "len" =none)(i:Z "list" =none)(j:Z "tuple" =none):Z2 P w K Z Y n f U ["_law_row"] 1 Cu:=Dh F DT rfl λ_ _ _ _ _ _ a _=>(AL (Ax (FE (Cd (BS (Az (G1 "list" "tuple" rfl g ABl (AH 0) (BK (DO (v:= .ty "list") rfl i ACl rfl) (BK (DO (v:= .ty "tuple") rfl j AAx rfl) DY)) Ps))) (Cd (Dn (FQ a) (Au CF rfl h AA4 (BF (AH 0))) AJ) (Cd (BS (Az (AK b a rfl (BF (AW (AH 0) AJ))))) (Cm (BS (Az (AK b a rfl (BF (AW (AH 0) AJ)))))))))) (AR (AX Cr)) Al) (AL (Ax (FE (Cd (BS (Az (AK c a rfl (BF (AW (AH 0) AJ))))) (Cd (BS (Az (AK c a rfl (BF (AW (AH 0) AJ))))) (Cd (BS (t8 t7 IC AJ (AW (AH 0) AJ) AJ)) (Cm (Dn (FQ a) (Au NW rfl e ACj (BF (AW (AH 0) AJ))) AJ)))))) (AR (AX Cr)) Al) (AR (AX (AK d a rfl (An (AW (AH 0) AJ) (AW (AH 0) AJ)))))))
theorem RK (F:Z1 K "_law_ratio" Ha f U)(a:DC P w K Z Y n):Z2 P w K Z Y n f U ["_law_one","_law_other"] 2 DL:=Dh F DT rfl λ_ _ _ _ _ _ b _=>(AR (AX (AK a b rfl (An (Ab BP (AW (AH 0) AJ) (AW (AH 1) AJ)) (Ab BP (AW (AH 0) AJ) (AW (AH 1) AJ))))))
theorem UD (F:Z1 K "_law_spot" JH f U)(c:Ey P w K Z Y n)(d:HL P w K Z Y n)(h:DD P w K Z Y n)(j:Lp P w K Z Y n)(k:DE P w K Z Y n)(l:Z "range" =none)(o:Z "tuple" =none)(p:Z "zip" =none):Z2 P w K Z Y n f U ["_law_plan_here","_law_m","_law_one","_law_other","_law_share","_law_gone"] 2 D6:=by
 have e:(["_law_k","_law_share","_law_other","_law_one"] :km Str).Nodup:=by decide +kernel
 have g:(["_law_k","_law_one","_law_gone"] :km Str).Nodup:=by decide +kernel
 exact Dh F DT rfl λ_ _ _ _ _ _ a b=>(AL (Ax (FE (Cd (Az (AK c a rfl (An (AH 1) (AW (AW (AH 0) AJ) AJ)))) (Cm (Az (AK c a rfl (An (AW (AW (AH 0) (Bl AJ)) AJ) (AH 1))))))) (AR (AX Dy)) Al) (AL (CB AAv rfl (kO rfl p (An (AH 0) (E3 (AH 0) (Wj AJ) Wi))) (CG (n:=2) rfl (Ad (EN (i:=2) b rfl (Or.inr rfl)) (Ad (EN (i:=3) b rfl (Or.inr rfl)) Bn))) (AR (Ax (BS (Az (AK c a rfl (An (AW (AH 3) AJ) (AH 1))))) (AL (Hh (i:=4) b rfl (Or.inr rfl) (AK j a rfl (An (AK d a rfl (An (AH 1) (AW (AH 2) AJ))) (AK d a rfl (An (AW (AH 3) AJ) (AW (AH 2) AJ)))))) (AL (Hh (i:=5) b rfl (Or.inr rfl) (Bo (CM rfl (DP (AU (Cy AJ AJ AJ))) (B9 (own:=1) (ix:= [4,3,2]) (N:= ["_law_k","_law_share" ,"_law_other" ,"_law_one" ]) rfl rfl rfl rfl rfl rfl (λ_ _ _ _ _ _=>(K1 0 e)) (λ_ _ _ _ _ _=>Bh) (λ_ _ _ _ _ _=>(AK h a rfl (An (AH 1) (AK d a rfl (An (AW (AH 2) (AH 0)) (AW (AH 3) (AH 0))))))))))) (AR (AX (A1 Bg rfl o AAx (BF (Bo (CM rfl (Nz rfl l (BF AJ)) (B9 (own:=1) (ix:= [2,5]) (N:= ["_law_k","_law_one" ,"_law_gone" ]) rfl rfl rfl rfl rfl rfl (λ_ _ _ _ _ _=>(K1 0 g)) (λ_ _ _ _ _ _=>Bh) (λ_ _ _ _ _ _=>(AK k a rfl (An (AW (AH 1) (Ab Ai (AH 0) AJ)) (AW (AH 2) (AH 0)))))))))))))) Al))) (AR (AX Dy))))
theorem T9 (F:Z1 K "_law_offs" JD f U)(g:HL P w K Z Y n)(h:Lp P w K Z Y n)(e:Nq P w K Z Y n)(j:Z "int" =none)(k:Z "range" =none):Z2 P w K Z Y n f U ["_law_one","_law_other","_law_apart_here","_law_m","_law_offs_here","_law_here","_law_there"] 4 Ev:=by
 have b:(["_law_k","_law_apart_here","_law_here","_law_there"] :km Str).Nodup:=by decide +kernel
 have c:(["_law_off_here"] :km Str).Nodup:=by decide +kernel
 exact Dh F DT rfl λ_ _ _ _ _ _ a d=>(AL (Em (AU (An (AK e a rfl (An (AH 0) (AH 3))) (AK e a rfl (An (AH 1) (AH 3))))) (CG (n:=2) rfl (Ad (EN (i:=5) d rfl (Or.inr rfl)) (Ad (EN (i:=6) d rfl (Or.inr rfl)) Bn)))) (AL (G2 (i:=4) rfl d rfl (Or.inl rfl) (Nz rfl k (BF AJ)) (B9 (own:=1) (ix:= [2,5,6]) (N:= ["_law_k","_law_apart_here" ,"_law_here" ,"_law_there" ]) rfl rfl rfl rfl rfl rfl (λ_ _ _ _ _ _=>(K1 0 b)) (λ_ _ _ _ _ _=>Bh) (λ_ _ _ _ _ _=>(AK h a rfl (An (AK g a rfl (An (AW (AH 2) (AH 0)) (AW (AH 3) (AH 0)))) (AW (AH 1) (A1 NX rfl j ACk (BF (DF (Bt a) (AH 0) AJ (CY _)))))))))) (AR (AX (Ab Ai (AH 4) (Bo (CM rfl (DP (AH 4)) (B9 (own:=1) (ix:= []) (N:= ["_law_off_here"]) rfl rfl rfl rfl rfl rfl (λ_ _ _ _ _ _=>(K1 0 c)) (λ_ _ _ _ _ _=>Bh) (λ_ _ _ _ _ _=>(AU (An (Bl (AW (AH 0) AJ)) (AW (AH 0) AJ))))))))))))
theorem P8 (F:Z1 K "_law_rising" GO f U)(e:Ey P w K Z Y n)(d:Z "len" =none):Z2 P w K Z Y n f U ["_law_moments","_law_found","_law_m","_law_at"] 1 De:=by
 have a:(["_law_one","_law_m"] :km Str).Nodup:=by decide +kernel
 exact Dh F DT rfl λ_ _ _ _ _ _ b c=>(AL (D4 (i:=1) c rfl (Or.inl rfl) (A2 Dx)) (AL (CB AAv rfl (DP (AH 0)) (EN (i:=2) c rfl (Or.inr rfl)) (AL (B5 3 c (Kz (Au CF rfl d AA4 (BF (Bo (CM rfl (DP (AH 1)) (B9 (own:=1) (ix:= [2]) (N:= ["_law_one","_law_m" ]) rfl rfl rfl rfl rfl rfl (λ_ _ _ _ _ _=>(K1 0 a)) (λ_ _ _ _ _ _=>(MG (Az (AK e b rfl (An (AH 0) (AH 1)))))) (λ_ _ _ _ _ _=>(AH 0))))))))) (AR (Ax (gw (FE (Cd (Dn (Bt b) (AH 3) (Au CF rfl d AA4 (BF (AH 1)))) (Cm (Dn (FQ b) (AW (AH 1) (AH 3)) (AH 2)))))) (AR (EO (i:=1) AFV AFW SC (An (AH 3) (AH 2)))) Al)))) (AR (AX (AH 1)))))
theorem RM (F:Z1 K "_law_turns" Hd f U)(b:Ey P w K Z Y n)(e:RD P w K Z Y n):Z2 P w K Z Y n f U ["_law_one","_law_other","_law_first","_law_last","_law_inner"] 2 Ci:=by
 have c:(["_law_corner","_law_first","_law_last"] :km Str).Nodup:=by decide +kernel
 exact Dh F DT rfl λ_ _ _ _ _ _ a d=>(AL (Hh (i:=2) d rfl (Or.inr rfl) (Ny (Az (AK b a rfl (An (AW (AW (AH 1) AJ) AJ) (AW (AW (AH 0) AJ) AJ)))) (AW (AW (AH 0) AJ) AJ) (AW (AW (AH 1) AJ) AJ))) (AL (Hh (i:=3) d rfl (Or.inr rfl) (Ny (Az (AK b a rfl (An (AW (AW (AH 0) (Bl AJ)) AJ) (AW (AW (AH 1) (Bl AJ)) AJ)))) (AW (AW (AH 0) (Bl AJ)) AJ) (AW (AW (AH 1) (Bl AJ)) AJ))) (AL (Ax (BS (Az (AK b a rfl (An (AH 2) (AH 3))))) (AR (AX (Bo (A2 Dx)))) Al) (AL (G2 (i:=4) rfl d rfl (Or.inl rfl) (DP (Ab Ai (AH 0) (AH 1))) (B9 (own:=1) (ix:= [2,3]) (N:= ["_law_corner","_law_first" ,"_law_last" ]) rfl rfl rfl rfl rfl rfl (λ_ _ _ _ _ _=>(K1 0 c)) (λ_ _ _ _ _ _=>(MG (FE (Nd (Az (AK b a rfl (An (AH 1) (AW (AH 0) AJ)))) (JY (Az (AK b a rfl (An (AW (AH 0) AJ) (AH 2))))))))) (λ_ _ _ _ _ _=>(AW (AH 0) AJ)))) (AR (AX (AK e a rfl (BF (Ab Ai (Bo (A2 (An (AH 2) (AH 3)))) (AH 4))))))))))
theorem L1 (F:Z1 K "_law_row_holds" Ej f U)(d:Ey P w K Z Y n)(g:Vm P w K Z Y n)(h:HM P w K Z Y n)(e:Z "tuple" =none):Z2 P w K Z Y n f U ["_law_one","_law_other","_law_apart_here","_law_row","_law_turns_here","_law_m","_law_begin","_law_end","_law_off_here"] 4 CT:=by
 have c:(["_law_m","_law_begin","_law_end"] :km Str).Nodup:=by decide +kernel
 exact Dh F DT rfl λ_ _ _ _ _ _ b a=>(AL (Em (AU (An (A1 Bg rfl e AAx (BF (AW (AH 3) AJ))) (A1 Bg rfl e AAx (BF (AW (AH 3) AJ))))) (CG (n:=2) rfl (Ad (EN (i:=6) a rfl (Or.inr rfl)) (Ad (EN (i:=7) a rfl (Or.inr rfl)) Bn)))) (AL (G2 (i:=4) rfl a rfl (Or.inl rfl) (DP (AK h b rfl (An (AH 0) (AH 1)))) (B9 (own:=1) (ix:= [6,7]) (N:= ["_law_m","_law_begin" ,"_law_end" ]) rfl rfl rfl rfl rfl rfl (λ_ _ _ _ _ _=>(K1 0 c)) (λ_ _ _ _ _ _=>(MG (FE (Nd (Az (AK d b rfl (An (AH 1) (AH 0)))) (JY (Az (AK d b rfl (An (AH 0) (AH 2))))))))) (λ_ _ _ _ _ _=>(AH 0)))) (AL (CB AAv rfl (DP (Ab Ai (Ab Ai (Bo (A2 (BF (AH 6)))) (AH 4)) (Bo (A2 (BF (AH 7)))))) (EB 5 a) (AL (B5 8 a (AW (AK g b rfl (A3 (AH 0) (Cy (AH 1) (AH 2) (AH 5)))) (AW (AH 3) AJ))) (AR (Ax (Dn IC (Ab BP (AW (AH 3) AJ) (AW (AH 8) AJ)) (AW (AH 8) AJ)) (AR (AX Cr)) Al)))) (AR (AX Cr)))))
theorem RL (F:Z1 K "_law_shows" Hc f U)(k:RB P w K Z Y n)(l:M5 P w K Z Y n)(o:HM P w K Z Y n)(p:Z "all" =none)(r:Z "isinstance" =none)(b:Z "len" =none)(s:Z "list" =none)(c:Z "tuple" =none):Z2 P w K Z Y n f U ["_law_one","_law_other","_law_apart_here","_law_paper","_law_turns_here","_law_begins","_law_ends"] 4 CH:=by
 have d:(["_law_row"] :km Str).Nodup:=by decide +kernel
 have e:(["_law_row"] :km Str).Nodup:=by decide +kernel
 have g:(["_law_row"] :km Str).Nodup:=by decide +kernel
 have h:(["_law_row","_law_one","_law_other","_law_apart_here"] :km Str).Nodup:=by decide +kernel
 exact Dh F DT rfl λ_ _ _ _ _ _ a j=>(AL (Ax (FE (Cd (BS (Az (G1 "list" "tuple" rfl r ABl (AH 3) (BK (DO (v:= .ty "list") rfl s ACl rfl) (BK (DO (v:= .ty "tuple") rfl c AAx rfl) DY)) Ps))) (Cm (gx (gr a) Cr (Bo (CM rfl (DP (AH 3)) (B9 (own:=1) (ix:= []) (N:= ["_law_row"]) rfl rfl rfl rfl rfl rfl (λ_ _ _ _ _ _=>(K1 0 d)) (λ_ _ _ _ _ _=>Bh) (λ_ _ _ _ _ _=>(AK k a rfl (BF (AH 0))))))) rfl)))) (AR (AX Cr)) Al) (AL (B5 4 j (AK o a rfl (An (AH 0) (AH 1)))) (AL (Ax (FE (Cd (Dn (Bt a) (Au CF rfl b AA4 (BF (AH 4))) AJ) (Cm (Dn (Bt a) (Au CF rfl b AA4 (BF (AH 3))) AJ)))) (AR (AX (DF (Bt a) (Au CF rfl b AA4 (BF (AH 4))) (Au CF rfl b AA4 (BF (AH 3))) (CY _)))) Al) (AL (G2 (i:=5) rfl j rfl (Or.inl rfl) (DP (AH 3)) (B9 (own:=1) (ix:= []) (N:= ["_law_row"]) rfl rfl rfl rfl rfl rfl (λ_ _ _ _ _ _=>(K1 0 e)) (λ_ _ _ _ _ _=>Bh) (λ_ _ _ _ _ _=>(A1 Bg rfl c AAx (BF (AW (AH 0) AJ)))))) (AL (G2 (i:=6) rfl j rfl (Or.inl rfl) (DP (AH 3)) (B9 (own:=1) (ix:= []) (N:= ["_law_row"]) rfl rfl rfl rfl rfl rfl (λ_ _ _ _ _ _=>(K1 0 g)) (λ_ _ _ _ _ _=>Bh) (λ_ _ _ _ _ _=>(A1 Bg rfl c AAx (BF (AW (AH 0) AJ)))))) (AL (Ax (FE (Cd (Dn (FQ a) (AW (AH 5) AJ) (AW (AH 4) AJ)) (Cd (Dn (FQ a) (AW (AH 6) (Bl AJ)) (AW (AH 4) (Bl AJ))) (Cm (Dn (FQ a) (E3 (AH 5) (Wj AJ) Wi) (E3 (AH 6) Wi (Wj (Bl AJ)))))))) (AR (AX Cr)) Al) (AR (AX (Au (oo rfl) rfl p boot_all (BF (Bo (CM rfl (DP (AH 3)) (B9 (own:=1) (ix:= [0,1,2]) (N:= ["_law_row","_law_one" ,"_law_other" ,"_law_apart_here" ]) rfl rfl rfl rfl rfl rfl (λ_ _ _ _ _ _=>(K1 0 h)) (λ_ _ _ _ _ _=>Bh) (λ_ _ _ _ _ _=>(AK l a rfl (A3 (AH 1) (Cy (AH 2) (AH 3) (AH 0))))))))))))))))))
theorem bT (F:Z1 K "before" QR f U):Z2 P w K Z Y n f U ["one","other"] 2 Av:=Dh F DT rfl λ_ _ _ _ _ _ _ _=>(AR (AX (DF IC (Ab BP (AW (AH 0) AJ) (AW (AH 1) AJ)) (Ab BP (AW (AH 1) AJ) (AW (AH 0) AJ)) (CY _))))
theorem bU (F:Z1 K "common" QS f U):Z2 P w K Z Y n f U ["one","other"] 2 Gi:=Dh F DT rfl λ_ _ _ _ _ _ a b=>(AL (MJ AAv (Dn (FQ a) (AH 1) AJ) (AR (Nb (i:=0) (j:=1) rfl b rfl rfl (by decide) rfl rfl (An (AH 1) (Ab Uj (AH 0) (AH 1))) rfl))) (AR (AX (AH 0))))
theorem jg (F:Z1 K "part" YU f U)(c:Pg P w K Z Y n)(a:Z "abs" =none):Z2 P w K Z Y n f U ["top","bottom","shared"] 2 Ih:=Dh F DT rfl λ_ _ _ _ _ _ d b=>(AL (B5 2 b (AK c d rfl (An (Au NW rfl a ACj (BF (AH 0))) (Au NW rfl a ACj (BF (AH 1)))))) (AL (Ax (Dn IC (AH 1) AJ) (AR (B5 2 b (Bl (AH 2)))) Al) (AR (AX (AU (An (Ab FW (AH 0) (AH 2)) (Ab FW (AH 1) (AH 2))))))))
theorem fT (F:Z1 K "minus" UT f U)(a:Pi P w K Z Y n):Z2 P w K Z Y n f U ["one","other"] 2 EG:=Dh F DT rfl λ_ _ _ _ _ _ b _=>(AR (AX (AK a b rfl (An (Ab Cc (Ab BP (AW (AH 0) AJ) (AW (AH 1) AJ)) (Ab BP (AW (AH 1) AJ) (AW (AH 0) AJ))) (Ab BP (AW (AH 0) AJ) (AW (AH 1) AJ))))))
theorem YB (F:Z1 K "size_of" NU f U):Z2 P w K Z Y n f U ["apart","side"] 2 Ea:=Dh F DT rfl λ_ _ _ _ _ _ a _=>(AR (AX (Ny (Dn (Bt a) (AH 1) AJ) (AW (AH 0) AJ) (AW (AH 0) AJ))))
theorem jf (F:Z1 K "over" YT f U)(a:Pi P w K Z Y n):Z2 P w K Z Y n f U ["one","other"] 2 KB:=Dh F DT rfl λ_ _ _ _ _ _ b _=>(AR (AX (AK a b rfl (An (Ab BP (AW (AH 0) AJ) (AW (AH 1) AJ)) (Ab BP (AW (AH 0) AJ) (AW (AH 1) AJ))))))
theorem jh (F:Z1 K "plus" YV f U)(a:Pi P w K Z Y n):Z2 P w K Z Y n f U ["one","other"] 2 Ii:=Dh F DT rfl λ_ _ _ _ _ _ b _=>(AR (AX (AK a b rfl (An (Ab Ai (Ab BP (AW (AH 0) AJ) (AW (AH 1) AJ)) (Ab BP (AW (AH 1) AJ) (AW (AH 0) AJ))) (Ab BP (AW (AH 0) AJ) (AW (AH 1) AJ))))))
theorem fU (F:Z1 K "times" UU f U)(a:Pi P w K Z Y n):Z2 P w K Z Y n f U ["one","other"] 2 F3:=Dh F DT rfl λ_ _ _ _ _ _ b _=>(AR (AX (AK a b rfl (An (Ab BP (AW (AH 0) AJ) (AW (AH 1) AJ)) (Ab BP (AW (AH 0) AJ) (AW (AH 1) AJ))))))
theorem OL (F:Z1 K "spot_between" Ft f U)(c:Ob P w K Z Y n)(d:Xh P w K Z Y n)(e:Xi P w K Z Y n)(g:Tg P w K Z Y n)(h:Z "tuple" =none)(j:Z "zip" =none):Z2 P w K Z Y n f U ["former","latter","m","share"] 3 EH:=by
 have b:(["low","high","share"] :km Str).Nodup:=by decide +kernel
 exact Dh F DT rfl λ_ _ _ _ _ _ a k=>(AL (Hh (i:=3) k rfl (Or.inr rfl) (AK d a rfl (An (AK c a rfl (An (AH 2) (AW (AH 0) AJ))) (AK c a rfl (An (AW (AH 1) AJ) (AW (AH 0) AJ)))))) (AR (AX (A1 Bg rfl h AAx (BF (Bo (CM rfl (kO rfl j (An (E3 (AH 0) (Wj AJ) Wi) (E3 (AH 1) (Wj AJ) Wi))) (B9 (own:=2) (ix:= [3]) (N:= ["low","high" ,"share" ]) rfl rfl rfl rfl rfl rfl (λ_ _ _ _ _ _=>(Uf (n:=2) rfl (E4 (K1 0 b) (E4 (K1 1 b) Os)))) (λ_ _ _ _ _ _=>Bh) (λ_ _ _ _ _ _=>(AK e a rfl (An (AH 0) (AK g a rfl (An (AH 2) (AK c a rfl (An (AH 1) (AH 0))))))))))))))))
theorem YC (F:Z1 K "spot_at" NV f U)(b:Dj P w K Z Y n)(c:Pj P w K Z Y n)(d:Z "len" =none)(e:Z "range" =none):Z2 P w K Z Y n f U ["plan","m","at"] 2 Eb:=Dh F DT rfl λ_ _ _ _ _ _ a g=>(AL (Ax (Az (AK b a rfl (An (AH 1) (AW (AW (AH 0) AJ) AJ)))) (AR (AX Dy)) Al) (AL (CB AAv rfl (l7 rfl e (An AJ (Au CF rfl d AA4 (BF (AH 0))))) (EB 2 g) (AR (Ax (BS (Az (AK b a rfl (An (AW (AW (AH 0) (AH 2)) AJ) (AH 1))))) (AR (AX (AK c a rfl (Cy (AW (AH 0) (Ab Cc (AH 2) AJ)) (AW (AH 0) (AH 2)) (AH 1))))) Al))) (AR (AX Dy))))
theorem KW (F:Z1 K "corners_between" EM f U)(b:Dj P w K Z Y n)(d:Z "tuple" =none):Z2 P w K Z Y n f U ["plan","begin","end"] 3 CI:=by
 have a:(["corner","begin","end"] :km Str).Nodup:=by decide +kernel
 exact Dh F DT rfl λ_ _ _ _ _ _ c _=>(AR (AX (Bo (CM rfl (DP (AH 0)) (B9 (own:=1) (ix:= [1,2]) (N:= ["corner","begin" ,"end" ]) rfl rfl rfl rfl rfl rfl (λ_ _ _ _ _ _=>(K1 0 a)) (λ_ _ _ _ _ _=>(MG (FE (Nd (Az (AK b c rfl (An (AH 1) (AW (AH 0) AJ)))) (JY (Az (AK b c rfl (An (AW (AH 0) AJ) (AH 2))))))))) (λ_ _ _ _ _ _=>(A1 Bg rfl d AAx (BF (AH 0)))))))))
theorem QA (F:Z1 K "count_below" GQ f U)(b:Dj P w K Z Y n)(c:Z "len" =none):Z2 P w K Z Y n f U ["numbers","number","low","high","middle"] 2 Dg:=Dh F DT rfl λ_ _ _ _ _ _ d a=>(AL (B5 2 a AJ) (AL (B5 3 a (Au CF rfl c AA4 (BF (AH 0)))) (AL (MJ AAv (Dn IC (AH 2) (AH 3)) (AL (B5 4 a (Ab FW (Ab Ai (AH 2) (AH 3)) AJ)) (AR (Ax (Az (AK b d rfl (An (AW (AH 0) (AH 4)) (AH 1)))) (AR (B5 2 a (Ab Ai (AH 4) AJ))) (AR (B5 3 a (AH 4))))))) (AR (AX (AH 2))))))
theorem bZ (F:Z1 K "rising" QY f U)(c:RF P w K Z Y n)(d:Z "len" =none):Z2 P w K Z Y n f U ["numbers","told","number","at"] 1 Gr:=Dh F DT rfl λ_ _ _ _ _ _ a b=>(AL (D4 (i:=1) b rfl (Or.inl rfl) (A2 Dx)) (AL (CB AAv rfl (DP (AH 0)) (EB 2 b) (AL (B5 3 b (Kz (AK c a rfl (An (AH 1) (AH 2))))) (AR (Ax (gw (FE (Cd (Dn (Bt a) (AH 3) (Au CF rfl d AA4 (BF (AH 1)))) (Cm (Dn (FQ a) (AW (AH 1) (AH 3)) (AH 2)))))) (AR (EO (i:=1) AFV AFW SC (An (AH 3) (AH 2)))) Al)))) (AR (AX (AH 1)))))
theorem fV (F:Z1 K "turns" UV f U)(c:Lr P w K Z Y n)(d:Vq P w K Z Y n):Z2 P w K Z Y n f U ["one","other","begin","end","corners"] 4 JO:=by
 have a:(["corner"] :km Str).Nodup:=by decide +kernel
 exact Dh F DT rfl λ_ _ _ _ _ _ b e=>(AL (B5 4 e (Ab Ai (AK c b rfl (Cy (AH 0) (AH 2) (AH 3))) (AK c b rfl (Cy (AH 1) (AH 2) (AH 3))))) (AR (AX (AK d b rfl (BF (Ab Ai (Bo (A2 (An (AH 2) (AH 3)))) (Bo (CM rfl (DP (AH 4)) (B9 (own:=1) (ix:= []) (N:= ["corner"]) rfl rfl rfl rfl rfl rfl (λ_ _ _ _ _ _=>(K1 0 a)) (λ_ _ _ _ _ _=>Bh) (λ_ _ _ _ _ _=>(AW (AH 0) AJ)))))))))))
theorem fW (F:Z1 K "whole" UW f U):Z2 P w K Z Y n f U ["n"] 1 JP:=Dh F DT rfl λ_ _ _ _ _ _ _ _=>(AR (AX (AU (An (AH 0) AJ))))
theorem fS (F:Z1 K "holds" US f U)(d:Dj P w K Z Y n)(e:Ob P w K Z Y n)(g:Ry P w K Z Y n)(c:Rz P w K Z Y n)(h:Tg P w K Z Y n)(i:ZG P w K Z Y n)(j:ZH P w K Z Y n):Z2 P w K Z Y n f U ["one","other","apart","row","m","begin","end","side","sign","off"] 4 LS:=Dh F DT rfl λ_ _ _ _ _ _ a b=>(AL (Em (AH 3) (CG (n:=4) rfl (Ad (EB 5 b) (Ad (EB 6 b) (Ad (EB 7 b) (Ad (EB 8 b) Bn)))))) (AL (CB AAv rfl (DP (AK i a rfl (A3 (AH 0) (Cy (AH 1) (AH 5) (AH 6))))) (EB 4 b) (AL (B5 9 b (AK e a rfl (An (AW (AK c a rfl (An (AH 0) (AH 4))) (AH 7)) (AW (AK c a rfl (An (AH 1) (AH 4))) (AH 7))))) (AR (Ax (Az (AK d a rfl (An (AK h a rfl (An (AK j a rfl (BF (AH 8))) (AH 9))) (AK g a rfl (An (AH 2) (AH 7)))))) (AR (AX Cr)) Al)))) (AR (AX Cr))))
theorem WA (F:Z1 K "is_whole" Kq f U)(b:Z "bool" =none)(c:Z "int" =none)(a:Z "isinstance" =none):Z2 P w K Z Y n f U ["thing"] 1 BR:=Dh F DT rfl λ_ _ _ _ _ _ _ _=>(AR (AX (Qa (Au NY rfl a ABl (An (AH 0) (R8 (n:="int") rfl c ACk rfl))) (Qb (gc (Au NY rfl a ABl (An (AH 0) (R8 (n:="bool") rfl b boot_bool rfl))))))))
theorem X5 (F:Z1 K "is_part" NN f U)(d:Pg P w K Z Y n)(b:Ph P w K Z Y n)(e:Z "abs" =none)(g:Z "isinstance" =none)(h:Z "len" =none)(i:Z "list" =none)(j:Z "tuple" =none):Z2 P w K Z Y n f U ["thing","top","bottom"] 1 EY:=Dh F DT rfl λ_ _ _ _ _ _ a c=>(AL (Ax (FE (Cd (BS (Az (G1 "tuple" "list" rfl g ABl (AH 0) (BK (DO (v:= .ty "tuple") rfl j AAx rfl) (BK (DO (v:= .ty "list") rfl i ACl rfl) DY)) Lw))) (Cm (Dn (FQ a) (Au CF rfl h AA4 (BF (AH 0))) AJ)))) (AR (AX Cr)) Al) (AL (Em (AH 0) (CG (n:=2) rfl (Ad (EB 1 c) (Ad (EB 2 c) Bn)))) (AL (Ax (FE (Cd (BS (Az (AK b a rfl (BF (AH 1))))) (Cm (BS (Az (AK b a rfl (BF (AH 2)))))))) (AR (AX Cr)) Al) (AR (AX (Qa (DF SH (AH 2) AJ (CY _)) (Qb (DF (Bt a) (AK d a rfl (An (Au NW rfl e ACj (BF (AH 1))) (AH 2))) AJ (CY _)))))))))
theorem bV (F:Z1 K "is_row" QU f U)(c:ah P w K Z Y n)(d:Ph P w K Z Y n)(e:Z "isinstance" =none)(g:Z "len" =none)(h:Z "list" =none)(i:Z "tuple" =none):Z2 P w K Z Y n f U ["thing","begin","end","side","sign"] 1 Fc:=Dh F DT rfl λ_ _ _ _ _ _ a b=>(AL (Ax (FE (Cd (BS (Az (G1 "tuple" "list" rfl e ABl (AH 0) (BK (DO (v:= .ty "tuple") rfl i AAx rfl) (BK (DO (v:= .ty "list") rfl h ACl rfl) DY)) Lw))) (Cm (Dn (FQ a) (Au CF rfl g AA4 (BF (AH 0))) AJ)))) (AR (AX Cr)) Al) (AL (Em (AH 0) (CG (n:=4) rfl (Ad (EB 1 b) (Ad (EB 2 b) (Ad (EB 3 b) (Ad (EB 4 b) Bn)))))) (AL (Ax (FE (Cd (BS (Az (AK c a rfl (BF (AH 1))))) (Cd (BS (Az (AK c a rfl (BF (AH 2))))) (Cd (BS (Az (AK d a rfl (BF (AH 3))))) (Cm (BS (Az (AK d a rfl (BF (AH 4)))))))))) (AR (AX Cr)) Al) (AR (AX (Qa (DF (gr a) (AH 3) (AU (Cy AJ AJ AJ)) rfl) (Qb (DF (gr a) (AH 4) (AU (An AJ (Bl AJ))) rfl))))))))
theorem X4 (F:Z1 K "greater" NM f U)(a:Dj P w K Z Y n):Z2 P w K Z Y n f U ["one","other"] 2 C8:=Dh F DT rfl λ_ _ _ _ _ _ b _=>(AR (AX (Ny (Az (AK a b rfl (An (AH 0) (AH 1)))) (AH 1) (AH 0))))
theorem bW (F:Z1 K "lesser" QV f U)(a:Dj P w K Z Y n):Z2 P w K Z Y n f U ["one","other"] 2 Fd:=Dh F DT rfl λ_ _ _ _ _ _ b _=>(AR (AX (Ny (Az (AK a b rfl (An (AH 1) (AH 0)))) (AH 1) (AH 0))))
theorem WD (F:Z1 K "together" Ku f U)(c:Dj P w K Z Y n)(d:af P w K Z Y n)(e:Vo P w K Z Y n):Z2 P w K Z Y n f U ["one","other","begin","end"] 2 Du:=Dh F DT rfl λ_ _ _ _ _ _ a b=>(AL (B5 2 b (AK d a rfl (An (AW (AW (AH 0) AJ) AJ) (AW (AW (AH 1) AJ) AJ)))) (AL (B5 3 b (AK e a rfl (An (AW (AW (AH 0) (Bl AJ)) AJ) (AW (AW (AH 1) (Bl AJ)) AJ)))) (AR (AX (Ny (Az (AK c a rfl (An (AH 2) (AH 3)))) (AU (An (AH 2) (AH 3))) Dy)))))
theorem NF (F:Z1 K "shows_parting" FD f U)(d:Dj P w K Z Y n)(e:jI P w K Z Y n)(g:dt P w K Z Y n)(h:Pk P w K Z Y n)(i:Z "isinstance" =none)(j:Z "len" =none)(k:Z "list" =none)(c:Z "tuple" =none):Z2 P w K Z Y n f U ["one","other","apart","paper","span","row","at","last","begin","end"] 4 Bk:=Dh F DT rfl λ_ _ _ _ _ _ a b=>(AL (Ax (BS (Az (G1 "tuple" "list" rfl i ABl (AH 3) (BK (DO (v:= .ty "tuple") rfl c AAx rfl) (BK (DO (v:= .ty "list") rfl k ACl rfl) DY)) Lw))) (AR (AX Cr)) Al) (AL (B5 4 b (AK h a rfl (An (AH 0) (AH 1)))) (AL (Ax (Dn Ui (AH 4) Dy) (AR (AX (DF (Bt a) (Au CF rfl j AA4 (BF (AH 3))) AJ (CY _)))) Al) (AL (Em (AH 4) (CG (n:=2) rfl (Ad (EB 6 b) (Ad (EB 7 b) Bn)))) (AL (CB AAv rfl (DP (AH 3)) (EB 5 b) (AL (Ax (BS (Az (AK g a rfl (BF (AH 5))))) (AR (AX Cr)) Al) (AL (B5 8 b (A1 Bg rfl c AAx (BF (AW (AH 5) AJ)))) (AL (B5 9 b (A1 Bg rfl c AAx (BF (AW (AH 5) AJ)))) (AL (Ax (FE (Cd (Dn (FQ a) (AH 8) (AH 6)) (Cd (BS (Az (AK d a rfl (An (AH 8) (AH 9))))) (Cm (Az (AK d a rfl (An (AH 7) (AH 9)))))))) (AR (AX Cr)) Al) (AL (Ax (BS (Az (AK e a rfl (A3 (AH 0) (Cy (AH 1) (AH 2) (AU (A3 (AH 8) (Cy (AH 9) (AW (AH 5) AJ) (AW (AH 5) AJ))))))))) (AR (AX Cr)) Al) (AR (B5 6 b (AH 9))))))))) (AR (AX (DF (Bt a) (AH 6) (AH 7) (CY _)))))))))
theorem KU (F:Z1 K "_law_dent_right" EL f U)(c:Lq P w K Z Y n)(d:IB P w K Z Y n)(e:Z "bool" =none)(g:Z "isinstance" =none)(h:Z "range" =none):Z2 P w K Z Y n f U ["_law_one","_law_other","_law_apart_here","_law_side","_law_sign","_law_paper","_law_found","_law_due"] 3 Bu:=Dh F DT rfl λ_ _ _ _ _ _ b a=>(AL (CB AAv rfl (Nz rfl h (BF AJ)) (EB 3 a) (AR (CB AAv rfl (DP (AU (An AJ (Bl AJ)))) (EB 4 a) (AL (B5 5 a (AU (BF (AU (A3 (AW (AW (AH 0) AJ) AJ) (Cy (AW (AW (AH 0) (Bl AJ)) AJ) (AH 3) (AH 4))))))) (AL (B5 6 a (AK d b rfl (A3 (AH 0) (Cy (AH 1) (AH 2) (AH 5))))) (AL (B5 7 a (AK c b rfl (A3 (AH 0) (Cy (AH 1) (AH 2) (AH 5))))) (AR (Ax (FE (Cd (BS (Az (Au NY rfl g ABl (An (AH 6) (R8 (n:="bool") rfl e boot_bool rfl))))) (Cm (Dn (FQ b) (AH 6) (AH 7))))) (AR (AX Cr)) Al)))))))) (AR (AX Cr)))
theorem P6 (F:Z1 K "_law_middle" GM f U)(b:DD P w K Z Y n)(c:DE P w K Z Y n):Z2 P w K Z Y n f U ["_law_one","_law_other"] 2 Cv:=Dh F DT rfl λ_ _ _ _ _ _ a _=>(AR (AX (AK b a rfl (An (AK c a rfl (An (AH 0) (AH 1))) (AU (An AJ AJ))))))
theorem P3 (F:Z1 K "_law_dented" GJ f U)(c:B4 P w K Z Y n)(e:Jw P w K Z Y n)(g:Ln P w K Z Y n)(h:DD P w K Z Y n)(j:Nq P w K Z Y n)(k:DE P w K Z Y n)(l:Z "int" =none)(d:Z "len" =none)(o:Z "list" =none):Z2 P w K Z Y n f U ["_law_tape_here","_law_plan_here","_law_apart_here","_law_side","_law_by","_law_beside_here","_law_k","_law_m","_law_spot_here","_law_share","_law_corner"] 3 Dd:=Dh F DT rfl λ_ _ _ _ _ _ a b=>(AL (B5 3 b (AK c a rfl (An (AH 0) AJ))) (AL (D4 (i:=4) b rfl (Or.inl rfl) (A2 (Cy (AU (An AJ AJ)) (AU (An AJ AJ)) (AU (An AJ AJ))))) (AL (K4 (i:=4) (AH 3) (AW (AH 2) (A1 NX rfl l ACk (BF (DF (Bt a) (AH 3) AJ (CY _)))))) (AL (B5 5 b (Kz (AK g a rfl (Cy (AH 1) (AU (An AJ AJ)) (AH 4))))) (AL (Ax (Dn (Bt a) (Au CF rfl d AA4 (BF (AH 1))) AJ) (AR (AX (AH 5))) Al) (AL (B5 6 b (AK c a rfl (An (AH 0) (Ab Cc (Au CF rfl d AA4 (BF (AH 1))) AJ)))) (AL (B5 7 b (AK e a rfl (An (AW (AW (AH 1) (AH 6)) AJ) (AW (AW (AH 1) (Ab Ai (AH 6) AJ)) AJ)))) (AL (D4 (i:=8) b rfl (Or.inl rfl) (kM rfl o ACl (BF (AK j a rfl (An (AH 5) (AH 7)))))) (AL (B5 9 b (AW (Bo (A2 (Cy (AU (An (Bl AJ) AJ)) (AU (An AJ AJ)) (AU (An AJ AJ))))) (AK c a rfl (An (AH 0) AJ)))) (AL (K4 (i:=8) (AH 3) (Kz (AK k a rfl (An (AW (AH 8) (AH 3)) (AK h a rfl (An (AW (AH 4) (AH 3)) (AH 9))))))) (AL (B5 10 b (Kz (AU (A3 (AH 7) (Cy (AW (AH 8) AJ) (AW (AH 8) AJ) (AW (AH 8) AJ)))))) (AR (AX (Ab Ai (Ab Ai (E3 (AH 5) Wi (Wj (Ab Ai (AH 6) AJ))) (AU (BF (AH 10)))) (E3 (AH 5) (Wj (Ab Ai (AH 6) AJ)) Wi)))))))))))))))
theorem T8 (F:Z1 K "_law_made" JC f U)(c:B4 P w K Z Y n)(d:HM P w K Z Y n)(e:Z "tuple" =none)(g:Z "zip" =none):Z2 P w K Z Y n f U ["_law_tape_here","_law_one","_law_other","_law_turns_here","_law_rows","_law_side","_law_sign","_law_begin","_law_end"] 3 CQ:=Dh F DT rfl λ_ _ _ _ _ _ a b=>(AL (B5 3 b (AK d a rfl (An (AH 1) (AH 2)))) (AL (Nb (i:=5) (j:=6) rfl b rfl rfl (by decide) rfl rfl (An (AK c a rfl (An (AH 0) AJ)) (AW (Bo (A2 (An AJ (Bl AJ)))) (AK c a rfl (An (AH 0) AJ)))) rfl) (AL (D4 (i:=4) b rfl (Or.inl rfl) (A2 Dx)) (AL (CB AAv rfl (kO rfl g (An (AH 3) (E3 (AH 3) (Wj AJ) Wi))) (CG (n:=2) rfl (Ad (EB 7 b) (Ad (EB 8 b) Bn))) (AL (Ax (Dn (Bt a) (AK c a rfl (An (AH 0) AJ)) AJ) (AR (Nb (i:=5) (j:=6) rfl b rfl rfl (by decide) rfl rfl (An (AK c a rfl (An (AH 0) AJ)) (AW (Bo (A2 (An AJ (Bl AJ)))) (AK c a rfl (An (AH 0) AJ)))) rfl)) Al) (AR (EO (i:=4) ACY ACZ DQ (BF (AU (A3 (AH 7) (Cy (AH 8) (AH 5) (AH 6))))))))) (AR (AX (A1 Bg rfl e AAx (BF (AH 4)))))))))
theorem P9 (F:Z1 K "_law_spoilt" GP f U)(c:B4 P w K Z Y n)(g:Jw P w K Z Y n)(d:HL P w K Z Y n)(e:DE P w K Z Y n)(h:Z "len" =none)(k:Z "reversed" =none)(l:Z "tuple" =none):Z2 P w K Z Y n f U ["_law_tape_here","_law_paper","_law_k","_law_halfway","_law_way","_law_some","_law_begin","_law_end","_law_side","_law_sign","_law_ahead","_law_behind","_law_two"] 2 CU:=Dh F DT rfl λ_ _ _ _ _ _ b a=>(AL (B5 2 a (AK c b rfl (An (AH 0) (Au CF rfl h AA4 (BF (AH 1)))))) (AL (Em (AW (AH 1) (AH 2)) (CG (n:=4) rfl (Ad (EB 6 a) (Ad (EB 7 a) (Ad (EB 8 a) (Ad (EB 9 a) Bn)))))) (AL (Nb (i:=10) (j:=11) rfl a rfl rfl (by decide) rfl rfl (An (E3 (AH 1) Wi (Wj (AH 2))) (E3 (AH 1) (Wj (Ab Ai (AH 2) AJ)) Wi)) rfl) (AL (B5 3 a (AK g b rfl (An (AH 6) (AH 7)))) (AL (B5 4 a (AK c b rfl (An (AH 0) AJ))) (AL (Ax (Dn (Bt b) (AH 4) AJ) (AL (B5 12 a (AU (An (AU (A3 (AH 6) (Cy (AH 3) (AH 8) (AH 9)))) (AU (A3 (AH 3) (Cy (AH 7) (AH 8) (AH 9))))))) (AR (AX (Ab Ai (Ab Ai (AH 10) (AH 12)) (AH 11))))) Al) (AL (Ax (Dn (Bt b) (AH 4) AJ) (AR (AX (Ab Ai (AH 10) (AH 11)))) Al) (AL (Ax (Dn (Bt b) (AH 4) AJ) (AR (AX (Ab Ai (Ab Ai (AH 10) (AU (An (AW (AH 1) (AH 2)) (AW (AH 1) (AH 2))))) (AH 11)))) Al) (AL (Ax (Dn (Bt b) (AH 4) AJ) (AR (AX (kK rfl rfl l rfl k (AH 1)))) Al) (AL (Ax (Dn (Bt b) (AH 4) AJ) (AR (AX (AU (BF (AU (A3 (AW (AW (AH 1) AJ) AJ) (Cy (AW (AW (AH 1) (Bl AJ)) AJ) (AH 8) (AH 9)))))))) Al) (AL (B5 5 a (Bo (A2 (An (AU (A3 (AH 6) (Cy (AH 7) (Ab Uj (Ab Ai (AH 8) AJ) AJ) (AH 9)))) (AU (A3 (AH 6) (Cy (AH 7) (AH 8) (Bl (AH 9))))))))) (AL (B5 5 a (Ab Ai (AH 5) (Bo (A2 (BF (AU (A3 (AH 7) (Cy (AH 6) (AH 8) (AH 9))))))))) (AL (B5 5 a (Ab Ai (AH 5) (Bo (A2 (BF (AU (A3 (AK e b rfl (An (AH 6) (AU (An AJ AJ)))) (Cy (AH 7) (AH 8) (AH 9))))))))) (AL (B5 5 a (Ab Ai (AH 5) (Bo (A2 (BF (AU (A3 (AH 6) (Cy (AK d b rfl (An (AH 7) (AU (An AJ AJ)))) (AH 8) (AH 9))))))))) (AL (B5 5 a (Ab Ai (AH 5) (Bo (A2 (BF (AU (A3 (AH 6) (Cy (AH 3) (AH 8) (AH 9))))))))) (AL (B5 5 a (Ab Ai (AH 5) (Bo (A2 (BF (AU (A3 (AU (An (Ab BP AJ (AW (AH 6) AJ)) (Ab BP AJ (AW (AH 6) AJ)))) (Cy (AH 7) (AH 8) (AH 9))))))))) (AL (B5 5 a (Ab Ai (AH 5) (Bo (A2 (BF (AU (A3 (AH 6) (Cy (AH 6) (AH 8) (AH 9))))))))) (AL (B5 5 a (Ab Ai (AH 5) (Bo (A2 (BF (AU (A3 (AK d b rfl (An (AH 6) (AU (An AJ AJ)))) (Cy (AH 7) (AH 8) (AH 9))))))))) (AL (B5 5 a (Ab Ai (AH 5) (Bo (A2 (BF (AU (A3 (AH 6) (Cy (AK e b rfl (An (AH 7) (AU (An AJ AJ)))) (AH 8) (AH 9))))))))) (AL (B5 5 a (Ab Ai (AH 5) (Bo (A2 (BF (AW (AH 1) (AH 2))))))) (AR (AX (Ab Ai (Ab Ai (AH 10) (AU (BF (AW (AH 5) (Ab Cc (AH 4) AJ))))) (AH 11))))))))))))))))))))))))
theorem MF:FS ["_law_script","_law_k","_law_cell","_law_digits"] ["_law_script","_law_k"] (Be GA):=DT
theorem UE (F:XB K "_law_tape" "_law_tape" GA f U)(o:Z "abs" =none)(u:Z "int" =none)(v:Z "len" =none):Fi P w K Z Y VJ (n+1) f U ["_law_script","_law_k"] (Cn K 2 PJ):=by
 have j:=MF.nd;refine F.ok MF (λvs H Q E h=> ?_) (λx A outer s H vs Q E B h=> ?_)
 .obtain ⟨T,M,xs,y,_,_,r,hl,_⟩:=h;rw[r.length,hl] <;> rfl
 obtain⟨T,M,xs,y,va,_,r,hl,e,hQ⟩:=h;unfold PJ at e;split at e <;> first | exact e.elim|skip
 rename_i d k;obtain⟨⟨C,D⟩,e⟩:=e;cases r with
 | cons r l=>
 cases l with
 | cons r2 l=>
 cases l;cases r2;obtain⟨a,rfl,t⟩:=ga r;refine⟨_,(CL (GH (i:=2) j rfl (Or.inl rfl) BM)
  (CL (Ze (Om lp (pv 1) (L4 Lg rfl v AA4 (BK (pv 0) DY)) (CY _)) (F7 (GH (i:=2) j rfl (Or.inl rfl) (Nw F5 (pv 0) (pv 1) (λ_ _=>rfl)))) Ol)
  (CL (GH (i:=3) j rfl (Or.inl rfl) (CZ JV (L4 PZ rfl o ACj (BK (pv 2) DY)) (JW Rl rfl u PyProof.Rows.boot_int (BK (Zd lj (L4 PZ rfl o ACj (BK (pv 2) DY)) (CZ oF BM BM) (CY _)) DY))))
  (F7 (QJ (fz (BK (pv 3) (BK (CZ HV (CZ JV (CZ HV (CZ KZ (CZ KZ (pv 2) (CZ JV BM (pv 1))) BM) BM) BM) BM) DY)))))))), ?_⟩
 have hl:(d.map V.int).length=d.length:=AAk _;have g:∀(c:Int) (p:kf),H p=none->Q (.ref p) (upd H p (.lst [.int ((if c<0 then -c else c)*(if decide ((10:Int)^18<=(if c<0 then -c else c)) then 1 else 0)), .int ((c+7919*k+1) % 2147483647*48271 % 2147483647)])):=λc p hp=>
  hQ _ .tape (λb=>T b\/b=p) _ (hV va.tp hp (Int.mul_nonneg (by split <;> omega) (b01 _)) (ADw _ (by decide)) (ADx _ (by decide))) (.tape (.inr rfl)) e
 refine⟨_,rfl,_,rfl,a,_,rfl, .inl t,_,_,rfl,rfl,_,rfl, ?_⟩;refine sC (λc=> ?_) (λc=> ?_)
 .have z:k<(((d.map V.int).length:Nat):Int):=ABw c;rw[hl] at z;have hk:k.toNat<d.length:=by omega
  have hv:Im (d.map V.int) k=some (.int d[k.toNat]):=by
   have q:Im (d.map V.int) ((k.toNat:Nat):Int)=some (.int d[k.toNat]):=Cj (by rw[ABI,ABD hk] <;> rfl)
   rwa [show ((k.toNat:Nat):Int)=k by omega] at q
  refine⟨_,rfl,_,rfl,a,_,_,_,rfl,rfl,t,hv, ?_⟩;refine⟨_,rfl,_,rfl,_,rfl,_,rfl,_,_,rfl,rfl,⟨by decide,by decide,by decide⟩,_,_,rfl,rfl, .inr ⟨_,rfl,_,_,rfl,rfl, .inl (.inr (yV _)), ?_⟩⟩;exact⟨_,rfl,_,rfl,_,rfl,_,_,rfl,rfl, .inl (.inl ⟨by decide,by decide⟩),_,_,rfl,rfl,_,_,rfl,rfl,_,_,rfl,rfl,(show (0:Int)<2147483647 by decide),_,_,rfl,rfl, .inl (.inr ⟨by decide,by decide⟩),_,_,rfl,rfl,(show (0:Int)<2147483647 by decide),(show 2<=sizeLine by decide),λp hp=>g _ p hp⟩
 .refine ⟨_,rfl,_,rfl,_,rfl,_,rfl,_,_,rfl,rfl,⟨by decide,by decide,by decide⟩,_,_,rfl,rfl, .inr ⟨_,rfl,_,_,rfl,rfl, .inl (.inr (yV _)), ?_⟩⟩;exact⟨_,rfl,_,rfl,_,rfl,_,_,rfl,rfl, .inl (.inl ⟨by decide,by decide⟩),_,_,rfl,rfl,_,_,rfl,rfl,_,_,rfl,rfl,(show (0:Int)<2147483647 by decide),_,_,rfl,rfl, .inl (.inr ⟨by decide,by decide⟩),_,_,rfl,rfl,(show (0:Int)<2147483647 by decide),(show 2<=sizeLine by decide),λp hp=>g 0 p hp⟩
theorem L3 (F:Z1 K "_law_wide_pair" Ek f U)(c:B4 P w K Z Y n)(j:Nn P w K Z Y n)(e:DD P w K Z Y n)(k:DE P w K Z Y n)(g:Z "int" =none)(l:Z "range" =none)(h:Z "tuple" =none):Z2 P w K Z Y n f U ["_law_tape_here","_law_apart_here","_law_plan_here","_law_corners","_law_side","_law_corner","_law_by","_law_other"] 2 CV:=by
 have d:(["_law_j","_law_corner","_law_by"] :km Str).Nodup:=by decide +kernel
 exact Dh F DT rfl λ_ _ _ _ _ _ a b=>(AL (B5 2 b (AK j a rfl (BF (AH 0)))) (AL (D4 (i:=3) b rfl (Or.inl rfl) (A2 Dx)) (AL (B5 4 b (AK c a rfl (An (AH 0) AJ))) (AL (CB AAv rfl (DP (AH 2)) (EN (i:=5) b rfl (Or.inr rfl)) (AL (D4 (i:=6) b rfl (Or.inr rfl) (A2 (Cy (AU (An AJ AJ)) (AU (An AJ AJ)) (AU (An AJ AJ))))) (AL (Ax (Dn (Bt a) (AK c a rfl (An (AH 0) AJ)) AJ) (AL (B5 7 b (AK c a rfl (An (AH 0) AJ))) (AR (K4 (i:=6) (AH 7) (AK e a rfl (An (AW (AH 1) (A1 NX rfl g ACk (BF (DF (Bt a) (AH 7) AJ (CY _))))) (AW (Bo (A2 (Cy (AU (An AJ AJ)) (AU (An (Bl AJ) AJ)) (AU (An AJ AJ))))) (AK c a rfl (An (AH 0) AJ)))))))) Al) (AL (K4 (i:=6) (AH 4) (AK e a rfl (An (AW (AH 1) (A1 NX rfl g ACk (BF (DF (Bt a) (AH 4) AJ (CY _))))) (AW (Bo (A2 (Cy (AU (An AJ AJ)) (AU (An AJ AJ)) (AU (An AJ AJ))))) (AK c a rfl (An (AH 0) AJ)))))) (AR (EO (i:=3) ACY ACZ DQ (BF (Kz (Ab Ai (AU (BF (AW (AH 5) AJ))) (A1 Bg rfl h AAx (BF (Bo (CM rfl (Nz rfl l (BF AJ)) (B9 (own:=1) (ix:= [5,6]) (N:= ["_law_j","_law_corner" ,"_law_by" ]) rfl rfl rfl rfl rfl rfl (λ_ _ _ _ _ _=>(K1 0 d)) (λ_ _ _ _ _ _=>Bh) (λ_ _ _ _ _ _=>(AK k a rfl (An (AW (AH 1) (Ab Ai (AH 0) AJ)) (AW (AH 2) (AH 0))))))))))))))))))) (AR (AX (AU (An (AH 2) (A1 Bg rfl h AAx (BF (AH 3)))))))))))
theorem NE (F:Z1 K "shared_bottom" FC f U)(b:Pg P w K Z Y n):Z2 P w K Z Y n f U ["numbers","told","top","bottom"] 1 Cp:=Dh F DT rfl λ_ _ _ _ _ _ c a=>(AL (B5 1 a AJ) (AL (CB AAv rfl (DP (AH 0)) (CG (n:=2) rfl (Ad (EB 2 a) (Ad (EB 3 a) Bn))) (AR (gv (i:=1) a rfl (Or.inl rfl) (Ab FW (AH 3) (AK b c rfl (An (AH 1) (AH 3)))) pD))) (AR (AX (AH 1)))))
theorem WB (F:Z1 K "lines_of" Kr f U)(b:OH P w K Z Y n)(c:Z "zip" =none):Z2 P w K Z Y n f U ["first","last","bottom","lines","former","latter","low","high"] 2 Fe:=Dh F DT rfl λ_ _ _ _ _ _ d a=>(AL (B5 2 a (AK b d rfl (BF (Ab Ai (AH 0) (AH 1))))) (AL (D4 (i:=3) a rfl (Or.inl rfl) (A2 Dx)) (AL (CB AAv rfl (kO rfl c (An (AH 0) (AH 1))) (CG (n:=2) rfl (Ad (EB 4 a) (Ad (EB 5 a) Bn))) (AL (B5 6 a (Ab BP (AW (AH 4) AJ) (Ab FW (AH 2) (AW (AH 4) AJ)))) (AL (B5 7 a (Ab BP (AW (AH 5) AJ) (Ab FW (AH 2) (AW (AH 5) AJ)))) (AL (EO (i:=3) ACY ACZ DQ (BF (AU (An (AH 6) (AH 7))))) (AR (EO (i:=3) ACY ACZ DQ (BF (AU (An (Bl (AH 6)) (Bl (AH 7))))))))))) (AR (AX (AU (An (AH 2) (AH 3))))))))
theorem X8 (F:Z1 K "offs_at" NQ f U)(e:Ob P w K Z Y n)(g:Xh P w K Z Y n)(h:Ry P w K Z Y n)(c:Rz P w K Z Y n)(j:Z "range" =none):Z2 P w K Z Y n f U ["one","other","apart","m","here","there"] 4 Gk:=by
 have b:(["side","apart","here","there"] :km Str).Nodup:=by decide +kernel
 exact Dh F DT rfl λ_ _ _ _ _ _ a d=>(AL (Hh (i:=4) d rfl (Or.inr rfl) (AK c a rfl (An (AH 0) (AH 3)))) (AL (Hh (i:=5) d rfl (Or.inr rfl) (AK c a rfl (An (AH 1) (AH 3)))) (AR (AX (Bo (CM rfl (Nz rfl j (BF AJ)) (B9 (own:=1) (ix:= [2,4,5]) (N:= ["side","apart" ,"here" ,"there" ]) rfl rfl rfl rfl rfl rfl (λ_ _ _ _ _ _=>(K1 0 b)) (λ_ _ _ _ _ _=>Bh) (λ_ _ _ _ _ _=>(AK g a rfl (An (AK e a rfl (An (AW (AH 2) (AH 0)) (AW (AH 3) (AH 0)))) (AK h a rfl (An (AH 1) (AH 0)))))))))))))
theorem bY (F:Z1 K "pieces" QX f U)(d:Xg P w K Z Y n)(e:am P w K Z Y n)(g:Pk P w K Z Y n)(h:ZG P w K Z Y n)(j:Z "len" =none)(k:Z "range" =none):Z2 P w K Z Y n f U ["one","other","apart","span","moments","offs","told","at","bottom","lines"] 3 Gq:=by
 have c:(["m","one","other","apart"] :km Str).Nodup:=by decide +kernel
 exact Dh F DT rfl λ_ _ _ _ _ _ b a=>(AL (B5 3 a (AK g b rfl (An (AH 0) (AH 1)))) (AL (Ax (Dn Ui (AH 3) Dy) (AR (AX (Bo (A2 Dx)))) Al) (AL (B5 4 a (AK h b rfl (A3 (AH 0) (Cy (AH 1) (AW (AH 3) AJ) (AW (AH 3) AJ))))) (AL (G2 (i:=5) rfl a rfl (Or.inl rfl) (DP (AH 4)) (B9 (own:=1) (ix:= [0,1,2]) (N:= ["m","one" ,"other" ,"apart" ]) rfl rfl rfl rfl rfl rfl (λ_ _ _ _ _ _=>(K1 0 c)) (λ_ _ _ _ _ _=>Bh) (λ_ _ _ _ _ _=>(AK e b rfl (A3 (AH 1) (Cy (AH 2) (AH 3) (AH 0))))))) (AL (D4 (i:=6) a rfl (Or.inl rfl) (A2 Dx)) (AL (CB AAv rfl (l7 rfl k (An AJ (Au CF rfl j AA4 (BF (AH 4))))) (EB 7 a) (AL (Em (AK d b rfl (An (AW (AH 5) (Ab Cc (AH 7) AJ)) (AW (AH 5) (AH 7)))) (CG (n:=2) rfl (Ad (EB 8 a) (Ad (EB 9 a) Bn)))) (AR (EO (i:=6) ACY ACZ DQ (BF (AU (A3 (AW (AH 4) (Ab Cc (AH 7) AJ)) (Cy (AW (AH 4) (AH 7)) (AH 8) (AH 9))))))))) (AR (AX (AH 6)))))))))
theorem X6 (F:Z1 K "longest" NO f U)(b:Dj P w K Z Y n)(c:Z "enumerate" =none):Z2 P w K Z Y n f U ["bottom","lines","told","at","first","last","share"] 2 FZ:=Dh F DT rfl λ_ _ _ _ _ _ d a=>(AL (B5 2 a Dy) (AL (CB AAv rfl (wm rfl c (BF (AH 1))) (CG (n:=2) rfl (Ad (EB 3 a) (Ad (CG (n:=2) rfl (Ad (EB 4 a) (Ad (EB 5 a) Bn))) Bn))) (AR (Ax (Dn SD (AH 4) (AH 0)) (AL (B5 6 a (Ny (Dn SD (AH 5) (AH 0)) (AU (An AJ AJ)) (AU (An (Ab Cc (AH 4) (AH 0)) (Ab Cc (AH 4) (AH 5)))))) (AR (Ax (FE (Cd (Dn Ui (AH 2) Dy) (Cm (Az (AK b d rfl (An (AW (AH 2) AJ) (AH 6))))))) (AR (B5 2 a (AU (An (AH 3) (AH 6))))) Al))) Al))) (AR (AX (AH 2)))))
theorem UF (F:Z1 K "moment_at" JI f U)(b:Ob P w K Z Y n)(c:Pi P w K Z Y n)(d:Xi P w K Z Y n)(e:Tg P w K Z Y n):Z2 P w K Z Y n f U ["begin","end","share"] 3 DA:=Dh F DT rfl λ_ _ _ _ _ _ a _=>(AR (AX (AK d a rfl (An (AH 0) (AK e a rfl (An (AK c a rfl (An (AW (AH 2) AJ) (AW (AH 2) AJ))) (AK b a rfl (An (AH 1) (AH 0)))))))))
theorem bg (F:Z1 K "row_of" QZ f U):Z2 P w K Z Y n f U ["begin","end","at","sign"] 3 Ff:=Dh F DT rfl λ_ _ _ _ _ _ a b=>(AL (B5 3 b (Ny (Dn (Bt a) (Ab Uj (AH 2) AJ) AJ) AJ (Bl AJ))) (AR (AX (AU (A3 (AH 0) (Cy (AH 1) (Ab FW (AH 2) AJ) (AH 3)))))))
theorem YA (F:Z1 K "rows_of" NT f U)(e:aj P w K Z Y n)(g:Nr P w K Z Y n)(d:dy P w K Z Y n):Z2 P w K Z Y n f U ["piece","latter","cut","begin","end","bottom","lines","former","share"] 1 Gs:=by
 have c:(["first","last"] :km Str).Nodup:=by decide +kernel
 exact Dh F DT rfl λ_ _ _ _ _ _ b a=>(AL (Em (AH 0) (CG (n:=4) rfl (Ad (EB 3 a) (Ad (EB 4 a) (Ad (EB 5 a) (Ad (EB 6 a) Bn)))))) (AL (Em (AK e b rfl (An (AH 5) (AH 6))) (CG (n:=2) rfl (Ad (EB 7 a) (Ad (EB 8 a) Bn)))) (AL (Ax (Dn (Bt b) (AH 8) (AU (An AJ AJ))) (AR (AX (Bo (A2 (BF (AK d b rfl (Cy (AH 3) (AH 4) (AH 7)))))))) Al) (AL (B5 1 a (AW (AK e b rfl (An (AH 5) (Bo (CM rfl (DP (AH 6)) (B9 (own:=2) (ix:= []) (N:= ["first","last" ]) rfl rfl rfl rfl rfl rfl (λ_ _ _ _ _ _=>(Uf (n:=2) rfl (E4 (K1 0 c) (E4 (K1 1 c) Os)))) (λ_ _ _ _ _ _=>Bh) (λ_ _ _ _ _ _=>(AU (An (AH 1) (AH 0))))))))) AJ)) (AL (B5 2 a (AK g b rfl (Cy (AH 3) (AH 4) (AH 8)))) (AR (AX (Bo (A2 (An (AK d b rfl (Cy (AH 3) (AH 2) (AH 7))) (AK d b rfl (Cy (AH 2) (AH 4) (AH 1)))))))))))))
theorem X7 (F:Z1 K "near_in" NP f U)(c:Dj P w K Z Y n)(e:Vo P w K Z Y n)(d:Nr P w K Z Y n):Z2 P w K Z Y n f U ["piece","low","held","high","begin","end","bottom","lines","first","last","share"] 1 Gj:=Dh F DT rfl λ_ _ _ _ _ _ b a=>(AL (Em (AH 0) (CG (n:=4) rfl (Ad (EB 4 a) (Ad (EB 5 a) (Ad (EB 6 a) (Ad (EB 7 a) Bn)))))) (AL (B5 1 a (AU (An AJ AJ))) (AL (B5 2 a AJ) (AL (B5 3 a (AU (An AJ AJ))) (AL (CB AAv rfl (DP (AH 7)) (CG (n:=2) rfl (Ad (EB 8 a) (Ad (EB 9 a) Bn))) (AL (Ax (FE (Nd (Dn SD (AH 8) (AH 6)) (JY (Dn SD (AH 9) (AH 6))))) (AR (AX (Bo (A2 Dx)))) Al) (AR (Ax (Dn SD (AH 8) (AH 6)) (AL (B5 10 a (AU (An (Ab Cc (AH 8) (AH 6)) (Ab Cc (AH 8) (AH 9))))) (AR (Ax (BS (Az (AK c b rfl (An (AH 10) (AH 1))))) (AL (B5 1 a (AH 10)) (AR (B5 2 a AJ))) Al))) (AR (Ax (Dn SH (AH 9) (AH 6)) (AR (B5 3 a (AK e b rfl (An (AH 3) (AU (An (Ab Cc (AH 6) (AH 8)) (Ab Cc (AH 9) (AH 8)))))))) Al)))))) (AL (Ax (BS (Az (AK c b rfl (An (AH 1) (AH 3))))) (AR (AX (Bo (A2 Dx)))) Al) (AR (AX (Bo (A2 (BF (AU (Cy (AK d b rfl (Cy (AH 4) (AH 5) (AH 1))) (AH 2) (AK d b rfl (Cy (AH 4) (AH 5) (AH 3))))))))))))))))
theorem Nx:FS ["stretches","steps","begin","held","end","first","last"] ["stretches"] (Be He):=DT
theorem WC (F:XB K "steps_of" "steps_of" He f U):Fi P w K Z Y VJ (n+1) f U ["stretches"] (Cn K 1 JN):=by
 have a:=Nx.nd;refine F.ok Nx (λvs H Q E h=> ?_) (λb A outer s H vs Q E c h=> ?_)
 .obtain ⟨T,M,xs,d,_,_,r,hl,_⟩:=h;rw[r.length,hl] <;> rfl
 obtain⟨T,M,xs,d,va,_,r,hl,e,hQ⟩:=h;have hu:=kE c;obtain⟨x,ys,m,rfl,hx,hz,hm,hq⟩:=XA e;cases r with
 | cons r g=> cases g;refine⟨_,(CL (GH (i:=1) a rfl (Or.inl rfl) js) (CL (gD AAv rfl (YI (pv 0)) (YG rfl (Iz (L5 (i:=2) a rfl (Or.inl rfl)) (Iz (L5 (i:=3) a rfl (Or.inl rfl)) (Iz (L5 (i:=4) a rfl (Or.inl rfl)) UK)))) (CL (GH (i:=5) a rfl (Or.inl rfl) (QG (BK (pv 2) (BK (CZ YE BM (pv 3)) DY)))) (CL (Zf hu (pv 1) (pv 5) (CZ KZ (WK hu (pv 1) (pv 5) BM ⟨rfl,rfl,rfl,rfl⟩) BM) rfl) (F7 (Ze (Om ZZ (pv 4) gA (CY _)) (CL (GH (i:=6) a rfl (Or.inl rfl) (QG (BK (pv 4) (BK BM DY)))) (F7 (Zf hu (pv 1) (pv 6) (CZ YE (WK hu (pv 1) (pv 6) BM ⟨rfl,rfl,rfl,rfl⟩) BM) rfl))) Ol))))) (F7 (QJ (pv 1))))), ?_⟩;exact Ye va r hx hz hm λp j ex k hp=>hQ _ (.dct m) T j (kX va ex) (kC va k hp) hq
theorem bX (F:Z1 K "levels" QW f U)(d:Vq P w K Z Y n)(e:Xj P w K Z Y n)(g:Z "list" =none):Z2 P w K Z Y n f U ["stretches","steps","told","count","moment","side"] 1 Ig:=by
 have b:(["moment","side"] :km Str).Nodup:=by decide +kernel
 exact Dh F DT rfl λ_ _ _ _ _ _ c a=>(AL (B5 1 a (AK e c rfl (BF (AH 0)))) (AL (D4 (i:=2) a rfl (Or.inl rfl) (A2 Dx)) (AL (B5 3 a AJ) (AL (CB AAv rfl (DP (AK d c rfl (BF (Bo (CM rfl (DP (Bo (gg c rfl g ACl (BF (AH 1))))) (B9 (own:=2) (ix:= []) (N:= ["moment","side" ]) rfl rfl rfl rfl rfl rfl (λ_ _ _ _ _ _=>(Uf (n:=2) rfl (E4 (K1 0 b) (E4 (K1 1 b) Os)))) (λ_ _ _ _ _ _=>Bh) (λ_ _ _ _ _ _=>(AH 0)))))))) (EB 4 a) (AR (CB AAv rfl (DP (AU (An AJ AJ))) (EB 5 a) (AR (Ax (pI c (AH 4) (AH 5) (AH 1)) (AL (gv (i:=3) a rfl (Or.inl rfl) (kJ c (AH 1) (AH 4) (AH 5) (λ_ _=>rfl)) pC) (AR (EO (i:=2) ACY ACZ DQ (BF (AU (Cy (AH 4) (AH 5) (AH 3))))))) Al))))) (AR (AX (AH 2)))))))
theorem X3 (F:Z1 K "counted" NL f U)(b:dw P w K Z Y n)(c:Z "tuple" =none):Z2 P w K Z Y n f U ["stretches","n","told","begin","moment","side","count"] 2 FX:=Dh F DT rfl λ_ _ _ _ _ _ d a=>(AL (D4 (i:=2) a rfl (Or.inl rfl) (A2 Dx)) (AL (B5 3 a Dy) (AL (CB AAv rfl (DP (AK b d rfl (BF (AH 0)))) (CG (n:=3) rfl (Ad (EB 4 a) (Ad (EB 5 a) (Ad (EB 6 a) Bn)))) (AR (Ax (FE (Nd (Dn Ui (AH 3) Dy) (JY (Dn SD (AH 6) (AH 1))))) (AR (B5 3 a (AU (An (AH 4) (Ab Cc AJ (AH 5)))))) (AR (Ax (FE (Nd (Dn Zu (AH 3) Dy) (JY (Dn IC (AH 6) (AH 1))))) (AL (EO (i:=2) ACY ACZ DQ (BF (AU (Cy (AW (AH 3) AJ) (AW (AH 3) AJ) (AH 4))))) (AR (B5 3 a Dy))) Al))))) (AL (Ax (Dn Zu (AH 3) Dy) (AR (EO (i:=2) ACY ACZ DQ (BF (AU (Cy (AW (AH 3) AJ) (AW (AH 3) AJ) Dy))))) Al) (AR (AX (A1 Bg rfl c AAx (BF (AH 2)))))))))
theorem WE (F:Z1 K "told_set" Kv f U)(a:ae P w K Z Y n):Z2 P w K Z Y n f U ["stretches"] 1 Fg:=Dh F DT rfl λ_ _ _ _ _ _ b _=>(AR (AX (AK a b rfl (An (AH 0) AJ))))
theorem WF (F:Z1 K "too_near" Kx f U)(c:ak P w K Z Y n)(d:Vp P w K Z Y n)(e:Xk P w K Z Y n):Z2 P w K Z Y n f U ["one","other","apart"] 3 Fh:=by
 have a:(["stretch","piece"] :km Str).Nodup:=by decide +kernel
 exact Dh F DT rfl λ_ _ _ _ _ _ b _=>(AR (AX (AK e b rfl (BF (Bo (Wa rfl (DP (AK d b rfl (Cy (AH 0) (AH 1) (AH 2)))) (Y5 (own:=2) (own2:=1) (ix:= []) (N:= ["stretch","piece" ]) rfl rfl rfl rfl rfl rfl (by decide) (λ_ _ _ _ _ _=>(K1 1 a)) (λ_ _ _ _ _ _=>Bh) (λ_ _ _ _ _ _=>(DP (AK c b rfl (BF (AH 1))))) (λ_ _ _ _ _ _=>(K1 0 a)) (λ_ _ _ _ _ _=>Bh) (λ_ _ _ _ _ _=>(AH 0)))))))))
theorem X9 (F:Z1 K "parting" NR f U)(d:Xh P w K Z Y n)(e:Vp P w K Z Y n)(g:Xi P w K Z Y n)(h:ap P w K Z Y n)(i:Xl P w K Z Y n)(j:ZH P w K Z Y n)(k:Z "tuple" =none):Z2 P w K Z Y n f U ["one","other","apart","near","begin","held","end"] 3 Go:=by
 have b:(["row","piece"] :km Str).Nodup:=by decide +kernel
 exact Dh F DT rfl λ_ _ _ _ _ _ a c=>(AL (B5 3 c (AK i a rfl (Cy (AH 0) (AH 1) (AH 2)))) (AL (Ax (pJ (AH 3)) (AL (Em (AW (AH 3) AJ) (CG (n:=3) rfl (Ad (EB 4 c) (Ad (EB 5 c) (Ad (EB 6 c) Bn))))) (AR (AX (AU (An YW (AK d a rfl (An (AK g a rfl (An (AH 4) (AH 6))) (AK j a rfl (BF AJ))))))))) Al) (AR (AX (AU (An YW (A1 Bg rfl k AAx (BF (Bo (Wa rfl (DP (AK e a rfl (Cy (AH 0) (AH 1) (AH 2)))) (Y5 (own:=2) (own2:=1) (ix:= []) (N:= ["row","piece" ]) rfl rfl rfl rfl rfl rfl (by decide) (λ_ _ _ _ _ _=>(K1 1 b)) (λ_ _ _ _ _ _=>Bh) (λ_ _ _ _ _ _=>(DP (AK h a rfl (BF (AH 1))))) (λ_ _ _ _ _ _=>(K1 0 b)) (λ_ _ _ _ _ _=>Bh) (λ_ _ _ _ _ _=>(AH 0)))))))))))))
theorem n6 (F:Z1 K "law" R7 f U)(e:Tf P w K Z Y n)(k:Q9 P w K Z Y n)(g:Lm P w K Z Y n)(l:RA P w K Z Y n)(o:B4 P w K Z Y n)(p:Vl P w K Z Y n)(r:Lq P w K Z Y n)(s:RE P w K Z Y n)(t:Vn P w K Z Y n)(u:M6 P w K Z Y n)(v:ao P w K Z Y n)(x:IB P w K Z Y n)(y:Z "bool" =none)(z:Z "isinstance" =none)(A:Z "len" =none)(B:Z "min" =none)(h:Z "range" =none)(j:Z "str" =none):Z2 P w K Z Y n f U ["_law_script","_law_k","_law_tape_here","_law_apart_here","_law_dent","_law_told","_law_papers","_law_paper","_law_one","_law_other","_law_wide","_law_asks","_law_first","_law_second","_law_far","_law_kept","_law_found"] 1 FY:=by
 have c:(["_law_rows"] :km Str).Nodup:=by decide +kernel
 have d:(["_law_turn","_law_tape_here","_law_paper"] :km Str).Nodup:=by decide +kernel
 exact Dh F DT rfl λ_ _ _ _ _ _ a b=>(AL (CB AAv rfl (Nz rfl h (BF (Ab Ai AJ (Au (ou rfl) rfl B boot_min (An AJ (Au CF rfl A AA4 (BF (AH 0)))))))) (EB 1 b) (AL (Hh (i:=2) b rfl (Or.inr rfl) (AK t a rfl (An (AH 0) (AH 1)))) (AL (B5 3 b (AK e a rfl (BF (AH 2)))) (AL (Em (AK u a rfl (An (AH 2) (AH 3))) (CG (n:=2) rfl (Ad (EB 8 b) (Ad (EB 9 b) Bn)))) (AL (Ax (Dn (Bt a) (AK o a rfl (An (AH 2) AJ)) AJ) (AR (B5 9 b (AK k a rfl (Cy (AH 2) (AH 8) (AH 3))))) Al) (AL (B5 4 b (AK l a rfl (Cy (AH 2) (AH 8) (AH 3)))) (AL (Ax (FE (Cd (BS (Az (AK g a rfl (Cy (AH 8) (AH 4) (AH 3))))) (Cm (BS (Az (AK g a rfl (Cy (AH 4) (AH 8) (AH 3)))))))) (AR (AX Cr)) Al) (AL (B5 5 b (AK v a rfl (Cy (AH 8) (AH 9) (AH 3)))) (AL (D4 (i:=6) b rfl (Or.inl rfl) (A2 (An (AK p a rfl (Cy (AH 2) (AH 8) (AH 9))) (AU Dx)))) (AL (Ax (Dn (Bt a) (AW (AH 5) AJ) YW) (AR (K4 (i:=6) AJ (AW (AH 5) AJ))) Al) (AL (CB AAv rfl (DP (Bo (CM rfl (wn 6) (B9 (own:=1) (ix:= []) (N:= ["_law_rows"]) rfl rfl rfl rfl rfl rfl (λ_ _ _ _ _ _=>(K1 0 c)) (λ_ _ _ _ _ _=>(MG (Dn (FQ a) (AH 0) (AU Dx)))) (λ_ _ _ _ _ _=>(AH 0)))))) (EN (i:=7) b rfl (Or.inr rfl)) (AR (D4 (i:=6) b rfl (Or.inl rfl) (o7 (AH 6) (Bo (CM rfl (Nz rfl h (BF AJ)) (B9 (own:=1) (ix:= [2,7]) (N:= ["_law_turn","_law_tape_here" ,"_law_paper" ]) rfl rfl rfl rfl rfl rfl (λ_ _ _ _ _ _=>(K1 0 d)) (λ_ _ _ _ _ _=>Bh) (λ_ _ _ _ _ _=>(AK s a rfl (An (AH 1) (AH 2))))))))))) (AR (pH 6 (CB AAv rfl (DP (AH 6)) (EN (i:=7) b rfl (Or.inr rfl)) (AL (B5 10 b (AK e a rfl (BF (AH 2)))) (AL (B5 11 b (Bo (A2 (Cy (AU (Cy (AH 8) (AH 9) (AH 3))) (AU (Cy (AH 9) (AH 8) (AH 3))) (AU (Cy (AH 8) (AH 9) (AH 10))))))) (AR (CB AAv rfl (DP (AH 11)) (CG (n:=3) rfl (Ad (EB 12 b) (Ad (EB 13 b) (Ad (EB 14 b) Bn)))) (AL (B5 15 b (A1 (gX a) rfl j boot_str (BF (AH 7)))) (AL (B5 16 b (AK x a rfl (A3 (AH 12) (Cy (AH 13) (AH 14) (AH 7))))) (AL (Ax (FE (Cd (BS (Az (Au NY rfl z ABl (An (AH 16) (R8 (n:="bool") rfl y boot_bool rfl))))) (Cm (Dn (FQ a) (AH 16) (AK r a rfl (A3 (AH 12) (Cy (AH 13) (AH 14) (AH 7)))))))) (AR (AX Cr)) Al) (AR (Ax (Dn (FQ a) (A1 (gX a) rfl j boot_str (BF (AH 7))) (AH 15)) (AR (AX Cr)) Al))))))))))))))))))))))) (AR (AX Cr)))
end
def nA {P:gn}{w:fe}{K:AAY}{Z:Str->ke kj}{Y:da}{k:Nat}{x:Str}{st:Stmt}{a:km Str}{sp:Sp}{f:kf}{U:FuncData}(F:XB K x x st f U)(b:Binds K U a [])(m:Z x=some (.ref f))(G:Fi P w K Z Y VJ k f U a sp):Has P w K Z Y k x a sp:=⟨f,U,m,F.kp,b,G⟩
def sD {a:km kj}(hl:a.length=1):∃b:kj,a= [b] :=by match a,hl with | [b],_=>exact⟨_,rfl⟩
def sE {a:km kj}(hl:a.length=2):∃b c:kj,a= [b,c] :=by match a,hl with | [b,c],_=>exact⟨_,_,rfl⟩
def sF {a:km kj}(hl:a.length=3):∃b c d:kj,a= [b,c,d] :=by match a,hl with | [b,c,d],_=>exact⟨_,_,_,rfl⟩
def sG {a:km kj}(hl:a.length=4):∃b c d e:kj,a= [b,c,d,e] :=by match a,hl with | [b,c,d,e],_=>exact⟨_,_,_,_,rfl⟩
def C6 (K:AAY)(x:Str)(st:Stmt)(f:kf):Prop:=PySem.W.nsIn K mainGlobals x=some (some (.ref f))/\∃U,XB K x x st f U
def vf {K:AAY}{x:Str}{st:Stmt}{f:kf}{g:kj}{h i:ke kf}{d:Array (ke kj)}{kV e j b ct:kj}(a:PySem.W.nsIn K mainGlobals x=some (some (.ref f)))(l:K.lookup f=some ⟨g,h, .func (PySem.W.fnOf x x (HJ st) (Ep st) (Be st) .none kV e j i b ct),d⟩)(c:PySem.W.codeIn K b x=true)(k:PySem.W.keepIn K (.ref f)=true):C6 K x st f:=⟨a,_,di l c k⟩
def v3 {P:gn}{w:fe}{K:AAY}{h Y:da}{Z:Str->ke kj}{k:Nat}{x:Str}{st:Stmt}{c:km Str}{sp:Sp}{f:kf}(A:C6 K x st f)(X:K.In h)(G:h.Ns mainGlobals Z)(g:∀U,XB K x x st f U->Binds K U c [] ->Z x=some (.ref f)->Fi P w K Z Y VJ k f U c sp)(b:∀U,XB K x x st f U->Binds K U c [] :=by exact λ_ F=>F.binds λ_ _ _ _ _ _ d hl=>by first | (obtain⟨_,rfl⟩:=sD hl;rfl)|(obtain⟨_,_,rfl⟩:=sE hl;rfl)|(obtain⟨_,_,_,rfl⟩:=sF hl;rfl)|(obtain⟨_,_,_,_,rfl⟩:=sG hl;rfl)):Has P w K Z Y k x c sp:=
 let ⟨a,U,F⟩:=A;nA F (b U F) (AE9 X G a) (g U F (b U F) (AE9 X G a))
def all_mk {l:PySem.W.OpenLaw}{w:fe}{K:AAY}{h:da}{Z:Str->ke kj}{fa f1 f2 f3 f4 f5 f6 f7 f8 f9 R S T f13 f14 f15 f16 f17 f18 f19 f20 f21 f22 f23 f24 f25 f26 f27 f28 f29 f30 f31 f32 f33 f34 f35 f36 f37 f38 f39 f40 f41 f42 f43 f44 f45 f46 f47 f48 f49 f50 f51 f52 f53 f54 f55 f56 f57 f58 f59 f60 f61 f62 f63 f64 f65 f66 f67 f68:kf}(X:K.In h)(G:h.Ns mainGlobals Z)(hfa:Z "law" =some (.ref fa))(a1:C6 K "_law_draw" F9 f1)(a2:C6 K "_law_apart" HX f2)(a3:C6 K "_law_part" JE f3)(a4:C6 K "_law_sum" Ko f4)(a5:C6 K "_law_moved" HY f5)(a6:C6 K "_law_off" Kk f6)(a7:C6 K "_law_place" HZ f7)(a8:C6 K "_law_span" JG f8)(a9:C6 K "_law_plan" JF f9)(a10:C6 K "_law_product" Fs R)(a11:C6 K "_law_beside" GI S)(a12:C6 K "_law_less" JB T)(a13:C6 K "_law_number" GN f13)(a14:C6 K "_law_lowest" GL f14)(a15:C6 K "_law_is_row" GK f15)(a16:C6 K "_law_ratio" Ha f16)(a17:C6 K "_law_spot" JH f17)(a18:C6 K "_law_offs" JD f18)(a19:C6 K "_law_rising" GO f19)(a20:C6 K "_law_turns" Hd f20)(a21:C6 K "_law_row_holds" Ej f21)(a22:C6 K "_law_shows" Hc f22)(a23:C6 K "before" QR f23)(a24:C6 K "common" QS f24)(a25:C6 K "part" YU f25)(a26:C6 K "minus" UT f26)(a27:C6 K "size_of" NU f27)(a28:C6 K "over" YT f28)(a29:C6 K "plus" YV f29)(a30:C6 K "times" UU f30)(a31:C6 K "spot_between" Ft f31)(a32:C6 K "spot_at" NV f32)(a33:C6 K "corners_between" EM f33)(a34:C6 K "count_below" GQ f34)(a35:C6 K "rising" QY f35)(a36:C6 K "turns" UV f36)(a37:C6 K "whole" UW f37)(a38:C6 K "holds" US f38)(a39:C6 K "is_whole" Kq f39)(a40:C6 K "is_part" NN f40)(a41:C6 K "is_row" QU f41)(a42:C6 K "greater" NM f42)(a43:C6 K "lesser" QV f43)(a44:C6 K "together" Ku f44)(a45:C6 K "shows_parting" FD f45)(a46:C6 K "_law_dent_right" EL f46)(a47:C6 K "_law_middle" GM f47)(a48:C6 K "_law_dented" GJ f48)(a49:C6 K "_law_made" JC f49)(a50:C6 K "_law_spoilt" GP f50)(a51:C6 K "_law_tape" GA f51)(a52:C6 K "_law_wide_pair" Ek f52)(a53:C6 K "shared_bottom" FC f53)(a54:C6 K "lines_of" Kr f54)(a55:C6 K "offs_at" NQ f55)(a56:C6 K "pieces" QX f56)(a57:C6 K "longest" NO f57)(a58:C6 K "moment_at" JI f58)(a59:C6 K "row_of" QZ f59)(a60:C6 K "rows_of" NT f60)(a61:C6 K "near_in" NP f61)(a62:C6 K "steps_of" He f62)(a63:C6 K "levels" QW f63)(a64:C6 K "counted" NL f64)(a65:C6 K "told_set" Kv f65)(a66:C6 K "too_near" Kx f66)(a67:C6 K "parting" NR f67)(H:C6 K "law" R7 f68)(x:PySem.W.nsIn K mainGlobals "abs" =some none)(y:PySem.W.nsIn K mainGlobals "all" =some none)(y_bool:PySem.W.nsIn K mainGlobals "bool" =some none)(b:PySem.W.nsIn K mainGlobals "enumerate" =some none)(z:PySem.W.nsIn K mainGlobals "int" =some none)(a:PySem.W.nsIn K mainGlobals "isinstance" =some none)(A:PySem.W.nsIn K mainGlobals "len" =some none)(o:PySem.W.nsIn K mainGlobals "list" =some none)(B:PySem.W.nsIn K mainGlobals "min" =some none)(g:PySem.W.nsIn K mainGlobals "range" =some none)(d:PySem.W.nsIn K mainGlobals "reversed" =some none)(C:PySem.W.nsIn K mainGlobals "str" =some none)(i:PySem.W.nsIn K mainGlobals "tuple" =some none)(D:PySem.W.nsIn K mainGlobals "zip" =some none):∃U:FuncData,(∀(s:ki) (v:kj),BindsTo s U ⟨[v], []⟩ [("_law_script",v)])/\∀Y:da,K.In Y->Y.Ns mainGlobals Z->Fi l.prog w K Z Y VJ 10 fa U ["_law_script"] (Cn K 1 FY):=by have e:=hfa.symm.trans (AE9 X G H.1);cases e;obtain⟨aL,fdL,FL⟩:=H;obtain⟨⟨oc,od,kV,doc,pm,an,cdv,ct,osl,eL,lL,cL⟩,kL⟩:=FL;subst eL;have FL:=di lL cL kL;have I:=ABb X G x;have iH:=ABb X G y;have O:=ABb X G y_bool;have JM:=ABb X G b;have r:=ABb X G z;have j:=ABb X G a;have f:=ABb X G A;have t:=ABb X G o;have iI:=ABb X G B;have p:=ABb X G g;have En:=ABb X G d;have Z8:=ABb X G C;have c:=ABb X G i;have J:=ABb X G D;refine⟨PySem.W.fnOf "law" "law" (HJ R7) (Ep R7) (Be R7) .none kV doc pm an cdv ct,λs v=> .of_eq rfl,λY _ _=> ?_⟩;have hs:= @v3 l.prog w K h Y Z;have k:=hs a1 X G λ_ F _ _=>Tx (n:=0) F;have H2:=hs a2 X G λ_ F _ _=>RH (n:=1) F (BD k);have E:=hs a3 X G λ_ F _ _=>UA (n:=0) F I r;have u:=hs a4 X G λ_ F _ _=>V9 (n:=1) F (BD E);have H5:=hs a5 X G λ_ F _ _=>RI (n:=2) F (BD u) p c;have P:=hs a6 X G λ_ F _ _=>V8 (n:=1) F (BD E);have H7:=hs a7 X G λ_ F _ _=>RJ (n:=1) F (BD k) (BD E);have H8:=hs a8 X G λ_ F _ _=>UC (n:=1) F (BD k) (BD E);have H9:=hs a9 X G λ_ F _ _=>UB (n:=2) F (BD k) (BD H7) (BD H8) (BD u) f c;have L:=hs a10 X G λ_ F _ _=>OK (n:=1) F (BD E);have ph:=hs a11 X G λ_ F _ _=>P2 (n:=3) F (BD k) (BD H5) (BD P) (BD H7) (BD H9) (BD L) (BD H8) (BD u) r f En c J;have M:=hs a12 X G λ_ F _ _=>Tz (n:=0) F;have yC:=hs a13 X G λ_ F _ _=>P7 (n:=0) F O r j;have H14:=hs a14 X G λ_ F _ _=>P5 (n:=1) F (BD yC) (BD E) j f t c;have H15:=hs a15 X G λ_ F _ _=>P4 (n:=2) F (BD M) (BD H14) (BD yC) I j f t c;have yD:=hs a16 X G λ_ F _ _=>RK (n:=1) F (BD E);have yE:=hs a17 X G λ_ F _ _=>UD (n:=2) F (BD M) (BD P) (BD L) (BD yD) (BD u) p c J;have H18:=hs a18 X G λ_ F _ _=>T9 (n:=3) F (BD P) (BD yD) (BD yE) r p;have H19:=hs a19 X G λ_ F _ _=>P8 (n:=1) F (BD M) f;have vJ:=hs a20 X G λ_ F _ _=>RM (n:=2) F (BD M) (BD H19);have H21:=hs a21 X G λ_ F _ _=>L1 (n:=4) F (BD M) (BD H18) (BD vJ) c;have yF:=hs a22 X G λ_ F _ _=>RL (n:=5) F (BD H15) (BD H21) (BD vJ) iH j f t c;have m:=hs a23 X G λ_ F _ _=>bT (n:=0) F;have vK:=hs a24 X G λ_ F _ _=>bU (n:=0) F;have N:=hs a25 X G λ_ F _ _=>jg (n:=1) F (BD vK) I;have Q:=hs a26 X G λ_ F _ _=>fT (n:=2) F (BD N);have yG:=hs a27 X G λ_ F _ _=>YB (n:=0) F;have vL:=hs a28 X G λ_ F _ _=>jf (n:=2) F (BD N);have vM:=hs a29 X G λ_ F _ _=>jh (n:=2) F (BD N);have vN:=hs a30 X G λ_ F _ _=>fU (n:=2) F (BD N);have H31:=hs a31 X G λ_ F _ _=>OL (n:=3) F (BD Q) (BD vL) (BD vM) (BD vN) c J;have yH:=hs a32 X G λ_ F _ _=>YC (n:=4) F (BD m) (BD H31) f p;have H33:=hs a33 X G λ_ F _ _=>KW (n:=1) F (BD m) c;have H34:=hs a34 X G λ_ F _ _=>QA (n:=1) F (BD m) f;have yI:=hs a35 X G λ_ F _ _=>bZ (n:=2) F (BD H34) f;have yJ:=hs a36 X G λ_ F _ _=>fV (n:=3) F (BD H33) (BD yI);have yK:=hs a37 X G λ_ F _ _=>fW (n:=0) F;have H38:=hs a38 X G λ_ F _ _=>fS (n:=5) F (BD m) (BD Q) (BD yG) (BD yH) (BD vN) (BD yJ) (BD yK);have yL:=hs a39 X G λ_ F _ _=>WA (n:=0) F O r j;have H40:=hs a40 X G λ_ F _ _=>X5 (n:=1) F (BD vK) (BD yL) I j f t c;have H41:=hs a41 X G λ_ F _ _=>bV (n:=2) F (BD H40) (BD yL) j f t c;have H42:=hs a42 X G λ_ F _ _=>X4 (n:=1) F (BD m);have yM:=hs a43 X G λ_ F _ _=>bW (n:=1) F (BD m);have yN:=hs a44 X G λ_ F _ _=>WD (n:=2) F (BD m) (BD H42) (BD yM);have yO:=hs a45 X G λ_ F _ _=>NF (n:=6) F (BD m) (BD H38) (BD H41) (BD yN) j f t c;have H46:=hs a46 X G λ_ F _ _=>KU (n:=7) F (BD yF) (BD yO) O j p;have yP:=hs a47 X G λ_ F _ _=>P6 (n:=2) F (BD L) (BD u);have H48:=hs a48 X G λ_ F _ _=>P3 (n:=3) F (BD k) (BD yP) (BD H5) (BD L) (BD yE) (BD u) r f t;have H49:=hs a49 X G λ_ F _ _=>T8 (n:=3) F (BD k) (BD vJ) c J;have H50:=hs a50 X G λ_ F _ _=>P9 (n:=3) F (BD k) (BD yP) (BD P) (BD u) f En c;have H51:=hs a51 X G λ_ F _ _=>UE (n:=0) F I r f;have H52:=hs a52 X G λ_ F _ _=>L3 (n:=3) F (BD k) (BD H9) (BD L) (BD u) r p c;have H53:=hs a53 X G λ_ F _ _=>NE (n:=1) F (BD vK);have H54:=hs a54 X G λ_ F _ _=>WB (n:=2) F (BD H53) J;have H55:=hs a55 X G λ_ F _ _=>X8 (n:=5) F (BD Q) (BD vL) (BD yG) (BD yH) p;have yQ:=hs a56 X G λ_ F _ _=>bY (n:=6) F (BD H54) (BD H55) (BD yN) (BD yJ) f p;have H57:=hs a57 X G λ_ F _ _=>X6 (n:=1) F (BD m) JM;have yR:=hs a58 X G λ_ F _ _=>UF (n:=3) F (BD Q) (BD N) (BD vM) (BD vN);have H59:=hs a59 X G λ_ F _ _=>bg (n:=0) F;have H60:=hs a60 X G λ_ F _ _=>YA (n:=4) F (BD H57) (BD yR) (BD H59);have H61:=hs a61 X G λ_ F _ _=>X7 (n:=4) F (BD m) (BD yM) (BD yR);have H62:=hs a62 X G λ_ F _ _=>WC (n:=0) F;have H63:=hs a63 X G λ_ F _ _=>bX (n:=3) F (BD yI) (BD H62) t;have H64:=hs a64 X G λ_ F _ _=>X3 (n:=4) F (BD H63) c;have H65:=hs a65 X G λ_ F _ _=>WE (n:=5) F (BD H64);have H66:=hs a66 X G λ_ F _ _=>WF (n:=7) F (BD H61) (BD yQ) (BD H65);have H67:=hs a67 X G λ_ F _ _=>X9 (n:=8) F (BD vL) (BD yQ) (BD vM) (BD H60) (BD H66) (BD yK) c;exact n6 (n:=9) FL (BD H2) (BD ph) (BD H46) (BD H48) (BD k) (BD H49) (BD yF) (BD H50) (BD H51) (BD H52) (BD H67) (BD yO) O j f iI p Z8
def walk {l:PySem.W.OpenLaw}{q:gn}{loose:km Str}{XP:(Str->ke kj)->da->Prop}{YP:fe->da->Prop}{d:DefRec}{K:Params->AAY}(hn:l.most=some 63)(c:d.params.defaults= [])(e:∀(w:fe) (h:da),YP w h->(K w.params).In h)(F:∀(w:fe) (Z:Str->ke kj) (b:kf) (h:da),(K w.params).In h->h.Ns mainGlobals Z->Z d.name=some (.ref b)-> ∃U:FuncData,(∀(s:ki) (u:kj),BindsTo s U ⟨[u], []⟩ [("_law_script",u)])/\∀Y:da,(K w.params).In Y->Y.Ns mainGlobals Z->Fi l.prog w (K w.params) Z Y VJ 10 b U ["_law_script"] (Cn (K w.params) 1 FY)):PySem.W.WalkO q loose XP YP l.row.toRowW d [] (λf vs=>PySem.call f vs):=
 L2.walk_of (n:=63) (k:=10) (x:="_law_script") (CX:=λ_=>VJ) (sp:=λw=>Cn (K w.params) 1 FY) hn (by decide) c ⟨rfl,by decide,by decide,rfl⟩ e F (λ_ _ a g hl _ i=>PL.law_sp i (fD g hl)) λ_ _ _ _ _ z=>z
def atK {K:AAY}{x:String}{s:Stmt}(m:String)(i c f:Nat)(a:PySem.W.nsIn K mainGlobals (Str.ofString x)=some (some (.ref f)):=by kernel_rfl)(l:K.lookup f=some (fO x s m i c):=by kernel_rfl)(d:PySem.W.codeIn K (.ref c) (Str.ofString x)=true:=by kernel_rfl)(k:PySem.W.keepIn K (.ref f)=true:=by kernel_rfl):C6 K (Str.ofString x) s f:=vf a l d k
end K26
open PySem PySem.W PyProof.Rows
def K26.lg:LeftO K26.pwA K26.q [] (λs=>xlAt K26.q [] s&&recOk [] s) (λs=>K26.KA.map s.heap.get?) (λw=>(K26.KK w.params).map λp=>some p.2) 6000:=λw=>PL.map_pair (PL.map5 (K26.l0 w) (K26.l1 w) (K26.l2 w) (K26.l3 w) (K26.l4 w)) (K26.l5 w)
theorem PySem.Challenge.cw_skylanes_k26_papers_of_partings_holds : PySem.Challenge.rw_skylanes_k26_papers_of_partings.Holds := by
 refine ⟨K26.w1, ?_⟩
 refine PySem.W.holds_open (q:=K26.q) (loose:= []) (Xt:=λs=>xlAt K26.q [] s&&recOk [] s) (XP:=XL K26.q []) (YP:=InK K26.KK) (N:=6000) K26.lg (InK.of (as:=K26.KA) λ_=>by kernel_rfl) InK.keeps (λs e=>xl_of s (Bool.and_eq_true_iff.mp e).1) XL.keeps (by rfl) (by rfl) (by rfl) (λs e=>recFacts_of (Bool.and_eq_true_iff.mp e).2) (by rfl) K26.w0 (by decide +kernel) ⟨rfl,rfl,rfl,rfl,rfl,by decide +kernel⟩ ?hw ?hc
 (case hw=>w_witness2)
 case hc=>
 refine K26.walk (l:=PySem.Challenge.rw_skylanes_k26_papers_of_partings) (K:=K26.KK) rfl rfl (λw h Y=>Y) ?F
 intro w mg fa h KX G rS
 exact K26.all_mk KX G rS (K26.atK K26.m0 544 275 276) (K26.atK K26.m0 544 345 346) (K26.atK K26.m0 544 282 283) (K26.atK K26.m0 544 296 297) (K26.atK K26.m0 544 355 356) (K26.atK K26.m0 544 303 304) (K26.atK K26.m0 544 324 325) (K26.atK K26.m0 544 331 332) (K26.atK K26.m0 544 338 339) (K26.atK K26.m0 544 310 311) (K26.atK K26.m0 544 360 361) (K26.atK K26.m0 544 289 290) (K26.atK K26.m0 544 389 390) (K26.atK K26.m0 544 396 397) (K26.atK K26.m0 544 403 404) (K26.atK K26.m0 544 317 318) (K26.atK K26.m0 544 350 351) (K26.atK K26.m0 544 375 376) (K26.atK K26.m0 544 365 366) (K26.atK K26.m0 544 370 371) (K26.atK K26.m0 544 408 409) (K26.atK K26.m0 544 413 414) (K26.atK K26.m1 187 76 77) (K26.atK K26.m1 187 27 28) (K26.atK K26.m1 187 34 35) (K26.atK K26.m1 187 55 56) (K26.atK K26.m2 380 180 181) (K26.atK K26.m1 187 69 70) (K26.atK K26.m1 187 48 49) (K26.atK K26.m1 187 62 63) (K26.atK K26.m3 316 123 124) (K26.atK K26.m3 316 130 131) (K26.atK K26.m3 316 135 136) (K26.atK K26.m1 187 111 112) (K26.atK K26.m1 187 118 119) (K26.atK K26.m2 380 173 174) (K26.atK K26.m1 187 41 42) (K26.atK K26.m4 464 254 255) (K26.atK K26.m1 187 20 21) (K26.atK K26.m1 187 97 98) (K26.atK K26.m4 464 247 248) (K26.atK K26.m1 187 90 91) (K26.atK K26.m1 187 83 84) (K26.atK K26.m2 380 168 169) (K26.atK K26.m4 464 261 262) (K26.atK K26.m0 544 446 447) (K26.atK K26.m0 544 382 383) (K26.atK K26.m0 544 439 440) (K26.atK K26.m0 544 425 426) (K26.atK K26.m0 544 432 433) (K26.atK K26.m0 544 268 269) (K26.atK K26.m0 544 418 419) (K26.atK K26.m1 187 104 105) (K26.atK K26.m2 380 192 193) (K26.atK K26.m2 380 185 186) (K26.atK K26.m2 380 197 198) (K26.atK K26.m4 464 230 231) (K26.atK K26.m2 380 204 205) (K26.atK K26.m4 464 223 224) (K26.atK K26.m4 464 235 236) (K26.atK K26.m2 380 211 212) (K26.atK K26.m5 339 142 143) (K26.atK K26.m5 339 147 148) (K26.atK K26.m5 339 154 155) (K26.atK K26.m5 339 161 162) (K26.atK K26.m2 380 216 217) (K26.atK K26.m4 464 240 241) (K26.atK K26.m0 544 451 452) (by kernel_rfl) (by kernel_rfl) (by kernel_rfl) (by kernel_rfl) (by kernel_rfl) (by kernel_rfl) (by kernel_rfl) (by kernel_rfl) (by kernel_rfl) (by kernel_rfl) (by kernel_rfl) (by kernel_rfl) (by kernel_rfl) (by kernel_rfl)
end
