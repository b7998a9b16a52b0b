import PyProof.Rows.All
import KE.KItem
import KE.KRevIter
import KE.IntBitsLaws
import PySem.Challenge.RW_skylanes_k85_whole_nearness
set_option Elab.async false
set_option linter.all false
set_option maxRecDepth 100000
set_option maxHeartbeats 4000000
abbrev kj:=@List
abbrev ki:=PySem.Value
abbrev kf:=PySem.Shared
abbrev kd:=PySem.Addr
abbrev kc:=@Option
abbrev fe:=PySem.Expr
abbrev da:=Bool
abbrev Wf:=PySem.Program
abbrev Tb:=PySem.World
abbrev Sr:=PySem.Heap
abbrev Sl:=PySem.Around
abbrev AAF:=@PySem.wpAny_bind
abbrev AAG:=PySem.W.Frag
abbrev AAH:=@if_neg
abbrev AAI:=@PySem.wpAny_pure
abbrev AAJ:=@if_pos
abbrev AAK:=@List.mem_cons
abbrev ABD:=@PySem.Heap.lt_size
abbrev ABE:=@List.pairwise_cons
abbrev ABF:=@PySem.Heap.get?_push_of_some
abbrev ABG:=@List.mem_map
abbrev ABH:=@Nat.le_refl
abbrev ABI:=@List.mem_append
abbrev ABJ:=@List.map_cons
abbrev ABK:=@Nat.ne_of_lt
abbrev ABL:=@List.length_map
abbrev ABM:=@PySem.Heap.get?_push_size
abbrev ABN:=@PySem.PassesOwn.never
abbrev ABO:=@Bool.false_ne_true
abbrev ABP:=@List.size_toArray
abbrev ABQ:=@decide_eq_true
abbrev ABR:=@List.not_mem_nil
abbrev ABS:=@or_false
abbrev ABT:=@Nat.le_trans
abbrev ABU:=@PySem.wpAny_field
abbrev ABV:=@List.map_append
abbrev ABW:=@Option.some.inj
abbrev ABX:=@List.mem_filter
abbrev ABY:=@List.mem_append_right
abbrev ABZ:=@Rat.le_refl
abbrev ABa:=@decide_eq_false
abbrev ABb:=@Nat.lt_of_lt_of_le
abbrev ABc:=@List.getElem?_eq_some_iff
abbrev ABd:=@List.length_cons
abbrev ABe:=@if_false
abbrev ABf:=@List.getElem?_eq_getElem
abbrev ABg:=@List.filter_cons
abbrev ABj:=@List.getElem?_set_ne
abbrev ABr:=@List.any_cons
abbrev ABs:=@PySem.isSubtype_type
abbrev ABt:=@PySem.wpAny_seqItems
abbrev ABu:=@Nat.ne_of_gt
abbrev ABv:=@List.getElem?_append_left
abbrev ABw:=@List.getElem?_map
abbrev ABx:=@of_decide_eq_true
abbrev ABy:=@PyProof.Rows.boot_tuple
abbrev ABz:=@PySem.wpAny_call_entry
abbrev AB0:=@Bool.false_eq_true
abbrev AB1:=@PySem.boot_len
abbrev AB2:=@if_true
abbrev AB3:=@PySem.wpAny_holding
abbrev AB4:=@PySem.wpAny_mono
abbrev AB5:=@PySem.wpAny_newObj_type
abbrev AB6:=@Bool.eq_iff_iff
abbrev AB7:=@Nat.zero_le
abbrev AB8:=@List.mem_of_getElem?
abbrev AB9:=@List.length_append
abbrev ACA:=@Bool.and_eq_true
abbrev ACB:=@List.mem_of_getLast?
abbrev ACD:=@Ne.symm
abbrev ACE:=@List.nil_append
abbrev ACF:=@Rat.intCast_lt_intCast
abbrev ACG:=@PySem.W.mg_none_of
abbrev ACH:=@PySem.wpAny_rule
abbrev ACI:=@PySem.Heap.size_push
abbrev ACJ:=@Nat.lt_of_le_of_lt
abbrev ACK:=@Rat.not_lt
abbrev ACL:=@PySem.F.slot_list_append
abbrev ACN:=@PySem.F.type_list_append
abbrev ACO:=@List.mem_cons_of_mem
abbrev ACP:=@PySem.wpAny_standAt
abbrev ACQ:=@List.append_nil
abbrev ACR:=@List.getElem?_append_right
abbrev ACS:=@PySem.wpAny_callSpecial?_slot
abbrev ACT:=@PySem.wpAny_setField_rec
abbrev ACU:=@List.mem_singleton
abbrev ACV:=@List.mem_flatMap
abbrev ACY:=@PySem.wpAny_specialOf
abbrev ACZ:=@Nat.lt_irrefl
abbrev ACa:=@List.map_map
abbrev ACb:=@of_decide_eq_false
abbrev ACc:=@Nat.le_of_ble_eq_true
abbrev ACz:=@List.length_filter_le
abbrev AC0:=@List.foldl_cons
abbrev AC1:=@Rat.mul_nonneg
abbrev AC2:=@Bool.not_true
abbrev AC3:=@List.of_mem_zip
abbrev AC4:=@List.length_replicate
abbrev AC5:=@Rat.num_divInt_den
abbrev AC6:=@decide_eq_decide
abbrev AC7:=@Rat.div_lt_iff
abbrev AC8:=@Array.length_toList
abbrev AC9:=@PySem.wpAny_isInstance
abbrev ADA:=@PySem.Calls.spliced_cons
abbrev ADB:=@List.getElem?_replicate
abbrev ADC:=@PyProof.Rows.slot_tuple_getitem
abbrev ADD:=@PySem.wpAny_of_eq
abbrev ADE:=@PySem.F.slot_zip_next
abbrev ADF:=@List.all_eq_true
abbrev ADG:=@List.map_congr_left
abbrev ADH:=@List.find?_cons
abbrev ADI:=@Bool.or_eq_true
abbrev ADJ:=@Bool.eq_false_iff
abbrev ADK:=@PyProof.Rows.boot_abs
abbrev ADL:=@PySem.wpAny_truthy_bool
abbrev ADM:=@List.mem_cons_self
abbrev ADN:=@PySem.wpAny_passesOwn
abbrev ADO:=@PyProof.Rows.callWith_type1
abbrev ADP:=@Prod.ext
abbrev ADQ:=@PySem.Heap.get?_update_self
abbrev ADR:=@Nat.lt_trans
abbrev ADS:=@Int.fdiv_eq_ediv_of_nonneg
abbrev ADT:=@PySem.wpAny_onRaise
abbrev ADU:=@PySem.wpAny_attempt
abbrev ADV:=@List.drop_eq_getElem_cons
abbrev ADW:=@Int.natAbs_neg
abbrev ADX:=@List.set_cons_succ
abbrev ADY:=@Option.map_eq_some_iff
abbrev ADZ:=@Rat.intCast_mul
abbrev ADa:=@Rat.intCast_le_intCast
abbrev ADb:=@Rat.intCast_sub
abbrev ADc:=@Int.toNat_natCast
abbrev ADd:=@List.map_nil
abbrev ADe:=@List.lookup_cons
abbrev ADf:=@List.forIn_cons
abbrev ADg:=@PySem.wpAny_letGo
abbrev ADh:=@decide_eq_true_eq
abbrev ADi:=@Nat.gcd_comm
abbrev ADj:=@Nat.gcd_pos_of_pos_right
abbrev ADk:=@List.pairwise_append
abbrev ADl:=@List.map_drop
abbrev ADm:=@List.getElem?_drop
abbrev ADn:=@List.length_nil
abbrev ADo:=@List.append_assoc
abbrev ADp:=@List.pairwise_map
abbrev ADq:=@Rat.mul_lt_mul_of_pos_left
abbrev ADr:=@Rat.mul_le_mul_of_nonneg_left
abbrev ADs:=@List.set_cons_zero
abbrev ADt:=@PySem.Paired.length
abbrev ADu:=@PySem.Calls.spliced_nil
abbrev ADv:=@PySem.codeAny_mono
abbrev ADw:=@PySem.mem_of_lookup
abbrev ADx:=@PySem.wpAny_typeOf
abbrev ADy:=@PySem.Heap.get?_update_other
abbrev ADz:=@PySem.wpAny_setField
abbrev AD0:=@PySem.Heap.SameBut.update
abbrev AD1:=@PySem.Obj.data_mapFields
abbrev AD2:=@List.forIn_nil
abbrev AD3:=@PySem.wpAny_updateSeq_pair
abbrev AD4:=@List.getElem?_set
abbrev AD5:=@List.drop_eq_nil_of_le
abbrev AD6:=@Nat.div_le_self
abbrev AD7:=@Nat.gcd_dvd_right
abbrev AD8:=@Int.natCast_ediv
abbrev AD9:=@List.sum_cons
abbrev AEA:=@List.map_take
abbrev AEB:=@List.getLast?_cons_cons
abbrev AEC:=@List.cons_append
abbrev AED:=@Nat.le_succ
abbrev AEE:=@Option.isSome_map
abbrev AEF:=@PySem.F.slot_dict_keyiterator_next
abbrev AEG:=@Bool.or_false
abbrev AEH:=@List.foldl_append
abbrev AEI:=@List.any_eq_true
abbrev AEJ:=@decide_eq_true_iff
abbrev AEK:=@List.flatMap_cons
abbrev AEL:=@Rat.divInt_eq_div
abbrev AEM:=@Rat.lt_div_iff
abbrev AEN:=@Rat.intCast_neg
abbrev AEO:=@Rat.mul_pos
abbrev AEP:=@Int.emod_nonneg
abbrev AEQ:=@Int.emod_lt_of_pos
abbrev AER:=@PyProof.Rows.boot_isinstance
abbrev AES:=@PySem.F.slot_tuple_hash
abbrev AET:=@PySem.wpAny_forIn_list
abbrev AEU:=@PySem.F.slot_tuple_eq
abbrev AEV:=@Nat.le_of_lt
abbrev AEW:=@List.mem_append_left
abbrev AEX:=@PySem.wpAny_execs_nil
abbrev AEY:=@Int.fmod_eq_emod_of_nonneg
abbrev AEZ:=@List.any_eq_false
abbrev AEa:=@PySem.wpAny_Call_Name_kw
abbrev AEb:=@List.nodup_cons
abbrev AEc:=@List.reverse_cons
abbrev AEd:=@PySem.codeAny_loop
abbrev AEe:=@PySem.wpAny_noted
abbrev AEf:=@PySem.wpAny_comprehension_free
abbrev AEg:=@List.take_of_length_le
abbrev AEh:=@PySem.F.slot_tuple_iterator_next
abbrev AEi:=@List.zipIdx_cons
abbrev AEj:=@List.zipIdx_nil
abbrev AEk:=@PySem.F.entry_zip_next
abbrev AEl:=@PySem.F.args_zip_next_1
abbrev AEm:=@PySem.wpAny_pyIter_zip
abbrev AEn:=@List.take_succ_cons
abbrev AEo:=@Rat.num_divInt
abbrev AEp:=@Rat.div_def
abbrev AEq:=@Nat.le_of_dvd
abbrev AEr:=@Int.natCast_mul
abbrev AEs:=@Option.getD_some
abbrev AEt:=@PySem.typeLookup_type
abbrev AEu:=@PySem.builtinLookup_eq_fast
abbrev AEv:=@PySem.wpAny_typeNameOfWhole_keyiter
abbrev AEw:=@PySem.wpAny_updateSeq
abbrev AEx:=@List.getLast?_eq_some_getLast
abbrev AEy:=@Prod.mk.injEq
abbrev AEz:=@List.filter_eq_nil_iff
abbrev AE0:=@Nat.mul_le_mul
abbrev AE1:=@Int.natAbs_natCast
abbrev AE2:=@Rat.mul_lt_mul_of_pos_right
abbrev AE3:=@Classical.byContradiction
abbrev AE4:=@PySem.wpAny_tupleItemsOf
abbrev AE5:=@Array.forIn_toList
abbrev AE6:=@Nat.add_assoc
abbrev AE7:=@PySem.isSubtype_tuple_tuple
abbrev AE8:=@beq_eq_false_iff_ne
abbrev AE9:=@List.filterMap_cons
abbrev AFA:=@List.length_take
abbrev AFB:=@PySem.noFill_tuple_add
abbrev AFC:=@PySem.F.slot_tuple_add
abbrev AFD:=@PySem.F.entry_tuple_add
abbrev AFE:=@PySem.F.args_tuple_add_2
abbrev AFF:=@PySem.codeAny_compStart_list
abbrev AFG:=@PySem.Obj.isFreed_of_fields
abbrev AFH:=@PySem.wpAny_pyIter_list
abbrev AFI:=@Int.natAbs_mul
abbrev AFJ:=@Rat.den_divInt
abbrev AFK:=@Int.sign_eq_one_of_pos
abbrev AFL:=@Nat.succ_mul
abbrev AFM:=@List.pairwise_iff_getElem
abbrev AFN:=@PySem.wpAny_dictEntries
abbrev AFO:=@PySem.wpAny_dictEpoch
abbrev AFP:=@List.pairwise_singleton
abbrev AFQ:=@Rat.mul_le_mul_of_nonneg_right
abbrev AFR:=@List.any_append
abbrev AFS:=@Rat.intCast_add
abbrev AFT:=@PySem.W.mg_of
abbrev AFU:=@List.getElem?_set_self
abbrev AFV:=@PySem.W.cellsFrom_some
abbrev AFW:=@PyProof.Rows.callWith_builtin1
abbrev AFX:=@List.length_singleton
abbrev AFY:=@PyProof.noPylong_of_log2
abbrev AFZ:=@PySem.F.entry_tuple_iterator_next
abbrev AFa:=@PySem.F.args_tuple_iterator_next_1
abbrev AFb:=@List.getElem?_zipWith
abbrev AFc:=@Rat.divInt_add_divInt
abbrev AFd:=@Rat.divInt_mul_divInt
abbrev AFe:=@Int.gcd_eq_natAbs_gcd_natAbs
abbrev AFf:=@Int.fdiv_eq_ediv_of_dvd
abbrev AFg:=@Int.sign_eq_neg_one_of_neg
abbrev AFh:=@Rat.divInt_eq_divInt_iff
abbrev AFi:=@List.getLast?_eq_getElem?
abbrev AFj:=@PySem.F.slot_dict_get
abbrev AFk:=@PySem.F.entry_dict_keyiterator_next
abbrev AFl:=@PySem.F.args_dict_keyiterator_next_1
abbrev AFm:=@Array.getElem?_eq_getElem
abbrev AFn:=@List.getElem?_eq_none
abbrev AFo:=@List.exists_cons_of_ne_nil
abbrev AFp:=@PySem.F.slot_list_insert
abbrev AFq:=@PySem.F.type_list_insert
section
namespace L2
open PySem
def Gh (s:Stmt):Arguments:=match s with
 | .FunctionDef _ a _ _ _ _ _ _ _ _=>a
 | _=>{posonlyargs:= [],args:= [],vararg:=none,kwonlyargs:= [],kw_defaults:= [],kwarg:=none,defaults:= [] }
def EZ (s:Stmt):kj Stmt:=match s with
 | .FunctionDef _ _ b _ _ _ _ _ _ _=>b
 | _=> []
def BS (s:Stmt):Scope:=match s with
 | .FunctionDef _ _ _ _ _ _ sc _ _ _=>sc
 | _=>{kind:= .function,names:= [],isGenerator:=false,isCoroutine:=false}
end L2
namespace K85
open PySem L2 PyProof.Rows
def top (i:Nat):Stmt:=PySem.Challenge.pw_skylanes_k85_whole_nearness.main.body.getD i (.Pass ⟨0,0,0,0⟩)
abbrev Fo:Stmt:=top 52
abbrev Gu:Stmt:=top 62
abbrev IF:Stmt:=top 53
abbrev Jy:Stmt:=top 55
abbrev Gv:Stmt:=top 64
abbrev Jx:Stmt:=top 56
abbrev Gx:Stmt:=top 59
abbrev IH:Stmt:=top 60
abbrev IG:Stmt:=top 61
abbrev FR:Stmt:=top 57
abbrev F4:Stmt:=top 65
abbrev Fp:Stmt:=top 51
abbrev IC:Stmt:=top 66
abbrev IE:Stmt:=top 70
abbrev ID:Stmt:=top 54
abbrev P5:Stmt:=top 9
abbrev FS:Stmt:=top 37
abbrev EV:Stmt:=top 36
abbrev P6:Stmt:=top 2
abbrev Yh:Stmt:=top 3
abbrev UU:Stmt:=top 6
abbrev Yi:Stmt:=top 5
abbrev UV:Stmt:=top 7
abbrev IJ:Stmt:=top 35
abbrev J0:Stmt:=top 38
abbrev Eo:Stmt:=top 13
abbrev J1:Stmt:=top 33
abbrev Yg:Stmt:=top 8
abbrev M4:Stmt:=top 30
abbrev FT:Stmt:=top 17
abbrev M5:Stmt:=top 18
abbrev My:Stmt:=top 31
abbrev Ms:Stmt:=top 11
abbrev P9:Stmt:=top 10
abbrev J3:Stmt:=top 28
abbrev D5:Stmt:=top 20
abbrev F8:Stmt:=top 14
abbrev QD:Stmt:=top 15
abbrev UW:Stmt:=top 29
abbrev QC:Stmt:=top 34
abbrev Mx:Stmt:=top 39
abbrev II:Stmt:=top 19
abbrev Mz:Stmt:=top 21
abbrev Gz:Stmt:=top 23
abbrev QA:Stmt:=top 24
abbrev Mr:Stmt:=top 25
abbrev J4:Stmt:=top 26
abbrev Mw:Stmt:=top 40
abbrev J5:Stmt:=top 41
abbrev Jw:Stmt:=top 75
abbrev P7:Stmt:=top 32
abbrev Mu:Stmt:=top 44
abbrev QE:Stmt:=top 43
abbrev M3:Stmt:=top 45
abbrev UX:Stmt:=top 4
abbrev M0:Stmt:=top 46
abbrev UT:Stmt:=top 48
abbrev Jz:Stmt:=top 1
abbrev Mt:Stmt:=top 12
abbrev P8:Stmt:=top 47
abbrev Ep:Stmt:=top 49
abbrev Gw:Stmt:=top 72
abbrev Mq:Stmt:=top 69
abbrev D4:Stmt:=top 74
abbrev F5:Stmt:=top 68
abbrev F6:Stmt:=top 67
abbrev FQ:Stmt:=top 71
abbrev F7:Stmt:=top 73
abbrev Gy:Stmt:=top 76
abbrev R4:Stmt:=top 77
def m0:String:="law_skylanes_k85_whole_nearness"
def m1:String:="skylanes.fractions"
def m2:String:="skylanes.nearness"
def m3:String:="skylanes.plans"
def m4:String:="skylanes.stretches"
def m5:String:="skylanes.partings"
def eN (P:Params)(x:String)(i:Nat)(v:ki):DictEntry:=⟨PyData.keyHash P (Str.ofString x), .str (Str.ofString x) i,v⟩
abbrev eR (P:Params)(x:String)(i f:Nat):=eN P x i (.ref f)
def fO (x:String)(s:Stmt)(m:String)(i c:Nat):Obj:=⟨.type "function",none, .func (PySem.W.fnOf (Str.ofString x) (Str.ofString x) (Gh s) (EZ s) (BS s) .none .none .none (.str (Str.ofString m) i) none (.ref c) .none), #[]⟩
def rV:Nat->ki
 | 0=> .none
 | n+1=> .ref (n+1)
def fc (x:String)(s:Stmt)(m:String)(a c f i l n g b d e h j u:Nat)(r:AAG):AAG:=
 (c,⟨.type "code",none, .fields #[.str (Str.ofString x) i, .str (Str.ofString x) (i+1), .str (Str.ofString "/claim/cut.py") (i+2), .int l 0, .int n 0, .int 0 0, .int 0 0, .int g 0,rV b, .bool true, .int 181 0,rV d, .none,rV e,rV h,rV j, .int u 0, .int l 0, .str (Str.ofString "/claim/cut.py") (u+1)], #[]⟩) ::
 (f,fO x s m a c)::r
def yA (P:Params):Obj:=⟨.type "dict",none, .dict #[eN P "__name__" 165 (.str (Str.ofString "law_skylanes_k85_whole_nearness") 623),eN P "__doc__" 166 .none,eN P "__package__" 167 .none,eN P "__loader__" 168 (.builtin "__main__.__loader__#opaque"),eN P "__spec__" 169 .none,eR P "__annotations__" 170 6,eR P "__builtins__" 171 4,eN P "__file__" 173 (.str (Str.ofString "/claim/cut.py") 172),eN P "__cached__" 174 .none,eR P "is_whole" 195 21,eR P "common" 203 28,eR P "part" 212 35,eR P "whole" 219 42,eR P "plus" 227 49,eR P "minus" 235 56,eR P "times" 243 63,eR P "over" 251 70,eR P "before" 259 77,eR P "lesser" 267 84,eR P "greater" 275 91,eR P "is_part" 284 98,eR P "shared_bottom" 294 105,eR P "count_below" 305 112,eR P "rising" 315 119,eR P "spot_between" 323 124,eR P "spot_at" 332 131,eR P "corner_at" 340 138,eR P "corners_between" 346 143,eR P "part_of" 358 150,eR P "steps_of" 373 157,eR P "levels" 379 162,eR P "counted" 392 169,eR P "told_set" 399 176,eR P "together" 411 183,eR P "turns" 417 188,eR P "size_of" 425 195,eR P "offs_at" 431 200,eR P "gap_at" 445 207,eR P "lines_of" 459 214,eR P "pieces" 465 219,eR P "moment_at" 474 226,eR P "meeting_shares" 486 233,eR P "gap_by_share" 492 238,eR P "least_in" 507 245,eR P "nearest" 519 252,eR P "near_in" 536 259,eR P "too_near" 542 264,eR P "row_of" 554 271,eR P "longest" 567 278,eR P "rows_of" 573 283,eR P "parting" 579 288,eR P "is_row" 590 295,eR P "holds" 606 302,eR P "shows_parting" 622 309,eR P "_law_tape" 634 316,eR P "_law_draw" 644 323,eR P "_law_part" 655 330,eR P "_law_less" 663 337,eR P "_law_sum" 671 344,eR P "_law_off" 679 351,eR P "_law_product" 687 358,eR P "_law_ratio" 695 365,eR P "_law_place" 703 372,eR P "_law_span" 711 379,eR P "_law_plan" 723 386,eR P "_law_apart" 731 393,eR P "_law_spot" 737 398,eR P "_law_moved" 743 403,eR P "_law_beside" 749 408,eR P "_law_case" 761 415,eR P "_law_rising" 767 420,eR P "_law_middle" 775 427,eR P "_law_in" 786 434,eR P "_law_mild" 792 439,eR P "_law_moments" 798 444,eR P "_law_never" 808 451,eR P "_law_walked" 823 458,eR P "_law_told_apart" 835 465,eR P "_law_cut" 841 470,eR P "_law_right" 856 477,eR P "law" 871 484] 81, #[]⟩
def KK (P:Params):AAG:=(3,yA P)::(fc "_law_draw" Fo m0 623 322 323 635 271 2 3 317 318 319 320 321 642 <| fc "_law_apart" Gu m0 623 392 393 724 323 1 3 387 388 389 390 391 729 <| fc "_law_part" IF m0 623 329 330 645 279 2 3 324 325 326 327 328 653 <| fc "_law_sum" Jy m0 623 343 344 664 287 2 3 338 339 340 341 342 669 <| fc "_law_moved" Gv m0 623 402 403 738 335 3 3 399 400 0 0 401 741 <| fc "_law_off" Jx m0 623 350 351 672 289 2 3 345 346 347 348 349 677 <| fc "_law_place" Gx m0 623 371 372 696 295 1 3 366 367 368 369 370 701 <| fc "_law_span" IH m0 623 378 379 704 302 1 3 373 374 375 376 377 709 <| fc "_law_plan" IG m0 623 385 386 712 307 1 3 380 381 382 383 384 721 <| fc "_law_product" FR m0 623 357 358 680 291 2 3 352 353 354 355 356 685 <| fc "_law_beside" F4 m0 623 407 408 744 337 3 3 404 405 0 0 406 747 <| fc "_law_tape" Fp m0 623 315 316 625 265 2 3 310 311 312 313 314 632 <| fc "_law_case" IC m0 623 414 415 750 361 2 3 409 410 411 412 413 759 <| fc "_law_mild" IE m0 623 438 439 787 383 3 3 435 436 0 0 437 790 <| fc "_law_less" ID m0 623 336 337 656 285 2 3 331 332 333 334 335 661 <| fc "before" P5 m1 187 76 77 252 23 2 3 71 72 73 74 75 257 <| fc "gap_by_share" FS m2 400 237 238 487 165 3 3 234 235 0 0 236 490 <| fc "meeting_shares" EV m2 400 232 233 475 158 1 3 227 228 229 230 231 484 <| fc "common" P6 m1 187 27 28 196 4 2 3 22 23 24 25 26 201 <| fc "part" Yh m1 187 34 35 204 8 2 3 29 30 31 32 33 210 <| fc "minus" UU m1 187 55 56 228 17 2 3 50 51 52 53 54 233 <| fc "plus" Yi m1 187 48 49 220 15 2 3 43 44 45 46 47 225 <| fc "times" UV m1 187 62 63 236 19 2 3 57 58 59 60 61 241 <| fc "moment_at" IJ m2 400 225 226 466 156 3 3 220 221 222 223 224 472 <| fc "least_in" J0 m2 400 244 245 493 169 1 3 239 240 241 242 243 505 <| fc "shared_bottom" Eo m1 187 104 105 285 36 1 3 99 100 101 102 103 292 <| fc "lines_of" J1 m2 400 213 214 446 136 2 3 208 209 210 211 212 457 <| fc "over" Yg m1 187 69 70 244 21 2 3 64 65 66 67 68 249 <| fc "size_of" M4 m2 400 194 195 418 122 2 3 189 190 191 192 193 423 <| fc "spot_between" FT m3 316 123 124 318 59 3 3 120 121 0 0 122 321 <| fc "spot_at" M5 m3 316 130 131 324 62 2 3 125 126 127 128 129 330 <| fc "offs_at" My m2 400 199 200 426 124 4 3 196 197 0 0 198 429 <| fc "greater" Ms m1 187 90 91 268 27 2 3 85 86 87 88 89 273 <| fc "lesser" P9 m1 187 83 84 260 25 2 3 78 79 80 81 82 265 <| fc "together" J3 m2 400 182 183 402 115 2 3 177 178 179 180 181 409 <| fc "corners_between" D5 m3 316 142 143 341 71 3 3 139 140 0 0 141 344 <| fc "count_below" F8 m1 187 111 112 295 41 2 3 106 107 108 109 110 303 <| fc "rising" QD m1 187 118 119 306 51 1 3 113 114 115 116 117 313 <| fc "turns" UW m2 400 187 188 412 119 4 3 184 185 0 0 186 415 <| fc "pieces" QC m2 400 218 219 460 145 3 3 215 216 0 0 217 463 <| fc "nearest" Mx m2 400 251 252 508 179 3 3 246 247 248 249 250 517 <| fc "corner_at" II m3 316 137 138 333 69 2 3 132 133 134 135 136 338 <| fc "part_of" Mz m3 316 149 150 347 73 3 3 144 145 146 147 148 356 <| fc "steps_of" Gz m4 359 156 157 361 81 1 3 151 152 153 154 155 371 <| fc "levels" QA m4 359 161 162 374 90 1 3 158 159 0 0 160 377 <| fc "counted" Mr m4 359 168 169 380 100 2 3 163 164 165 166 167 390 <| fc "told_set" J4 m4 359 175 176 393 112 1 3 170 171 172 173 174 397 <| fc "near_in" Mw m2 400 258 259 520 186 1 3 253 254 255 256 257 534 <| fc "too_near" J5 m2 400 263 264 537 204 3 3 260 261 0 0 262 540 <| fc "_law_cut" Jw m0 623 469 470 836 422 6 3 466 467 0 0 468 839 <| fc "gap_at" P7 m2 400 206 207 432 128 4 3 201 202 203 204 205 443 <| fc "longest" Mu m5 543 277 278 555 210 2 3 272 273 274 275 276 565 <| fc "row_of" QE m5 543 270 271 545 207 3 3 265 266 267 268 269 552 <| fc "rows_of" M3 m5 543 282 283 568 218 1 3 279 280 0 0 281 571 <| fc "whole" UX m1 187 41 42 213 13 1 3 36 37 38 39 40 217 <| fc "parting" M0 m5 543 287 288 574 226 3 3 284 285 0 0 286 577 <| fc "holds" UT m5 543 301 302 591 239 4 3 296 297 298 299 300 604 <| fc "is_whole" Jz m1 187 20 21 189 2 1 3 15 16 17 18 19 193 <| fc "is_part" Mt m1 187 97 98 276 29 1 3 92 93 94 95 96 282 <| fc "is_row" P8 m5 543 294 295 580 232 1 3 289 290 291 292 293 588 <| fc "shows_parting" Ep m5 543 308 309 607 246 4 3 303 304 305 306 307 620 <| fc "_law_never" Gw m0 623 450 451 799 400 4 3 445 446 447 448 449 806 <| fc "_law_in" Mq m0 623 433 434 776 378 2 3 428 429 430 431 432 784 <| fc "_law_told_apart" D4 m0 623 464 465 824 415 5 3 459 460 461 462 463 833 <| fc "_law_middle" F5 m0 623 426 427 768 376 2 3 421 422 423 424 425 773 <| fc "_law_rising" F6 m0 623 419 420 762 369 1 3 416 417 0 0 418 765 <| fc "_law_moments" FQ m0 623 443 444 793 392 5 3 440 441 0 0 442 796 <| fc "_law_walked" F7 m0 623 457 458 809 404 6 3 452 453 454 455 456 821 <| fc "_law_right" Gy m0 623 476 477 842 437 4 3 471 472 473 474 475 854 <| fc "law" R4 m0 623 483 484 857 453 1 3 478 479 480 481 482 869 <| [])
def KA:kj kd:= [3,322,323,392,393,329,330,343,344,402,403,350,351,371,372,378,379,385,386,357,358,407,408,315,316,414,415,438,439,336,337,76,77,237,238,232,233,27,28,34,35,55,56,48,49,62,63,225,226,244,245,104,105,213,214,69,70,194,195,123,124,130,131,199,200,90,91,83,84,182,183,142,143,111,112,118,119,187,188,218,219,251,252,137,138,149,150,156,157,161,162,168,169,175,176,258,259,263,264,469,470,206,207,277,278,270,271,282,283,41,42,287,288,301,302,20,21,97,98,294,295,308,309,450,451,433,434,464,465,426,427,419,420,443,444,457,458,476,477,483,484]
def q:Wf:={PySem.Challenge.pw_skylanes_k85_whole_nearness with main:={PySem.Challenge.pw_skylanes_k85_whole_nearness.main with body:= [top 1,top 2,top 3,top 4,top 5,top 6,top 7,top 8,top 9,top 10,top 11,top 12,top 13,top 14,top 15,top 17,top 18,top 19,top 20,top 21,top 23,top 24,top 25,top 26,top 28,top 29,top 30,top 31,top 32,top 33,top 34,top 35,top 36,top 37,top 38,top 39,top 40,top 41,top 43,top 44,top 45,top 46,top 47,top 48,top 49,top 51,top 52,top 53,top 54,top 55,top 56,top 57,top 58,top 59,top 60,top 61,top 62,top 63,top 64,top 65,top 66,top 67,top 68,top 69,top 70,top 71,top 72,top 73,top 74,top 75,top 76,top 77] }}
end K85
open PySem PySem.W PyProof.Rows
set_option maxRecDepth 100000 in
set_option maxHeartbeats 0 in
def K85.se (s:kf):=openSeen K85.q [] (importedModules (PySem.Challenge.pw_skylanes_k85_whole_nearness).main.body) (λs=>xlAt K85.q [] s&&recOk [] s) true s
def K85.go:=openGood K85.q []
def K85.rn (w:Tb):=openEnds treeTable PySem.Challenge.pw_skylanes_k85_whole_nearness w 6000
set_option maxRecDepth 100000 in
set_option maxHeartbeats 0 in
def K85.l0:∀w,(K85.rn w).map (λs=>(K85.se s).1)=some (K85.go.1):=by intro w;kernel_rfl
set_option maxRecDepth 100000 in
set_option maxHeartbeats 0 in
def K85.l1:∀w,(K85.rn w).map (λs=>(K85.se s).2.1)=some (K85.go.2.1):=by intro w;kernel_rfl
set_option maxRecDepth 100000 in
set_option maxHeartbeats 0 in
def K85.l2:∀w,(K85.rn w).map (λs=>(K85.se s).2.2.1)=some (K85.go.2.2.1):=by intro w;kernel_rfl
set_option maxRecDepth 100000 in
set_option maxHeartbeats 0 in
def K85.l3:∀w,(K85.rn w).map (λs=>(K85.se s).2.2.2.1)=some (K85.go.2.2.2.1):=by intro w;kernel_rfl
set_option maxRecDepth 100000 in
set_option maxHeartbeats 0 in
def K85.l4:∀w,(K85.rn w).map (λs=>(K85.se s).2.2.2.2)=some (K85.go.2.2.2.2):=by intro w;kernel_rfl
set_option maxRecDepth 100000 in
set_option maxHeartbeats 0 in
def K85.l5:∀w,(K85.rn w).map (λs=>K85.KA.map s.heap.get?)=some ((K85.KK w.params).map λp=>some p.2):=by intro w;kernel_rfl
set_option maxRecDepth 100000 in
set_option maxHeartbeats 0 in
def K85.w1:PySem.Challenge.rw_skylanes_k85_whole_nearness.wellSaid=true:=by
 kernel_rfl
set_option maxRecDepth 100000 in
set_option maxHeartbeats 0 in
def K85.w0:PySem.Challenge.rw_skylanes_k85_whole_nearness.row.wellSaid=true:=by
 kernel_rfl
end
namespace PySem
open Sem (wp)
abbrev FK:=(Int×Int)×Int
section
variable {prog:Wf}{w:Tb}
def Jb (prog:Wf)(w:Tb)(h:Sr)(k:FK)(a:kd):Prop:=∃o items n b u,h.get? a=some o/\o.cls= .type "tuple" /\o.data= .seq items n/\items.toList= [.ref b, .int k.2 u] /\IsTupleKey (intKind prog w) h [k.1.1,k.1.2] b
def Jb.typeIs {s:kf}{k:FK}{a:kd}(x:Jb prog w s.heap k a):s.TypeIs (.ref a) "tuple" :=let ⟨o,_,_,_,_,b,hc,_⟩:=x;⟨o,b,hc⟩
def Jb.inj {h:Sr}{a:kd}{x y:FK}(hx:Jb prog w h x a)(hy:Jb prog w h y a):x=y:=by obtain⟨o,items,n,b,u,j,_,hd,hi,hk⟩:=hx;obtain⟨k,c,m,p,r,l,_,f,g,e⟩:=hy;obtain rfl:o=k:=ABW (j.symm.trans l);rw[hd] at f;injection f with h1 _;subst h1;rw[hi] at g;injection g with h1 h2;injection h1 with h1;subst h1;injection h2 with h2 _;injection h2 with h2 _;have:=hk.inj e;obtain⟨⟨s,t⟩,v⟩:=x;obtain⟨⟨y1,y2⟩,y3⟩:=y;injection this with i d;injection d with d _;simp only at h2 i d;subst h2;subst i;subst d;rfl
def Jb.keeps {h h':Sr}{k:FK}{a d:kd}{o:Obj}{es ep}(x:Jb prog w h k a)(e:h.get? d=some o)(hd:o.data= .dict es ep)(hs:Heap.SameBut d h h'):Jb prog w h' k a:=by
 obtain⟨f,items,n,b,u,g,hc,c,hi,hk⟩:=x;have i:a≠d:=by rintro rfl;obtain rfl:f=o:=ABW (g.symm.trans e);rw[hd] at c;exact nomatch c
 exact⟨f,items,n,b,u,(hs.2 a i).trans g,hc,c,hi,hk.keeps e hd hs⟩
def Xc (prog:Wf)(w:Tb)(k:FK):Int:=reduceHash (Builtin.Tuple.tupleHashOf [tupleKeyHash (intKind prog w) [k.1.1,k.1.2],hashInt k.2])
variable {A:Sl}{E:ki->kf->Prop}{s:kf}
def Nx {k:FK}{a:kd}{Q:Int->kf->Prop}(hu:A.units+1<cLine)(hk:Jb prog w s.heap k a)(h:Q (Xc prog w k) {s with toks:=s.toks+5}):wpAny (model prog w) A (pyHash (.ref a)) Q E s:=by
 have f:=hk.typeIs;obtain⟨o,items,n,b,u,i,_,hd,hi,j⟩:=hk;unfold pyHash;first | unfold pyHashByItsType|skip
 first | refine AAF (wpAny_cRoomFor_or (.inr (by omega)) ?_)|skip
 refine AAF (ACY f AES.lookup ?_);show wpAny _ _ (if (some (Value.builtin "tuple.__hash__")==some Value.none)=true then _ else _) Q E s;rw[AAH (by rw[beq_builtin_none];exact ABO)];refine AAF (ACY f AES.lookup ?_);show wpAny _ _ (callSpecialIfBoundUnlessNone? (.ref a) "__hash__" _ >>= _) Q E s;refine AAF (wpAny_callSpecialIfBoundUnlessNone?_slot f AES (ABz AES f F.entry_tuple_hash ?_ (F.args_tuple_hash_1 _)));show wpAny _ _ (Builtin.Tuple.tupleItemsOf (.ref a) >>= _) _ _ s;refine AAF (AE4 i hd ?_);refine AAF ?_;rw[<-AE5,hi];refine AET _
  (λrest (r:Array Int) d=>(rest= [.ref b, .int k.2 u] /\r.toList= [] /\d=s)\/(rest= [.int k.2 u] /\r.toList= [tupleKeyHash (intKind prog w) [k.1.1,k.1.2]] /\d={s with toks:=s.toks+3})\/
    (rest= [] /\r.toList= [tupleKeyHash (intKind prog w) [k.1.1,k.1.2],hashInt k.2] /\d={s with toks:=s.toks+4}))
  _ ?_ ?_ _ _ (.inl ⟨rfl,rfl,rfl⟩)
 .rintro x rest r d (⟨c,e,rfl⟩|⟨c,e,rfl⟩|⟨c,_⟩)
  .cases c;refine AAF (wpAny_pyHash_tuple (knd:=intKind prog w) (by first | exact hu|omega) j ?_);exact AAI (.inr (.inl ⟨rfl,by simp[e],rfl⟩))
  .cases c;refine AAF (wpAny_pyHash_int ?_);exact AAI (.inr (.inr ⟨rfl,by simp[e],by simp[AE6]⟩))
  .cases c
 .rintro r d (⟨c,_⟩|⟨c,_⟩|⟨_,e,rfl⟩)
  .cases c
  .cases c
  .show wpAny _ _ (retInt (Builtin.Tuple.tupleHashOf r.toList)) _ _ _;rw[e];refine wpAny_ret_mkInt ?_;show wpAny _ _ (if (decide (-(2:Int)^63<=Builtin.Tuple.tupleHashOf [tupleKeyHash (intKind prog w) [k.1.1,k.1.2],hashInt k.2])&&decide (Builtin.Tuple.tupleHashOf [tupleKeyHash (intKind prog w) [k.1.1,k.1.2],hashInt k.2] < 2^63))=true then _ else _) Q E _;unfold Xc reduceHash at h;by_cases g:(decide (-(2:Int)^63<=Builtin.Tuple.tupleHashOf [tupleKeyHash (intKind prog w) [k.1.1,k.1.2],hashInt k.2])&&decide (Builtin.Tuple.tupleHashOf [tupleKeyHash (intKind prog w) [k.1.1,k.1.2],hashInt k.2] < 2^63))=true
   .rw [AAJ g];rw[AAJ g] at h;exact AAI (by simpa[AE6] using h)
   .rw [AAH g];rw[AAH g] at h;exact AAF (ACH (AAI (by simpa[AE6] using h)))
def Xd {x y:FK}{a b:kd}{P:Fin->kf->Prop}(hu:A.units<cLine)(hx:Jb prog w s.heap x a)(hy:Jb prog w s.heap y b)(h:P (.done (.ret (.bool (decide (x=y))))) s):wpAny (model prog w) A (Builtin.«tuple.__eq__» ⟨[.ref a, .ref b], []⟩) P E s:=by
 have j:=hy.typeIs;obtain⟨Q,xs,R,I,D,k,_,l,F,m⟩:=hx;obtain⟨S,ys,T,J,G,n,_,hdb,H,o⟩:=hy;have K:xs.size=2:=by rw[<-AC8,F];rfl
 have L:ys.size=2:=by rw[<-AC8,H];rfl
 obtain⟨⟨e,f⟩,c⟩:=x;obtain⟨⟨y1,y2⟩,y3⟩:=y;show wpAny _ _ (isInstance (.ref b) (.type "tuple") >>= _) _ _ s;refine AAF (AC9 j AE7 ?_);simp only[AC2,AB0,ABe];refine AAF (AE4 k l ?_);refine AAF (AE4 n hdb ?_);refine AAF ?_;rw[F,H];refine AET _
  (λrest r g=>r.1=none/\g=s/\(rest= [(.ref I, .ref J),(.int c D, .int y3 G)] \/(rest= [(.int c D, .int y3 G)] /\e=y1/\f=y2)\/(rest= [] /\e=y1/\f=y2/\c=y3)))
  _ ?_ ?_ _ _ ⟨rfl,rfl, .inl rfl⟩
 .rintro ⟨u,v⟩ rest r g ⟨p,rfl,(hz|⟨hz,t,B⟩|⟨hz,_⟩)⟩
  .cases hz;refine AAF (wpAny_eqBool_tuple (knd:=intKind prog w) (by first | exact hu|omega) m o ?_);by_cases hk:e=y1/\f=y2
   .rw [ABQ (by rw[hk.1,hk.2])];simp only[AC2,AB0,ABe];exact AAI ⟨rfl,rfl, .inr (.inl ⟨by first | trivial|rfl,hk⟩)⟩
   .rw [ABa (by intro z;injection z with i d;injection d with d _;exact hk ⟨i,d⟩)];simp only[Bool.not_false,AB2];have C:decide ((((e,f),c):FK)=((y1,y2),y3))=false:=by apply ABa;intro z;injection z with i d;injection i with M N;exact hk ⟨M,N⟩
    rw[C] at h;exact AAF (AAI (AAI (AAI h)))
  .cases hz;refine AAF (wpAny_eqBool_int ?_);by_cases hk:c=y3
   .rw [show (c==y3)=true by simp[hk]];simp only[AC2,AB0,ABe];exact AAI ⟨rfl,rfl, .inr (.inr ⟨by first | trivial|rfl,t,B,hk⟩)⟩
   .rw [show (c==y3)=false by simp[hk]];simp only[Bool.not_false,AB2];have C:decide ((((e,f),c):FK)=((y1,y2),y3))=false:=by apply ABa;intro z;injection z with i d;exact hk d
    rw[C] at h;exact AAF (AAI (AAI (AAI h)))
  .cases hz
 .rintro ⟨r1,r2⟩ g ⟨p,rfl,(hz|⟨hz,_⟩|⟨_,t,B,O⟩)⟩
  .cases hz
  .cases hz
  .simp only at p;subst p;refine AAI ?_;show P (.done (.ret (.bool (xs.size==ys.size)))) g;rw[K,L];rw[ABQ (by rw[t,B,O])] at h;exact h
def Nw {x y:FK}{a b:kd}{Q:da->kf->Prop}(hu:A.units+1<cLine)(hx:Jb prog w s.heap x a)(hy:Jb prog w s.heap y b)(h:Q (decide (x=y)) s):wpAny (model prog w) A (eqBool (.ref a) (.ref b)) Q E s:=by
 unfold eqBool;try with_reducible refine AB3 ?_
 show wpAny _ _ (if (Value.ref a==Value.ref b)=true then _ else _) Q E s;by_cases c:(Value.ref a==Value.ref b)=true
 .rw [AAJ c];have e:a=b:=by have:=eq_of_beq c;injection this
  subst e;obtain rfl:=hx.inj hy;exact AAF (ACH (AAI (by simpa using h)))
 .rw [AAH c];exact AAF (wpAny_richCompare_same_room (op:= .Eq) hx.typeIs hy.typeIs AEU
   (ABz AEU hx.typeIs F.entry_tuple_eq (Xd (by first | exact hu|omega) hx hy ⟨_,rfl,(λe=>nomatch e),ADL h⟩) (F.args_tuple_eq_2 _ _)) (by omega))
def G5 {K:Type}[DecidableEq K]{knd:KeyKind prog w K}{g:kj K}{a:kd}{Q:da->kf->Prop}(m:Nat)(hk:IsTupleKey knd s.heap g a)(h:Q true s):wpAny (model prog w) A (eqIsQuiet (m+1) (.ref a)) Q E s:=by
 have e:=hk.typeIs;obtain⟨o,items,n,i,_,hd,hi⟩:=hk;unfold eqIsQuiet;refine AAF (ACY e AEU.lookup ?_);show wpAny _ _ (isInstance (.ref a) (.type "tuple") >>= _) _ _ s;refine AAF (AC9 e AE7 ?_);simp only[AC2,AB0,ABe];refine AAF (ABt i hd ?_);refine AAF ?_;show wpAny _ _ (forIn items _ _) _ _ s;rw[<-AE5];refine AET _ (λrest r b=>r.1=none/\b=s/\∀v∈rest,carriedByValue v=true) _ ?_ ?_ _ _ ⟨rfl,rfl,hi.byValue⟩
 .rintro v rest r b ⟨c,rfl,f⟩;rw[eqIsQuiet_byValue _ (f v ADM)];refine AAF (AAI ?_);simp only[AC2,AB0,ABe];exact AAI ⟨rfl,rfl,λu d=>f u (ACO _ d)⟩
 .rintro ⟨r1,r2⟩ b ⟨c,rfl,_⟩;simp only at c;subst c;exact AAI h
def KC {k:FK}{a:kd}{Q:da->kf->Prop}(hk:Jb prog w s.heap k a)(h:Q true s):wpAny (model prog w) A (eqIsQuiet 8 (.ref a)) Q E s:=by
 have e:=hk.typeIs;obtain⟨o,items,n,b,u,f,_,hd,hi,g⟩:=hk;unfold eqIsQuiet;refine AAF (ACY e AEU.lookup ?_);show wpAny _ _ (isInstance (.ref a) (.type "tuple") >>= _) _ _ s;refine AAF (AC9 e AE7 ?_);simp only[AC2,AB0,ABe];refine AAF (ABt f hd ?_);refine AAF ?_;show wpAny _ _ (forIn items _ _) _ _ s;rw[<-AE5,hi];refine AET _ (λrest r c=>r.1=none/\c=s/\(rest= [.ref b, .int k.2 u] \/rest= [.int k.2 u] \/rest= [])) _ ?_ ?_ _ _ ⟨rfl,rfl, .inl rfl⟩
 .rintro v rest r c ⟨d,rfl,(hz|hz|hz)⟩
  .cases hz;refine AAF (G5 (knd:=intKind prog w) 6 g ?_);simp only[AC2,AB0,ABe];exact AAI ⟨rfl,rfl, .inr (.inl (by first | trivial|rfl))⟩
  .cases hz;rw[eqIsQuiet_byValue _ rfl];refine AAF (AAI ?_);simp only[AC2,AB0,ABe];exact AAI ⟨rfl,rfl, .inr (.inr (by first | trivial|rfl))⟩
  .cases hz
 .rintro ⟨r1,r2⟩ c ⟨d,rfl,_⟩;simp only at d;subst d;exact AAI h
end
def fkKind (prog:Wf)(w:Tb):HeapKind prog w FK where
 is:=Jb prog w
 hash:=Xc prog w
 draws:=λ_=>5
 room:=λA=>A.units+1<cLine
 inj:=λhx hy=>hx.inj hy
 keeps:=λx a hd hs=>x.keeps a hd hs
 pyHash:=λhu hk h=>Nx hu hk h
 eqBool:=λhu hx hy h=>Nw hu hx hy h
 quiet:=λhk h=>KC hk h
def DX {prog:Wf}{w:Tb}{A:Sl}(h:A.units+2<cLine):(fkKind prog w).room A.in1:=by show A.units+1+1<cLine;omega
end PySem
namespace L2
open PySem PySem.Spec PyProof.Rows
abbrev GB:=Sum Int Str
def nD:GB->ki->da
 | .inl k,v=>Value.isInt k v
 | .inr x,v=>Value.isStrOf x v
def xf (w:Tb):GB->Int
 | .inl k=>hashInt k
 | .inr x=>hashStr w x
def B8:∀{k:GB} {v:ki},nD k v=true->(∃i t,k=Sum.inl i/\v=Value.int i t)\/(∃x t,k=Sum.inr x/\v=Value.str x t)
 | .inl i,v,h=>by obtain⟨t,e⟩:=Value.isInt_shape (k:=i) (v:=v) h;exact .inl ⟨i,t,rfl,e⟩
 | .inr x,v,h=>by obtain⟨t,e⟩:=Value.isStrOf_shape (x:=x) (v:=v) h;exact .inr ⟨x,t,rfl,e⟩
def pK (a b:Int):decide ((Sum.inl a:GB)=Sum.inl b)=(a==b):=by
 by_cases e:a=b
 .subst e;simp
 .have h:¬(Sum.inl a:GB)=Sum.inl b:=λq=>e (Sum.inl.inj q);rw[ABa h];exact(AE8.mpr e).symm
def pO (a b:Str):decide ((Sum.inr a:GB)=Sum.inr b)=decide (a=b):=by
 by_cases e:a=b
 .subst e;simp
 .have h:¬(Sum.inr a:GB)=Sum.inr b:=λq=>e (Sum.inr.inj q);rw[ABa h,ABa e]
def pL (a:Int)(b:Str):decide ((Sum.inl a:GB)=Sum.inr b)=false:=ABa (λq=>nomatch q)
def pM (a:Str)(b:Int):decide ((Sum.inr a:GB)=Sum.inl b)=false:=ABa (λq=>nomatch q)
def Tq (prog:Wf)(w:Tb):PySem.KeyKind prog w GB where
 is:=nD
 hash:=xf w
 inj:=λv a b ha hb=>by
  rcases B8 ha with⟨i,t,rfl,rfl⟩|⟨x,t,rfl,rfl⟩
  .rcases B8 hb with⟨j,u,rfl,e⟩|⟨y,u,rfl,e⟩
   .injection e with c _;rw[c]
   .exact nomatch e
  .rcases B8 hb with⟨j,u,rfl,e⟩|⟨y,u,rfl,e⟩
   .exact nomatch e
   .injection e with c _;rw[c]
 byValue:=λk v h=>by rcases B8 h with⟨i,t,rfl,rfl⟩|⟨x,t,rfl,rfl⟩ <;> rfl
 pyHash:=λhv h=>by
  rcases B8 hv with⟨i,t,rfl,rfl⟩|⟨x,t,rfl,rfl⟩
  .exact wpAny_pyHash_int h
  .exact wpAny_pyHash_str h
 eqBool:=λhu hv h=>by
  rcases B8 hu with⟨i,t,rfl,rfl⟩|⟨x,t,rfl,rfl⟩
  .rcases B8 hv with⟨j,u,rfl,rfl⟩|⟨y,u,rfl,rfl⟩
   .rw [pK] at h;exact wpAny_eqBool_int h
   .rw [pL] at h;exact SeqAt.EqAt.int_str i t y u _ _ _ _ h
  .rcases B8 hv with⟨j,u,rfl,rfl⟩|⟨y,u,rfl,rfl⟩
   .rw [pM] at h;exact SeqAt.EqAt.str_int x t j u _ _ _ _ h
   .rw [pO] at h;exact wpAny_eqBool_str h
 «strs»:=λk x t v h=>by
  rcases B8 h with⟨i,u,rfl,e⟩|⟨y,u,rfl,e⟩
  .exact nomatch e
  .injection e with c _;subst c;cases v <;> rfl
inductive V where
 | non|bl (b:Bool)|int (i:Int)|str (x:Str)|byt (b:Array UInt8)|flt (b:UInt64)|ref (a:Addr)|ty (n:String)
 deriving DecidableEq
def RelV:V->ki->Prop
 | .non,u=>u=Value.none
 | .bl b,u=>u=Value.bool b
 | .int i,u=>∃t,u=Value.int i t
 | .str x,u=>∃t,u=Value.str x t
 | .byt b,u=>∃t,u=Value.bytes b t
 | .flt b,u=>∃t,u=Value.float b t
 | .ref a,u=>u=Value.ref a
 | .ty n,u=>u=Value.type n
abbrev A3:kj V->kj ki->Prop:=Paired RelV
def A3.length {xs:kj V}{a:kj ki}(r:A3 xs a):xs.length=a.length:=ADt r
theorem A3.get:∀{xs:kj V} {a:kj ki} {i:Nat} {x:V},A3 xs a->xs[i]? =some x->∃u,a[i]? =some u/\RelV x u
 | _,_,_,_, .nil,e=>by simp at e
 | _,_,0,_, .cons r _,e=>by simp at e;subst e;exact⟨_,rfl,r⟩
 | _,_,i+1,x, .cons _ t,e=>by obtain⟨u,h1,h2⟩:=A3.get (i:=i) (x:=x) t (by simpa using e);exact⟨u,by simpa using h1,h2⟩
theorem A3.set {x:V}{u:ki}(r:RelV x u):∀{xs:kj V} {a:kj ki} (i:Nat),A3 xs a->A3 (xs.set i x) (a.set i u)
 | _,_,_, .nil=> .nil
 | _,_,0, .cons _ t=> .cons r t
 | _,_,i+1, .cons q t=> .cons q (A3.set r i t)
theorem A3.append:∀{xs ys:kj V} {a ws:kj ki},A3 xs a->A3 ys ws->A3 (xs++ys) (a++ws)
 | _,_,_,_, .nil,s=>s
 | _,_,_,_, .cons r t,s=> .cons r (A3.append t s)
theorem A3.take:∀{xs:kj V} {a:kj ki} (n:Nat),A3 xs a->A3 (xs.take n) (a.take n)
 | _,_,0,_=> .nil
 | _,_,_+1, .nil=> .nil
 | _,_,n+1, .cons r t=> .cons r (A3.take n t)
theorem A3.drop:∀{xs:kj V} {a:kj ki} (n:Nat),A3 xs a->A3 (xs.drop n) (a.drop n)
 | _,_,0,r=>r
 | _,_,_+1, .nil=> .nil
 | _,_,n+1, .cons _ t=>A3.drop n t
def Nb:kc V->kc ki->Prop
 | some v,some u=>RelV v u
 | none,none=>True
 | _,_=>False
def KV {a:Type}:kj (a×V)->kj (a×ki)->Prop:=Paired λ(p:a×V) (q:a×ki)=>p.1=q.1/\RelV p.2 q.2
def kV:GB->V
 | .inl i=> .int i
 | .inr x=> .str x
inductive HO where
 | lst (xs:List V)
 | tup (xs:List V)
 | dK (kvs:List (GB×V))|dT (kvs:List (List GB×V))|dN (K:AAG) (kvs:List (PySem.FK×V))
 | set (S:Int->Bool) (n:Nat)
 | ins (C dx:Addr) (fs:List (Str×V))
 | own (x:Addr)
 | xd (fs:List (Str×V))
 | met (f x:Addr)
 | rng (lo hi:Int)
 | frz (o:Obj) (u:HO)
 | tbl (ps:Array Value)
 | ext (φ:Heap->Prop)
abbrev Hp:=kd->kc HO
def upd (H:Hp)(a:kd)(o:HO):Hp:=λb=>if b=a then some o else H b
def Al {H:Hp}{a:kd}{o:HO}:upd H a o a=some o:=by unfold upd;rw[AAJ rfl]
def Ai {H:Hp}{a b:kd}{o:HO}(h:b≠a):upd H a o b=H b:=by unfold upd;rw[AAH h]
def uP {H:Hp}{a b:kd}{o u:HO}(h:H a=some o)(h':H b=some u)(d:o≠u):a≠b:=by intro e;subst e;rw[h] at h';exact d (ABW h')
def Az {H:Hp}{a b:kd}{o:HO}(h:H a=some o)(h':H b=none):a≠b:=by intro e;subst e;rw[h] at h';cases h'
def dw (K:AAG)(H:Hp)(b:kd)(t d:Int):Prop:=H b=some (.tup [.int t, .int d])\/∃(o:Obj) (a:Array ki) (n:Nat),K.lookup b=some o/\o.cls= .type "tuple" /\o.data= .seq a n/\A3 [.int t, .int d] a.toList
def Gd (K:AAG)(H:Hp)(a:kd)(k:PySem.FK):Prop:=∃b,H a=some (.tup [.ref b, .int k.2])/\dw K H b k.1.1 k.1.2
def Gd.stay {K:AAG}{H c:Hp}{a:kd}{k:PySem.FK}(x:Gd K H a k)(d:∀b xs,H b=some (.tup xs)->c b=some (.tup xs)):Gd K c a k:=let ⟨b,h1,h2⟩:=x;⟨b,d _ _ h1,h2.elim (λz=> .inl (d _ _ z)) .inr⟩
section
variable (P:Wf)(w:Tb)
def DT (H:Hp)(h:Sr)(a:kd):HO->Prop
 | .lst xs=>xs.length<=sizeLine/\∃(c:kj ki) (n:Nat),A3 xs c/\h.get? a=some {cls:= .type "list",data:= .seq c.toArray n}
 | .tup xs=>xs.length<=sizeLine/\∃c:kj ki,A3 xs c/\IsTup h a c.toArray
 | .dK b=>b.length<=sizeLine/\(a==sysModules)=false/\∃vs,KV b vs/\h.DictOf (Tq P w) a vs
 | .dT b=>b.length<=sizeLine/\(a==sysModules)=false/\∃xs:kj (kj GB×kd×ki),
     Paired (λ(p:kj GB×V) (q:kj GB×kd×ki)=>p.1=q.1/\H q.2.1=some (.tup (p.1.map kV))/\RelV p.2 q.2.2) b xs/\
     ∃o es ep,h.get? a=some o/\o.ExactDict/\o.data= .dict es ep/\es.toList=xs.map (entryOfKey (tupleKind (Tq P w)))/\(xs.map (·.1)).Nodup
 | .dN K b=>b.length<=sizeLine/\(a==sysModules)=false/\∃xs:kj (PySem.FK×kd×ki),Paired (λ(p:PySem.FK×V) (q:PySem.FK×kd×ki)=>p.1=q.1/\Gd K H q.2.1 p.1/\RelV p.2 q.2.2) b xs/\∃o es ep,h.get? a=some o/\o.ExactDict/\o.data= .dict es ep/\es.toList=xs.map (entryOfKey (PySem.fkKind P w))/\(xs.map (·.1)).Nodup
 | .set S n=>h.SetOf (intKind P w) a S n
 | .ins C g e=>H g=some (.own a)/\e.length<=1000/\g≠a/\h.get? a=some (PySem.W.instObj C g)/\
     ∃d,h.Ns1 g d/\(∀f,Nb (e.lookup f) (d f))/\PySem.Within d (e.map (·.1))
 | .own _=>∃o,h.get? a=some o
 | .xd e=>∃d,h.Ns1 a d/\∀f,Nb (e.lookup f) (d f)
 | .rng lo hi=>∃t u v,h.get? a=some {cls:= .type "range",data:= .fields #[.int lo t, .int hi u, .int 1 v] }
 | .frz o u=>h.get? a=some o/\DT H h a u
 | .tbl ps=>h.get? a=some {cls:= .none,data:= .fields ps}
 | .met f x=>h.get? a=some (PySem.W.methodObj (.ref f) (.ref x))
 | .ext i=>i h/\(∃o,h.get? a=some o)/\∀h1 h2:Sr,i h1->(∀o,h1.get? a=some o->h2.get? a=some o)->i h2
def Na (H:Hp)(h:Sr):Prop:=∀a o,H a=some o->DT P w H h a o
end
section
variable {P:Wf}{w:Tb}{H H':Hp}{h h':Sr}{a:kd}{o:HO}
def DT.lt (x:DT P w H h a o):a<h.objs.size:=by
 cases o with
 | lst xs=>obtain⟨_,_,_,_,e⟩:=x;exact ABD e
 | tup xs=>obtain⟨_,_,_,p⟩:=x;exact p.lt
 | dK b=>obtain⟨_,_,_,_,o,_,_,e,_⟩:=x;exact ABD e
 | dT b=>obtain⟨_,_,_,_,o,_,_,e,_⟩:=x;exact ABD e
 | dN K b=>obtain⟨_,_,_,_,o,_,_,e,_⟩:=x;exact ABD e
 | set S n=>obtain⟨o,_,_,_,e,_⟩:=x;exact ABD e
 | ins C d c=>obtain⟨_,_,_,e,_⟩:=x;exact ABD e
 | own y=>obtain⟨_,e⟩:=x;exact ABD e
 | xd c=>obtain⟨_,⟨_,_,_,e,_⟩,_⟩:=x;exact ABD e
 | rng lo hi=>obtain⟨_,_,_,e⟩:=x;exact ABD e
 | frz g u=>obtain⟨e,_⟩:=x;exact ABD e
 | tbl ps=>exact ABD (show h.get? a=some _ from x)
 | met f y=>exact ABD (show h.get? a=some _ from x)
 | ext i=>obtain⟨_,⟨_,e⟩,_⟩:=x;exact ABD e
theorem Paired.mapP {c d:Type}{F G:c->d->Prop}:∀{l₁:kj c} {l₂:kj d},Paired F l₁ l₂->(∀a b,F a b->G a b)->Paired G l₁ l₂
 | _,_, .nil,_=> .nil
 | _,_, .cons r t,f=> .cons (f _ _ r) (Paired.mapP t f)
def DT.stay (x:DT P w H h a o)(k:∀b u,(b=a\/H b=some (.own a))->h.get? b=some u->h'.get? b=some u)(A:∀b,H b=some (.own a)->H' b=some (.own a))(s:∀b xs,H b=some (.tup xs)->H' b=some (.tup xs)):DT P w H' h' a o:=by
 induction o with
 | lst xs=>obtain⟨z,i,n,r,e⟩:=x;exact⟨z,i,n,r,k _ _ (.inl rfl) e⟩
 | tup xs=>obtain⟨z,i,r,g,e,c⟩:=x;exact⟨z,i,r,g,k _ _ (.inl rfl) e,c⟩
 | dK j=>obtain⟨z,y,vs,r,g,es,ep,e,c⟩:=x;exact⟨z,y,vs,r,g,es,ep,k _ _ (.inl rfl) e,c⟩
 | dT j=> obtain⟨z,y,xs,r,g,es,ep,e,c⟩:=x;exact⟨z,y,xs,Paired.mapP r λp q z=>⟨z.1,s _ _ z.2.1,z.2.2⟩,g,es,ep,k _ _ (.inl rfl) e,c⟩
 | dN K j=> obtain⟨z,y,xs,r,g,es,ep,e,c⟩:=x;exact⟨z,y,xs,Paired.mapP r λp q z=>⟨z.1,z.2.1.stay s,z.2.2⟩,g,es,ep,k _ _ (.inl rfl) e,c⟩
 | set S n=>obtain⟨g,es,ep,t,e,c⟩:=x;exact⟨g,es,ep,t,k _ _ (.inl rfl) e,c⟩
 | ins C F B=> obtain⟨d,z,D,e,l,⟨m,es,ep,E,c⟩,r⟩:=x;exact⟨A _ d,z,D,k _ _ (.inl rfl) e,l,⟨m,es,ep,k _ _ (.inr d) E,c⟩,r⟩
 | own y=>obtain⟨g,e⟩:=x;exact⟨g,k _ _ (.inl rfl) e⟩
 | xd B=>obtain⟨l,⟨m,es,ep,e,c⟩,r⟩:=x;exact⟨l,⟨m,es,ep,k _ _ (.inl rfl) e,c⟩,r⟩
 | rng lo hi=>obtain⟨t,u,v,e⟩:=x;exact⟨t,u,v,k _ _ (.inl rfl) e⟩
 | frz g u ih=>obtain⟨e,q⟩:=x;exact⟨k _ _ (.inl rfl) e,ih q⟩
 | tbl ps=> have e:h.get? a=some {cls:= .none,data:= .fields ps}:=x;show h'.get? a=some {cls:= .none,data:= .fields ps};exact k a _ (.inl rfl) e
 | met f y=> have e:h.get? a=some (PySem.W.methodObj (.ref f) (.ref y)):=x;show h'.get? a=some (PySem.W.methodObj (.ref f) (.ref y));exact k a _ (.inl rfl) e
 | ext G=>obtain⟨p,⟨o,e⟩,st⟩:=x;exact⟨st _ _ p λo q=>k _ _ (.inl rfl) q,⟨o,k _ _ (.inl rfl) e⟩,st⟩
def Na.lt (x:Na P w H h)(e:H a=some o):a<h.objs.size:=(x a o e).lt
def Na.fresh (x:Na P w H h)(e:h.objs.size<=a):H a=none:=by
 cases q:H a with
 | none=>rfl
 | some u=>exact absurd (ABb (x.lt q) e) (ACZ _)
def Na.kept (x:Na P w H h)(k:∀b u,h.get? b=some u->h'.get? b=some u):Na P w H h':=λa o e=>
 (x a o e).stay (λb u _ q=>k b u q) (λ_ q=>q) λ_ _ q=>q
def Na.laid (x:Na P w H h)(k:∀b u,h.get? b=some u->h'.get? b=some u)(hp:h.objs.size<=a)(new:DT P w (upd H a o) h' a o):Na P w (upd H a o) h':=λb u e=>by
 have hn:=x.fresh hp;by_cases hb:b=a
 .subst hb;rw[Al] at e;cases e;exact new
 .rw [Ai hb] at e;exact(x b u e).stay (λc v _ q=>k c v q) (λc q=>by rw[Ai (Az q hn)];exact q) λc xs q=>by rw[Ai (Az q hn)];exact q
end
def Rd (H:Hp)(a:kd)(u:HO):Prop:=H a=some u\/∃o,H a=some (.frz o u)
def Rd.of {H:Hp}{a:kd}{u:HO}(h:H a=some u):Rd H a u:= .inl h
def Rd.ok {P:Wf}{w:Tb}{H:Hp}{h:Sr}{a:kd}{u:HO}(r:Rd H a u)(x:Na P w H h):DT P w H h a u:=by
 rcases r with r|⟨o,r⟩
 .exact x a u r
 .obtain ⟨_,q⟩:=x a _ r;exact q
def sS:kc HO->Prop
 | some (.lst _)=>True
 | some (.dK _)=>True
 | some (.dT _)=>True
 | some (.dN _ _)=>True
 | some (.set _ _)=>True
 | some (.ins _ _ _)=>True
 | some (.ext _)=>True
 | _=>False
section
variable {P:Wf}{w:Tb}{H:Hp}{h h':Sr}{x e:kd}{o':HO}
def Na.write (ok:Na P w H h)(f:sS (H x))(he:e=x\/H e=some (.own x))(k:∀b u,b≠e->h.get? b=some u->h'.get? b=some u)(j:∃u,h'.get? e=some u)(new:DT P w (upd H x o') h' x o'):Na P w (upd H x o') h':=λb u q=>by
 have a:∀c y,H c=some (.own y)->c≠x:=λc y r z=>by subst z;rw[r] at f;exact f
 have d:∀c xs,H c=some (.tup xs)->c≠x:=λc xs r z=>by subst z;rw[r] at f;exact f
 by_cases hb:b=x
 .subst hb;rw[Al] at q;cases q;exact new
 .rw [Ai hb] at q;by_cases g:b=e
  .have i:H b=some (.own x):=by
    rcases he with z|z
    .exact absurd (g.trans z) hb
    .rw [g];exact z
   rw[q] at i;cases i;obtain⟨v,hv⟩:=j;exact⟨v,by rw[g];exact hv⟩
  .refine (ok b u q).stay (λc v hc r=>k c v ?_ r) (λc r=>by rw[Ai (a c b r)];exact r) λc xs r=>by rw[Ai (d c xs r)];exact r
   rcases hc with rfl|hc
   .exact g
   .rintro rfl;rcases he with z|z
    .exact a c b hc z
    .rw [hc] at z;cases z;exact hb rfl
end
structure Un (fs ex:List Addr) (H H':Hp) (h h':Heap):Prop where
 keep:∀b o,h.get? b=some o->H b=none->b ∉ fs->b ∉ ex->h'.get? b=some o
 slot:∀b o,h.get? b=some o->H b=none->b∈fs->b ∉ ex->∃sl,h'.get? b=some {o with slots:=sl}
 free:∀b o,h.get? b=some o->H b=none->b ∉ ex->H' b=none
 there:∀b o,h.get? b=some o->b ∉ ex->∃o',h'.get? b=some o'
 tups:∀b xs,H b=some (.tup xs)->H' b=some (.tup xs)
 frzs:∀b o u,H b=some (.frz o u)->H' b=some (.frz o u)
 tbls:∀b ps,H b=some (.tbl ps)->∃more,H' b=some (.tbl (ps++more))
section
variable {fs fs' ex ex':kj kd}{H H1 H2:Hp}{h h1 h2 h':Sr}{a x e:kd}{o:HO}
def Un.any (u:Un fs ex H H1 h h1){b:kd}{c:Obj}(q:h.get? b=some c)(n:H b=none)(hx:b ∉ ex):∃d,h1.get? b=some {c with slots:=d}:=by
 by_cases hb:b∈fs
 .exact u.slot b c q n hb hx
 .exact ⟨c.slots,u.keep b c q n hb hx⟩
def Un.trans (a:Un fs ex H H1 h h1)(b:Un fs ex H1 H2 h1 h2):Un fs ex H H2 h h2 where
 keep:=λc d q n hc hx=>b.keep c d (a.keep c d q n hc hx) (a.free c d q n hx) hc hx
 slot:=λc d q n hc hx=>by obtain⟨k,f⟩:=a.slot c d q n hc hx;obtain⟨g,i⟩:=b.slot c _ f (a.free c d q n hx) hc hx;exact⟨g,i⟩
 free:=λc d q n hx=>by obtain⟨j,f⟩:=a.there c d q hx;exact b.free c j f (a.free c d q n hx) hx
 there:=λc d q hx=>by obtain⟨j,f⟩:=a.there c d q hx;exact b.there c j f hx
 tups:=λc xs q=>b.tups c xs (a.tups c xs q)
 frzs:=λc d xs q=>b.frzs c d xs (a.frzs c d xs q)
 tbls:=λc ps q=>by obtain⟨m1,f⟩:=a.tbls c ps q;obtain⟨m2,i⟩:=b.tbls c _ f;exact⟨m1++m2,by rw[i,Array.append_assoc]⟩
def Un.kept (k:∀b u,h.get? b=some u->h'.get? b=some u):Un fs ex H H h h':=
 ⟨λb c q _ _ _=>k b c q,λb c q _ _ _=>⟨c.slots,k b c q⟩,λ_ _ _ n _=>n,λb c q _=>⟨c,k b c q⟩,λ_ _ q=>q,λ_ _ _ q=>q,λ_ ps q=>⟨#[],by rw[q];simp⟩⟩
def Un.refl:Un fs ex H H h h:=Un.kept λ_ _ q=>q
def Un.laid (k:∀b u,h.get? b=some u->h'.get? b=some u)(hp:h.objs.size<=a)(hn:H a=none):Un fs ex H (upd H a o) h h' where
 keep:=λb u q _ _ _=>k b u q
 slot:=λb u q _ _ _=>⟨u.slots,k b u q⟩
 free:=λb u q n _=>by rw[Ai (ABK (ABb (ABD q) hp))];exact n
 there:=λb u q _=>⟨u,k b u q⟩
 tups:=λb xs q=>by rw[Ai (Az q hn)];exact q
 frzs:=λb u xs q=>by rw[Ai (Az q hn)];exact q
 tbls:=λb ps q=>⟨#[],by rw[Ai (Az q hn),q];simp⟩
def Un.write (c:sS (H x))(he:e=x\/H e=some (.own x))(k:∀b u,b≠e->h.get? b=some u->h'.get? b=some u)(g:∃u,h'.get? e=some u):Un fs ex H (upd H x o) h h':=by
 have hx:∀b,H b=none->b≠x:=λb n z=>by subst z;rw[n] at c;exact c
 have hb:∀b,H b=none->b≠e:=λb n z=>by
  subst z;rcases he with r|r
  .exact hx b n r
  .rw [n] at r;cases r
 have d:∀b u,H b=some u->¬sS (some u)->b≠x:=λb u q i z=>by subst z;rw[q] at c;exact i c
 refine⟨λb u q n _ _=>k b u (hb b n) q,λb u q n _ _=>⟨u.slots,k b u (hb b n) q⟩,λb u q n _=>by rw[Ai (hx b n)];exact n,λb u q _=> ?_,
  λb xs q=>by rw[Ai (d b _ q λz=>z)];exact q,λb u xs q=>by rw[Ai (d b _ q λz=>z)];exact q,λb ps q=>⟨#[],by rw[Ai (d b _ q λz=>z),q];simp⟩⟩
 by_cases f:b=e
 .subst f;exact g
 .exact ⟨u,k b u f q⟩
def Un.mono (u:Un fs ex H H1 h h1)(hs:∀b∈fs,b∈fs')(hx:∀b∈ex,b∈ex'):Un fs' ex' H H1 h h1:=
 ⟨λb c q n hb he=>u.keep b c q n (λz=>hb (hs b z)) λz=>he (hx b z),λ_ _ q n _ he=>u.any q n λz=>he (hx _ z),λb c q n he=>u.free b c q n λz=>he (hx b z),λb c q he=>u.there b c q λz=>he (hx b z),u.tups,u.frzs,u.tbls⟩
end
def vz (h:Sr)(H:Hp):kj kd:=(List.range h.objs.size).filter λa=>(H a).isSome
def Tf (h:Sr)(H:Hp):Sr:=PySem.W.hideAll h (vz h H)
def bX (h:Sr)(H:Hp):(Tf h H).objs.size=h.objs.size:=PySem.W.hideAll_size _ _
def fX {h:Sr}{H:Hp}{b:kd}{o:Obj}(e:h.get? b=some o)(n:H b=none):(Tf h H).get? b=some o:=
 PySem.W.hideAll_get _ e λa=>by have q:(H b).isSome=true:=(ABX.mp a).2;rw[n] at q;simp at q
def lE {h:Sr}{H:Hp}{b:kd}{o:Obj}(e:(Tf h H).get? b=some o):h.get? b=some o/\H b=none:=by
 have e':h.get? b=some o:=PySem.W.of_hideAll (vz h H) e;refine⟨e', ?_⟩;cases q:H b with
 | none=>rfl
 | some x=> have a:b∈vz h H:=ABX.mpr ⟨List.mem_range.mpr (ABD e'),by simp[q]⟩;have z:(Tf h H).get? b=none:=PySem.W.hideAll_none (vz h H) a;rw[z] at e;cases e
def jn (g h:Sr)(L:kd):kj (kd×Obj):=(List.range h.objs.size).filterMap λa=>if a=L\/(g.get? a).isSome=true then none else (h.get? a).map λo=>(a,o)
def rest (g h:Sr)(L d:kd):kj (kd×Obj):=(jn g h L).filter λp=>decide (p.1≠d)
structure Mod (K:AAG) (mg:Str->Option Value) (base:Heap):Prop where
 kin:K.In base
 glob:base.Ns mainGlobals mg
 blt:∃mb,base.Ns builtinsNs mb/\∀x:Str,x≠"__name__" ->mb x=bootBuiltins x
 nolimit:base.NoLimit
structure Cx where
 prog:Program
 w:World
 K:AAG
 mg:Str->Option Value
 base:Heap
 A:Around
 N:List Str
 s₀:Shared
 H₀:Hp
 env:Env
 outer:List Env
 stack:List Env
 ex:List Addr
 fn:Str->Bool
 calm:Bool
 pn:List (Addr×Obj)
 xe:Value->Shared->Prop
def dJ (l:kj Env):kj kd:=l.filterMap (·.frame)
abbrev Cx.fs (X:Cx):kj kd:=dJ X.outer
def me (sc:Scope)(x:Str):Prop:=sc.names.lookup x=some .local\/sc.names.lookup x=some .cell\/sc.names.lookup x=some .free
def Loc (sc:Scope)(x:Str):Prop:=sc.names.lookup x=some .local\/sc.names.lookup x=some .cell
def Look (env:Env)(h:Sr)(m:Str->kc ki)(x:Str)(u:ki):Prop:=
 (env.kindOf x=some .local/\m x=some u)\/((env.kindOf x=some .cell\/env.kindOf x=some .free)/\∃c,env.cells.lookup x=some c/\h.IsCell c (some u))
structure Cx.Ok (X:Cx):Prop where
 mod:Mod X.K X.mg X.base
 kind:X.env.scope.kind= .function
 glob:X.env.globals=mainGlobals
 blt:X.env.builtins=builtinsNs
 above:X.s₀.heap.objs.size<=X.env.locals
 inj:∀x y c,X.env.cells.lookup x=some c->X.env.cells.lookup y=some c->x=y
 has:∀x,(X.env.kindOf x=some .cell\/X.env.kindOf x=some .free)->∃c,X.env.cells.lookup x=some c
 cab:∀x c,X.fn x=true->X.env.cells.lookup x=some c->X.s₀.heap.objs.size<=c
 hd:X.calm=true->X.A.handled=none
 frames:X.A.frames=some X.stack
 stk:X.stack=X.outer\/(X.stack=X.env::X.outer/\X.env.frame=some X.env.locals)
 exf:∀b∈X.ex,b≠X.env.locals/\∀x c,X.env.cells.lookup x=some c->c≠b
 bs:∀b o,X.base.get? b=some o->X.s₀.heap.get? b=some o/\X.H₀ b=none
 bsz:X.base.objs.size<=X.s₀.heap.objs.size
 noex:∀b o,X.base.get? b=some o->b ∉ X.ex
 exfs:∀b∈X.ex,b ∉ X.fs
 funs:X.s₀.heap.FunFrames X.base X.outer
 frf:∀b∈X.fs,X.H₀ b=none
structure Inv (X:Cx) (Sb:List (Addr×Obj)) (σ:List (Option V)) (H:Hp) (s:Shared):Prop where
 ok:X.Ok
 os:s.os=X.s₀.os
 bare:AllBare s.gens
 base:Un X.fs X.ex X.H₀ H X.s₀.heap s.heap
 loc:∃m,s.heap.Ns X.env.locals m/\∀(i:Nat) (x:Str) (v:V),X.N[i]? =some x->σ[i]? =some (some v)->me X.env.scope x->∃u,RelV v u/\Look X.env s.heap m x u
 cell:∀x c,X.env.cells.lookup x=some c->∃v,s.heap.IsCell c v
 free:H X.env.locals=none
 freeC:∀x c,X.env.cells.lookup x=some c->H c=none
 pin:∀p∈X.pn++Sb,s.heap.get? p.1=some p.2/\H p.1=none/\p.1≠X.env.locals/\p.1 ∉ X.fs/\∀v,p.2.data≠ .cell v
 hok:Na X.prog X.w H s.heap
 len:σ.length=X.N.length
section
variable {X:Cx}{Sb:kj (kd×Obj)}{σ:kj (kc V)}{H H':Hp}{s:kf}{h':Sr}
def Cx.Ok.nofr (ok:X.Ok){b:kd}{o:Obj}(e:X.base.get? b=some o):b ∉ X.fs:=λhb=>by have:=(ok.funs.mem hb).1;rw[e] at this;cases this
def Inv.bs (I:Inv X Sb σ H s):∀b o,X.base.get? b=some o->s.heap.get? b=some o/\H b=none:=λb o e=>
 ⟨I.base.keep b o (I.ok.bs b o e).1 (I.ok.bs b o e).2 (I.ok.nofr e) (I.ok.noex b o e),I.base.free b o (I.ok.bs b o e).1 (I.ok.bs b o e).2 (I.ok.noex b o e)⟩
def Inv.bk (I:Inv X Sb σ H s):∀b o,X.base.get? b=some o->s.heap.get? b=some o:=λb o e=>(I.bs b o e).1
def Inv.mod (I:Inv X Sb σ H s):Mod X.K X.mg X.base:=I.ok.mod
def Inv.kIn (I:Inv X Sb σ H s):X.K.In s.heap:=I.ok.mod.kin.keeps I.bk
def Inv.nolimit (I:Inv X Sb σ H s):s.heap.NoLimit:=I.ok.mod.nolimit.keeps I.bk
def Inv.fr (I:Inv X Sb σ H s):∃m,Fr X.base X.env.locals s.heap m:=
 let ⟨m,hn,_⟩:=I.loc
 ⟨m,hn,I.bk,ABT I.ok.bsz I.ok.above⟩
def Inv.lt (I:Inv X Sb σ H s):X.env.locals<s.heap.objs.size:=let ⟨_,hn,_⟩:=I.loc;hn.lt
def Inv.sz (I:Inv X Sb σ H s):X.s₀.heap.objs.size<=s.heap.objs.size:=ABT I.ok.above (AEV I.lt)
def Inv.nofs (I:Inv X Sb σ H s){a:kd}(h:s.heap.objs.size<=a):a ∉ X.fs:=λhb=>by obtain⟨_,o,b,_⟩:=I.ok.funs.mem hb;exact absurd (ABb (ABD b) (ABT I.sz h)) (ACZ _)
def Inv.cne (I:Inv X Sb σ H s):∀x c,X.env.cells.lookup x=some c->c≠X.env.locals:=λx c e z=>by obtain⟨v,o,a,hd⟩:=I.cell x c e;obtain⟨m,⟨f,es,ep,b,d,_⟩,_⟩:=I.loc;rw[z,b] at a;cases a;rw[d] at hd;cases hd
def Inv.funs (I:Inv X Sb σ H s):s.heap.FunFrames X.base X.outer:=by
 have all:∀(l:kj Env),(∀b∈dJ l,b∈X.fs)->X.s₀.heap.FunFrames X.base l->s.heap.FunFrames X.base l:=by
  intro l;induction l with
  | nil=>intro _ _;trivial
  | cons env r ih=> intro hs hl;obtain⟨hk,⟨L,o,a,hn,d,hd⟩,f⟩:=hl;have c:L∈X.fs:=hs L (by unfold dJ;rw[AE9,a];exact ADM);obtain⟨g,e⟩:=I.base.slot L o d (I.ok.frf L c) c λz=>I.ok.exfs L z c;exact⟨hk,⟨L,_,a,hn,e,hd⟩,ih (λb hb=>hs b (by unfold dJ;rw[AE9,a];exact ACO _ hb)) f⟩
 exact all X.outer (λ_ hb=>hb) I.ok.funs
def Inv.stack (I:Inv X Sb σ H s):s.heap.FunFrames X.base X.stack:=by
 rcases I.ok.stk with e|⟨e,a⟩
 .rw [e];exact I.funs
 .rw [e];obtain⟨m,hn,_⟩:=I.loc;refine .cons (by rw[I.ok.kind];decide) a hn ?_ I.funs;exact Heap.get?_none_of_le (ABT I.ok.bsz I.ok.above)
def Inv.stkSub (I:Inv X Sb σ H s):∀b∈dJ X.stack,b∈X.env.locals::X.fs:=λb hb=>by
 rcases I.ok.stk with e|⟨e,a⟩
 .rw [e] at hb;exact ACO _ hb
 .rw [e] at hb;unfold dJ at hb;rw[AE9,a] at hb;exact hb
def Inv.stkFree (I:Inv X Sb σ H s):∀b∈dJ X.stack,H b=none:=λb hb=>by
 rcases AAK.mp (I.stkSub b hb) with e|hb
 .rw [e];exact I.free
 .obtain ⟨_,o,a,_⟩:=I.ok.funs.mem hb;exact I.base.free b o a (I.ok.frf b hb) λz=>I.ok.exfs b z hb
def Inv.step {g':Array GenState}{t':Nat}{d':Drawn}{ch:kj kd}(I:Inv X Sb σ H s)(j:∀b∈ch,(b∈X.ex\/X.s₀.heap.objs.size<=b)/\b≠X.env.locals/\(∀x c,X.env.cells.lookup x=some c->c≠b)/\∀p∈X.pn++Sb,p.1≠b)(keep:∀b o,b≠X.env.locals->b ∉ X.fs->b ∉ ch->s.heap.get? b=some o->H b=none->h'.get? b=some o)(slot:∀b o,b≠X.env.locals->b∈X.fs->b ∉ ch->s.heap.get? b=some o->H b=none->∃B,h'.get? b=some {o with slots:=B})(free:∀b o,b ∉ ch->s.heap.get? b=some o->H b=none->H' b=none)(there:∀b o,b ∉ ch->s.heap.get? b=some o->∃t,h'.get? b=some t)(tups:∀b xs,H b=some (.tup xs)->H' b=some (.tup xs))(frzs:∀b o u,H b=some (.frz o u)->H' b=some (.frz o u))(tbls:∀b ps,H b=some (.tbl ps)->∃more,H' b=some (.tbl (ps++more)))(F:∀m,s.heap.Ns X.env.locals m->h'.Ns X.env.locals m)(hok:Na X.prog X.w H' h')(G:AllBare g'):Inv X Sb σ H' {s with heap:=h',gens:=g',drawn:=d',toks:=t'}:=by
 have y:∀b o,X.s₀.heap.get? b=some o->b≠X.env.locals:=λb o e=>ABK (ABb (ABD e) I.ok.above);have f:∀b o,X.s₀.heap.get? b=some o->b ∉ X.ex->b ∉ ch:=λb o e hx hb=>by
  rcases (j b hb).1 with z|z
  .exact hx z
  .exact absurd (ABb (ABD e) z) (ACZ _)
 have cellK:∀x c,X.env.cells.lookup x=some c->∀v,s.heap.IsCell c v->h'.IsCell c v:=λx c e v ⟨o,h,hd⟩=>by
  have a:c ∉ ch:=λz=>(j c z).2.2.1 x c e rfl;by_cases hc:c∈X.fs
  .obtain ⟨B,q⟩:=slot c o (I.cne x c e) hc a h (I.freeC x c e);exact⟨_,q,hd⟩
  .exact ⟨o,keep c o (I.cne x c e) hc a h (I.freeC x c e),hd⟩
 refine⟨I.ok,I.os,G,⟨λb o e n hb hx=> ?_,λb o e n hb hx=> ?_,λb o e n hx=> ?_,λb o e hx=> ?_,λb xs e=>tups b xs (I.base.tups b xs e),λb o xs e=>frzs b o xs (I.base.frzs b o xs e),λb ps e=> ?_⟩, ?_,λx c e=> ?_, ?_,λx c e=> ?_,λp hp=> ?_,hok,I.len⟩
 .exact keep b o (y b o e) hb (f b o e hx) (I.base.keep b o e n hb hx) (I.base.free b o e n hx)
 .obtain ⟨B,g⟩:=I.base.slot b o e n hb hx;obtain⟨C,A⟩:=slot b _ (y b o e) hb (f b o e hx) g (I.base.free b o e n hx);exact⟨C,A⟩
 .obtain ⟨t,g⟩:=I.base.there b o e hx;exact free b t (f b o e hx) g (I.base.free b o e n hx)
 .obtain ⟨t,g⟩:=I.base.there b o e hx;exact there b t (f b o e hx) g
 .obtain ⟨m1,g⟩:=I.base.tbls b ps e;obtain⟨m2,A⟩:=tbls b _ g;exact⟨m1++m2,by rw[A,Array.append_assoc]⟩
 .obtain ⟨m,hn,hl⟩:=I.loc;refine⟨m,F m hn,λi x v g A J=> ?_⟩;obtain⟨u,r,l⟩:=hl i x v g A J;refine⟨u,r, ?_⟩;rcases l with l|⟨k,c,e,z⟩
  .exact .inl l
  .exact .inr ⟨k,c,e,cellK x c e _ z⟩
 .obtain ⟨v,z⟩:=I.cell x c e;exact⟨v,cellK x c e v z⟩
 .obtain ⟨m,⟨o,_,_,h,_⟩,_⟩:=I.loc;exact free _ o (λz=>(j _ z).2.1 rfl) h I.free
 .obtain ⟨v,o,h,hd⟩:=I.cell x c e;exact free c o (λz=>(j c z).2.2.1 x c e rfl) h (I.freeC x c e)
 .obtain ⟨e,n,D,E,d⟩:=I.pin p hp;have a:p.1 ∉ ch:=λz=>(j p.1 z).2.2.2 p hp rfl;exact⟨keep p.1 p.2 D E a e n,free p.1 p.2 a e n,D,E,d⟩
def Inv.un {t':Nat}(I:Inv X Sb σ H s)(u:Un X.fs [] H H' s.heap h')(hok:Na X.prog X.w H' h'):Inv X Sb σ H' {s with heap:=h',toks:=t'}:=by
 obtain⟨m,⟨o,es,ep,d,r⟩,_⟩:=id I.loc;obtain⟨j,g⟩:=u.any d I.free (by simp);exact I.step (g':=s.gens) (d':=s.drawn) (ch:= []) (λ_ z=>nomatch z) (λb o _ hb _ e n=>u.keep b o e n hb (by simp)) (λb o _ hb _ e n=>u.slot b o e n hb (by simp)) (λb o _ e n=>u.free b o e n (by simp)) (λb o _ e=>u.there b o e (by simp)) u.tups u.frzs u.tbls (λk h=>by
  obtain⟨l,a,c,f,i⟩:=h;rw[d] at f;cases f;exact⟨_,a,c,g,i⟩) hok I.bare
def Inv.call {g':Array GenState}{t':Nat}{d':Drawn}{ch:kj kd}(I:Inv X Sb σ H s)(u:Un (dJ X.stack) ch H H' s.heap h')(hok:Na X.prog X.w H' h')(j:AllBare g')(g:∀b∈ch,(b∈X.ex\/X.s₀.heap.objs.size<=b)/\b≠X.env.locals/\(∀x c,X.env.cells.lookup x=some c->c≠b)/\∀p∈X.pn++Sb,p.1≠b):Inv X Sb σ H' {s with heap:=h',gens:=g',drawn:=d',toks:=t'}:=by
 obtain⟨m,⟨o,es,ep,h,r⟩,_⟩:=id I.loc;obtain⟨t,a⟩:=u.any h I.free λz=>(g _ z).2.1 rfl;exact I.step (ch:=ch) g (λb o a hb hc e n=>u.keep b o e n (λz=>(AAK.mp (I.stkSub b z)).elim a hb) hc) (λb o _ _ hc e n=>u.any e n hc) (λb o hc e n=>u.free b o e n hc) (λb o hc e=>u.there b o e hc) u.tups u.frzs u.tbls (λv k=>by
  obtain⟨y,d,f,i,l⟩:=k;rw[h] at i;cases i;exact⟨_,d,f,a,l⟩) hok j
def Inv.turned {t':Nat}{it:kd}(I:Inv X Sb σ H s)(k:∀b o,b≠it->s.heap.get? b=some o->h'.get? b=some o)(hn:H it=none)(d:it≠X.env.locals)(h1:it∈X.ex\/X.s₀.heap.objs.size<=it)(h2:∀x c,X.env.cells.lookup x=some c->c≠it)(f:∀p∈X.pn++Sb,p.1≠it):Inv X Sb σ H {s with heap:=h',toks:=t'}:=by
 have a:∀b u,H b=some u->b≠it:=λb u e z=>by rw[z,hn] at e;cases e
 refine I.step (g':=s.gens) (d':=s.drawn) (ch:= [it]) (λb hb=> ?_) (λb o _ _ hc e _=>k b o (λz=>hc (by simp[z])) e) (λb o _ _ hc e _=>⟨o.slots,k b o (λz=>hc (by simp[z])) e⟩) (λ_ _ _ _ n=>n)
  (λb o hc e=>⟨o,k b o (λz=>hc (by simp[z])) e⟩) (λ_ _ e=>e) (λ_ _ _ e=>e) (λb ps e=>⟨#[],by rw[e];simp⟩) (λm g=> ?_) (λb u e=> ?_) I.bare
 .have e:b=it:=by simpa using hb
  subst e;exact⟨h1,d,h2,f⟩
 .obtain ⟨o,es,ep,h,r⟩:=g;exact⟨o,es,ep,k _ o (ACD d) h,r⟩
 .refine (I.hok b u e).stay (λc v hc q=>k c v ?_ q) (λ_ q=>q) λ_ _ q=>q;rcases hc with z|z
  .rw [z];exact a b u e
  .exact a c _ z
def Inv.tok (I:Inv X Sb σ H s)(t:Nat):Inv X Sb σ H {s with toks:=t}:=I.un (h':=s.heap) (t':=t) Un.refl I.hok
def Inv.kept {t':Nat}(I:Inv X Sb σ H s)(k:∀b u,s.heap.get? b=some u->h'.get? b=some u):Inv X Sb σ H {s with heap:=h',toks:=t'}:=I.un (Un.kept k) (I.hok.kept k)
def Inv.laid {a:kd}{o:HO}{t':Nat}(I:Inv X Sb σ H s)(k:∀b u,s.heap.get? b=some u->h'.get? b=some u)(hp:s.heap.objs.size<=a)(new:DT X.prog X.w (upd H a o) h' a o):Inv X Sb σ (upd H a o) {s with heap:=h',toks:=t'}:=I.un (Un.laid k hp (I.hok.fresh hp)) (I.hok.laid k hp new)
def Inv.write {x e:kd}{o:HO}{t':Nat}(I:Inv X Sb σ H s)(a:sS (H x))(he:e=x\/H e=some (.own x))(k:∀b u,b≠e->s.heap.get? b=some u->h'.get? b=some u)(c:∃u,h'.get? e=some u)(new:DT X.prog X.w (upd H x o) h' x o):Inv X Sb σ (upd H x o) {s with heap:=h',toks:=t'}:=I.un (Un.write a he k c) (I.hok.write a he k c new)
def Inv.weak {a:kj (kc V)}(I:Inv X Sb σ H s)(hl:a.length=σ.length)(w:∀(i:Nat) v,a[i]? =some (some v)->σ[i]? =some (some v)):Inv X Sb a H s:=
 ⟨I.ok,I.os,I.bare,I.base,let ⟨m,hn,b⟩:=I.loc;⟨m,hn,λi x v c d e=>b i x v c (w i v d) e⟩,I.cell,I.free,I.freeC,I.pin,I.hok,hl.trans I.len⟩
def Inv.pins_of {a:kj (kd×Obj)}(I:Inv X Sb σ H s)(h:∀p∈a,s.heap.get? p.1=some p.2/\H p.1=none/\p.1≠X.env.locals/\p.1 ∉ X.fs/\∀v,p.2.data≠ .cell v):Inv X a σ H s:=
 ⟨I.ok,I.os,I.bare,I.base,I.loc,I.cell,I.free,I.freeC,λp hp=>(ABI.mp hp).elim (λz=>I.pin p (AEW _ z)) (h p),I.hok,I.len⟩
def WB {N:kj Str}(hN:N.Nodup){i j:Nat}{x:Str}(a:N[i]? =some x)(b:N[j]? =some x):i=j:=by obtain⟨h1,c⟩:=ABc.mp a;obtain⟨h2,d⟩:=ABc.mp b;exact(List.getElem_inj hN).mp (c.trans d.symm)
def SM {M:Model}{A:Sl}{E:ki->kf->Prop}{i:Nat}{x:Str}{v:V}{u:ki}{Q:Unit->kf->Prop}(I:Inv X Sb σ H s)(hN:X.N.Nodup)(hi:X.N[i]? =some x)(hx:Loc X.env.scope x)(r:RelV v u)(h:∀F,Inv X Sb (σ.set i (some v)) H F->(∃a,Heap.SameBut a s.heap F.heap/\(a=X.env.locals\/X.env.cells.lookup x=some a))->Q () F)(hf:X.fn x=true\/X.env.scope.names.lookup x=some .local:=by first | exact .inl rfl|exact .inr rfl|assumption):wpAny M A (storeName X.env x u) Q E s:=by
 obtain⟨m,hn,hl⟩:=id I.loc;have xC:(X.env.scope.kind == .class||(X.env.scope.kind == .module&&X.env.locals != X.env.globals))=false:=by rw[I.ok.kind];rfl
 have l:i<σ.length:=by rw[I.len];exact(ABc.mp hi).1
 have t:=I.cne;have tracked:∀{a:kd} {h':Sr},(∃o,s.heap.get? a=some o/\H a=none)->Heap.SameBut a s.heap h'->Na X.prog X.w H h':=λ{a h'} ha hs b ob e=>by
  obtain⟨_,_,W⟩:=ha;refine(I.hok b ob e).stay (λc B hc q=>(hs.2 c ?_).trans q) (λ_ q=>q) λ_ _ q=>q;rintro rfl;rcases hc with rfl|hc
  .rw [W] at e;cases e
  .rw [W] at hc;cases hc
 rcases hx with hk|hk
 .refine wpAny_storeName_local hk hn (λh' G hs=> ?_) xC;obtain⟨oL,_,_,J,_⟩:=id hn;refine h _ ⟨I.ok,I.os,I.bare,⟨λb o e n hb hx=> ?_,λb o e n hb hx=> ?_,I.base.free,λb o e hx=> ?_,I.base.tups,I.base.frzs,I.base.tbls⟩,⟨_,G,λj y K f g L=> ?_⟩,λy c e=> ?_,I.free,I.freeC,λp hp=> ?_,tracked ⟨oL,J,I.free⟩ hs,by simpa using I.len⟩ ⟨_,hs, .inl rfl⟩
  .exact (hs.2 b (ABK (ABb (ABD e) I.ok.above))).trans (I.base.keep b o e n hb hx)
  .obtain ⟨O,f⟩:=I.base.slot b o e n hb hx;exact⟨O,(hs.2 b (ABK (ABb (ABD e) I.ok.above))).trans f⟩
  .obtain ⟨P,f⟩:=I.base.there b o e hx;exact⟨P,(hs.2 b (ABK (ABb (ABD e) I.ok.above))).trans f⟩
  .by_cases hj:j=i
   .subst hj;rw[hi] at f;cases f;rw[AFU l] at g;cases g;exact⟨u,r, .inl ⟨hk,by simp⟩⟩
   .rw [ABj (ACD hj)] at g;obtain⟨R,S,q⟩:=hl j y K f g L;refine⟨R,S, ?_⟩;rcases q with⟨k,e⟩|⟨k,c,e,z⟩
    .refine .inl ⟨k, ?_⟩;have:y≠x:=λe=>hj (WB hN f (e ▸ hi));simp[this,e]
    .exact .inr ⟨k,c,e,z.sameBut hs (t y c e)⟩
  .obtain ⟨B,z⟩:=I.cell y c e;exact⟨B,z.sameBut hs (t y c e)⟩
  .obtain ⟨e,n,C,T,d⟩:=I.pin p hp;exact⟨(hs.2 p.1 C).trans e,n,C,T,d⟩
 .have U:X.fn x=true:=by
   rcases hf with z|z
   .exact z
   .rw [z] at hk;cases hk
  obtain⟨c,hc⟩:=I.ok.has x (.inl hk);obtain⟨B,z⟩:=I.cell x c hc;refine wpAny_storeName_cell I.ok.kind hk hc z (λh' Y hs=> ?_);obtain⟨Z,zp,xO⟩:=id z;refine h {s with heap:=h'} ⟨I.ok,I.os,I.bare,⟨λb o e n hb hx=> ?_,λb o e n hb hx=> ?_,I.base.free,λb o e hx=> ?_,I.base.tups,I.base.frzs,I.base.tbls⟩,⟨m,hn.sameBut hs (ACD (t x c hc)),λj y K f g L=> ?_⟩,λy D e=> ?_,I.free,I.freeC,λp hp=> ?_,tracked ⟨Z,zp,I.freeC x c hc⟩ hs,by simpa using I.len⟩ ⟨c,hs, .inr hc⟩
  .exact (hs.2 b (ABK (ABb (ABD e) (I.ok.cab x c U hc)))).trans (I.base.keep b o e n hb hx)
  .obtain ⟨O,f⟩:=I.base.slot b o e n hb hx;exact⟨O,(hs.2 b (ABK (ABb (ABD e) (I.ok.cab x c U hc)))).trans f⟩
  .obtain ⟨P,f⟩:=I.base.there b o e hx;exact⟨P,(hs.2 b (ABK (ABb (ABD e) (I.ok.cab x c U hc)))).trans f⟩
  .by_cases hj:j=i
   .subst hj;rw[hi] at f;cases f;rw[AFU l] at g;cases g;exact⟨u,r, .inr ⟨.inl hk,c,hc,Y⟩⟩
   .rw [ABj (ACD hj)] at g;obtain⟨R,S,q⟩:=hl j y K f g L;refine⟨R,S, ?_⟩;rcases q with q|⟨k,D,e,z'⟩
    .exact .inl q
    .refine .inr ⟨k,D,e,z'.sameBut hs ?_⟩;rintro rfl;exact hj (WB hN f (I.ok.inj _ _ _ e hc ▸ hi))
  .by_cases zk:D=c
   .subst zk;exact⟨_,Y⟩
   .obtain ⟨w2,z2⟩:=I.cell y D e;exact⟨w2,z2.sameBut hs zk⟩
  .obtain ⟨e,n,C,T,d⟩:=I.pin p hp;refine⟨(hs.2 p.1 ?_).trans e,n,C,T,d⟩;intro q;rw[q,zp] at e;have q':Z=p.2:=ABW e;exact d B (by rw[<-q'];exact xO)
def IN {M:Model}{A:Sl}{E:ki->kf->Prop}{i:Nat}{x:Str}{v:V}{u:ki}{Q:Unit->kf->Prop}(I:Inv X Sb σ H s)(hN:X.N.Nodup)(hi:X.N[i]? =some x)(hx:Loc X.env.scope x)(r:RelV v u)(h:∀a,Inv X Sb (σ.set i (some v)) H a->Q () a)(b:X.fn x=true\/X.env.scope.names.lookup x=some .local:=by first | exact .inl rfl|exact .inr rfl|assumption):wpAny M A (storeName X.env x u) Q E s:=
 SM I hN hi hx r (λa c _=>h a c) b
def Inv.call' {a:kf}{ch:kj kd}(I:Inv X Sb σ H s)(d:a.os=s.os)(u:Un (dJ X.stack) ch H H' s.heap a.heap)(hok:Na X.prog X.w H' a.heap)(f:AllBare a.gens)(g:∀b∈ch,(b∈X.ex\/X.s₀.heap.objs.size<=b)/\b≠X.env.locals/\(∀x c,X.env.cells.lookup x=some c->c≠b)/\∀p∈X.pn++Sb,p.1≠b):Inv X Sb σ H' a:=by obtain⟨h',g',d',t',h⟩:=a;have e:h=s.os:=d;subst e;exact I.call (g':=g') (t':=t') (d':=d') u hok f g
end
abbrev XK:=ki->kc kd->Hp->Prop
abbrev St:=kj (kc V)
abbrev VK:=V->Hp->Prop
abbrev TE:=St->Hp->VK->Prop
abbrev TT:=St->Hp->(da->Hp->Prop)->Prop
abbrev TA:=St->Hp->(kj V->Hp->Prop)->Prop
structure Os where
 nx:St->Hp->Prop
 rt:VK
 bk:St->Hp->Prop:=λ_ _=>False
 ct:St->Hp->Prop:=λ_ _=>False
abbrev TS:=Os->St->Hp->Prop
def EP (X:Cx)(Sb:kj (kd×Obj))(b:St)(Q:VK)(u:ki)(c:kf):Prop:=∃v a,Inv X Sb b a c/\RelV v u/\Q v a
def TP (X:Cx)(Sb:kj (kd×Obj))(c:St)(Q:da->Hp->Prop)(b:da)(d:kf):Prop:=∃a,Inv X Sb c a d/\Q b a
def AP (X:Cx)(Sb:kj (kd×Obj))(b:St)(Q:kj V->Hp->Prop)(c:kj ki)(d:kf):Prop:=∃vs a,Inv X Sb b a d/\A3 vs c/\Q vs a
def SP (X:Cx)(Sb:kj (kd×Obj))(D:Os)(f:Flow)(c:kf):Prop:=
 match f with
 | .next=>∃a b,Inv X Sb a b c/\D.nx a b
 | .brk=>∃a b,Inv X Sb a b c/\D.bk a b
 | .cont=>∃a b,Inv X Sb a b c/\D.ct a b
 | .ret u=>∃v a b,Inv X Sb a b c/\RelV v u/\D.rt v b
def PE (X:Cx)(e:fe)(t:TE):Prop:=
 ∀(Sb:kj (kd×Obj)) (s:kf) (a:St) (H:Hp) (Q:VK),Inv X Sb a H s->t a H Q->wpAny (model X.prog X.w) X.A (eval e X.env) (EP X Sb a Q) X.xe s
def PT (X:Cx)(e:fe)(t:TT):Prop:=
 ∀(Sb:kj (kd×Obj)) (s:kf) (a:St) (H:Hp) (Q:da->Hp->Prop),Inv X Sb a H s->t a H Q->wpAny (model X.prog X.w) X.A (isTrue e X.env (eval e X.env)) (TP X Sb a Q) X.xe s
def PW (X:Cx)(e:fe)(t:TT):Prop:=
 ∀(whole:Sem ki) (Sb:kj (kd×Obj)) (s:kf) (a:St) (H:Hp) (Q:da->Hp->Prop),Inv X Sb a H s->t a H Q->wpAny (model X.prog X.w) X.A (isTrue e X.env whole) (TP X Sb a Q) X.xe s
def PW.pt {X:Cx}{e:fe}{t:TT}(h:PW X e t):PT X e t:=h _
def PA (X:Cx)(es:kj fe)(t:TA):Prop:=
 ∀(a:Pos) (Sb:kj (kd×Obj)) (s:kf) (b:St) (H:Hp) (Q:kj V->Hp->Prop),Inv X Sb b H s->t b H Q->wpAny (model X.prog X.w) X.A (spliced (backTo a (starEach es X.env))) (AP X Sb b Q) X.xe s
def PS (X:Cx)(st:Stmt)(t:TS):Prop:=
 ∀(Sb:kj (kd×Obj)) (s:kf) (a:St) (H:Hp) (D:Os),Inv X Sb a H s->t D a H->wpAny (model X.prog X.w) X.A (exec st X.env) (SP X Sb D) X.xe s
def ZF (X:Cx)(st:kj Stmt)(t:TS):Prop:=
 ∀(Sb:kj (kd×Obj)) (s:kf) (a:St) (H:Hp) (D:Os),Inv X Sb a H s->t D a H->wpAny (model X.prog X.w) X.A (execs st X.env) (SP X Sb D) X.xe s
def Be {b:Type}{t:Sem b}{Q c:b->kf->Prop}{M:Model}{A:Sl}{E:ki->kf->Prop}{s:kf}(h:wpAny M A t Q E s)(hQ:∀a s,Q a s->c a s):wpAny M A t c E s:=AB4 h hQ λ_ _ x=>x
section
variable {X:Cx}
def GX (i:Nat):TE:=λa H Q=>∃v,a[i]? =some (some v)/\Q v H
def tC (v:V):TE:=λ_ H Q=>Q v H
def Pw {i:Nat}{x:Str}{b:Pos}(hN:X.N[i]? =some x)(hv:me X.env.scope x)(hd:(x==("__debug__" :Str))=false:=by decide)(f:(x==("__classdict__" :Str))=false:=by decide):PE X (.Name x b) (GX i):=by
 intro Sb s g H Q I h;obtain⟨v,e,h⟩:=h;obtain⟨m,hn,hl⟩:=I.loc;obtain⟨u,r,l⟩:=hl i x v hN e hv;have a:EP X Sb g Q u s:=⟨v,H,I,r,h⟩;rcases l with⟨hk,j⟩|⟨hk,c,hc,d⟩
 .exact wpAny_Name (wpAny_loadName_local I.ok.kind hk hn j a) hd
 .rcases hk with hk|hk
  .exact wpAny_Name (wpAny_loadName_cell I.ok.kind hk hc d a) hd
  .exact wpAny_Name (wpAny_loadName_free I.ok.kind hk hc d a f) hd
def BF {i j pos}:PE X (.Constant (.int i) j pos) (tC (.int i)):=λ_ _ _ H _ I h=>wpAny_Constant_int ⟨.int i,H,I.tok _,⟨_,rfl⟩,h⟩
def uZ {b j pos}:PE X (.Constant (.bool b) j pos) (tC (.bl b)):=λ_ _ _ H _ I h=>Constant_bool ⟨.bl b,H,I,rfl,h⟩
def gy {j pos}:PE X (.Constant .none j pos) (tC .non):=λ_ _ _ H _ I h=>Constant_none ⟨.non,H,I,rfl,h⟩
def qK {x j pos}:PE X (.Constant (.str x) j pos) (tC (.str x)):=λ_ _ _ H _ I h=>Calls.Constant_str ⟨.str x,H,I.tok _,⟨_,rfl⟩,h⟩
def Gl (X:Cx)(x:Str):Prop:=X.env.kindOf x=some .globalImplicit
def kg {E:ki->kf->Prop}{Sb:kj (kd×Obj)}{s:kf}{b:St}{H:Hp}{x:Str}{u:ki}{a:Pos}{Q:ki->kf->Prop}(I:Inv X Sb b H s)(c:Gl X x)(d:X.mg x=some u)(h:Q u s)(hd:(x==("__debug__" :Str))=false:=by decide):wpAny (model X.prog X.w) X.A (eval (.Name x a) X.env) Q E s:=
 Calls.Name_function_global I.ok.kind c (Calls.loadGlobal_global (by rw[I.ok.glob];exact I.mod.glob.keeps I.bk) d h) hd
def F1 {E:ki->kf->Prop}{Sb:kj (kd×Obj)}{s:kf}{b:St}{H:Hp}{x:Str}{u:ki}{a:Pos}{Q:ki->kf->Prop}(I:Inv X Sb b H s)(c:Gl X x)(d:X.mg x=none)(hv:bootBuiltins x=some u)(h:Q u s)(hn:x≠"__name__" :=by decide)(hd:(x==("__debug__" :Str))=false:=by decide):wpAny (model X.prog X.w) X.A (eval (.Name x a) X.env) Q E s:=by obtain⟨e,h1,h2⟩:=I.mod.blt;exact Calls.Name_function_global I.ok.kind c (Calls.loadGlobal_builtin (by rw[I.ok.glob];exact I.mod.glob.keeps I.bk) d (by rw[I.ok.blt];exact h1.keeps I.bk) ((h2 x hn).trans hv) h) hd
def Gs {x:Str}{v:V}{u:ki}{a:Pos}(b:Gl X x)(c:X.mg x=none)(hv:bootBuiltins x=some u)(r:RelV v u)(hn:x≠"__name__" :=by decide)(hd:(x==("__debug__" :Str))=false:=by decide):PE X (.Name x a) (tC v):=
 λ_ _ _ H _ I h=>F1 I b c hv ⟨v,H,I,r,h⟩ hn hd
variable {a b:fe}{ta tb:TE}{pos:Pos}
def PC (X:Cx)(op:CmpOp)(a b:fe)(t:TE):Prop:=
 ∀(Sb:kj (kd×Obj)) (s:kf) (e:St) (H:Hp) (Q:VK),Inv X Sb e H s->t e H Q->
  wpAny (model X.prog X.w) X.A (eval a X.env) (λv c=>wpAny (model X.prog X.w) X.A (eval b X.env) (λu d=>wpAny (model X.prog X.w) X.A (compareOp op v u) (EP X Sb e Q) X.xe d) X.xe c) X.xe s
def gP (b:fe){op:CmpOp}(h:op≠ .In)(h2:op≠ .NotIn):behindInMarks op b=false:=by
 have c:(op==CmpOp.In)=false:=by cases op <;> first | rfl|exact absurd rfl h
 have d:(op==CmpOp.NotIn)=false:=by cases op <;> first | rfl|exact absurd rfl h2
 cases b <;> simp[behindInMarks,c,d]
def tB (t:TE):TT:=λd H Q=>t d H λx e=>∃c,x= .bl c/\Q c e
def qN {op:CmpOp}{t:TE}(h:PC X op a b t)(h1:behindInMarks op b=false:=by first | exact gP _ (by decide) (by decide)|rfl):PT X (.Compare a [op] [b] pos) (tB t):=by intro Sb s e H Q I hw;refine wpAny_isTrue_Compare1 (Be (h Sb s e H _ I hw) λv j h1=>Be h1 λu k h2=>Be h2 λc l ⟨x,f,g,r1,i⟩=> ?_) h1;obtain⟨d,rfl,q⟩:=i;cases r1;exact ADL ⟨f,g,q⟩
def qP {e:fe}{t:TE}(h:PE X e t)(he:∀whole,isTrue e X.env whole=(do let v <-whole;standAt e.pos;holding [v] (truthy v)):=by intro _;rfl):PT X e (tB t):=by intro Sb s c H Q I hw;refine isTrue_plain (Be (h Sb s c H _ I hw) λv j ⟨x,f,g,r1,i⟩=> ?_) (he _);obtain⟨d,rfl,q⟩:=i;cases r1;exact ADL ⟨f,g,q⟩
variable {tA tB':TT}{rest:kj fe}
def xv (t u:TT):TT:=λd H Q=>t d H λc e=>if c=true then u d e Q else Q false e
def tOr (t u:TT):TT:=λd H Q=>t d H λc e=>if c=true then Q true e else u d e Q
def x6 (t:TT):TT:=λd H Q=>t d H λc e=>Q (!c) e
def lj (ha:PT X a tA):PW X (.BoolOp .And [a] pos) tA:=by
 intro f Sb s d H Q I h;refine isTrue_and (Be (ha Sb s d H Q I h) λc g e=> ?_);cases c with
 | true=>exact isTrue_and_nil e
 | false=>exact e
def qR (ha:PT X a tA):PW X (.BoolOp .Or [a] pos) tA:=by
 intro f Sb s d H Q I h;refine isTrue_or (Be (ha Sb s d H Q I h) λc g e=> ?_);cases c with
 | false=>exact isTrue_or_nil e
 | true=>exact e
def qQ (ha:PT X a tA)(hb:PW X (.BoolOp .And (b::rest) pos) tB'):PW X (.BoolOp .And (a::b::rest) pos) (xv tA tB'):=by
 intro i Sb s d H Q I h;refine isTrue_and (Be (ha Sb s d H _ I h) λc j ⟨e,f,g⟩=> ?_);cases c with
 | true=>exact hb i Sb j d e Q f g
 | false=>exact⟨e,f,g⟩
def ue (ha:PT X a tA)(hb:PW X (.BoolOp .Or (b::rest) pos) tB'):PW X (.BoolOp .Or (a::b::rest) pos) (tOr tA tB'):=by
 intro i Sb s d H Q I h;refine isTrue_or (Be (ha Sb s d H _ I h) λc j ⟨e,f,g⟩=> ?_);cases c with
 | true=>exact⟨e,f,g⟩
 | false=>exact hb i Sb j d e Q f g
def qO (ha:PT X a tA):PT X (.UnaryOp .Not a pos) (x6 tA):=by intro Sb s d H Q I h;exact isTrue_not (ha Sb s d H (λc e=>Q (!c) e) I h)
def vD (ta tb:TE):TE:=λd H Q=>ta d H λx e=>∃c,x= .bl c/\if c=true then tb d e Q else Q (.bl false) e
def vJ (ta:TE):TE:=λd H Q=>ta d H λx e=>∃c,x= .bl c/\Q (.bl (!c)) e
def qJ {op}{t:TE}(h:PE X a t):PE X (.BoolOp op [a] pos) t:=λSb s c H Q I hw=>BoolOp_one (h Sb s c H Q I hw)
def qG (ha:PE X a ta)(hb:PE X (.BoolOp .And (b::rest) pos) tb):PE X (.BoolOp .And (a::b::rest) pos) (vD ta tb):=by
 intro Sb s e H Q I h;refine BoolOp_and (Be (ha Sb s e H _ I h) λv i ⟨x,f,g,r1,d⟩=> ?_);obtain⟨c,rfl,d⟩:=d;cases r1;refine ADL ?_;cases c with
 | true=>exact hb Sb i e f Q g d
 | false=>exact⟨.bl false,f,g,rfl,d⟩
def qI (ha:PE X a ta):PE X (.UnaryOp .Not a pos) (vJ ta):=by intro Sb s e H Q I h;refine UnaryOp_ (Be (ha Sb s e H _ I h) λv i ⟨x,f,g,r1,d⟩=> ?_);obtain⟨c,rfl,d⟩:=d;cases r1;exact not_of (ADL ⟨.bl (!c),f,g,rfl,d⟩)
def tIf (t:TT)(ta tb:TE):TE:=λd H Q=>t d H λc e=>if c=true then ta d e Q else tb d e Q
def gw {c:fe}(hc:PT X c tA)(ha:PE X a ta)(hb:PE X b tb):PE X (.IfExp c a b pos) (tIf tA ta tb):=by
 intro Sb s e H Q I h;refine wpAny_IfExp (Be (hc Sb s e H _ I h) λd f ⟨g,i,j⟩=> ?_);cases d with
 | true=>exact ha Sb f e g Q i j
 | false=>exact hb Sb f e g Q i j
end
def FY (K:AAG)(H:Hp)(a:kd)(xs:kj V):Prop:=
 Rd H a (.lst xs)\/
  ∃(o:Obj) (b:Array ki) (n:Nat),K.lookup a=some o/\o.cls= .type "list" /\o.dict=none/\o.data= .seq b n/\b.size<=sizeLine/\A3 xs b.toList
def Ky (K:AAG)(H:Hp)(a:kd)(xs:kj V):Prop:=
 Rd H a (.tup xs)\/
  ∃(o:Obj) (b:Array ki) (n:Nat),K.lookup a=some o/\o.cls= .type "tuple" /\o.data= .seq b n/\b.size<=sizeLine/\A3 xs b.toList
def wm:ki->kc V
 | .none=>some .non
 | .bool b=>some (.bl b)
 | .int i _=>some (.int i)
 | .str x _=>some (.str x)
 | .bytes b _=>some (.byt b)
 | .float b _=>some (.flt b)
 | .ref a=>some (.ref a)
 | .type n=>some (.ty n)
 | _=>none
def RelV.abs {x:V}{u:ki}(r:RelV x u):wm u=some x:=by
 cases x with
 | non=>cases r;rfl
 | bl _=>cases r;rfl
 | int _=>obtain⟨t,rfl⟩:=r;rfl
 | str _=>obtain⟨t,rfl⟩:=r;rfl
 | byt _=>obtain⟨t,rfl⟩:=r;rfl
 | flt _=>obtain⟨t,rfl⟩:=r;rfl
 | ref _=>cases r;rfl
 | ty _=>cases r;rfl
def RelV.inj {x y:V}{u:ki}(r:RelV x u)(q:RelV y u):x=y:=ABW (r.abs.symm.trans q.abs)
theorem A3.inj:∀{xs ys:kj V} {a:kj ki},A3 xs a->A3 ys a->xs=ys
 | _,_,_, .nil, .nil=>rfl
 | _,_,_, .cons r t, .cons b t'=>by rw[r.inj b,A3.inj t t']
section
variable {X:Cx}{Sb:kj (kd×Obj)}{σ:St}{H:Hp}{s:kf}{a:kd}{xs ys:kj V}
def FY.of {K:AAG}(h:H a=some (.lst xs)):FY K H a xs:= .inl (.inl h)
def Ky.of {K:AAG}(h:H a=some (.tup xs)):Ky K H a xs:= .inl (.inl h)
def Inv.list (I:Inv X Sb σ H s)(h:FY X.K H a xs):∃b:kj ki,A3 xs b/\PlainL s.heap a b.toArray/\xs.length<=sizeLine:=by
 rcases h with h|⟨o,b,n,hk,hc,hd,hs,hz,r⟩
 .obtain ⟨z,b,n,r,e⟩:=h.ok I.hok;exact⟨b,r,⟨_,n,e,rfl,rfl,rfl⟩,z⟩
 .refine ⟨b.toList,r,⟨o,n,I.kIn a o hk,hc,hd,by simpa using hs⟩, ?_⟩;have e:=r.length;simp only[AC8] at e;omega
def Inv.tuple (I:Inv X Sb σ H s)(h:Ky X.K H a xs):∃b:kj ki,A3 xs b/\IsTup s.heap a b.toArray/\xs.length<=sizeLine:=by
 rcases h with h|⟨o,b,n,hk,hc,hs,hz,r⟩
 .obtain ⟨z,b,r,p⟩:=h.ok I.hok;exact⟨b,r,p,z⟩
 .refine ⟨b.toList,r,⟨o,I.kIn a o hk,hc,n,by simpa using hs⟩, ?_⟩;have e:=r.length;simp only[AC8] at e;omega
def Inv.list_inj (I:Inv X Sb σ H s)(h:FY X.K H a xs)(h':FY X.K H a ys):xs=ys:=by
 obtain⟨b,r,⟨o,n,e,_,_,d⟩,_⟩:=I.list h;obtain⟨its',c,⟨g,i,e',_,_,d'⟩,_⟩:=I.list h';rw[e] at e';cases e';rw[d] at d';injection d' with f _;have:b=its':=by simpa using congrArg Array.toList f
 subst this;exact r.inj c
def Inv.tuple_inj (I:Inv X Sb σ H s)(h:Ky X.K H a xs)(h':Ky X.K H a ys):xs=ys:=by
 obtain⟨b,r,⟨o,e,_,n,d⟩,_⟩:=I.tuple h;obtain⟨its',c,⟨g,e',_,i,d'⟩,_⟩:=I.tuple h';rw[e] at e';cases e';rw[d] at d';injection d' with f _;have:b=its':=by simpa using congrArg Array.toList f
 subst this;exact r.inj c
end
abbrev Cx.wish (X:Cx)(E:ki->kf->Prop):Cx:={X with xe:=E}
abbrev Cx.nox (X:Cx):Cx:=X.wish λ_ _=>False
def Cx.Ok.wish {X:Cx}(ok:X.Ok)(E:ki->kf->Prop):(X.wish E).Ok:=
 ⟨ok.mod,ok.kind,ok.glob,ok.blt,ok.above,ok.inj,ok.has,ok.cab,ok.hd,ok.frames,ok.stk,ok.exf,ok.bs,ok.bsz,ok.noex,ok.exfs,ok.funs,ok.frf⟩
def Cx.Ok.unwish {X:Cx}{E:ki->kf->Prop}(ok:(X.wish E).Ok):X.Ok:=
 ⟨ok.mod,ok.kind,ok.glob,ok.blt,ok.above,ok.inj,ok.has,ok.cab,ok.hd,ok.frames,ok.stk,ok.exf,ok.bs,ok.bsz,ok.noex,ok.exfs,ok.funs,ok.frf⟩
section
variable {X:Cx}{Sb:kj (kd×Obj)}{σ:St}{H:Hp}{s:kf}{E:ki->kf->Prop}
def Inv.wish (I:Inv X Sb σ H s)(E:ki->kf->Prop):Inv (X.wish E) Sb σ H s:=⟨I.ok.wish E,I.os,I.bare,I.base,I.loc,I.cell,I.free,I.freeC,I.pin,I.hok,I.len⟩
def Inv.unwish (I:Inv (X.wish E) Sb σ H s):Inv X Sb σ H s:=⟨I.ok.unwish,I.os,I.bare,I.base,I.loc,I.cell,I.free,I.freeC,I.pin,I.hok,I.len⟩
def SP.unwish {D:Os}{f:Flow}{c:kf}(h:SP (X.wish E) Sb D f c):SP X Sb D f c:=by
 cases f with
 | next=>obtain⟨a,b,I,q⟩:=h;exact⟨a,b,I.unwish,q⟩
 | brk=>obtain⟨a,b,I,q⟩:=h;exact⟨a,b,I.unwish,q⟩
 | cont=>obtain⟨a,b,I,q⟩:=h;exact⟨a,b,I.unwish,q⟩
 | ret u=>obtain⟨v,a,b,I,r,q⟩:=h;exact⟨v,a,b,I.unwish,r,q⟩
def PE.nox {e:fe}{t:TE}(h:PE X.nox e t):PE X e t:=λSb s σ H Q I hw=>
 AB4 (h Sb s σ H Q (I.wish _) hw) (λ_ _ ⟨v,a,b,r,q⟩=>⟨v,a,b.unwish,r,q⟩) λ_ _ z=>False.elim z
def PT.nox {e:fe}{t:TT}(h:PT X.nox e t):PT X e t:=λSb s σ H Q I hw=>
 AB4 (h Sb s σ H Q (I.wish _) hw) (λ_ _ ⟨a,b,q⟩=>⟨a,b.unwish,q⟩) λ_ _ z=>False.elim z
def ZF.nox {st:kj Stmt}{t:TS}(h:ZF X.nox st t):ZF X st t:=λSb s σ H D I hw=>
 AB4 (h Sb s σ H D (I.wish _) hw) (λ_ _ q=>q.unwish) λ_ _ z=>False.elim z
end
section
variable {X:Cx}{st:Stmt}{rest:kj Stmt}{t u:TS}{e:fe}{te:TE}{pos:Pos}
def nX:TS:=λD a H=>D.nx a H
def c5 (t u:TS):TS:=λD a H=>t {D with nx:=u D} a H
def OG:ZF X [] nX:=λ_ _ a H _ I h=>AEX ⟨a,H,I,h⟩
def CA (h1:PS X st t)(h2:ZF X rest u):ZF X (st::rest) (c5 t u):=by
 intro Sb s b H D I h;refine wpAny_execs_cons (Be (h1 Sb s b H {D with nx:=u D} I h) λf c q=> ?_);cases f with
 | next=> obtain⟨a,d,g,q⟩:=q;exact h2 Sb c a d D g q
 | ret v=>exact q
 | brk=>exact q
 | cont=>exact q
def Fm (h1:PS X st t):ZF X [st] t:=by
 intro Sb s a H D I h;refine wpAny_execs_cons (Be (h1 Sb s a H D I h) λf b q=> ?_);cases f with
 | next=>exact AEX q
 | ret v=>exact q
 | brk=>exact q
 | cont=>exact q
def Inv.quiet {Sb:kj (kd×Obj)}{a:St}{H:Hp}{s:kf}(I:Inv X Sb a H s):interactive X.env=false:=by simp[interactive,I.ok.kind]
def nV (te:TE):TS:=λD a H=>te a H λ_ b=>D.nx a b
def lh (he:PE X e te)(hs:swapsWith e none pos.line X.env=pure false:=by rfl):PS X (.Expr e pos) (nV te):=by intro Sb s a H D I h;exact wpAny_Expr_any (Be (he Sb s a H _ I h) λv f ⟨x,b,c,r1,d⟩=>⟨a,b,c,d⟩) I.quiet hs
def iu (te:TE):TS:=λD a H=>te a H D.rt
def Py (he:PE X e te):PS X (.Return (some e) pos) (iu te):=by intro Sb s a H D I h;exact wpAny_Return_some (Be (he Sb s a H _ I h) λv f ⟨x,b,c,r1,d⟩=>⟨x,a,b,c,r1,d⟩)
def vF (c:TT)(t u:TS):TS:=λD a H=>c a H λb d=>if b=true then t D a d else u D a d
def Z9 {c:fe}{a b:kj Stmt}{g:TT}(hc:PT X c g)(ha:ZF X a t)(hb:ZF X b u):PS X (.If c a b pos) (vF g t u):=by
 intro Sb s f H D I h;refine wpAny_If (Be (hc Sb s f H _ I h) λd i ⟨j,k,l⟩=> ?_);cases d with
 | true=>exact ha Sb i f j D k l
 | false=>exact hb Sb i f j D k l
end
abbrev TG:=V->St->Hp->(St->Hp->Prop)->Prop
abbrev XG:=kj V->St->Hp->(St->Hp->Prop)->Prop
def PG (X:Cx)(target:fe)(t:TG):Prop:=
 ∀(Sb:kj (kd×Obj)) (s:kf) (b:St) (H:Hp) (v:V) (u:ki) (Q:St->Hp->Prop),Inv X Sb b H s->RelV v u->t v b H Q->
  wpAny (model X.prog X.w) X.A (assign target X.env u) (λ_ d=>∃a c,Inv X Sb a c d/\Q a c) X.xe s
def rN (X:Cx)(ts:kj fe)(t:XG):Prop:=
 ∀(Sb:kj (kd×Obj)) (s:kf) (b:St) (H:Hp) (vs:kj V) (c:kj ki) (Q:St->Hp->Prop),Inv X Sb b H s->A3 vs c->t vs b H Q->
  wpAny (model X.prog X.w) X.A (assignInOrder ((assignEach ts X.env).map (·.2)) c) (λ_ e=>∃a d,Inv X Sb a d e/\Q a d) X.xe s
abbrev oH:=V->V->V->Hp->(Hp->Prop)->Prop
def sU (X:Cx)(t:oH):Prop:=
 ∀(Sb:kj (kd×Obj)) (s:kf) (a:St) (H:Hp) (o i v:V) (b c u:ki) (Q:Hp->Prop),Inv X Sb a H s->RelV o b->RelV i c->RelV v u->t o i v H Q->
  wpAny (model X.prog X.w) X.A (setItem b c u) (λ_ e=>∃d,Inv X Sb a d e/\Q d) X.xe s
abbrev sW:=V->V->Hp->VK->Prop
def rO (X:Cx)(op:Operator)(t:sW):Prop:=
 ∀(Sb:kj (kd×Obj)) (s:kf) (a:St) (H:Hp) (x y:V) (v u:ki) (Q:VK),Inv X Sb a H s->RelV x v->RelV y u->t x y H Q->
  wpAny (model X.prog X.w) X.A (inplaceOp op v u) (EP X Sb a Q) X.xe s
section
variable {X:Cx}{pos:Pos}
def DU (i:Nat):TG:=λv a H Q=>Q (a.set i (some v)) H
def LM {i:Nat}{x:Str}(hN:X.N.Nodup)(hi:X.N[i]? =some x)(hx:Loc X.env.scope x)(a:X.fn x=true\/X.env.scope.names.lookup x=some .local:=by first | exact .inl rfl|exact .inr rfl|assumption):PG X (.Name x pos) (DU i):=by intro Sb s c H v u Q I r h;exact wpAny_assign_Name (IN I hN hi hx r (λd b=>⟨_,H,b,h⟩) a)
def Vj:XG:=λvs a H Q=>vs= [] /\Q a H
def Fh (t:TG)(u:XG):XG:=λvs b H Q=>∃v r,vs=v::r/\t v b H λa c=>u r a c Q
def UH:rN X [] Vj:=by intro Sb s a H vs b Q I r h;obtain⟨e,h⟩:=h;subst e;cases r;exact assignInOrder_nil ⟨a,H,I,h⟩
def Hy {e:fe}{es:kj fe}{t:TG}{u:XG}(h1:PG X e t)(h2:rN X es u)(hs:(assignEach (e::es) X.env).map (·.2)=assign e X.env::(assignEach es X.env).map (·.2):=by rfl):rN X (e::es) (Fh t u):=by
 intro Sb s b H vs k Q I r h;obtain⟨v,l,c,h⟩:=h;subst c;cases r with
 | cons r d=> rw[hs];refine assignInOrder_cons (Be (h1 Sb s b H _ _ _ I r h) λ_ f ⟨a,g,i,j⟩=> ?_);exact h2 Sb f a g _ _ Q i d j
def wv (b c:TE)(t:oH):TG:=λv a H Q=>b a H λo d=>c a d λi e=>t o i v e λf=>Q a f
def YS {o i:fe}{d e:TE}{t:oH}(f:PE X o d)(hi:PE X i e)(hs:sU X t)(ha:∀v,assign (.Subscript o i pos) X.env v=(do
   let a <-holding [v] (eval o X.env);let b <-holding [v,a] (eval i X.env)
   standAt pos
   holding [v,a,b] (setItem a b v)
   release [v,a,b] []):=by intro _;rfl):PG X (.Subscript o i pos) (wv d e t):=by intro Sb s c H v u Q I r h;rw[ha];refine AAF (AB3 (Be (f Sb s c H _ I h) λa g ⟨x,j,k,r1,l⟩=> ?_));refine AAF (AB3 (Be (hi Sb g c j _ k l) λb m ⟨y,n,p,r2,w⟩=> ?_));refine AAF (ACP (AAF (AB3 (Be (hs Sb m c n x y v a b u _ p r1 r2 r w) λ_ C ⟨z,A,B⟩=> ?_))));exact wpAny_release ⟨c,z,A,B⟩
def Wt (te:TE)(g:TG):TS:=λD a H=>te a H λx b=>g x a b D.nx
def UI {a e:fe}{te:TE}{g:TG}(he:PE X e te)(c:PG X a g)(hs:swapsWithSole [a] e pos.line X.env=pure false:=by rfl)(hw:swappedStores [a] e X.env=pure none:=by rfl)(h1:(assignEach [a] X.env).map (·.2)= [assign a X.env] :=by rfl):PS X (.Assign [a] e pos) (Wt te g):=by intro Sb s b H D I h;refine wpAny_Assign_stores (Be (he Sb s b H _ I h) λv d ⟨x,f,i,r1,j⟩=> ?_) hs hw;rw[h1];exact Be (c Sb d b f x v _ i r1 j) λ_ k q=>q
def F3 {i:Nat}{x:Str}{e:fe}{te:TE}{pos':Pos}(hN:X.N.Nodup)(hi:X.N[i]? =some x)(hx:Loc X.env.scope x)(he:PE X e te)(hs:swapsWith e (some (.Name x pos')) pos.line X.env=pure false:=by rfl)(a:X.fn x=true\/X.env.scope.names.lookup x=some .local:=by first | exact .inl rfl|exact .inr rfl|assumption):PS X (.Assign [.Name x pos'] e pos) (Wt te (DU i)):=by intro Sb s b H D I h;refine wpAny_Assign_Name (Be (he Sb s b H _ I h) λv j ⟨y,c,d,r1,f⟩=> ?_) hs;exact IN d hN hi hx r1 (λk g=>⟨_,c,g,f⟩) a
def x8 (i j:Nat)(b:TA):TS:=λD a H=>b a H λvs c=>∃v w,vs= [v,w] /\D.nx ((a.set i (some v)).set j (some w)) c
def qM {i j:Nat}{x y:Str}{a b:fe}{r:TA}{g k l:Pos}{kt k2 pt2}(hc:X.calm=true)(hN:X.N.Nodup)(hi:X.N[i]? =some x)(hj:X.N[j]? =some y)(B:i≠j)(hx:X.env.scope.names.lookup x=some .local)(hy:X.env.scope.names.lookup y=some .local)(ha:PA X [a,b] r)(hw:swappedStores [.Tuple [.Name x g, .Name y k] kt l] (.Tuple [a,b] k2 pt2) X.env=pure (some [x,y]))(hs:swapsWithSole [.Tuple [.Name x g, .Name y k] kt l] (.Tuple [a,b] k2 pt2) pos.line X.env=pure false:=by rfl):PS X (.Assign [.Tuple [.Name x g, .Name y k] kt l] (.Tuple [a,b] k2 pt2) pos) (x8 i j r):=by
 intro Sb s t H D I h;rw[exec_Assign_arm];refine AAF (ACP ?_);rw[hs];refine AAF (AAI ?_);rw[AAH (by decide)];refine AAF (Tuple_ (Be (ha _ Sb s t H _ I h) λC c ⟨vs,u,E,r1,m⟩=> ?_));obtain⟨v,w,F,m⟩:=m;subst F;obtain⟨d,f,rfl,rv,n⟩:∃d f,C= [d,f] /\RelV v d/\RelV w f:=by
  cases r1 with
  | cons p q=>
    cases q with
    | cons G J=> cases J;exact⟨_,_,rfl,p,G⟩
 refine AB5 ?_ (by show 2<=sizeLine;decide);have K:Inv X Sb t u {c with heap:=c.heap.push {cls:= .type "tuple",data:= .seq [d,f].toArray}}:=E.kept (t':=c.toks) λb o e=>ABF _ e;rw[hw];refine AAF (AAI ?_);show wpAny (model X.prog X.w) X.A (do rule "assign.swapped-stores";let items <-unpackItems (.ref c.heap.objs.size) 2 none;assignInOrder [λv=>bindName X.env y v,λv=>bindName X.env x v] items.reverse;pure Flow.next) _ _ _;refine AAF (ACH (AAF (unpackItems_tuple (items:= #[d,f]) (I.ok.hd hc) (IsTup.new c.heap _) λh' L=> ?_)));have M:=K.kept (h':=h') (t':=c.toks) λb o e=>L b o (ABK (ABD e)) e;show wpAny _ _ (assignInOrder [λv=>bindName X.env y v,λv=>bindName X.env x v] [f,d] >>= λ_=>pure Flow.next) _ _ _;refine AAF (assignInOrder_cons (wpAny_bindName (IN M hN hj (.inl hy) n (λP O=> ?_) (.inr hy))));refine assignInOrder_cons (wpAny_bindName (IN O hN hi (.inl hx) rv (λQ z=>assignInOrder_nil (AAI ?_)) (.inr hx)));rw[List.set_comm _ _ (ACD B)] at z;exact⟨_,u,z,m⟩
def xw (i:Nat)(te:TE)(b:sW):TS:=λD a H=>∃x,a[i]? =some (some x)/\te a H λy c=>b x y c λz d=>D.nx (a.set i (some z)) d
def qL {i:Nat}{x:Str}{e:fe}{te:TE}{op:Operator}{f:sW}{pos':Pos}(hN:X.N.Nodup)(hi:X.N[i]? =some x)(hx:Loc X.env.scope x)(he:PE X e te)(j:rO X op f)(n:X.fn x=true\/X.env.scope.names.lookup x=some .local:=by first | exact .inl rfl|exact .inr rfl|assumption):PS X (.AugAssign (.Name x pos') op e pos) (xw i te f):=by
 intro Sb s g H D I h;obtain⟨v,o,h⟩:=h;obtain⟨m,hn,hl⟩:=I.loc;have d:me X.env.scope x:=by rcases hx with k|k;exact .inl k;exact .inr (.inl k)
 obtain⟨u,r,l⟩:=hl i x v hi o d;refine wpAny_AugAssign_Name ?_;have go:wpAny (model X.prog X.w) X.A (eval e X.env) (λw a=>wpAny (model X.prog X.w) X.A (inplaceOp op u w) (λr b=>wpAny (model X.prog X.w) X.A (storeName X.env x r) (λ_=>SP X Sb D .next) X.xe b) X.xe a) X.xe s:=by refine Be (he Sb s g H _ I h) λw p ⟨y,t,B,r1,C⟩=> ?_;refine Be (j Sb p g t v y u w _ B r r1 C) λz M ⟨O,E,F,r2,G⟩=> ?_;exact IN F hN hi hx r2 (λP J=>⟨_,E,J,G⟩) n
 rcases l with⟨hk,K⟩|⟨hk,c,hc,L⟩
 .exact wpAny_loadName_local I.ok.kind hk hn K go
 .rcases hk with hk|hk
  .exact wpAny_loadName_cell I.ok.kind hk hc L go
  .rcases hx with k|k
   .have:X.env.scope.names.lookup x=some .free:=hk;rw[k] at this;cases this
   .have:X.env.scope.names.lookup x=some .free:=hk;rw[k] at this;cases this
def xc (f:Int->Int->Int):sW:=λx y H Q=>∃i j,x= .int i/\y= .int j/\Q (.int (f i j)) H
def pE:rO X .Add (xc λi j=>i+j):=by intro Sb s c H x y v u Q I r1 r2 h;obtain⟨i,j,a,b,q⟩:=h;subst a;subst b;obtain⟨t,rfl⟩:=r1;obtain⟨t',rfl⟩:=r2;exact iadd_int ⟨.int _,H,I.tok _,⟨_,rfl⟩,q⟩
def qt (c:TT)(h:TS):TS:=λD a H=>∃W:Nat->St->Hp->Prop,(∃m,W m a H)/\∀m a H,W m a H->
 c a H λb e=>if b=true then ∃N:St->Hp->Prop,(∀d f,N d f->∃g,g<m/\W g d f)/\h {D with nx:=N,ct:=N,bk:=D.nx} a e else D.nx a e
def hG {c:fe}{body:kj Stmt}{r:TT}{t:TS}(hp:PassesOwn (model X.prog X.w) X.A X.env X.xe)(hc:PT X c r)(hb:ZF X body t):PS X (.While c body [] pos) (qt r t):=by
 intro Sb s B H D I h;obtain⟨W,⟨m0,C⟩,turn⟩:=h;refine wpAny_While (codeAny_whileLoop (λn E=>∃e u,Inv X Sb e u E/\W n e u) ?_ m0 ⟨B,H,I,C⟩);rintro n F ⟨d,x,G,J⟩;refine ADN hp (Be (hc Sb F d x _ G (turn n d x J)) λb K ⟨y,z,i⟩=> ?_);cases b with
 | true=>
   obtain⟨N,hN,i⟩:=i;rw[AAJ rfl];refine ADN hp (Be (hb Sb K d y _ z i) λf L j=> ?_);cases f with
   | next=> obtain⟨a,g,k,l⟩:=j;obtain⟨m,o,p⟩:=hN a g l;exact⟨m,o,a,g,k,p⟩
   | cont=> obtain⟨a,g,k,l⟩:=j;obtain⟨m,o,p⟩:=hN a g l;exact⟨m,o,a,g,k,p⟩
   | brk=>exact j
   | ret v=>exact j
 | false=> rw[AAH ABO];exact AEX ⟨d,y,z,i⟩
end
structure It where
 go:Nat->Hp->Prop
 yld:Nat->Hp->V->Hp->Prop
 stop:Nat->Hp->Prop
def EM (X:Cx)(Sb:kj (kd×Obj))(H:Hp)(b:kd):Prop:=
 H b=none/\b≠X.env.locals/\b ∉ X.fs/\(b∈X.ex\/X.s₀.heap.objs.size<=b)/\(∀x c,X.env.cells.lookup x=some c->c≠b)/\∀p∈X.pn++Sb,p.1≠b
def Inv.fpOk {X:Cx}{Sb:kj (kd×Obj)}{d:St}{H a:Hp}{s:kf}{b:kd}(I:Inv X Sb d H s)(hb:s.heap.objs.size<=b)(hn:a b=none):EM X Sb a b:=by
 refine⟨hn,ABu (ABb I.lt hb),I.nofs hb, .inr (ABT I.sz hb),λx c e z=> ?_,λp hp z=> ?_⟩
 .obtain ⟨v,q⟩:=I.cell x c e;exact absurd (ABb q.lt (by rw[z];exact hb)) (ACZ _)
 .exact absurd (ABb (ABD (I.pin p hp).1) (by rw[z];exact hb)) (ACZ _)
structure Kz (P:Program) (w:World) (K:AAG) (tg:Expr) (J:It) (fp:List Addr) (it:Addr) (tn:Nat->Heap->Prop):Prop where
 mem:it∈fp
 obj:∀i h,tn i h->∀b∈fp,∃o,h.get? b=some o/\∀v,o.data≠ .cell v
 keep:∀i h h',tn i h->(∀b∈fp,∀o,h.get? b=some o->h'.get? b=some o)->tn i h'
 item:∀(X:Cx),X.prog=P->X.w=w->X.K=K->X.calm=true->∀(i:Nat) (Sb:List (Addr×Obj)) (s:Shared) (σ:St) (H:Hp) (E:Value->Shared->Prop),Inv X Sb σ H s->(∀b∈fp,EM X Sb H b)->tn i s.heap->J.go i H->
  wpAny (model P w) X.A (pyNext (.ref it)) (λr s1=>∃u,r=some u/\
   wpAny (model P w) X.A (letOwnedTupleGo tg (.ref it) u) (λ_ s2=>∃x H',Inv X Sb σ H' s2/\RelV x u/\J.yld i H x H'/\tn (i+1) s2.heap/\∀b∈fp,H' b=none) E s1) E s
 done:∀(X:Cx),X.prog=P->X.w=w->X.K=K->X.calm=true->∀(i:Nat) (Sb:List (Addr×Obj)) (s:Shared) (σ:St) (H:Hp) (E:Value->Shared->Prop),Inv X Sb σ H s->(∀b∈fp,EM X Sb H b)->tn i s.heap->J.stop i H->
  wpAny (model P w) X.A (pyNext (.ref it)) (λr s1=>r=none/\Inv X Sb σ H s1) E s
 self:∀(A:Around) (i:Nat) (s:Shared) (Q:Value->Shared->Prop) (E:Value->Shared->Prop),tn i s.heap->Q (.ref it) s->wpAny (model P w) A (pyIter (.ref it)) Q E s
abbrev TI:=St->Hp->(It->Hp->Prop)->Prop
def zR (X:Cx)(Sb:kj (kd×Obj))(f:St)(g:fe)(R:It->Hp->Prop)(a:ki)(d:kf):Prop:=
 ∃(it:kd) (e:kj kd) (tn:Nat->Sr->Prop) (J:It) (c:Hp),a= .ref it/\Inv X Sb f c d/\Kz X.prog X.w X.K g J e it tn/\tn 0 d.heap/\(∀b∈e,EM X Sb c b)/\R J c
def PI (X:Cx)(b iter:fe)(c:TI):Prop:=
 ∀(Sb:kj (kd×Obj)) (s:kf) (a:St) (H:Hp) (R:It->Hp->Prop),Inv X Sb a H s->c a H R->
  wpAny (model X.prog X.w) X.A (eval iter X.env) (λv d=>wpAny (model X.prog X.w) X.A (pyIter v) (zR X Sb a b R) X.xe d) X.xe s
def fR {M:Model}{A:Sl}{E:ki->kf->Prop}{s:kf}{a:fe}{it:kd}{u:ki}{o:Obj}{n:String}{vs:Array ki}{Q:Unit->kf->Prop}(b:s.heap.get? it=some o)(hc:o.cls= .type n)(hd:o.data= .fields vs)(hn: ["enumerate","zip","dict_itemiterator","dict_reverseitemiterator","odict_iterator","itertools.zip_longest","itertools.pairwise"].contains n=false)(hQ:Q () s):wpAny M A (letOwnedTupleGo a (.ref it) u) Q E s:=by
 unfold letOwnedTupleGo;cases a <;> first
  | exact AAI hQ
  | (cases u <;> first
      | exact AAI hQ
      | (refine AAF (wpAny_load b ?_)
         rw[hc,hd];show wpAny M A (if (["enumerate","zip","dict_itemiterator","dict_reverseitemiterator","odict_iterator","itertools.zip_longest","itertools.pairwise"].contains n&&vs[0]?==some (rawInt _))=true then _ else _) Q E s;rw[AAH (by intro h;rw[hn,Bool.false_and] at h;cases h)];exact AAI hQ))
def wY (K:AAG)(a:kd):It:=
 ⟨λi H=>∃xs x,FY K H a xs/\xs[i]? =some x,λi H x b=>b=H/\∀xs,FY K H a xs->xs[i]? =some x,λi H=>∃xs,FY K H a xs/\xs.length<=i⟩
def wZ (K:AAG)(a:kd):It:=
 ⟨λi H=>∃xs x,Ky K H a xs/\xs[i]? =some x,λi H x b=>b=H/\∀xs,Ky K H a xs->xs[i]? =some x,λi H=>∃xs,Ky K H a xs/\xs.length<=i⟩
def sP (lo:Int)(n:Nat):It:=⟨λi _=>i<n,λi H x a=>a=H/\x= .int (lo+i),λi _=>n<=i⟩
def c9 {P:Wf}{w:Tb}{K:AAG}{B:fe}(a it:kd):Kz P w K B (wY K a) [it] it (λi h=>h.IsListIter it a i) where
 mem:=by simp
 obj:=λi h st b hb=>by
  have e:b=it:=by simpa using hb
  subst e;obtain⟨o,e,c,d⟩:=st;exact⟨o,e,λv z=>by rw[d] at z;cases z⟩
 keep:=λi h h' st k=>st.at λo e=>k it (by simp) o e
 item:=by intro X j hw l hc i Sb s A H E I g st m;subst j hw l;obtain⟨xs,x,hq,hx⟩:=m;obtain⟨n,rv,p,hz⟩:=I.list hq;obtain⟨u,hu,C⟩:=rv.get hx;obtain⟨f0,f1,f2,r,t,y⟩:=g it (by simp);refine wpAny_pyNext_list_item st p.isList (x:=u) (by simpa using hu) λh' f D=> ?_;have F:Inv X Sb A H {s with heap:=h'}:=I.turned (t':=s.toks) (λb o hb e=>(D.2 b hb).trans e) f0 f1 r t y;obtain⟨o,e,c,d⟩:=id f;exact⟨u,rfl,fR (s:={s with heap:=h'}) e c d (by decide) ⟨x,H,F,C,⟨rfl,λys hy=>by rw[I.list_inj hy hq];exact hx⟩,f,λb hb=>(g b hb).1⟩⟩
 done:=by intro X j hw l hc i Sb s A H E I g st m;subst j hw l;obtain⟨xs,hq,hx⟩:=m;obtain⟨n,rv,p,hz⟩:=I.list hq;obtain⟨f0,f1,f2,r,t,y⟩:=g it (by simp);have hl:=rv.length;exact wpAny_pyNext_list_end (I.ok.hd hc) st p.isList (by simp;omega) λh' G=>⟨rfl,I.turned (t':=s.toks) (λb o hb e=>G b o hb e) f0 f1 r t y⟩
 self:=λ_ _ _ _ _ st h=>wpAny_pyIter_listiter st h
def Y1 {P:Wf}{w:Tb}{K:AAG}{B:fe}(a it:kd):Kz P w K B (wZ K a) [it] it (λi h=>h.IsTupleIter it a i) where
 mem:=by simp
 obj:=λi h st b hb=>by
  have e:b=it:=by simpa using hb
  subst e;obtain⟨o,e,c,d⟩:=st;exact⟨o,e,λv z=>by rw[d] at z;cases z⟩
 keep:=λi h h' st k=>st.at λo e=>k it (by simp) o e
 item:=by intro X l hw m hc i Sb s A H E I j st n;subst l hw m;obtain⟨xs,x,hq,hx⟩:=n;obtain⟨f,rv,p,hz⟩:=I.tuple hq;obtain⟨u,hu,C⟩:=rv.get hx;obtain⟨f0,f1,f2,r,t,y⟩:=j it (by simp);refine wpAny_pyNext_tuple_item st (show s.heap.IsTuple a f.toArray from p) (x:=u) (by simpa using hu) λh' g D=> ?_;have F:Inv X Sb A H {s with heap:=h'}:=I.turned (t':=s.toks) (λb o hb e=>(D.2 b hb).trans e) f0 f1 r t y;obtain⟨o,e,c,d⟩:=id g;exact⟨u,rfl,fR (s:={s with heap:=h'}) e c d (by decide) ⟨x,H,F,C,⟨rfl,λys hy=>by rw[I.tuple_inj hy hq];exact hx⟩,g,λb hb=>(j b hb).1⟩⟩
 done:=by intro X l hw m hc i Sb s A H E I j st n;subst l hw m;obtain⟨xs,hq,hx⟩:=n;obtain⟨f,rv,p,hz⟩:=I.tuple hq;obtain⟨f0,f1,f2,r,t,y⟩:=j it (by simp);have hl:=rv.length;exact wpAny_pyNext_tuple_end (I.ok.hd hc) st (show s.heap.IsTuple a f.toArray from p) (by simp;omega) λh' G=>⟨rfl,I.turned (t':=s.toks) (λb o hb e=>G b o hb e) f0 f1 r t y⟩
 self:=λ_ _ _ _ _ st h=>wpAny_pyIter_tupleiter st h
def Y0 {P:Wf}{w:Tb}{K:AAG}{u:fe}(it:kd)(lo:Int)(n:Nat):Kz P w K u (sP lo n) [it] it (λi h=>IsRangeIter h it (lo+(i:Nat)*1) ((n:Int)-(i:Nat)) 1) where
 mem:=by simp
 obj:=λi h st b hb=>by
  have e:b=it:=by simpa using hb
  subst e;exact⟨_,st,λv z=>by
   have x:Data.fields _=Data.cell v:=z;cases x⟩
 keep:=λi h h' st k=>k it (by simp) _ st
 item:=by intro X d hw f hc i Sb s p H E I c st g;subst d hw f;obtain⟨f0,f1,f2,j,l,m⟩:=c it (by simp);have W:=Walks.range (prog:=X.prog) (w:=X.w) (I.ok.hd hc) it lo 1 n;refine W.item i s _ _ g st λv h' r hv a y=> ?_;obtain⟨t,rfl⟩:=hv;have A:Inv X Sb p H {s with heap:=h',toks:=r}:=I.turned (λb o hb e=>y b o (by simpa using hb) e) f0 f1 j l m;refine⟨_,rfl,fR (s:={s with heap:=h',toks:=r}) (n:="range_iterator") a rfl rfl (by decide) ⟨.int (lo+i),H,A,⟨t, ?_⟩,⟨rfl,rfl⟩,a,λb hb=>(c b hb).1⟩⟩;rw[Int.mul_one]
 done:=by intro X d hw f hc i Sb s p H E I c st g;subst d hw f;obtain⟨f0,f1,f2,j,l,m⟩:=c it (by simp);exact wpAny_pyNext_range_end (I.ok.hd hc) st (by have:n<=i:=g;omega) λh' B=>⟨rfl,I.turned (t':=s.toks) (λb o hb e=>B b o hb e) f0 f1 j l m⟩
 self:=λ_ _ _ _ _ st h=>wpAny_pyIter_rangeiter st h
section
variable {X:Cx}{tg:fe}
def WS {Sb:kj (kd×Obj)}{a:St}{H:Hp}{s:kf}{R:It->Hp->Prop}{E:ki->kf->Prop}{lo hi:Int}{t u v:Tok}{c:Nat}(I:Inv X Sb a H s)(h1: -(2^62)<=lo)(h2:lo<2^62)(f: -(2^62)<=hi)(g:hi<2^62)(q:R (sP lo (hi-lo).toNat) H):wpAny (model X.prog X.w) X.A (pyIter (.ref s.heap.objs.size)) (zR X Sb a tg R) E {s with heap:=s.heap.push {cls:= .type "range",data:= .fields #[.int lo t, .int hi u, .int 1 v] },toks:=c}:=by
 refine wpAny_pyIter_range (IsRange.new ..) (small_one h1 h2 f g) ?_;have d:Inv X Sb a H {s with heap:=s.heap.push {cls:= .type "range",data:= .fields #[.int lo t, .int hi u, .int 1 v] },toks:=c}:=I.kept λb o e=>ABF _ e;refine⟨(s.heap.push {cls:= .type "range",data:= .fields #[.int lo t, .int hi u, .int 1 v] }).objs.size, [(s.heap.push {cls:= .type "range",data:= .fields #[.int lo t, .int hi u, .int 1 v] }).objs.size],_,_,H,rfl,
  d.kept (t':=c) λb o e=>ABF _ e,Y0 _ lo (hi-lo).toNat, ?_,λb hb=> ?_,q⟩
 .have h:lo+((0:Nat):Int)*1=lo:=by simp
  have i:(((hi-lo).toNat:Nat):Int)-((0:Nat):Int)=Builtin.Range.rangeSize lo hi 1:=by rw[rangeSize_one];split <;> omega
  show IsRangeIter _ _ (lo+((0:Nat):Int)*1) ((((hi-lo).toNat:Nat):Int)-((0:Nat):Int)) 1;rw[h,i];exact ABM _ rfl
 .have e:b=(s.heap.push {cls:= .type "range",data:= .fields #[.int lo t, .int hi u, .int 1 v] }).objs.size:=by simpa using hb
  subst e;exact d.fpOk (ABH _) (d.hok.fresh (ABH _))
def t5 (a:TA):TI:=λb H R=>a b H λvs c=>∃j:Int,vs= [.int j] /\ -(2^62)<=j/\j<2^62/\R (sP 0 j.toNat) c
def t6 (a:TA):TI:=λb H R=>a b H λvs c=>∃i j:Int,vs= [.int i, .int j] /\(-(2^62)<=i/\i<2^62/\ -(2^62)<=j/\j<2^62)/\R (sP i (j-i).toNat) c
def cZ {a:fe}{d:TA}{p b:Pos}(f:Gl X "range")(g:X.mg "range" =none)(ha:PA X [a] d)(hs:starEach [a] X.env= [(false,eval a X.env)] :=by rfl):PI X tg (.Call (.Name "range" p) [a] [] b) (t5 d):=by
 intro Sb s i H R I h;refine Call_ (F1 I f g boot_range (ADO (Be (ha b Sb s i H _ I h) λn o ⟨vs,u,k,r1,c⟩=> ?_) hs rfl));obtain⟨j,e,c,l,q⟩:=c;subst e;cases r1 with
 | cons r m=> cases m;obtain⟨t,rfl⟩:=r;exact call_range_1 (WS k (by omega) (by omega) c l (by simpa using q))
def cg {a b:fe}{g:TA}{p c:Pos}(l:Gl X "range")(m:X.mg "range" =none)(ha:PA X [a,b] g)(hs:starEach [a,b] X.env= [(false,eval a X.env),(false,eval b X.env)] :=by rfl)(k:starEach [b] X.env= [(false,eval b X.env)] :=by rfl):PI X tg (.Call (.Name "range" p) [a,b] [] c) (t6 g):=by
 intro Sb s n H R I h;refine Call_ (F1 I l m boot_range (ADO (Be (ha c Sb s n H _ I h) λy z ⟨vs,A,o,r1,d⟩=> ?_) (by rw[hs,k]) (by rw[k];rfl)));obtain⟨i,j,e,⟨d,u,v,w⟩,q⟩:=d;subst e;cases r1 with
 | cons r f=>
   cases f with
   | cons x f=> cases f;obtain⟨t,rfl⟩:=r;obtain⟨t',rfl⟩:=x;exact call_range_2 (WS o d u v w q)
def vE (f:TI)(g:TG)(h:TS):TS:=λD a H=>f a H λJ j=>∃W:Nat->Nat->St->Hp->Prop,(∃m,W 0 m a j)/\∀i m a H,W i m a H->
 (J.stop i H/\D.nx a H)\/(J.go i H/\∃N:St->Hp->Prop,(∀b c,N b c->∃e,e<m/\W (i+1) e b c)/\∀x c,J.yld i H x c->g x a c λd k=>h {D with nx:=N,ct:=N,bk:=D.nx} d k)
def F2 (a:kj kd)(h:Sr):kj (kd×Obj):=a.filterMap λb=>(h.get? b).map λo=>(b,o)
def CG {a:kj kd}{h:Sr}{b:kd}{o:Obj}(hb:b∈a)(e:h.get? b=some o):(b,o)∈F2 a h:=List.mem_filterMap.mpr ⟨b,hb,by rw[e];rfl⟩
def cO {a:kj kd}{h:Sr}{p:kd×Obj}(hp:p∈F2 a h):p.1∈a/\h.get? p.1=some p.2:=by
 obtain⟨b,hb,e⟩:=List.mem_filterMap.mp hp;cases q:h.get? b with
 | none=>rw[q] at e;cases e
 | some o=> rw[q] at e;have e':(b,o)=p:=ABW e;subst e';exact⟨hb,q⟩
def Inv.pinned {Sb:kj (kd×Obj)}{c:St}{H:Hp}{s:kf}{a:kj kd}(I:Inv X Sb c H s)(f:∀b∈a,EM X Sb H b)(g:∀b∈a,∃o,s.heap.get? b=some o/\∀v,o.data≠ .cell v):Inv X (Sb++F2 a s.heap) c H s:=
 I.pins_of λp hp=>(ABI.mp hp).elim (λz=>I.pin p (ABY _ z)) λz=>by obtain⟨hb,e⟩:=cO z;obtain⟨f0,f1,f2,_⟩:=f p.1 hb;obtain⟨o,e',d⟩:=g p.1 hb;rw[e] at e';cases e';exact⟨e,f0,f1,f2,d⟩
def Inv.unpinned {Sb b:kj (kd×Obj)}{a:St}{H:Hp}{s:kf}(I:Inv X (Sb++b) a H s):Inv X Sb a H s:=I.pins_of λp hp=>I.pin p (ABY _ (AEW _ hp))
def g9 {iter:fe}{body:kj Stmt}{S:TI}{g:TG}{U:TS}{K:Pos}(hp:PassesOwn (model X.prog X.w) X.A X.env X.xe)(hc:X.calm=true)(hi:PI X tg iter S)(hg:PG X tg g)(hb:ZF X body U)(hs:∀x,foldedSetIterable iter X.env x=pure x:=by intro _;rfl):PS X (.For tg iter body [] K) (vE S g U):=by
 intro Sb s Y H D I h;refine wpAny_For (Be (hi Sb s Y H _ I h) λv s1 h1=>Be h1 λitv s2 h2=> ?_) hs;obtain⟨it,B,tn,J,H2,e,I2,T,L,f2,W,⟨m0,w0⟩,turn⟩:=h2;subst e;have c:∀{t:Hp},(∀b∈B,t b=none)->∀b∈B,EM X Sb t b:=λhn b hb=>⟨hn b hb,(f2 b hb).2⟩;refine codeAny_forLoop_any (λn Z=>∃i j t,Inv X Sb j t Z/\tn i Z.heap/\(∀b∈B,t b=none)/\W i n j t) ?_ m0 ⟨0,Y,H2,I2,L,λb hb=>(f2 b hb).1,w0⟩;rintro n s3 ⟨i,k,G,I3,C,E,w3⟩;rcases turn i n k G w3 with⟨stop,qn⟩|⟨go,N,hN,step⟩
 .refine ADN hp (Be (T.done X rfl rfl rfl hc i Sb s3 k G X.xe I3 (c E) C stop) λr s4 ⟨M,I4⟩=> ?_);subst M;exact AEX ⟨k,G,I4,qn⟩
 .refine ADN hp (Be (T.item X rfl rfl rfl hc i Sb s3 k G X.xe I3 (c E) C go) λr s4 ⟨u,M,h4⟩=> ?_);subst M;refine ADN hp (Be h4 λ_ s5 ⟨x,H5,I5,r5,y5,z,O⟩=> ?_);have P:=I5.pinned (c O) (T.obj _ _ z);refine ADN hp (Be (hg _ s5 k H5 x u _ P r5 (step x H5 y5)) λ_ s6 ⟨Q,H6,I6,q6⟩=> ?_);refine ADN hp (Be (hb _ s6 Q H6 _ I6 q6) λf R y=> ?_);have again:∀{a:St} {l:Hp},Inv X (Sb++F2 B s5.heap) a l R->N a l->∃m,m<n/\∃i j t,Inv X Sb j t R/\tn i R.heap/\(∀b∈B,t b=none)/\W i m j t:=λ{a l} p F=>by obtain⟨m',hm,w7⟩:=hN a l F;refine⟨m',hm,i+1,a,l,p.unpinned,T.keep _ _ _ z λb hb o e=>(p.pin (b,o) (ABY _ (ABY _ (CG hb e)))).1,λb hb=> ?_,w7⟩;obtain⟨o,e,d⟩:=T.obj _ _ z b hb;exact(p.pin (b,o) (ABY _ (ABY _ (CG hb e)))).2.1
  cases f with
  | next=>obtain⟨a,l,p,F⟩:=y;exact again p F
  | cont=>obtain⟨a,l,p,F⟩:=y;exact again p F
  | brk=>obtain⟨a,l,p,y⟩:=y;exact⟨a,l,p.unpinned,y⟩
  | ret v=>obtain⟨x7,a,l,p,r7,y⟩:=y;exact⟨x7,a,l,p.unpinned,r7,y⟩
end
abbrev R2:=V->V->Hp->VK->Prop
def Em (X:Cx)(f:ki->ki->Sem ki)(r:R2):Prop:=
 ∀(Sb:kj (kd×Obj)) (s:kf) (a:St) (H:Hp) (x y:V) (v u:ki) (Q:VK),Inv X Sb a H s->RelV x v->RelV y u->r x y H Q->
  wpAny (model X.prog X.w) X.A (f v u) (EP X Sb a Q) X.xe s
def wg (X:Cx)(f:ki->Sem ki)(r:V->Hp->VK->Prop):Prop:=
 ∀(Sb:kj (kd×Obj)) (s:kf) (a:St) (H:Hp) (x:V) (v:ki) (Q:VK),Inv X Sb a H s->RelV x v->r x H Q->
  wpAny (model X.prog X.w) X.A (f v) (EP X Sb a Q) X.xe s
def Cv (X:Cx)(f:ki)(r:kj V->Hp->VK->Prop):Prop:=
 ∀(Sb:kj (kd×Obj)) (s:kf) (a:St) (H:Hp) (xs:kj V) (b:kj ki) (Q:VK),Inv X Sb a H s->A3 xs b->r xs H Q->
  wpAny (model X.prog X.w) X.A (call f b) (EP X Sb a Q) X.xe s
def we (X:Cx)(r:V->Hp->(da->Hp->Prop)->Prop):Prop:=
 ∀(Sb:kj (kd×Obj)) (s:kf) (a:St) (H:Hp) (x:V) (v:ki) (Q:da->Hp->Prop),Inv X Sb a H s->RelV x v->r x H Q->
  wpAny (model X.prog X.w) X.A (truthy v) (TP X Sb a Q) X.xe s
def mN (r:R2)(b c:TE):TE:=λa H Q=>b a H λx d=>c a d λy e=>r x y e Q
def tUn (r:V->Hp->VK->Prop)(a:TE):TE:=λb H Q=>a b H λx c=>r x c Q
def rI (C:Int->Int->Prop)(g:Int->Int->V):R2:=λx y H Q=>∃i j,x= .int i/\y= .int j/\C i j/\Q (g i j) H
def Ry (g:Int->Int->V):R2:=λx y H Q=>∃i j,x= .int i/\y= .int j/\Q (g i j) H
def rU (g:Int->V):V->Hp->VK->Prop:=λx H Q=>∃i,x= .int i/\Q (g i) H
section
variable {X:Cx}{a b c:fe}{ta tb tc:TE}{pos:Pos}
def oO (ha:PE X a ta)(hb:PE X b tb){Sb:kj (kd×Obj)}{s:kf}{d:St}{H:Hp}{R:V->V->Hp->Prop}(I:Inv X Sb d H s)(h:ta d H λx k=>tb d k λy e=>R x y e){Q:ki->kf->Prop}{f:ki->ki->Sem ki}(l:∀v u j x y e,Inv X Sb d e j->RelV x v->RelV y u->R x y e->wpAny (model X.prog X.w) X.A (f v u) Q X.xe j):wpAny (model X.prog X.w) X.A (eval a X.env) (λv g=>wpAny (model X.prog X.w) X.A (eval b X.env) (λu i=>wpAny (model X.prog X.w) X.A (f v u) Q X.xe i) X.xe g) X.xe s:=by refine Be (ha Sb s d H _ I h) λv m ⟨x,k,n,r1,o⟩=> ?_;refine Be (hb Sb m d k _ n o) λu j ⟨y,e,p,r2,r⟩=> ?_;exact l v u j x y e p r1 r2 r
def CN {op:Operator}{r:R2}(d:Em X (binaryOp op) r)(ha:PE X a ta)(hb:PE X b tb):PE X (.BinOp a op b pos) (mN r ta tb):=by intro Sb s e H Q I h;exact wpAny_BinOp (oO ha hb I h λv u f x y g i j k q=>d Sb f e g x y v u Q i j k q)
def ud {op:UnaryOp}{r:V->Hp->VK->Prop}(e:wg X (unaryOp op) r)(ha:PE X a ta):PE X (.UnaryOp op a pos) (tUn r ta):=by intro Sb s d H Q I h;exact UnaryOp_ (Be (ha Sb s d H _ I h) λv f ⟨x,g,i,r1,j⟩=>e Sb f d g x v Q i r1 j)
def p7 {f:ki->ki->Sem ki}{C:Int->Int->Prop}{g:Int->Int->Int}(rule:∀(i j:Int) (t u:Tok) (s:kf) (Q:ki->kf->Prop) (E:ki->kf->Prop),C i j->Q (.int (g i j) s.toks) {s with toks:=s.toks+1}->wpAny (model X.prog X.w) X.A (f (.int i t) (.int j u)) Q E s):Em X f (rI C λi j=> .int (g i j)):=by intro Sb s k H x y v u Q I d e h;obtain⟨i,j,rfl,rfl,hc,q⟩:=h;obtain⟨t,rfl⟩:=d;obtain⟨t',rfl⟩:=e;exact rule i j t t' s _ _ hc ⟨.int (g i j),H,I.tok _,⟨_,rfl⟩,q⟩
def uU {f:ki->ki->Sem ki}{g:Int->Int->Int}(rule:∀(i j:Int) (t u:Tok) (s:kf) (Q:ki->kf->Prop) (E:ki->kf->Prop),Q (.int (g i j) s.toks) {s with toks:=s.toks+1}->wpAny (model X.prog X.w) X.A (f (.int i t) (.int j u)) Q E s):Em X f (Ry λi j=> .int (g i j)):=by intro Sb s k H x y v u Q I d e h;obtain⟨i,j,rfl,rfl,q⟩:=h;obtain⟨t,rfl⟩:=d;obtain⟨t',rfl⟩:=e;exact rule i j t t' s _ _ ⟨.int (g i j),H,I.tok _,⟨_,rfl⟩,q⟩
def p6 {f:ki->ki->Sem ki}{g:Int->Int->da}(rule:∀(i j:Int) (t u:Tok) (s:kf) (Q:ki->kf->Prop) (E:ki->kf->Prop),Q (.bool (g i j)) s->wpAny (model X.prog X.w) X.A (f (.int i t) (.int j u)) Q E s):Em X f (Ry λi j=> .bl (g i j)):=by intro Sb s k H x y v u Q I d e h;obtain⟨i,j,rfl,rfl,q⟩:=h;obtain⟨t,rfl⟩:=d;obtain⟨t',rfl⟩:=e;exact rule i j t t' s _ _ ⟨.bl (g i j),H,I,rfl,q⟩
def wJ (i j:Int):Prop:=0<=j/\j<=1000000/\i.natAbs<2^64
def Oi (i j:Int):Prop:=(-(2^64)<i/\i<2^64)\/(-(2^64)<j/\j<2^64)
def Oi.ok {i j:Int}(h:Oi i j):IntMulOk i j:=by
 rcases h with⟨h1,h2⟩|⟨h1,h2⟩
 .exact .of_left (intBits_le_64 h1 h2)
 .exact .of_right (intBits_le_64 h1 h2)
def Jt:Em X (binaryOp .Add) (Ry λi j=> .int (i+j)):=uU λ_ _ _ _ _ _ _ q=>add_int q
def YQ:Em X (binaryOp .Sub) (Ry λi j=> .int (i-j)):=uU λ_ _ _ _ _ _ _ q=>sub_int q
def Gr:Em X (binaryOp .Mod) (rI (λ_ j=>0<j) λi j=> .int (i % j)):=p7 λi j _ _ _ _ _ hc q=>by have h1:(0:Int)<j:=hc;exact mod_int' (by omega) (by rw[AEY i (by omega)];exact q)
def lP:Em X (binaryOp .Mod) (rI (λ_ j=>j≠0) λi j=> .int (i.fmod j)):=p7 λ_ _ _ _ _ _ _ hc q=>mod_int' hc q
def qC:Em X (binaryOp .Pow) (rI wJ λi j=> .int (i^j.toNat)):=p7 λ_ _ _ _ _ _ _ hc q=>pow_int_small hc.1 hc.2.1 hc.2.2 q
def unI {f:ki->Sem ki}{g:Int->Int}(rule:∀(i:Int) (t:Tok) (s:kf) (Q:ki->kf->Prop) (E:ki->kf->Prop),Q (.int (g i) s.toks) {s with toks:=s.toks+1}->wpAny (model X.prog X.w) X.A (f (.int i t)) Q E s):wg X f (rU λi=> .int (g i)):=by intro Sb s e H x v Q I d h;obtain⟨i,rfl,q⟩:=h;obtain⟨t,rfl⟩:=d;exact rule i t s _ _ ⟨.int (g i),H,I.tok _,⟨_,rfl⟩,q⟩
def qz:wg X (unaryOp .USub) (rU λi=> .int (-i)):=unI λ_ _ _ _ _ q=>neg_int q
end
def l8:V->V->da
 | .non, .non=>true | .non, .int _=>true | .int _, .non=>true | .non, .bl _=>true | .bl _, .non=>true | .non, .str _=>true | .str _, .non=>true
 | .int _, .int _=>true | .bl _, .bl _=>true | .str _, .str _=>true | .byt _, .byt _=>true
 | .int _, .str _=>true | .str _, .int _=>true | .bl _, .str _=>true | .str _, .bl _=>true
 | _,_=>false
def rEq:R2:=λx y H Q=>l8 x y=true/\Q (.bl (decide (x=y))) H
def rNe:R2:=λx y H Q=>l8 x y=true/\Q (.bl (!decide (x=y))) H
def ZQ {i j:Int}:decide (V.int i=V.int j)=(i==j):=by rw[AB6];simp
def e7 {i j:da}:decide (V.bl i=V.bl j)=(i==j):=by rw[AB6];simp
def ZS {i j:Str}:decide (V.str i=V.str j)=(i==j):=by rw[AB6];simp
def ZP {i j:Array UInt8}:decide (V.byt i=V.byt j)=(i.toList==j.toList):=by rw[AB6];cases i;cases j;simp
section
variable {X:Cx}{a b c:fe}{ta tb tc:TE}{pos:Pos}
def BG {Sb:kj (kd×Obj)}{d:St}{H:Hp}{s:kf}{Q:VK}{k f:da}(I:Inv X Sb d H s)(q:Q (.bl k) H)(e:k=f):EP X Sb d Q (.bool f) s:=by subst e;exact⟨.bl k,H,I,rfl,q⟩
def uV:Em X (compareOp .Eq) rEq:=by
 intro Sb s f H x y v u Q I e d h;obtain⟨hs,q⟩:=h;cases x with
 | non=>
   cases e;cases y with
   | non=>cases d;exact PySem.EqNone.eq_none_none (BG I q (by simp))
   | bl j=>cases d;exact PySem.EqNone.eq_none_bool (BG I q (by simp))
   | int j=>obtain⟨t',rfl⟩:=d;exact PySem.EqNone.eq_none_int (BG I q (by simp))
   | str j=>obtain⟨t',rfl⟩:=d;exact PySem.EqNone.eq_none_str (BG I q (by simp))
   | _=>exact absurd (show false=true from hs) ABO
 | bl i=>
   cases e;cases y with
   | non=>cases d;exact PySem.EqNone.eq_bool_none (BG I q (by simp))
   | bl j=>cases d;exact eq_bool (BG I q e7)
   | str j=>obtain⟨t',rfl⟩:=d;exact PySem.EqMixed.eq_bool_str (BG I q (by simp))
   | _=>exact absurd (show false=true from hs) ABO
 | int i=>
   obtain⟨t,rfl⟩:=e;cases y with
   | non=>cases d;exact PySem.EqNone.eq_int_none (BG I q (by simp))
   | int j=>obtain⟨t',rfl⟩:=d;exact eq_int (BG I q ZQ)
   | str j=>obtain⟨t',rfl⟩:=d;exact PySem.EqMixed.eq_int_str (BG I q (by simp))
   | _=>exact absurd (show false=true from hs) ABO
 | str i=>
   obtain⟨t,rfl⟩:=e;cases y with
   | non=>cases d;exact PySem.EqNone.eq_str_none (BG I q (by simp))
   | bl j=>cases d;exact PySem.EqMixed.eq_str_bool (BG I q (by simp))
   | int j=>obtain⟨t',rfl⟩:=d;exact PySem.EqMixed.eq_str_int (BG I q (by simp))
   | str j=>obtain⟨t',rfl⟩:=d;exact eq_str (BG I q ZS)
   | _=>exact absurd (show false=true from hs) ABO
 | byt i=>
   obtain⟨t,rfl⟩:=e;cases y with
   | byt j=>obtain⟨t',rfl⟩:=d;exact PySem.W.eq_bytes (BG I q ZP)
   | _=>exact absurd (show false=true from hs) ABO
 | _=>cases y <;> exact absurd (show false=true from hs) ABO
def uW:Em X (compareOp .NotEq) rNe:=by
 intro Sb s f H x y v u Q I e d h;obtain⟨hs,q⟩:=h;cases x with
 | non=>
   cases e;cases y with
   | non=>cases d;exact PySem.EqNone.ne_none_none (BG I q (by simp))
   | bl j=>cases d;exact PySem.EqNone.ne_none_bool (BG I q (by simp))
   | int j=>obtain⟨t',rfl⟩:=d;exact PySem.EqNone.ne_none_int (BG I q (by simp))
   | str j=>obtain⟨t',rfl⟩:=d;exact PySem.EqNone.ne_none_str (BG I q (by simp))
   | _=>exact absurd (show false=true from hs) ABO
 | bl i=>
   cases e;cases y with
   | non=>cases d;exact PySem.EqNone.ne_bool_none (BG I q (by simp))
   | bl j=>cases d;exact ne_bool (BG I q (congrArg not e7))
   | str j=>obtain⟨t',rfl⟩:=d;exact PySem.EqMixed.ne_bool_str (BG I q (by simp))
   | _=>exact absurd (show false=true from hs) ABO
 | int i=>
   obtain⟨t,rfl⟩:=e;cases y with
   | non=>cases d;exact PySem.EqNone.ne_int_none (BG I q (by simp))
   | int j=>obtain⟨t',rfl⟩:=d;exact ne_int (BG I q (congrArg not ZQ))
   | str j=>obtain⟨t',rfl⟩:=d;exact PySem.EqMixed.ne_int_str (BG I q (by simp))
   | _=>exact absurd (show false=true from hs) ABO
 | str i=>
   obtain⟨t,rfl⟩:=e;cases y with
   | non=>cases d;exact PySem.EqNone.ne_str_none (BG I q (by simp))
   | bl j=>cases d;exact PySem.EqMixed.ne_str_bool (BG I q (by simp))
   | int j=>obtain⟨t',rfl⟩:=d;exact PySem.EqMixed.ne_str_int (BG I q (by simp))
   | str j=>obtain⟨t',rfl⟩:=d;exact ne_str (BG I q (congrArg not ZS))
   | _=>exact absurd (show false=true from hs) ABO
 | byt i=>
   obtain⟨t,rfl⟩:=e;cases y with
   | byt j=>obtain⟨t',rfl⟩:=d;exact PySem.W.ne_bytes (BG I q (congrArg not ZP))
   | _=>exact absurd (show false=true from hs) ABO
 | _=>cases y <;> exact absurd (show false=true from hs) ABO
def nJ:Em X (compareOp .Lt) (Ry λi j=> .bl (decide (i<j))):=p6 λ_ _ _ _ _ _ _ q=>lt_int q
def nI:Em X (compareOp .Gt) (Ry λi j=> .bl (decide (j<i))):=p6 λ_ _ _ _ _ _ _ q=>gt_int q
def nH:Em X (compareOp .GtE) (Ry λi j=> .bl (decide (j<=i))):=p6 λ_ _ _ _ _ _ _ q=>ge_int q
def qA:Em X (compareOp .Is) (λx y H Q=>y= .non/\Q (.bl (decide (x= .non))) H):=by
 intro Sb s f H x y v u Q I d e h;obtain⟨rfl,q⟩:=h;cases e;refine is_none_gen (BG I q ?_);cases x <;> first
  | (cases d;rfl)
  | (obtain⟨t,rfl⟩:=d;rfl)
def Z0:Em X (compareOp .IsNot) (λx y H Q=>y= .non/\Q (.bl (!decide (x= .non))) H):=by
 intro Sb s f H x y v u Q I d e h;obtain⟨rfl,q⟩:=h;cases e;refine isnot_none_gen (BG I q ?_);cases x <;> first
  | (cases d;rfl)
  | (obtain⟨t,rfl⟩:=d;rfl)
def Em.or {f:ki->ki->Sem ki}{r d:R2}(h:Em X f r)(h':Em X f d):Em X f (λx y H Q=>r x y H Q\/d x y H Q):=by
 intro Sb s e H x y v u Q I g i q;rcases q with q|q
 .exact h Sb s e H x y v u Q I g i q
 .exact h' Sb s e H x y v u Q I g i q
def Bx (b:fe){op:CmpOp}(h:op≠ .In:=by decide)(h2:op≠ .NotIn:=by decide):behindInMarks op b=false:=by
 have d:(op==CmpOp.In)=false:=by cases op <;> first | rfl|exact absurd rfl h
 have e:(op==CmpOp.NotIn)=false:=by cases op <;> first | rfl|exact absurd rfl h2
 cases b <;> simp[behindInMarks,d,e]
def Z7 {op:CmpOp}{r:R2}(d:Em X (compareOp op) r)(ha:PE X a ta)(hb:PE X b tb)(e:behindInMarks op b=false):PE X (.Compare a [op] [b] pos) (mN r ta tb):=by intro Sb s f H Q I h;exact wpAny_Compare1 (oO ha hb I h λv u g x y i j k l q=>d Sb g f i x y v u Q j k l q) e
def iw (t:TE):TT:=λd H Q=>t d H λx e=>∃k,x= .bl k/\Q k e
def OH {op:CmpOp}{r:R2}(f:Em X (compareOp op) r)(ha:PE X a ta)(hb:PE X b tb)(g:behindInMarks op b=false):PT X (.Compare a [op] [b] pos) (iw (mN r ta tb)):=by
 intro Sb s d H Q I h;refine wpAny_isTrue_Compare1 (Be (ha Sb s d H _ I h) λv i ⟨x,j,l,r1,m⟩=>Be (hb Sb i d j _ l m) λu n ⟨y,o,p,r2,t⟩=>
  Be (f Sb n d o x y v u _ p r1 r2 t) λc D ⟨z,w,A,B,k,e,C⟩=> ?_) g
 subst e;cases B;exact ADL ⟨w,A,C⟩
def sX (K:AAG)(x:V)(H:Hp)(k:da):Prop:=
 match x with
 | .non=>k=false
 | .bl b=>k=b
 | .int i=>k=(i != 0)
 | .str y=>y.length<=sizeLine/\k=((y.length:Int) != 0)
 | .byt y=>y.size<=sizeLine/\k=((y.size:Int) != 0)
 | .ref p=>(∃xs,FY K H p xs/\k= !xs.isEmpty)\/(∃xs,Ky K H p xs/\k= !xs.isEmpty)\/∃d,H p=some (.dK d)/\k= !d.isEmpty
 | _=>False
def Xq {e:Type}{d:kj (e×V)}{vs:kj (e×ki)}(r:KV d vs):(!vs.isEmpty)= !d.isEmpty:=by cases r <;> rfl
def Pb {xs:kj V}{d:kj ki}(r:A3 xs d):(!d.toArray.isEmpty)= !xs.isEmpty:=by cases r <;> simp
def MX:(sizeLine:Nat)<2^63:=by rw[sizeLine_eq];decide
def qu:we X (λx H Q=>∃k,sX X.K x H k/\Q k H):=by
 intro Sb s o H x v Q I f h;obtain⟨k,e,q⟩:=h;have hl:=MX;have hs:sizeLine=16777216:=sizeLine_eq;cases x with
 | non=> cases f;have e':k=false:=e;subst e';exact truthy_none ⟨H,I,q⟩
 | bl b=> cases f;have e':k=b:=e;subst e';exact ADL ⟨H,I,q⟩
 | int i=> obtain⟨t,rfl⟩:=f;have e':k=(i != 0):=e;subst e';exact PySem.P.truthy_int ⟨H,I,q⟩
 | str y=> obtain⟨t,rfl⟩:=f;obtain⟨hy,e'⟩:y.length<=sizeLine/\k=((y.length:Int) != 0):=e;subst e';exact PySem.P.truthy_str (by omega) ⟨H,I.tok _,q⟩
 | byt y=> obtain⟨t,rfl⟩:=f;obtain⟨hy,e'⟩:y.size<=sizeLine/\k=((y.size:Int) != 0):=e;subst e';exact PySem.W.truthy_bytes (by omega) ⟨H,I.tok _,q⟩
 | ref p=>
   cases f;have e':(∃xs,FY X.K H p xs/\k= !xs.isEmpty)\/(∃xs,Ky X.K H p xs/\k= !xs.isEmpty)\/∃d,H p=some (.dK d)/\k= !d.isEmpty:=e;rcases e' with⟨xs,hx,e'⟩|⟨xs,hx,e'⟩|⟨d,hx,e'⟩
   .subst e';obtain⟨g,r,j,hz⟩:=I.list hx;have l:=r.length;exact wpAny_truthy_list j.isList (by simp only[ABP];omega) ⟨H,I.tok _,by rw[Pb r];exact q⟩
   .subst e';obtain⟨g,r,j,hz⟩:=I.tuple hx;have l:=r.length;exact truthy_tuple j (by simp only[ABP];omega) ⟨H,I.tok _,by rw[Pb r];exact q⟩
   .subst e';obtain⟨hz,n,vs,r,m⟩:d.length<=sizeLine/\(p==sysModules)=false/\∃vs,KV d vs/\s.heap.DictOf (Tq X.prog X.w) p vs:=I.hok p _ hx;have l:d.length=vs.length:=ADt r;exact wpAny_truthy_dict n m (by omega) ⟨H,I.tok _,by rw[Xq r];exact q⟩
 | _=>exact(show False from e).elim
def hI (ha:PE X a ta)(he:∀whole,isTrue a X.env whole=(do let v <-whole;standAt a.pos;holding [v] (truthy v))):
 PT X a (λd H Q=>ta d H λx e=>∃k,sX X.K x e k/\Q k e):=by intro Sb s d H Q I h;exact isTrue_plain (Be (ha Sb s d H _ I h) λv f ⟨x,g,i,r1,j⟩=>qu Sb f d g x v Q i r1 j) (he _)
def vals1 {x:V}{d:kj ki}(r:A3 [x] d):∃u,d= [u] /\RelV x u:=by
 cases r with
 | cons r1 r2=>cases r2;exact⟨_,rfl,r1⟩
def vals2 {x y:V}{d:kj ki}(r:A3 [x,y] d):∃u e,d= [u,e] /\RelV x u/\RelV y e:=by
 cases r with
 | cons r1 r2=>
   cases r2 with
   | cons f g=>cases g;exact⟨_,_,rfl,r1,f⟩
def O8:Cv X (.builtin "abs") (λxs H Q=>∃i,xs= [.int i] /\Q (.int (if i<0 then -i else i)) H):=by intro Sb s d H xs e Q I r h;obtain⟨i,rfl,q⟩:=h;obtain⟨u,rfl,t,rfl⟩:=vals1 r;exact call_abs_int λu f=>⟨.int (if i<0 then -i else i),H,I.tok _,⟨_,rfl⟩,q⟩
def bB (hc:X.calm=true):Cv X (.builtin "min") (λxs H Q=>∃i j,xs= [.int i, .int j] /\Q (.int (if j<i then j else i)) H):=by
 intro Sb s d H xs e Q I r h;obtain⟨i,j,rfl,q⟩:=h;obtain⟨u,f,rfl,⟨t,rfl⟩,⟨t',rfl⟩⟩:=vals2 r;refine min_two_ints (I.ok.hd hc) λh' g k=>⟨_,H,I.kept k, ?_,q⟩;by_cases hj:j<i
 .rw [AAJ hj,AAJ hj];exact⟨_,rfl⟩
 .rw [AAH hj,AAH hj];exact⟨_,rfl⟩
def Rf:Cv X (.type "int") (λxs H Q=>(∃i,xs= [.int i] /\Q (.int i) H)\/∃k,xs= [.bl k] /\Q (.int (if k then 1 else 0)) H):=by
 intro Sb s d H xs e Q I r h;rcases h with⟨i,rfl,q⟩|⟨k,rfl,q⟩
 .obtain ⟨u,rfl,t,rfl⟩:=vals1 r;exact call_int_int ⟨.int i,H,I,⟨_,rfl⟩,q⟩
 .obtain ⟨u,rfl,r1⟩:=vals1 r;cases r1;exact call_int_bool ⟨.int (if k then 1 else 0),H,I.tok _,⟨_,rfl⟩,q⟩
end
structure oD (h:Heap) (x dx C:Addr) (mA:Str->Option Value):Prop where
 obj:h.get? x=some (PySem.W.instObj C dx)
 ns:h.Ns1 dx mA
 ne:dx≠x
def cF {h:Sr}{b:kd}{c:Str->kc ki}(n:h.Ns1 b c):∃d,h.get? b=some d/\∀name,PySem.W.lookIn name d=some (c name):=by
 obtain⟨o,es,ep,f,hd,hk,_,g⟩:=n;refine⟨o,f,λname=> ?_⟩;have e:=g name;unfold nsFind findBy at e;rw[<-Array.find?_toList] at e;unfold PySem.W.lookIn;rw[hd];dsimp only;split
 .rename_i y q;rw[q] at e;exact congrArg some e
 .rename_i q;rw[q] at e;have a:es.toList.any (·.refKey)=false:=by rw[AEZ];intro y hy;obtain⟨z,t,i⟩:=hk y (Array.mem_toList_iff.mp hy);simp[DictEntry.refKey,i]
  have j:¬es.toList.any (·.refKey)=true:=by rw[a];exact ABO
  rw[AAH j];exact congrArg some e
def oD.look {h:Sr}{x b C:kd}{c:Str->kc ki}(I:oD h x b C c):∃a,PySem.W.InstAt h x (PySem.W.instObj C b) C (some a)/\∀name,PySem.W.lookIn name a=some (c name):=
 let ⟨a,d,hl⟩:=cF I.ns
 ⟨a,⟨I.obj,rfl,rfl,d⟩,hl⟩
section
variable {prog:Wf}{w:Tb}{A:Sl}{E:ki->kf->Prop}{s:kf}{K:AAG}{x dx C f:kd}{mA:Str->kc ki}{name:Str}{v:ki}
def Gi {expr:da}{Q:ki->kf->Prop}(X:K.In s.heap)(I:oD s.heap x dx C mA)(a:PySem.W.plainGet K C name=true)(b:PySem.W.hasDictIn K C=true)(ha:PySem.W.findIn K (.ref C) name=some none)(hv:mA name=some v)(c:PySem.W.handedIn v=true)(h:Q v {s with toks:=s.toks+1}):wpAny (model prog w) A (getAttr (.ref x) name expr) Q E s:=by obtain⟨d,J,hl⟩:=I.look;exact PySem.W.get_value X J (PySem.W.plainGet_of a).1 (PySem.W.findObj_own b ha rfl (by rw[hl,hv])) c h
end
def Nb.some_of {v:V}{o:kc ki}(r:Nb (some v) o):∃u,o=some u/\RelV v u:=by
 cases o with
 | none=>exact(show False from r).elim
 | some u=>exact⟨u,rfl,r⟩
structure wK (K:AAG) (C:Addr):Prop where
 pg:PySem.W.plainGet K C Str.empty=true
 hd:PySem.W.hasDictIn K C=true
 po:PySem.W.plainOver K C=true
 sa:PySem.W.findIn K (.ref C) "__setattr__" =some (some (.builtin "object.__setattr__"))
def wK.get {K:AAG}{C:kd}(c:wK K C)(f:Str):PySem.W.plainGet K C f=true:=c.pg
structure Con (K:AAG) (C:Addr) (f:Str) (v:V) (u:Value):Prop where
 at_:PySem.W.findIn K (.ref C) f=some (some u)
 rel:RelV v u
 get:PySem.W.specialIn K u "__get__" =some none
 cp:PySem.W.copiedNames.contains f=false
structure ABh (K:AAG) (C:Addr) (m:Str) (f:Addr):Prop where
 at_:PySem.W.findIn K (.ref C) m=some (some (.ref f))
 fn:PySem.W.isFn K (.ref f)=true
 kp:PySem.W.keepIn K (.ref f)=true
section
variable {X:Cx}{Sb:kj (kd×Obj)}{σ:St}{H:Hp}{s:kf}{a C dx:kd}{fs:kj (Str×V)}{f:Str}{v:V}{A:Sl}{E:ki->kf->Prop}
def Inv.made (I:Inv X Sb σ H s):Inv X Sb σ (upd (upd H s.heap.objs.size (.own (s.heap.objs.size+1))) (s.heap.objs.size+1) (.ins C s.heap.objs.size [])) {s with heap:=(s.heap.push PySem.W.emptyDict).push (PySem.W.instObj C s.heap.objs.size)}:=by
 have c:(s.heap.push PySem.W.emptyDict).get? s.heap.objs.size=some PySem.W.emptyDict:=ABM s.heap rfl;have g:((s.heap.push PySem.W.emptyDict).push (PySem.W.instObj C s.heap.objs.size)).get? (s.heap.objs.size+1)=some (PySem.W.instObj C s.heap.objs.size):=by
  have:=ABM (s.heap.push PySem.W.emptyDict) (o:=PySem.W.instObj C s.heap.objs.size) rfl
  rwa [ACI] at this
 have h:(s.heap.push PySem.W.emptyDict).Ns s.heap.objs.size (λ_=>none):=⟨PySem.W.emptyDict, #[],_,c,rfl,(λe he=>absurd he (by simp)),λ_=>rfl⟩;have i:=I.laid (a:=s.heap.objs.size) (o:= .own (s.heap.objs.size+1)) (h':=s.heap.push PySem.W.emptyDict) (t':=s.toks) (λb u q=>ABF _ q) (ABH _) ⟨_,c⟩;refine i.laid (a:=s.heap.objs.size+1) (o:= .ins C s.heap.objs.size []) (t':=s.toks) (λb u q=>ABF _ q) (Nat.le_of_eq (ACI _ _)) ?_;have d:s.heap.objs.size≠s.heap.objs.size+1:=ABK (Nat.lt_succ_self _);refine⟨by rw[Ai d,Al],AB7 _,d,g,λ_=>none,(Heap.Ns1.of_empty h).at λo q=>ABF _ q,λ_=>True.intro,λy hy=>absurd rfl hy⟩
end
section
variable {X:Cx}{Sb:kj (kd×Obj)}{σ:St}{H:Hp}{s:kf}{A:Sl}{E:ki->kf->Prop}{Q:ki->kf->Prop}{c:ki}{b:da}
inductive O0 (K:AAG) (H:Hp):V->Value->Prop where
 | non:O0 K H .non (.type "NoneType")
 | bl (x:Bool):O0 K H (.bl x) (.type "bool")
 | int (i:Int):O0 K H (.int i) (.type "int")
 | str (x:Str):O0 K H (.str x) (.type "str")
 | flt (x:UInt64):O0 K H (.flt x) (.type "float")
 | lst {a:Addr} {xs:List V} (e:H a=some (.lst xs)):O0 K H (.ref a) (.type "list")
 | frz {a:Addr} {o:Obj} {xs:List V} (e:H a=some (.frz o (.lst xs))):O0 K H (.ref a) (.type "list")
 | tup {a:Addr} {xs:List V} (e:H a=some (.tup xs)):O0 K H (.ref a) (.type "tuple")
 | dK {a:Addr} {kvs:List (GB×V)} (e:H a=some (.dK kvs)):O0 K H (.ref a) (.type "dict")
 | dT {a:Addr} {kvs:List (List GB×V)} (e:H a=some (.dT kvs)):O0 K H (.ref a) (.type "dict")
 | ins {a C dx:Addr} {fs:List (Str×V)} (e:H a=some (.ins C dx fs)) (cl:wK K C) (ha:PySem.W.findIn K (.ref C) "__class__" =some (some (.builtin "object.__class__")))
    (hn:PySem.W.specialIn K (.builtin "object.__class__") "__get__" =some (some (.builtin "getset_descriptor.__get__"))) (htk:PySem.W.takesIn K (.builtin "object.__class__")=some true)
    (hm:PySem.W.mroIn K C (.type "object")=some true):O0 K H (.ref a) (.ref C)
end
structure Room (k:Nat) (A:Around):Prop where
 hd:A.handled=none
 dp:A.depth+3*k+5<recursionLimit
 un:A.units+16*k+200<cLine
 gd:A.guards=some []
def Room.mono {j k:Nat}{A:Sl}(r:Room k A)(h:j<=k):Room j A:=⟨r.hd,by have:=r.dp;omega,by have:=r.un;omega,r.gd⟩
def Room.deeper {k:Nat}{A:Sl}(r:Room (k+1) A)(env:Env):Room k (A.deeper env):=
 ⟨r.hd,by have:=r.dp;show A.depth+1+3*k+5<_;omega,by have:=r.un;show A.units+3+16*k+200<_;omega,r.gd⟩
def Room.in1 {k:Nat}{A:Sl}(r:Room (k+1) A):Room k A.in1:=
 ⟨r.hd,by have:=r.dp;show A.depth+3*k+5<_;omega,by have:=r.un;show A.units+1+16*k+200<_;omega,r.gd⟩
def Xu {A:Sl}{C:kd}{a:kj ki}{b:kj (Str×ki)}:(A.under (.builtin "type.__call__" ⟨.ref C::a,b⟩)).depth=A.depth+1:=by first | rfl|simp[Around.under,Code.weight,Code.isCreation,Code.isGuard,Code.isCaller,Code.frames,Code.isFrame,guardIds]
def Xv {A:Sl}{C:kd}{a:kj ki}{b:kj (Str×ki)}:(A.under (.builtin "type.__call__" ⟨.ref C::a,b⟩)).units=A.units+1:=by first | rfl|simp[Around.under,Code.cUnits,Code.frames,Code.isFrame]
def Room.make {k:Nat}{A:Sl}(r:Room (k+1) A)(C:kd)(a:kj ki)(b:kj (Str×ki)):Room k (A.under (.builtin "type.__call__" ⟨.ref C::a,b⟩)):=
 ⟨r.hd,by have:=r.dp;rw[Xu];omega,by have:=r.un;rw[Xv];omega,by first | exact r.gd|simpa[Around.under,pushGuards,Code.guards,Code.isGuard,guardIds] using r.gd⟩
def Room.depth {k:Nat}{A:Sl}(r:Room k A):A.depth<recursionLimit:=by have:=r.dp;omega
def Room.units {k:Nat}{A:Sl}(r:Room k A):A.units+64<cLine:=by have:=r.un;omega
def ir:TA:=λ_ H Q=>Q [] H
def Lg (b:TE)(c:TA):TA:=λa H Q=>b a H λx d=>c a d λxs e=>Q (x::xs) e
section
variable {X:Cx}{e:fe}{es:kj fe}{te:TE}{t:TA}{pos:Pos}
def EU:PA X [] ir:=λ_ _ _ _ H Q I h=>ADu ⟨[],H,I, .nil,h⟩
def Bf (ha:PE X e te)(b:PA X es t)(hs:starEach (e::es) X.env=(false,eval e X.env)::starEach es X.env:=by rfl):PA X (e::es) (Lg te t):=by intro pos Sb s a H Q I h;rw[hs];show wpAny _ _ (spliced ((false,eval e X.env)::backTo pos (starEach es X.env))) _ _ s;refine ADA (Be (ha Sb s a H _ I h) λu c ⟨x,d,f,r1,g⟩=> ?_);exact Be (b pos Sb c a d _ f g) λl m ⟨xs,i,j,r2,k⟩=>⟨x::xs,i,j, .cons r1 r2,k⟩
def mO (t:TA):TE:=λb H Q=>t b H λxs a=>xs.length<=sizeLine/\∀p,a p=none->Q (.ref p) (upd a p (.tup xs))
def xy (t:TA):TE:=λb H Q=>t b H λxs a=>xs.length<=sizeLine/\∀p,a p=none->Q (.ref p) (upd a p (.lst xs))
def Pu {x1}(h:PA X es t):PE X (.Tuple es x1 pos) (mO t):=by intro Sb s f H Q I hq;refine wpAny_Tuple_spliced (Be (h pos Sb s f H _ I hq) λg a ⟨xs,c,d,r,z,q⟩=>⟨by rw[<-r.length];exact z, ?_⟩);have i:c a.heap.objs.size=none:=d.hok.fresh (ABH _);refine⟨.ref a.heap.objs.size,upd c a.heap.objs.size (.tup xs),d.laid (t':=a.toks) (λb u e=>ABF _ e) (ABH _) ?_,rfl,q _ i⟩;exact⟨z,g,r,⟨_,ABM _ rfl,rfl,_,rfl⟩⟩
def gx (h:PA X es t):PE X (.List es pos) (xy t):=by intro Sb s f H Q I hq;refine wpAny_List_spliced (Be (h pos Sb s f H _ I hq) λg a ⟨xs,c,d,r,z,q⟩=>⟨by rw[<-r.length];exact z, ?_⟩);have i:c a.heap.objs.size=none:=d.hok.fresh (ABH _);refine⟨.ref a.heap.objs.size,upd c a.heap.objs.size (.lst xs),d.laid (t':=a.toks) (λb u e=>ABF _ e) (ABH _) ?_,rfl,q _ i⟩;exact⟨z,g,0,r,ABM _ rfl⟩
end
abbrev Sp:=kj V->Hp->VK->XK->Prop
abbrev ah:=kj Env->Hp->kf->XK->ki->kf->Prop
structure Qn (P:Program) (w:World) (K:AAG) (mg:Str->Option Value) (base:Heap) (A:Around) (outer:List Env) (s:Shared) (H:Hp):Prop where
 frames:A.frames=some outer
 mod:Mod K mg base
 bs:∀b o,base.get? b=some o->s.heap.get? b=some o/\H b=none
 bsz:base.objs.size<=s.heap.objs.size
 funs:s.heap.FunFrames base outer
 frf:∀b∈dJ outer,H b=none
 hok:Na P w H s.heap
 bare:AllBare s.gens
def CE (outer:kj Env)(P:Wf)(w:Tb)(H:Hp)(s:kf)(Q:VK)(u:ki)(a:kf):Prop:=
 ∃v b,a.os=s.os/\AllBare a.gens/\Un (dJ outer) [] H b s.heap a.heap/\Na P w b a.heap/\RelV v u/\Q v b
def CR (CX:ah)(outer:kj Env)(P:Wf)(w:Tb)(H:Hp)(s:kf)(Q:VK)(E:XK)(r:Result)(a:kf):Prop:=
 match r with
 | .ok (.ret u)=>CE outer P w H s Q u a
 | .ok _=>False
 | .error e=>CX outer H s E e a
structure FF (P:Program) (w:World) (K:AAG) (mg:Str->Option Value) (base:Heap) (CX:ah) (k:Nat) (f:Addr) (fd:FuncData) (ps:List Str) (sp:Sp):Prop where
 len:∀vs H Q E,sp vs H Q E->vs.length=ps.length
 run:∀(A:Around) (outer:List Env) (s:Shared) (H:Hp) (args:Args) (us:List Value) (vs:List V) (Q:VK) (E:XK),Room k A->Qn P w K mg base A outer s H->BindsTo s fd args (ps.zip us)->A3 vs us->sp vs H Q E->
  codeAny (model P w) A (.call (.ref f) args) (CR CX outer P w H s Q E) s
def FF.mono {P:Wf}{w:Tb}{K:AAG}{mg:Str->kc ki}{base:Sr}{CX:ah}{j k:Nat}{f:kd}{a:FuncData}{ps:kj Str}{sp:Sp}(F:FF P w K mg base CX j f a ps sp)(h:j<=k):FF P w K mg base CX k f a ps sp:=⟨F.len,λA outer s H args b vs Q E c=>F.run A outer s H args b vs Q E (c.mono h)⟩
def FF.imp {P:Wf}{w:Tb}{K:AAG}{mg:Str->kc ki}{base:Sr}{CX:ah}{k:Nat}{f:kd}{b:FuncData}{ps:kj Str}{sp a:Sp}(F:FF P w K mg base CX k f b ps sp)(h:∀vs H Q E,a vs H Q E->sp vs H Q E):FF P w K mg base CX k f b ps a:=
 ⟨λvs H Q E q=>F.len vs H Q E (h _ _ _ _ q),λA outer s H args c vs Q E d he hb hv hs=>F.run A outer s H args c vs Q E d he hb hv (h _ _ _ _ hs)⟩
def Qn.make {P:Wf}{w:Tb}{K:AAG}{mg:Str->kc ki}{base:Sr}{A:Sl}{outer:kj Env}{s:kf}{H:Hp}(e:Qn P w K mg base A outer s H)(C:kd)(a:kj ki)(b:kj (Str×ki)):Qn P w K mg base (A.under (.builtin "type.__call__" ⟨.ref C::a,b⟩)) outer s H:=⟨by first | exact e.frames|(simpa[Around.under,Code.envs,Code.isFrame,pushEnvs] using e.frames),e.mod,e.bs,e.bsz,e.funs,e.frf,e.hok,e.bare⟩
def Qn.in1 {P:Wf}{w:Tb}{K:AAG}{mg:Str->kc ki}{base:Sr}{A:Sl}{outer:kj Env}{s:kf}{H:Hp}(e:Qn P w K mg base A outer s H):Qn P w K mg base A.in1 outer s H:=⟨e.frames,e.mod,e.bs,e.bsz,e.funs,e.frf,e.hok,e.bare⟩
section
variable {X:Cx}{Sb:kj (kd×Obj)}{σ:St}{H:Hp}{s s':kf}
def Inv.env0 (I:Inv X Sb σ H s):Qn X.prog X.w X.K X.mg X.base X.A X.stack s H:=
 ⟨I.ok.frames,I.ok.mod,I.bs,ABT I.ok.bsz I.sz,I.stack,I.stkFree,I.hok,I.bare⟩
def Inv.after {Q:VK}{u:ki}(I:Inv X Sb σ H s)(h:CE X.stack X.prog X.w H s Q u s'):EP X Sb σ Q u s':=by obtain⟨v,c,os,bare,un,hok,r,q⟩:=h;obtain⟨e,g,d,t,a⟩:=s';obtain rfl:a=s.os:=os;exact⟨v,c,I.call (h':=e) (g':=g) (d':=d) (t':=t) (ch:= []) un hok bare (λb z=>absurd z (by simp)),r,q⟩
end
def nU (sp:Sp)(a:kj V)(E:XK)(t:TA):TE:=λb H Q=>t b H λvs c=>sp (vs++a) c Q E
def Binds (K:AAG)(b:FuncData)(ps:kj Str)(ds:kj ki):Prop:=
 ∀(s:kf) (a:kj ki),K.In s.heap->(a++ds).length=ps.length->BindsTo s b ⟨a, []⟩ (ps.zip (a++ds))
def Binds.all {K:AAG}{b:FuncData}{ps:kj Str}(h:∀a:kj ki,a.length=ps.length->bindArgs b ⟨a, []⟩=pure (ps.zip a)):Binds K b ps [] :=λs a _ hl=>by rw[ACQ] at hl ⊢;exact .of_eq (h a hl)
def Passes (CX:ah)(X:Cx)(E:XK):Prop:=∀(Sb:kj (kd×Obj)) (b:St) (H:Hp) (s:kf) (e:ki) (a:kf),Inv X Sb b H s->CX X.stack H s E e a->X.xe e a
section
variable {X:Cx}{CX:ah}{k:Nat}{f C:kd}{fd:FuncData}{ps:kj Str}{sp:Sp}{dvs:kj V}{ds:kj ki}{E:XK}{x m:Str}{p pos apos:Pos}{e o:fe}{es:kj fe}{ta:TE}{t:TA}
theorem qW {Sb:kj (kd×Obj)}{b:St}{H:Hp}{s:kf}{Q:VK}{a:kj ki}{vs:kj V}(F:FF X.prog X.w X.K X.mg X.base CX k f fd ps sp)(c:Room k X.A)(hb:Binds X.K fd ps ds)(hd:A3 dvs ds)(hx:Passes CX X E)(I:Inv X Sb b H s)(r:A3 vs a)(h:sp (vs++dvs) H Q E):wpAny (model X.prog X.w) X.A (call (.ref f) a) (EP X Sb b Q) X.xe s:=by
 have r2:A3 (vs++dvs) (a++ds):=r.append hd;have hl:(a++ds).length=ps.length:=by rw[<-r2.length];exact F.len _ _ _ _ h
 refine wpAny_call (ADv (F.run X.A X.stack s H ⟨a, []⟩ (a++ds) (vs++dvs) Q E c I.env0 (hb s a I.kIn hl) r2 h) λr d hq=> ?_);cases r with
 | error e=>exact hx Sb b H s e d I hq
 | ok g=>
   cases g with
   | ret u=>exact I.after hq
   | next=>exact False.elim hq
   | brk=>exact False.elim hq
   | cont=>exact False.elim hq
theorem lS (F:FF X.prog X.w X.K X.mg X.base CX k f fd ps sp)(b:Room k X.A)(c:Gl X x)(d:X.mg x=some (.ref f))(hk:PySem.W.keepIn X.K (.ref f)=true)(hb:Binds X.K fd ps ds)(hd:A3 dvs ds)(hx:Passes CX X E)(ha:PA X (e::es) t)(hdb:(x==("__debug__" :Str))=false:=by decide)(he:starEach (e::es) X.env=(false,eval e X.env)::starEach es X.env:=by rfl)(hpl:(backTo pos (starEach es X.env)).any (·.1)=false:=by rfl):PE X (.Call (.Name x p) (e::es) [] pos) (nU sp dvs E t):=by intro Sb s g H Q I h;refine AEa (kg I c d ?_ hdb);refine PySem.W.callWith_K (h₀:=X.base) I.ok.mod.kin hk (Be (ha pos Sb s g H _ I h) λi j ⟨vs,l,a,r,q⟩=>⟨a.kIn, ?_⟩) he hpl;exact qW F b hb hd hx a r q
structure Mk (K:AAG) (C f:Addr):Prop where
 makes:PySem.W.makesIn K C=true
 init:PySem.W.findIn K (.ref C) "__init__" =some (some (.ref f))
 fn:PySem.W.isFn K (.ref f)=true
 kp:PySem.W.keepIn K (.ref C)=true
end
section
variable {X:Cx}{CX:ah}{k:Nat}{f C:kd}{fd:FuncData}{ps ks:kj Str}{sp:Sp}{E:XK}{x m:Str}{p pos apos kpos:Pos}{e o:fe}{es:kj fe}{kws:kj Keyword}{te ta:TE}{t tk:TA}{nm:kc Str}
structure wc (K:AAG) (fd:FuncData) (ps ks:List Str) (g:List Value->List Value->List Value) (gV:List V->List V->List V):Prop where
 to:∀(s:Shared) (us ws:List Value),K.In s.heap->(g us ws).length=ps.length->BindsTo s fd ⟨us,ks.zip ws⟩ (ps.zip (g us ws))
 rel:∀{vs:List V} {us:List Value} {zs:List V} {ws:List Value},A3 vs us->A3 zs ws->A3 (gV vs zs) (g us ws)
variable {g:kj ki->kj ki->kj ki}{gV:kj V->kj V->kj V}
end
structure Ev (N P:List Str) (sc:Scope):Prop where
 kind:sc.kind= .function
 co:sc.isCoroutine=false
 gen:sc.isGenerator=false
 nd:N.Nodup
 pre:N.take P.length=P
 par:∀x∈P,sc.names.lookup x=some .local\/sc.names.lookup x=some .cell
 nofree:∀y∈sc.names,y.2≠ .free
theorem Re {kindOf:Str->kc NameKind}{x:Str}:∀{binds:kj (Str×ki)} {m:Str->kc ki},(∀v,(x,v) ∉ binds)->bindL kindOf binds m x=m x
 | [],_,_=>rfl
 | (n,v)::r,m,h=>by
   unfold bindL;rw[Re λw hw=>h w (ACO _ hw)];split
   .have:x≠n:=by rintro rfl;exact h v ADM
    simp[this]
   .rfl
theorem Rb {kindOf:Str->kc NameKind}{x:Str}:∀{binds:kj (Str×ki)} {m:Str->kc ki},(∀v,(x,v) ∉ binds)->bindC kindOf binds m x=m x
 | [],_,_=>rfl
 | (n,v)::r,m,h=>by
   unfold bindC;rw[Rb λw hw=>h w (ACO _ hw)];split
   .rfl
   .have:x≠n:=by rintro rfl;exact h v ADM
    simp[this]
theorem Rc {kindOf:Str->kc NameKind}{x:Str}{v:ki}:∀{P:kj Str} {vs:kj ki} {i:Nat} {m:Str->kc ki},P.Nodup->P[i]? =some x->vs[i]? =some v->kindOf x=some .local-> bindL kindOf (P.zip vs) m x=some v
 | [],_,_,_,_,h,_,_=>by simp at h
 | _::_, [],_,_,_,_,h,_=>by simp at h
 | p::P,w::vs,0,m,nd,h1,h2,hk=>by simp at h1 h2;subst h1;subst h2;show bindL kindOf ((p,w)::P.zip vs) m p=_;unfold bindL;rw[Re λv hv=>(AEb.mp nd).1 (AC3 hv).1,AAJ hk];simp
 | p::P,w::vs,i+1,m,nd,h1,h2,hk=>by show bindL kindOf ((p,w)::P.zip vs) m x=_;unfold bindL;exact Rc (i:=i) (AEb.mp nd).2 (by simpa using h1) (by simpa using h2) hk
theorem Ra {kindOf:Str->kc NameKind}{x:Str}{v:ki}:∀{P:kj Str} {vs:kj ki} {i:Nat} {m:Str->kc ki},P.Nodup->P[i]? =some x->vs[i]? =some v->kindOf x≠some .local-> bindC kindOf (P.zip vs) m x=some v
 | [],_,_,_,_,h,_,_=>by simp at h
 | _::_, [],_,_,_,_,h,_=>by simp at h
 | p::P,w::vs,0,m,nd,h1,h2,hk=>by simp at h1 h2;subst h1;subst h2;show bindC kindOf ((p,w)::P.zip vs) m p=_;unfold bindC;rw[Rb λv hv=>(AEb.mp nd).1 (AC3 hv).1,AAH hk];simp
 | p::P,w::vs,i+1,m,nd,h1,h2,hk=>by show bindC kindOf ((p,w)::P.zip vs) m x=_;unfold bindC;exact Ra (i:=i) (AEb.mp nd).2 (by simpa using h1) (by simpa using h2) hk
def start (N:kj Str)(vs:kj V):St:=vs.map some++List.replicate (N.length-vs.length) none
def Vf (CX:ah)(P:Wf)(w:Tb)(K:AAG)(mg:Str->kc ki)(base:Sr)(N:kj Str)(qual:Str)(scope:Scope)(f:kd)(b:ki)(A:Sl)(outer:kj Env)(s:kf)(H:Hp)(E:XK):Cx where
 prog:=P
 w:=w
 K:=K
 mg:=mg
 base:=base
 A:=A.deeper (envOfC qual scope s.heap.objs.size f b)
 N:=N
 s₀:=s
 H₀:=H
 env:=envOfC qual scope s.heap.objs.size f b
 outer:=outer
 stack:=envOfC qual scope s.heap.objs.size f b::outer
 ex:= []
 calm:=true
 fn:=λ_=>true
 pn:= []
 xe:=λe c=>wpAny (model P w) (A.deeper (envOfC qual scope s.heap.objs.size f b)) (leaving (envOfC qual scope s.heap.objs.size f b) e) (λ_ a=>CX outer H s E e a) (λe' a=>CX outer H s E e' a) c
def Va {sc:Scope}{n:Nat}{x:Str}(h:sc.names.lookup x=some .cell):∃c,(cellsFrom n sc.names []).lookup x=some c:=by have q:=AFV sc.names n [] (.inl h);exact Option.isSome_iff_exists.mp q
def bq {CX:ah}{P:Wf}{w:Tb}{K:AAG}{mg:Str->kc ki}{base:Sr}{N ps:kj Str}{qual:Str}{scope:Scope}{f:kd}{l:ki}{A:Sl}{outer:kj Env}{s o:kf}{H:Hp}{E:XK}{m:kj ki}{vs:kj V}(S:Ev N ps scope)(hd:A.handled=none)(d:Qn P w K mg base A outer s H)(hl:vs.length=ps.length)(r:A3 vs m)(x:InCallC s s.heap.objs.size (bindL (envOfC qual scope s.heap.objs.size f l).kindOf (ps.zip m) λ_=>none) (cellsFrom (s.heap.objs.size+1) scope.names []) (bindC (envOfC qual scope s.heap.objs.size f l).kindOf (ps.zip m) λ_=>none) o):Inv (Vf CX P w K mg base N qual scope f l A outer s H E) [] (start N vs) H o:=by
 have hpl:ps.length<=N.length:=by have:=congrArg List.length S.pre;rw[AFA] at this;omega
 obtain⟨h1,t,rfl,hk⟩:=x.done;have g:∀b:kd,b ∉ (Vf CX P w K mg base N qual scope f l A outer s H E).ex:=λb z=>absurd (show b∈([] :kj kd) from z) (by simp);refine⟨⟨d.mod,S.kind,rfl,rfl,ABH _,λy z c h1 h2=> ?_,λy hy=> ?_,λy c _ h=> ?_,λ_=>hd,Around.frames_deeper d.frames, .inr ⟨rfl,rfl⟩,λb z=>absurd z (g b),d.bs,d.bsz,λb _ _=>g b,λb z=>absurd z (g b),d.funs,d.frf⟩,
  rfl,d.bare,Un.kept hk,⟨_,x.toInCall.ns,λi y v h1 h2 B=> ?_⟩,λy c h=>⟨_,x.cell y c h⟩,d.hok.fresh (ABH _),λy c h=> ?_,λp hp=>absurd (show p∈([] :kj (kd×Obj)) from hp) (by simp),d.hok.kept hk, ?_⟩
 .exact name_of_addr x.apart (ADw h1) (ADw h2)
 .have hy:scope.names.lookup y=some .cell\/scope.names.lookup y=some .free:=hy;rcases hy with hy|hy
  .exact Va hy
  .exact absurd rfl (S.nofree _ (ADw hy))
 .exact AEV (x.above y c (ADw h))
 .have hi:i<vs.length:=by
   unfold start at h2;by_cases hi:i<vs.length
   .exact hi
   .rw [ACR (by simpa using hi)] at h2;rw[ADB] at h2;split at h2 <;> cases h2
  have ha:vs[i]? =some v:=by
   unfold start at h2;rw[ABv (by simpa using hi),ABw] at h2;cases e:vs[i]? with
   | none=>rw[e] at h2;cases h2
   | some a=>rw[e] at h2;cases h2;rfl
  obtain⟨u,hu,rv⟩:=r.get ha;have hp:ps[i]? =some y:=by rw[<-S.pre,List.getElem?_take_of_lt (by omega)];exact h1
  have j:ps.Nodup:=by rw[<-S.pre];exact S.nd.sublist (List.take_sublist _ _)
  refine⟨u,rv, ?_⟩;rcases S.par y (AB8 hp) with k|k
  .exact .inl ⟨k,Rc j hp hu k⟩
  .obtain ⟨c,e⟩:=Va (n:=s.heap.objs.size+1) k;refine .inr ⟨.inl k,c,e, ?_⟩;have q:=x.cell y c e;rw[Ra j hp hu (by show scope.names.lookup y≠_;rw[k];decide)] at q;exact q
 .exact d.hok.fresh (AEV (x.above y c (ADw h)))
 .unfold start;show _=N.length;rw[AB9,ABL,AC4];omega
def tF {CX:ah}{P:Wf}{w:Tb}{K:AAG}{mg:Str->kc ki}{base:Sr}{k:Nat}{f:kd}{name qual:Str}{params:Arguments}{body:kj Stmt}{scope:Scope}{z kV g B a ct L:ki}{C M:kc kd}{j:Array (kc ki)}{N ps:kj Str}{sp:Sp}(O:K.lookup f=some ⟨L,M, .func (PySem.W.fnOf name qual params body scope z kV g B C a ct),j⟩)(R:PySem.W.codeIn K a qual=true)(S:Ev N ps scope)(len:∀vs H Q E,sp vs H Q E->vs.length=ps.length)(T:∀(A:Sl) (outer:kj Env) (s:kf) (H:Hp) (vs:kj V) (Q:VK) (E:XK),Room k (A.deeper (envOfC qual scope s.heap.objs.size f a))->sp vs H Q E-> ∃t,ZF (Vf CX P w K mg base N qual scope f a A outer s H E) body t/\t {nx:=λ_ d=>Q .non d,rt:=Q} (start N vs) H):FF P w K mg base CX (k+1) f (PySem.W.fnOf name qual params body scope z kV g B C a ct) ps sp:=by
 refine⟨len,λA outer s H args U vs Q E l h hb r D=> ?_⟩;have hl:=len _ _ _ _ D;have F:K.In s.heap:=h.mod.kin.keeps λb o e=>(h.bs b o e).1;have m:s.heap.NoLimit:=h.mod.nolimit.keeps λb o e=>(h.bs b o e).1;have X:∀y∈ps.zip U,scope.names.lookup y.1=some .local\/(scope.names.lookup y.1=some .cell/\((cellsFrom (s.heap.objs.size+1) scope.names []).lookup y.1).isSome=true):=λ⟨n,v⟩ hy=>by
  rcases S.par n (AC3 hy).1 with q|q
  .exact .inl q
  .exact .inr ⟨q,AFV _ _ _ (.inl q)⟩
 refine codeAny_call_function l.depth (F _ _ O) rfl S.co S.gen rfl (PySem.W.codeRec_of F R) (hb _ _ _ _ ?_);refine wpAny_newFunctionEnv_cells S.kind X λenv he G x=> ?_;subst he;refine⟨m.keeps x.toInCall.keep,codeAny_func ?_⟩;obtain⟨t,Y,hq⟩:=T A outer s H vs Q E (l.deeper _) D;have I:Inv (Vf CX P w K mg base N qual scope f a A outer s H E) [] (start N vs) H G:=bq S l.hd h hl r x;refine AB4 (Y [] G (start N vs) H _ I hq) (λZ p hs=> ?_) λe p hs=>hs;have i:∀{c:St} {d:Hp} {v:V} {u:ki},Inv (Vf CX P w K mg base N qual scope f a A outer s H E) [] c d p->RelV v u->Q v d->CE outer P w H s Q u p:=
  λ{c d v u} J rv q=>⟨v,d,J.os,J.bare,J.base,J.hok,rv,q⟩
 cases Z with
 | ret u=> obtain⟨v,c,d,J,rv,q⟩:=hs;exact i J rv q
 | next=> obtain⟨c,d,J,q⟩:=hs;exact i (v:=V.non) (u:=Value.none) J rfl q
 | brk=> obtain⟨_,_,_,q⟩:=hs;exact False.elim q
 | cont=> obtain⟨_,_,_,q⟩:=hs;exact False.elim q
section
variable {X:Cx}{x:Str}{p pos:Pos}{e:fe}{es:kj fe}{t:TA}{id T:String}{r:kj V->Hp->VK->Prop}
def xx (r:kj V->Hp->VK->Prop)(t:TA):TE:=λa H Q=>t a H λvs b=>r vs b Q
def LL (hc:Cv X (.builtin id) r)(b:Gl X x)(c:X.mg x=none)(hv:bootBuiltins x=some (.builtin id))(ha:PA X (e::es) t)(hn:x≠"__name__" :=by decide)(hdb:(x==("__debug__" :Str))=false:=by decide)(he:starEach (e::es) X.env=(false,eval e X.env)::starEach es X.env:=by rfl)(hpl:(backTo pos (starEach es X.env)).any (·.1)=false:=by rfl):PE X (.Call (.Name x p) (e::es) [] pos) (xx r t):=by intro Sb s a H Q I h;refine AEa (F1 I b c hv ?_ hn hdb);exact AFW (Be (ha pos Sb s a H _ I h) λd f ⟨vs,g,i,r1,j⟩=>hc Sb f a g vs d Q i r1 j) he hpl
def Mj (hc:Cv X (.type T) r)(b:Gl X x)(c:X.mg x=none)(hv:bootBuiltins x=some (.type T))(ha:PA X (e::es) t)(hn:x≠"__name__" :=by decide)(hdb:(x==("__debug__" :Str))=false:=by decide)(he:starEach (e::es) X.env=(false,eval e X.env)::starEach es X.env:=by rfl)(hpl:(backTo pos (starEach es X.env)).any (·.1)=false:=by rfl):PE X (.Call (.Name x p) (e::es) [] pos) (xx r t):=by intro Sb s a H Q I h;refine AEa (F1 I b c hv ?_ hn hdb);exact ADO (Be (ha pos Sb s a H _ I h) λd f ⟨vs,g,i,r1,j⟩=>hc Sb f a g vs d Q i r1 j) he hpl
end
end L2
namespace HT
open PySem PyProof.Rows
section
variable {prog:Wf}{w:Tb}{A:Sl}{E:ki->kf->Prop}{s:kf}
def cat_tup {t b:kd}{vs ws:kj ki}{Q:ki->kf->Prop}(m:IsTup s.heap t vs.toArray)(hb:IsTup s.heap b ws.toArray)(hv:vs≠ [])(h1:ws= [] ->Q (.ref t) s)(h2:ws≠ [] ->Q (.ref s.heap.objs.size) {s with heap:=s.heap.push {cls:= .type "tuple",data:= .seq (vs++ws).toArray}})(hsz:vs.length+ws.length<=sizeLine):wpAny (model prog w) A (binaryOp .Add (.ref t) (.ref b)) Q E s:=by
 obtain⟨⟨cls,g,data,h⟩,d,hc,n,hd⟩:=id m;obtain⟨⟨i,a,data2,c⟩,f,j,k,l⟩:=id hb;simp only at hc hd j l;subst hc hd j l;have e:vs.toArray++ws.toArray=(vs++ws).toArray:=by simp
 by_cases hw:ws= []
 .exact concat_meets ⟨_,d,rfl⟩ ⟨_,f,rfl⟩ AFB seq_tuple_add AFC AFD (AFE _ _)
   (tuple_addW1 t b vs.toArray ws.toArray n k g a h c (by simpa using hv) (by simp[hw])) ⟨d,f,h1 hw⟩
 .refine concat_meets ⟨_,d,rfl⟩ ⟨_,f,rfl⟩ AFB seq_tuple_add AFC AFD (AFE _ _)
   (tuple_addW2 t b vs.toArray ws.toArray n k g a h c (by simpa using hv) (by simpa using hw) (by rw[ABP,ABP];exact hsz)) ⟨d,f, ?_⟩
  rw[e];exact h2 hw
def sIx (n d:Nat):kc Int->Nat
 | none=>d
 | some v=>if v<0 then (v+(n:Int)).toNat else min v.toNat n
def sIx_none (n d:Nat):sIx n d none=d:=rfl
def sIx_nat (n d k:Nat):sIx n d (some (k:Int))=min k n:=by show (if (k:Int)<0 then ((k:Int)+(n:Int)).toNat else min (k:Int).toNat n)=min k n;rw[AAH (by omega),ADc]
def qX (n d:Nat)(hd:d<=n)(o:kc Int):sIx n d o<=n:=by
 cases o with
 | none=>exact hd
 | some v=>
   show (if v<0 then (v+(n:Int)).toNat else min v.toNat n)<=n;by_cases hv:v<0
   .rw [AAJ hv];omega
   .rw [AAH hv];exact Nat.min_le_right _ _
def ZL (v:Int)(n d:Nat):(if v<0 then max (v+(n:Int)) 0 else min v (n:Int))=((sIx n d (some v):Nat):Int):=by
 show (if v<0 then max (v+(n:Int)) 0 else min v (n:Int))=(((if v<0 then (v+(n:Int)).toNat else min v.toNat n):Nat):Int);by_cases hv:v<0
 .simp only[AAJ hv];omega
 .simp only[AAH hv];omega
def XN (lo hi:kc Int)(n:Nat):Builtin.Slice.sliceAdjust lo hi 1 (n:Int)=(((sIx n 0 lo:Nat):Int),((sIx n n hi:Nat):Int)):=by
 have h1:¬((1:Int)<0):=by omega
 unfold Builtin.Slice.sliceAdjust;simp only[h1,ABe];refine ADP ?_ ?_
 .cases lo with
  | none=>rfl
  | some v=>exact ZL v n 0
 .cases hi with
  | none=>rfl
  | some v=>exact ZL v n n
def YU (i j:Nat):Builtin.Slice.slicePlaces (i:Int) (j:Int) 1=j-i:=by
 unfold Builtin.Slice.slicePlaces;have h1:(1:Int)>0:=by omega
 simp only[h1,AB2,Int.ediv_one];split <;> omega
def QK {v:ki}{o:kc Int}{Q:kc Int->kf->Prop}(p:IsPart v o)(h:Q o s):wpAny (model prog w) A (Builtin.Slice.slicePartIndex v) Q E s:=by
 cases p with
 | none=>exact slicePart_none h
 | int i t=>exact slicePart_int h
def sliceApplied_gen {e:kd}{a b:ki}{lo hi:kc Int}{n:Nat}{Q:Int×Int×Nat->kf->Prop}(hs:s.heap.IsSliceOf e a b .none)(f:IsPart a lo)(g:IsPart b hi)(h:Q (((sIx n 0 lo:Nat):Int),1,sIx n n hi-sIx n 0 lo) s):wpAny (model prog w) A (Builtin.Slice.sliceApplied (.ref e) (pure (n:Int))) Q E s:=by obtain⟨os,c,i,d⟩:=id hs;unfold Builtin.Slice.sliceApplied Builtin.Slice.sliceFields;refine AAF (AAF (ABU c d (x:=a) rfl (AAF (ABU c d (x:=b) rfl (AAF (ABU c d (x:= .none) rfl (AAI ?_)))))));refine AAF (slicePart_none ?_);show wpAny _ _ (if ((1:Int)==0)=true then _ else _) _ _ s;rw[AAH (by decide)];refine AAF (QK f (AAF (QK g (AAF (AAI ?_)))));show wpAny _ _ (match Builtin.Slice.sliceAdjust lo hi 1 (n:Int) with | (lo,hi)=>pure (lo,(1:Int),Builtin.Slice.slicePlaces lo hi 1)) _ _ s;rw[XN lo hi n];show wpAny _ _ (pure (((sIx n 0 lo:Nat):Int),(1:Int),Builtin.Slice.slicePlaces ((sIx n 0 lo:Nat):Int) ((sIx n n hi:Nat):Int) 1)) _ _ s;rw[YU];exact AAI h
def g6 (xs:Array ki)(i k:Nat):((List.range k).filterMap λ(m:Nat)=>xs[((i:Int)+(m:Int)*1).toNat]?).toArray=((xs.toList.drop i).take k).toArray:=by
 have e:(λ(m:Nat)=>xs[((i:Int)+(m:Int)*1).toNat]?)=λm=>xs[i+m]? :=by
  funext m
  have:((i:Int)+(m:Int)*1).toNat=i+m:=by omega
  rw[this]
 rw[e];have:=pick_run xs i k;rw[List.filterMap_map] at this;have a:((λx=>xs[x]?) ∘ λx=>i+x)=λm=>xs[i+m]? :=rfl;rw[a] at this;rw[this]
def getItem_tuple_cut {t c:kd}{items:Array ki}{d e:ki}{lo hi:kc Int}{Q:ki->kf->Prop}(a:IsTup s.heap t items)(hs:s.heap.IsSliceOf c d e .none)(f:IsPart d lo)(g:IsPart e hi)(hw:¬(sIx items.size 0 lo=0/\sIx items.size items.size hi=items.size))(h:Q (.ref s.heap.objs.size) {s with heap:=s.heap.push {cls:= .type "tuple",data:= .seq ((items.toList.drop (sIx items.size 0 lo)).take (sIx items.size items.size hi-sIx items.size 0 lo)).toArray}})(hsz:items.size<=sizeLine):wpAny (model prog w) A (getItem (.ref t) (.ref c)) Q E s:=by
 have b:sizeOk (.seq ((items.toList.drop (sIx items.size 0 lo)).take (sIx items.size items.size hi-sIx items.size 0 lo)).toArray):=by show ((items.toList.drop (sIx items.size 0 lo)).take (sIx items.size items.size hi-sIx items.size 0 lo)).toArray.size<=sizeLine;rw[ABP,AFA,List.length_drop,AC8];omega
 have hj:sIx items.size items.size hi<=items.size:=qX _ _ (ABH _) hi;obtain⟨os,i,j,n⟩:=id hs;have k:s.TypeIs (.ref c) "slice" :=⟨os,i,j⟩;unfold getItem;try with_reducible refine AB3 ?_
 first | refine AAF (AAI ?_)|skip
 refine AAF (wpAny_sequenceKey a.typeIs (by decide) ?_);refine AAF (ACS (name:=Str.ofString "__getitem__") a.typeIs ADC
  (ABz ADC a.typeIs entry_tuple_getitem ?_ (args_tuple_getitem _ _)))
 show wpAny _ _ (Builtin.Tuple.tupleItemsOf (.ref t) >>= _) _ _ s;refine AAF (tupleItemsOf_ a ?_);refine AAF (ADx k ?_);rw[AAJ (by decide)];refine AAF (sliceApplied_gen hs f g ?_);have l:¬((((sIx items.size 0 lo:Nat):Int)==0&&(1:Int)==1&&(sIx items.size items.size hi-sIx items.size 0 lo)==items.size)=true):=by intro q;rw[ACA,ACA] at q;have o:((sIx items.size 0 lo:Nat):Int)=0:=eq_of_beq q.1.1;have p:sIx items.size items.size hi-sIx items.size 0 lo=items.size:=eq_of_beq q.2;exact hw ⟨by omega,by omega⟩
 show wpAny _ _ (if (((sIx items.size 0 lo:Nat):Int)==0&&(1:Int)==1&&(sIx items.size items.size hi-sIx items.size 0 lo)==items.size)=true then _ else _) _ _ s;rw[AAH l,g6];first
  | exact AAF (m:=Builtin.Tuple.tupleExact _) (AB5 (AAI ⟨_,rfl,AAI h⟩) b)
  | exact AAF (m:=Builtin.Tuple.tupleExact _) (AB5 (AAF (AAI (AAI ⟨_,rfl,AAI h⟩))) b)
  | exact AAF (AAF (m:=Builtin.Tuple.tupleExact _) (AB5 (AAI (AAI ⟨_,rfl,AAI h⟩)) b))
  | exact AAF (AAF (m:=Builtin.Tuple.tupleExact _) (AB5 (AAI ⟨_,rfl,AAI h⟩) b))
end
end HT
namespace L2
open PySem PySem.Spec PyProof.Rows
abbrev TO:=St->Hp->(kc Int->Hp->Prop)->Prop
def PO (X:Cx)(e:kc fe)(t:TO):Prop:=
 ∀(Sb:kj (kd×Obj)) (s:kf) (a:St) (H:Hp) (Q:kc Int->Hp->Prop),Inv X Sb a H s->t a H Q->
  wpAny (model X.prog X.w) X.A (evalPart e X.env) (λu c=>∃o b,Inv X Sb a b c/\IsPart u o/\Q o b) X.xe s
def mM:TO:=λ_ H Q=>Q none H
def vK (t:TE):TO:=λa H Q=>t a H λx b=>∃i,x= .int i/\Q (some i) b
section
variable {X:Cx}{e:fe}{te:TE}{lo hi:kc fe}{tl th:TO}{pos p2:Pos}
def lc:PO X none mM:=by intro Sb s a H Q I h;rw[evalPart_none];exact AAI ⟨none,H,I, .none,h⟩
def lf (h:PE X e te):PO X (some e) (vK te):=by intro Sb s a H Q I hw;rw[evalPart_some];refine Be (h Sb s a H _ I hw) λu f ⟨x,b,c,r1,d⟩=> ?_;obtain⟨i,rfl,q⟩:=d;obtain⟨t,rfl⟩:=r1;exact⟨some i,b,c, .int i t,q⟩
def ma (X:Cx)(r:V->kc Int->kc Int->Hp->VK->Prop):Prop:=
 ∀(Sb:kj (kd×Obj)) (s:kf) (a:St) (H:Hp) (x:V) (v b c:ki) (lo hi:kc Int) (d:kd) (Q:VK),Inv X Sb a H s->RelV x v->s.heap.IsSliceOf d b c .none->IsPart b lo->IsPart c hi->r x lo hi H Q->
  ∃T id,typeLookup (.type T) "__getitem__" =pure (some (.builtin id))/\s.TypeIs v T/\wpAny (model X.prog X.w) X.A (getItem v (.ref d)) (EP X Sb a Q) X.xe s
def ma.or {r a:V->kc Int->kc Int->Hp->VK->Prop}(h:ma X r)(h':ma X a):ma X (λx lo hi H Q=>r x lo hi H Q\/a x lo hi H Q):=by
 intro Sb s b H x v c d lo hi f Q I g hs i j q;rcases q with q|q
 .exact h Sb s b H x v c d lo hi f Q I g hs i j q
 .exact h' Sb s b H x v c d lo hi f Q I g hs i j q
def tSl (r:V->kc Int->kc Int->Hp->VK->Prop)(te:TE)(tl th:TO):TE:=λa H Q=>te a H λx b=>tl a b λl c=>th a c λu d=>r x l u d Q
def gz {r:V->kc Int->kc Int->Hp->VK->Prop}(i:ma X r)(he:PE X e te)(hl:PO X lo tl)(hu:PO X hi th):PE X (.Subscript e (.Slice lo hi none p2) pos) (tSl r te tl th):=by intro Sb s c H Q I h;refine Subscript_ (Be (he Sb s c H _ I h) λv j ⟨x,k,m,r1,n⟩=> ?_);refine wpAny_Slice (Be (hl Sb j c k _ m n) λd o ⟨l,p,t,y,z⟩=>Be (hu Sb o c p _ t z) λf a ⟨u,g,B,C,D⟩=> ?_);rw[evalPart_none];refine AAI ?_;have E:Inv X Sb c g {a with heap:=a.heap.push {cls:= .type "slice",data:= .fields #[d,f, .none] }}:=B.kept (t':=a.toks) λb K q=>ABF _ q;obtain⟨T,id,F,G,J⟩:=i Sb {a with heap:=a.heap.push {cls:= .type "slice",data:= .fields #[d,f, .none] }} c g x v d f l u a.heap.objs.size Q E r1 (Heap.IsSliceOf.new ..) y C D;show wpAny (model X.prog X.w) X.A (subscriptTail e (.Slice lo hi none p2) v (.ref a.heap.objs.size)) (EP X Sb c Q) X.xe {a with heap:=a.heap.push {cls:= .type "slice",data:= .fields #[d,f, .none] }};exact tail_any (ops:= [.ref a.heap.objs.size,v]) G F J (by with_unfolding_all rfl)
def Qw (xs:kj V)(lo hi:kc Int):kj V:=(xs.drop (HT.sIx xs.length 0 lo)).take (HT.sIx xs.length xs.length hi-HT.sIx xs.length 0 lo)
def NJ (xs:kj V)(lo hi:kc Int):(Qw xs lo hi).length<=xs.length:=by unfold Qw;rw[AFA,List.length_drop];omega
def xo (K:AAG):V->kc Int->kc Int->Hp->VK->Prop:=λx lo hi H Q=>∃a xs,x= .ref a/\Ky K H a xs/\
 ¬(HT.sIx xs.length 0 lo=0/\HT.sIx xs.length xs.length hi=xs.length)/\∀p,H p=none->Q (.ref p) (upd H p (.tup (Qw xs lo hi)))
def qk:ma X (xo X.K):=by
 intro Sb s k H x v l m lo hi n Q I g hs i j h;obtain⟨a,xs,rfl,hx,hw,q⟩:=h;cases g;obtain⟨c,r,f,hz⟩:=I.tuple hx;have d:c.toArray.size=xs.length:=by rw[ABP];exact r.length.symm
 refine⟨"tuple",_,ADC.lookup,f.typeIs, ?_⟩;refine HT.getItem_tuple_cut f hs i j (by rw[d];exact hw) ?_ (by rw[d];exact hz);rw[d];refine⟨.ref s.heap.objs.size,_,I.laid (t':=s.toks) (o:= .tup (Qw xs lo hi)) (λb p q=>ABF _ q) (ABH _) ?_,rfl,q _ (I.hok.fresh (ABH _))⟩;exact⟨ABT (NJ xs lo hi) hz,_,(r.drop (HT.sIx xs.length 0 lo)).take (HT.sIx xs.length xs.length hi-HT.sIx xs.length 0 lo),IsTup.new _ _⟩
def nO (K:AAG):R2:=λx y H Q=>∃a b xs ys,x= .ref a/\y= .ref b/\Ky K H a xs/\Ky K H b ys/\xs≠ [] /\xs.length+ys.length<=sizeLine/\
 (ys= [] ->Q (.ref a) H)/\(ys≠ [] ->∀p,H p=none->Q (.ref p) (upd H p (.tup (xs++ys))))
def A3.nil_iff {xs:kj V}{a:kj ki}(r:A3 xs a):a= [] ↔xs= [] :=by
 cases r with
 | nil=>simp
 | cons _ _=>simp
def lO:Em X (binaryOp .Add) (nO X.K):=by intro Sb s k H x y v u Q I d f h;obtain⟨a,b,xs,ys,rfl,rfl,ha,hb,hx,hz,g,i⟩:=h;cases d;cases f;obtain⟨j,r1,p1,_⟩:=I.tuple ha;obtain⟨c,r2,p2,_⟩:=I.tuple hb;refine HT.cat_tup p1 p2 (λz=>hx (r1.nil_iff.mp z)) (λz=>⟨.ref a,H,I,rfl,g (r2.nil_iff.mp z)⟩) (λz=> ?_) (by rw[<-r1.length,<-r2.length];exact hz);refine⟨.ref s.heap.objs.size,_,I.laid (t':=s.toks) (o:= .tup (xs++ys)) (λb l q=>ABF _ q) (ABH _) ?_,rfl,i (λw=>z (r2.nil_iff.mpr w)) _ (I.hok.fresh (ABH _))⟩;exact⟨by rw[AB9];exact hz,_,r1.append r2,IsTup.new _ _⟩
end
def V3 (n:Nat)(i:Int):kc Nat:=if 0<=i then (if i<n then some i.toNat else none) else if -(n:Int)<=i then some (i+n).toNat else none
def Je {a:Type}(xs:kj a)(i:Int):kc a:=(V3 xs.length i).bind λj=>xs[j]?
def Zq {n:Nat}{i:Int}{j:Nat}(h:V3 n i=some j):seqIndex? i n=some j/\j<n/\ -(n:Int)<=i/\i<n:=by
 unfold V3 at h;by_cases a:0<=i
 .rw [AAJ a] at h;by_cases h1:i<n
  .rw [AAJ h1] at h;have e:i.toNat=j:=ABW h;exact⟨by rw[seqIndex_of a h1,e],by omega,by omega,h1⟩
  .rw [AAH h1] at h;cases h
 .rw [AAH a] at h;by_cases h1: -(n:Int)<=i
  .rw [AAJ h1] at h;have e:(i+n).toNat=j:=ABW h;exact⟨by rw[seqIndex_neg (by omega) h1,e],by omega,h1,by omega⟩
  .rw [AAH h1] at h;cases h
def ZH {a:Type}{xs:kj a}{i:Int}{v:a}(h:Je xs i=some v):∃j,seqIndex? i xs.length=some j/\xs[j]? =some v/\j<xs.length/\ -(xs.length:Int)<=i/\i<xs.length:=by
 unfold Je at h;cases e:V3 xs.length i with
 | none=>rw[e] at h;cases h
 | some j=> rw[e] at h;obtain⟨h1,h2,b,c⟩:=Zq e;exact⟨j,h1,h,h2,b,c⟩
def DE {a:Type}{xs:kj a}{j:Nat}{v:a}(h:xs[j]? =some v):Je xs (j:Int)=some v:=by
 have hj:j<xs.length:=(ABc.mp h).1;have e:V3 xs.length (j:Int)=some j:=by unfold V3;rw[AAJ (by omega),AAJ (by omega)];simp
 unfold Je;rw[e];exact h
def TH (b:fe):Prop:=∀o i,subscripted b false o i=operate [o,i] (getItem o i)
def jc (X:Cx)(r:R2):Prop:=
 ∀(value slice:fe) (Sb:kj (kd×Obj)) (s:kf) (a:St) (H:Hp) (x y:V) (v u:ki) (Q:VK),Inv X Sb a H s->RelV x v->RelV y u->r x y H Q->
  subscripted slice false v u=operate [v,u] (getItem v u)->wpAny (model X.prog X.w) X.A (subscriptTail value slice v u) (EP X Sb a Q) X.xe s
def sR (X:Cx)(id:String)(r:V->kj V->Hp->VK->Prop):Prop:=
 ∀(Sb:kj (kd×Obj)) (s:kf) (a:St) (H:Hp) (x:V) (xs:kj V) (v:ki) (b:kj ki) (Q:VK),Inv X Sb a H s->RelV x v->A3 xs b->r x xs H Q->
  wpAny (model X.prog X.w) X.A (call (.builtin id) (v::b)) (EP X Sb a Q) X.xe s
section
variable {X:Cx}{a b:fe}{ta tb:TE}{pos:Pos}
def jc.or {r c:R2}(h:jc X r)(h':jc X c):jc X (λx y H Q=>r x y H Q\/c x y H Q):=by
 intro value slice Sb s d H x y v u Q I e f q hs;rcases q with q|q
 .exact h value slice Sb s d H x y v u Q I e f q hs
 .exact h' value slice Sb s d H x y v u Q I e f q hs
def sR.or {id:String}{r c:V->kj V->Hp->VK->Prop}(h:sR X id r)(h':sR X id c):sR X id (λx xs H Q=>r x xs H Q\/c x xs H Q):=by
 intro Sb s d H x xs v e Q I f rs q;rcases q with q|q
 .exact h Sb s d H x xs v e Q I f rs q
 .exact h' Sb s d H x xs v e Q I f rs q
def NO {r:R2}(c:jc X r)(ha:PE X a ta)(hb:PE X b tb)(hs:TH b):PE X (.Subscript a b pos) (mN r ta tb):=by intro Sb s d H Q I h;exact Subscript_ (oO ha hb I h λv u e x y f g i j q=>c a b Sb e d f x y v u Q g i j q (hs _ _))
def uh (K:AAG):R2:=λx y H Q=>∃p xs i v,x= .ref p/\y= .int i/\FY K H p xs/\Je xs i=some v/\Q v H
def uj (K:AAG):R2:=λx y H Q=>∃p xs i v,x= .ref p/\y= .int i/\Ky K H p xs/\Je xs i=some v/\Q v H
def Fk:jc X (uh X.K):=by
 intro value slice Sb s g H x y v u Q I l m h hs;obtain⟨p,xs,i,z,rfl,rfl,hq,he,q⟩:=h;cases l;obtain⟨t,rfl⟩:=m;obtain⟨d,r,e,hz⟩:=I.list hq;obtain⟨j,h1,h2,B,n,o⟩:=ZH he;obtain⟨w,ew,f⟩:=r.get h2;have hl:=r.length;have hn:=MX;have c:EP X Sb g Q w s:=⟨z,H,I,f,q⟩;by_cases k:0<=i
 .have hj:i.toNat=j:=by rw[seqIndex_of k o] at h1;exact ABW h1
  exact item_listR e.isList k (by omega) (by rw[hj];simpa using ew) c hs
 .have hj:(i+(d.toArray.size:Int)).toNat=j:=by rw[seqIndex_neg (by omega) n] at h1;rw[ABP,<-hl];exact ABW h1
  exact subscriptTail_builtinR (x:=w) e.isList.typeIs slot_list_getitem.lookup
   (wpAny_getItem_list_neg (Q:=λr A=>r=w/\EP X Sb g Q r A) e.isList (by omega) (by rw[ABP] <;> omega) (by omega) (by rw[hj];simpa using ew) ⟨rfl,c⟩) hs
def pI:jc X (uj X.K):=by
 intro value slice Sb s e H x y v u Q I g k h hs;obtain⟨p,xs,i,z,rfl,rfl,hq,he,q⟩:=h;cases g;obtain⟨t,rfl⟩:=k;obtain⟨l,r,f,hz⟩:=I.tuple hq;obtain⟨j,h1,h2,n,o,A⟩:=ZH he;obtain⟨w,ew,c⟩:=r.get h2;have hl:=r.length;have hn:=MX;have d:EP X Sb e Q w s:=⟨z,H,I,c,q⟩;exact subscriptTail_builtinR (x:=w) f.typeIs slot_tuple_getitem.lookup
  (getItem_tuple (j:=j) (Q:=λr m=>r=w/\EP X Sb e Q r m) f (by omega) (by omega) (by rw[ABP,<-hl];exact h1) (by simpa using ew) ⟨rfl,d⟩) hs
def Xw (c:kj ki)(n j:Nat)(u:ki):Obj.mapSeq (·.setIfInBounds j u) {cls:= .type "list",data:= .seq c.toArray n}={cls:= .type "list",data:= .seq (c.set j u).toArray n}:=by simp[Obj.mapSeq]
def Inv.lst {Sb:kj (kd×Obj)}{d:St}{H:Hp}{s:kf}{p:kd}{xs:kj V}(I:Inv X Sb d H s)(h:H p=some (.lst xs)):∃(c:kj ki) (n:Nat),A3 xs c/\s.heap.get? p=some {cls:= .type "list",data:= .seq c.toArray n}/\xs.length<=sizeLine:=by obtain⟨z,c,n,r,e⟩:=I.hok p _ h;exact⟨c,n,r,e,z⟩
def Inv.lstUpd {Sb:kj (kd×Obj)}{g:St}{H:Hp}{s:kf}{p:kd}{xs ys:kj V}{c its':kj ki}{n d:Nat}{f:Obj->Obj}(I:Inv X Sb g H s)(h:H p=some (.lst xs))(j:s.heap.get? p=some {cls:= .type "list",data:= .seq c.toArray n})(i:f {cls:= .type "list",data:= .seq c.toArray n}={cls:= .type "list",data:= .seq its'.toArray d})(r:A3 ys its')(hz:ys.length<=sizeLine)(t:Nat):Inv X Sb g (upd H p (.lst ys)) {s with heap:=s.heap.update p f,toks:=t}:=by
 have e:(s.heap.update p f).get? p=some {cls:= .type "list",data:= .seq its'.toArray d}:=by rw[ADQ f j (by rw[i] <;> rfl),i]
 refine I.write (x:=p) (e:=p) (by rw[h];trivial) (.inl rfl) (λb u hb q=>(ADy _ _ (ACD hb)).trans q) ⟨_,e⟩ ?_;exact⟨hz,its',d,r,e⟩
def uo:V->V->V->Hp->(Hp->Prop)->Prop:=λo i v H Q=>∃p xs k j,o= .ref p/\i= .int k/\H p=some (.lst xs)/\V3 xs.length k=some j/\Q (upd H p (.lst (xs.set j v)))
def QI:sU X uo:=by
 intro Sb s m H o i v y z u Q I w x rv h;obtain⟨p,xs,k,j,rfl,rfl,hp,hj,q⟩:=h;cases w;obtain⟨t,rfl⟩:=x;obtain⟨c,n,r,d,hz⟩:=I.lst hp;obtain⟨h1,h2,e,f⟩:=Zq hj;have hl:=r.length;have hn:=MX;have g:Inv X Sb m (upd H p (.lst (xs.set j v))) {s with heap:=s.heap.update p (Obj.mapSeq (·.setIfInBounds j u))}:=
  I.lstUpd hp d (Xw c n j u) (r.set rv j) (by rw[List.length_set];exact hz) s.toks
 by_cases l:0<=k
 .have hk:k.toNat=j:=by rw[seqIndex_of l f] at h1;exact ABW h1
  exact PySem.W.ki_setAt d l (by omega) (by rw[ABP,<-hl];exact f) (by rw[hk];exact⟨_,g,q⟩)
 .have hk:(k+(c.toArray.size:Int)).toNat=j:=by rw[seqIndex_neg (by omega) e] at h1;rw[ABP,<-hl];exact ABW h1
  exact PySem.W.ki_setBack d (by omega) (by rw[ABP,<-hl];exact e) (by omega) (by rw[hk];exact⟨_,g,q⟩)
def Ui (lo hi:kc Int)(n:Nat):(sliceBounds lo hi none n).1=((HT.sIx n 0 lo:Nat):Int)/\(sliceBounds lo hi none n).2.1=((HT.sIx n n hi:Nat):Int)/\(sliceBounds lo hi none n).2.2=1:=by
 refine⟨?_, ?_,rfl⟩
 .cases lo with
  | none=>simp[sliceBounds,HT.sIx]
  | some i=>
    simp only[sliceBounds,HT.sIx,Option.getD_none,show (1:Int)>0 by decide,AB2];by_cases h:i<0
    .simp only[h,AB2] <;> omega
    .simp only[h,ABe] <;> omega
 .cases hi with
  | none=>simp[sliceBounds,HT.sIx]
  | some i=>
    simp only[sliceBounds,HT.sIx,Option.getD_none,show (1:Int)>0 by decide,AB2];by_cases h:i<0
    .simp only[h,AB2] <;> omega
    .simp only[h,ABe] <;> omega
def RI (c:kj ki)(lo hi:kc Int):slicePick c.toArray lo hi none=((c.drop (HT.sIx c.length 0 lo)).take (HT.sIx c.length c.length hi-HT.sIx c.length 0 lo)).toArray:=by obtain⟨h1,h2,d⟩:=Ui lo hi c.toArray.size;unfold slicePick;rw[h1,h2,d];simp only[sliceRange_one,pick_run,ABP] <;> rfl
def xn (K:AAG):V->kc Int->kc Int->Hp->VK->Prop:=λx lo hi H Q=>∃a xs,x= .ref a/\FY K H a xs/\∀p,H p=none->Q (.ref p) (upd H p (.lst (Qw xs lo hi)))
def mI:ma X (xn X.K):=by intro Sb s j H x v k l lo hi m Q I d hs e f h;obtain⟨a,xs,rfl,hx,q⟩:=h;cases d;obtain⟨g,r,c,hz⟩:=I.list hx;have i:=r.length;refine⟨"list",_,slot_list_getitem.lookup,c.isList.typeIs, ?_⟩;refine wpAny_getItem_list_slice c.isList hs e f .none (by simp) ?_ (by rw[ABP] <;> omega);rw[RI,<-i];refine⟨.ref s.heap.objs.size,_,I.laid (t':=s.toks) (o:= .lst (Qw xs lo hi)) (λb n q=>ABF _ q) (ABH _) ?_,rfl,q _ (I.hok.fresh (ABH _))⟩;exact⟨ABT (NJ xs lo hi) hz,_,0,(r.drop (HT.sIx xs.length 0 lo)).take (HT.sIx xs.length xs.length hi-HT.sIx xs.length 0 lo),ABM _ rfl⟩
def K2:Cv X (.builtin "len") (λxs H Q=>∃p ys,xs= [.ref p] /\(FY X.K H p ys\/Ky X.K H p ys)/\Q (.int ys.length) H):=by
 intro Sb s i H xs j Q I r h;obtain⟨p,ys,rfl,hq,q⟩:=h;obtain⟨u,rfl,g⟩:=vals1 r;cases g;have hn:=MX;rcases hq with hq|hq
 .obtain ⟨c,d,e,hz⟩:=I.list hq;have f:=d.length;exact Calls.call_len_list e.isList (by simp only[ABP] <;> omega) ⟨.int ys.length,H,I.tok _,⟨s.toks+1,by rw[ABP,f]⟩,q⟩
 .obtain ⟨c,d,e,hz⟩:=I.tuple hq;have f:=d.length;exact len_tuple e (by simp only[ABP] <;> omega) ⟨.int ys.length,H,I.tok _,⟨s.toks+1,by rw[ABP,f]⟩,q⟩
def Cv.or {f:ki}{r c:kj V->Hp->VK->Prop}(h:Cv X f r)(h':Cv X f c):Cv X f (λxs H Q=>r xs H Q\/c xs H Q):=by
 intro Sb s d H xs e Q I rs q;rcases q with q|q
 .exact h Sb s d H xs e Q I rs q
 .exact h' Sb s d H xs e Q I rs q
def Qv:Cv X (.type "tuple") (λxs H Q=>∃p ys,xs= [.ref p] /\((FY X.K H p ys/\∀l,H l=none->Q (.ref l) (upd H l (.tup ys)))\/(Ky X.K H p ys/\Q (.ref p) H))):=by
 intro Sb s g H xs n Q I r h;obtain⟨p,ys,rfl,h⟩:=h;obtain⟨u,rfl,j⟩:=vals1 r;cases j;rcases h with⟨hq,q⟩|⟨hq,q⟩
 .obtain ⟨c,d,f,hz⟩:=I.list hq;have t:=d.length;refine call_tuple_list f.isList (λh' k=> ?_) (by simp only[ABP] <;> omega);have i:Inv X Sb g H {s with heap:=h'}:=I.kept (t':=s.toks) k;have m:Inv X Sb g (upd H h'.objs.size (.tup ys)) {s with heap:=h'.push {cls:= .type "tuple",data:= .seq c.toArray}}:=
   i.laid (t':=s.toks) (λb o e=>ABF _ e) (ABH _) (show DT X.prog X.w _ _ _ (.tup ys) from⟨hz,c,d,IsTup.new _ _⟩)
  exact⟨.ref h'.objs.size,_,m,rfl,q _ (i.hok.fresh (ABH _))⟩
 .obtain ⟨c,d,f,hz⟩:=I.tuple hq;exact call_tuple_same f ⟨.ref p,H,I,rfl,q⟩
def tyV (K:AAG)(T:String)(x:V)(H:Hp):Prop:=match x with
 | .str _=>T="str"
 | .int _=>T="int"
 | .ref p=>(T="list" /\∃xs,FY K H p xs)\/(T="tuple" /\∃o,K.lookup p=some o/\o.cls= .type "tuple" /\o.dict=none)\/
     (T="dict" /\((∃c,H p=some (.dK c))\/∃c,H p=some (.dT c)))\/(T="set" /\∃S n,H p=some (.set S n))
 | _=>False
def qw {Sb:kj (kd×Obj)}{k:St}{H:Hp}{s:kf}{T:String}{x:V}{v:ki}(I:Inv X Sb k H s)(r:RelV x v)(d:tyV X.K T x H):s.TypeIs v T/\∀a,v= .ref a->∃h,s.heap.get? a=some h/\h.dict=none:=by
 cases x with
 | str z=> obtain⟨t,rfl⟩:=r;cases (show T="str" from d);exact⟨typeIs_str s z t,λ_ e=>nomatch e⟩
 | int i=> obtain⟨t,rfl⟩:=r;cases (show T="int" from d);exact⟨typeIs_int s i t,λ_ e=>nomatch e⟩
 | ref p=>
   cases r;rcases d with⟨rfl,xs,hq⟩|⟨rfl,o,hk,hc,hd⟩|⟨rfl,hk⟩|⟨rfl,S,n,hk⟩
   .obtain ⟨l,_,j,_⟩:=I.list hq;refine⟨j.isList.typeIs,λa e=> ?_⟩;cases e;obtain⟨o,n,e,c,hd,_⟩:=j;exact⟨o,e,hd⟩
   .refine ⟨⟨o,I.kIn p o hk,hc⟩,λa e=> ?_⟩;cases e;exact⟨o,I.kIn _ o hk,hd⟩
   .have z:∃o,s.heap.get? p=some o/\o.ExactDict:=by
     rcases hk with⟨f,hk⟩|⟨f,hk⟩
     .obtain ⟨_,_,_,_,o,_,_,e,ex,_⟩:=I.hok p _ hk;exact⟨o,e,ex⟩
     .obtain ⟨_,_,_,_,o,_,_,e,ex,_⟩:=I.hok p _ hk;exact⟨o,e,ex⟩
    obtain⟨o,e,ex⟩:=z;refine⟨⟨o,e,ex.1⟩,λa g=> ?_⟩;cases g;exact⟨o,e,ex.2.1⟩
   .obtain ⟨o,_,_,_,e,ex,_⟩:=I.hok p _ hk;refine⟨⟨o,e,ex.1⟩,λa g=> ?_⟩;cases g;exact⟨o,e,ex.2.1⟩
 | _=>exact False.elim d
def tBM (K:AAG)(T:String)(r:V->kj V->Hp->VK->Prop)(e:TE)(t:TA):TE:=λc H Q=>e c H λx d=>tyV K T x d/\t c d λxs f=>r x xs f Q
variable {o e:fe}{es:kj fe}{to:TE}{t:TA}{name:Str}{apos cpos:Pos}{T id:String}{r:V->kj V->Hp->VK->Prop}
def uc (g:PlainAttrs T)(slot:Slot T name id)(i:typeOf (.builtin id)=pure (.type "method_descriptor"))(j:sR X id r)(k:PE X o to)(ha:PA X (e::es) t)(l:attributeBase o name X.env (eval o X.env)=eval o X.env:=by rfl)(m:((backTo cpos (starEach (e::es) X.env)).all (λx=> !x.1)&&(backToKw cpos (keywordEach [] X.env)).all (λx=>x.1.isSome) && decide ((e::es).length+([] :kj Keyword).length+(if ([] :kj Keyword).isEmpty then 0 else 1)<30))=true:=by rfl)(n:(apos.endLine==cpos.line)=true:=by rfl)(hs:starEach (e::es) X.env=(false,eval e X.env)::starEach es X.env:=by rfl)(p:(backTo cpos (starEach es X.env)).any (·.1)=false:=by rfl):PE X (.Call (.Attribute o name apos) (e::es) [] cpos) (tBM X.K T r to t):=by intro Sb s c H Q I h;refine wpAny_Call_method_late l m n rfl (Be (k Sb s c H _ I h) λv u ⟨x,w,d,r1,y,z⟩=> ?_);obtain⟨h1,h2⟩:=qw d r1 y;refine⟨T,id,g,slot,i,h1,h2, ?_⟩;have f:=ha cpos Sb u c w _ d z;rw[hs] at f ⊢;refine Calls.callWith_builtin (by show (false||(backTo cpos (starEach es X.env)).any (·.1))=false;rw[p] <;> rfl) (Calls.evalArgs_plain ?_);exact Be f λA B ⟨vs,C,D,r2,E⟩=>j Sb B c C x vs v A Q D r1 r2 E
end
def oB (X:Cx)(id:String)(r:V->kj V->Hp->VK->Prop):Prop:=
 ∀(Sb:kj (kd×Obj)) (s:kf) (a:St) (H:Hp) (x:V) (xs:kj V) (v:ki) (b:kj ki) (Q:VK),Inv X Sb a H s->RelV x v->A3 xs b->r x xs H Q->
  wpAny (model X.prog X.w) X.A (call (.builtin id) (v::b)) (EP X Sb a Q) X.xe s
def A3.one:∀{x:V} {a:kj ki},A3 [x] a->∃u,a= [u] /\RelV x u
 | _,_, .cons r .nil=>⟨_,rfl,r⟩
def A3.two:∀{x y:V} {a:kj ki},A3 [x,y] a->∃u v,a= [u,v] /\RelV x u/\RelV y v
 | _,_,_, .cons r (.cons q .nil)=>⟨_,_,rfl,r,q⟩
def A3.zero:∀{a:kj ki},A3 [] a->a= []
 | _, .nil=>rfl
def A3.dropLast {xs:kj V}{a:kj ki}(h:A3 xs a):A3 xs.dropLast a.dropLast:=by
 induction h with
 | nil=>exact .nil
 | cons r t ih=>
   cases t with
   | nil=>exact .nil
   | cons q t'=>exact .cons r ih
def A3.reverse {xs:kj V}{a:kj ki}(h:A3 xs a):A3 xs.reverse a.reverse:=by
 induction h with
 | nil=>exact .nil
 | cons r t ih=>rw[AEc,AEc];exact A3.append ih (.cons r .nil)
section
variable {X:Cx}{Sb:kj (kd×Obj)}{σ:St}{H:Hp}{s:kf}{l b:kd}{xs ys zs:kj V}
def Inv.lset {a its':kj ki}{n:Nat}{f:Array ki->Array ki}{t':Nat}(I:Inv X Sb σ H s)(c:H l=some (.lst xs))(e:s.heap.get? l=some {cls:= .type "list",data:= .seq a.toArray n})(d:f a.toArray=its'.toArray)(hv:A3 ys its')(hz:ys.length<=sizeLine):Inv X Sb σ (upd H l (.lst ys)) {s with heap:=s.heap.update l (Obj.mapSeq f),toks:=t'}:=by have q:=PySem.IsL.update e f;rw[d] at q;refine I.write (x:=l) (e:=l) (by rw[c];exact trivial) (.inl rfl) (λg u hb hu=>(ADy s.heap (Obj.mapSeq f) (ACD hb)).trans hu) ⟨_,q⟩ ?_;exact⟨hz,its',_,hv,q⟩
def Inv.lnew {a:kj ki}{t':Nat}(I:Inv X Sb σ H s)(hv:A3 ys a)(hz:ys.length<=sizeLine):Inv X Sb σ (upd H s.heap.objs.size (.lst ys)) {s with heap:=s.heap.push {cls:= .type "list",data:= .seq a.toArray},toks:=t'}:=
 I.laid (λ_ _ q=>ABF _ q) (ABH _) ⟨hz,a,0,hv,ABM _ rfl⟩
def Inv.fresh (I:Inv X Sb σ H s):H s.heap.objs.size=none:=I.hok.fresh (ABH _)
def Inv.lstM (I:Inv X Sb σ H s)(c:H l=some (.lst xs)):xs.length<=sizeLine/\∃(a:kj ki) (n:Nat),A3 xs a/\xs.length=a.length/\s.heap.get? l=some {cls:= .type "list",data:= .seq a.toArray n}:=by obtain⟨z,a,n,r,e⟩:=I.hok l _ c;exact⟨z,a,n,r,r.length,e⟩
def gQ {n:Nat}(h:n<=sizeLine):Builtin.List.listTooLong n=false:=by unfold Builtin.List.listTooLong;exact ABa (by omega)
end
section
variable {X:Cx}
def UJ:V->kj V->Hp->VK->Prop:=λx vs H Q=>∃l xs y,x= .ref l/\vs= [y] /\H l=some (.lst xs)/\xs.length<sizeLine/\Q .non (upd H l (.lst (xs ++ [y])))
def IX:oB X "list.append" UJ:=by intro Sb s f H x vs v g Q I c rv h;obtain⟨l,xs,y,rfl,rfl,b,hz,q⟩:=h;cases c;obtain⟨u,rfl,d⟩:=rv.one;obtain⟨z,a,n,r,hl,e⟩:=I.lstM b;refine call_meets F.slot_list_append ⟨_,e,rfl⟩ F.entry_list_append (F.args_list_append_2 _ _) (PySem.list_append l a.toArray n u (by rw[ABP];omega)) ⟨e, ?_⟩;refine⟨.non,_,I.lset (its':=a ++ [u]) b e (by simp) (r.append (.cons d .nil)) ?_,rfl,q⟩;rw[AB9,AFX];omega
def uf:R2:=λx y H Q=>∃l b xs a,x= .ref l/\y= .ref b/\H l=some (.lst xs)/\H b=some (.lst a)/\xs.length+a.length<=sizeLine/\∀p,H p=none->Q (.ref p) (upd H p (.lst (xs++a)))
def ga:Em X (binaryOp .Add) uf:=by
 intro Sb s m H x y v u Q I d f h;obtain⟨l,b,xs,o,rfl,rfl,g,i,hz,q⟩:=h;cases d;cases f;obtain⟨z,c,n,r,hl,e⟩:=I.lstM g;obtain⟨p,a,t,r2,w,j⟩:=I.lstM i;refine PySem.P.add_list e j ?_ (by rw[ABP,ABP];omega);have k:c.toArray++a.toArray=(c++a).toArray:=by simp
 rw[k];exact⟨.ref _,_,I.lnew (t':=s.toks) (r.append r2) (by rw[AB9];omega),rfl,q _ I.fresh⟩
end
section
variable {prog:Wf}{w:Tb}{A:Sl}{E:ki->kf->Prop}{s:kf}
set_option maxRecDepth 100000 in
end
end L2
namespace Att
open PySem PySem.W PySem.Calls PyProof.Rows
def Nh {P:Params}{h:Sr}:∀(c:kj Int) (vs:kj ki),WellAll P h vs (c.map WData.int)->IntsAre vs c:=by
 intro c;induction c with
 | nil=> intro vs w;rw[ADd] at w;cases w;exact .nil
 | cons n c ih=>
   intro vs w;rw[ABJ] at w;cases w with
   | cons a b=> cases a;exact .cons _ _ (ih _ b)
def cv {l:OpenLaw}{n:Nat}(hn:l.most=some n){P:Params}{h:Sr}{args:kj WData}{vals:kj ki}(f:l.row.toRowW.claim.pre args=true)(g:WellAll P h vals args):∃a vs b,vals= [Value.ref a] /\args= [WData.list (b.map WData.int)] /\h.get? a=some {cls:= .type "list",data:= .seq vs.toArray}/\IntsAre vs b/\b.length<=n:=by
 have xR:WShape.hasAll [] args [.list .int] =true:=(pre_splitW f).1;have hc:l.pre.holds [] {args:=args}=true:=(pre_splitW f).2;obtain⟨d,r,rfl,h1,h2⟩:=hasAllW_cons xR;obtain rfl:=hasAllW_nil h2;obtain⟨xs,rfl,i⟩:=hasW_list h1;obtain⟨b,rfl⟩:=items_int i;have j:b.length<=n:=by
  unfold OpenLaw.pre at hc;have c:(WTm.not (.lt (.lit (.int (n:Int))) (.len (.arg 0)))).holds [] {args:= [.list (b.map .int)] }=true:=by have c:=(holds_andW hc).1;rw[hn] at c;exact c
  have e:=condW_of c (w_not (w_lt w_lit (w_len_list (w_arg rfl))));rw[ABL] at e;refine Nat.le_of_not_lt λq=> ?_;have k:(n:Int)<((b.length:Nat):Int):=by omega
  first
   | (rw[ABQ k] at e;exact absurd e (by decide))
   | (simp at e;omega)
 cases g with
 | cons m o=>
   cases o;cases m with
   | list p s=>exact⟨_,_,b,rfl,rfl,p,Nh b _ s,j⟩
def ci (l:OpenLaw)(args:kj WData):l.row.toRowW.claim.post args (.bool true) args=true:=
 postW_of (r:=l.row.toRowW) (X:=(true==true))
  (show WShape.has [] (.bool true) .bool=true by first | rfl|decide|simp[WShape.has,WShape.arms,WShape.armsAll])
  (show (WTm.eq .res (.lit (.bool true))).value [] {args:=args,res:=some (.bool true),after:=args}=some (.bool (true==true)) from w_eq_bool (w_res rfl) w_lit) rfl
def attach_call {l:OpenLaw}{n:Nat}{q:Wf}{loose:kj Str}{XP:(Str->kc ki)->Sr->Prop}{YP:Tb->Sr->Prop}{d:DefRec}(hn:l.most=some n)(p:d.params.defaults= [])(call:∀(w:Tb) (s₀ b:kf) (mg j:Str->kc ki) (e:kd) (o:Obj) (k g c:ki) (a:kd) (vs:kj ki) (h:kj Int),Ground q loose [] XP w s₀ mg j b.heap->YP w b.heap-> b.heap.get? e=some o->o.data= .func (docDef d.name d.params d.body d.scope k g c)->b.heap.CodeRec g d.name->mg d.name=some (.ref e)-> b.heap.get? a=some {cls:= .type "list",data:= .seq vs.toArray}->IntsAre vs h->h.length<=n->b.gens= #[] -> codeAny (model l.prog w) callerA (.call (.ref e) ⟨[.ref a], []⟩) (λr i=>r= .ok (.ret (.bool true))/\OldK b.heap i.heap/\i.os=b.os/\AllBare i.gens) b):WalkO q loose XP YP l.row.toRowW d [] (λf vs=>PySem.call f vs):=by intro w s₀ b mg j G Y e o k g c s kV t hd u m v x args vals as y z A B C;obtain rfl:s= .none:=Dflts.none m p;obtain rfl:kV= .none:=Dflts.noKw m;obtain⟨a,vs,h,rfl,rfl,D,E,F⟩:=cv hn y B;refine enter_call (ADv (call w s₀ b mg j e o k g c a vs h G Y t (fd_plain hd) u v D E F x) λr i hq=> ?_);obtain⟨rfl,h2,H,I⟩:=hq;exact⟨.inl ⟨.bool true, .bool true, [],rfl,λ_=>rfl, .bool true,ci l _,λ_=>⟨List.Pairwise.nil,λ_ J=>(nomatch J)⟩⟩,h2,H,I⟩
section
variable {prog:Wf}{w:Tb}{A:Sl}{E:ki->kf->Prop}{s:kf}{K:Frag}
def xg (h:Sr)(L d:kd):kj (kd×Obj):=(List.range h.objs.size).filterMap λa=>if a=L\/a=d then none else (h.get? a).map λo=>(a,o)
end
end Att
namespace L2
open PySem PySem.Spec PyProof.Rows
theorem SN:∀{vs:kj ki} {a:kj Int},IntsAre vs a->A3 (a.map V.int) vs
 | _,_, .nil=> .nil
 | _,_, .cons n t h=> .cons ⟨t,rfl⟩ (SN h)
def oE (H:Hp):Prop:=∀b,H b=none\/∃o xs,H b=some (.frz o (.lst xs))
def gA {P:Wf}{w:Tb}{K:AAG}{mg t:Str->kc ki}{CX:ah}{k:Nat}{y a:kd}{C:FuncData}{x:Str}{sp:Sp}{c:kf}{vs:kj ki}{j:kj Int}(D:K.In c.heap)(E:c.heap.Ns mainGlobals mg)(hb:c.heap.Ns builtinsNs t)(A:∀x:Str,x≠"__name__" ->t x=bootBuiltins x)(M:c.heap.NoLimit)(N:c.gens= #[])(ha:c.heap.get? a=some {cls:= .type "list",data:= .seq vs.toArray})(hi:IntsAre vs j)(hl:j.length<=sizeLine)(O:Room k callerA)(F:∀base:Sr,K.In base->base.Ns mainGlobals mg->FF P w K mg base CX k y C [x] sp)(Q:∀(s:kf) (u:ki),BindsTo s C ⟨[u], []⟩ [(x,u)])(R:∀H:Hp,oE H->FY K H a (j.map V.int)->sp [.ref a] H (λv _=>v= .bl true) λ_ _ _=>False)(S:∀H e g,CX [] H c (λ_ _ _=>False) e g->False):codeAny (model P w) callerA (.call (.ref y) ⟨[.ref a], []⟩) (λr g=>r= .ok (.ret (.bool true))/\OldK c.heap g.heap/\g.os=c.os/\AllBare g.gens) c:=by
 have rv:=SN hi;have l:=hi.length;have core:∀H:Hp,oE H->FY K H a (j.map V.int)->Na P w H c.heap->(∀b,H b≠none->b=a)->(H a≠none->K.lookup a=none)->
  codeAny (model P w) callerA (.call (.ref y) ⟨[.ref a], []⟩) (λr g=>r= .ok (.ret (.bool true))/\OldK c.heap g.heap/\g.os=c.os/\AllBare g.gens) c:=by
  intro H G T hok I U;have f:∀{b:kd} {o:Obj},c.heap.get? b=some o->H b=none->(Tf c.heap H).get? b=some o:=λe n=>fX e n;have B:∀{b:kd} {o:Obj} {es:Array DictEntry} {ep:Nat},c.heap.get? b=some o->o.data= .dict es ep->H b=none:=λ{b o es ep} e d=>by
   cases q:H b with
   | none=>rfl
   | some u=> have e':b=a:=I b (by rw[q];simp);subst e';rw[ha] at e;cases e;have d':Data.seq vs.toArray _=Data.dict es ep:=d;cases d'
  have i:∀{b:kd} {m:Str->kc ki},c.heap.Ns b m->(Tf c.heap H).Ns b m:=λ{b m} ⟨o,es,ep,e,d,r⟩=>⟨o,es,ep,f e (B e d),d,r⟩;have J:K.In (Tf c.heap H):=λb o e=>f (D b o e) (by
   cases q:H b with
   | none=>rfl
   | some u=>
     have e':b=a:=I b (by rw[q];simp);subst e';rw[U (by rw[q];simp)] at e;cases e)
  have hM:Mod K mg (Tf c.heap H):=⟨J,i E,⟨t,i hb,A⟩,let ⟨W,h1,h2⟩:=M;⟨W,i h1,h2⟩⟩;have X:Qn P w K mg (Tf c.heap H) callerA [] c H:=⟨rfl,hM,λb o e=>lE e,Nat.le_of_eq (bX _ _),trivial,λb hb=>absurd (show b∈([] :kj kd) from hb) (by simp),hok, .of_eq N⟩;refine ADv ((F _ J (i E)).run callerA [] c H ⟨[.ref a], []⟩ [.ref a] [.ref a] _ _ O X (Q c (.ref a)) (.cons rfl .nil) (R H G T)) λr g h=> ?_;cases r with
  | error e=>exact(S H e g h).elim
  | ok Y=>
    cases Y with
    | next=>exact False.elim h
    | brk=>exact False.elim h
    | cont=>exact False.elim h
    | ret u=>
      obtain⟨v,H',os,bare,un,Z,r',q⟩:=h;have q':v= .bl true:=q;subst q';obtain rfl:u=Value.bool true:=r';refine⟨rfl,OldK.of_keep λb o e=> ?_,os,bare⟩;cases q:H b with
      | none=>exact un.keep b o e q (by intro z;exact absurd (show b∈([] :kj kd) from z) (by simp)) (by simp)
      | some u=>
        rcases G b with z|⟨ob,xs,z⟩
        .rw [q] at z;cases z
        .have z2:=un.frzs b ob _ z;obtain⟨L,_⟩:=hok b _ z;obtain⟨e2,_⟩:=Z b _ z2;rw[e] at L;cases L;exact e2
 cases hk:K.lookup a with
 | some o=> have e:=D a o hk;rw[ha] at e;cases e;refine core (λ_=>none) (λ_=> .inl rfl) (.inr ⟨_,vs.toArray,_,hk,rfl,rfl,rfl,by rw[ABP,l];exact hl,by simpa using rv⟩) (λb u z=>by have p:(none:kc HO)=some u:=z;cases p) (λb z=>absurd rfl z) λz=>absurd rfl z
 | none=>
   refine core (λb=>if b=a then some (.frz {cls:= .type "list",data:= .seq vs.toArray} (.lst (j.map V.int))) else none) (λb=> ?_) (.inl (.inr ⟨{cls:= .type "list",data:= .seq vs.toArray},AAJ rfl⟩)) (λb u z=> ?_) (λb z=> ?_) λ_=>hk
   .by_cases hb:b=a
    .exact .inr ⟨_,_,AAJ hb⟩
    .exact .inl (AAH hb)
   .by_cases hb:b=a
    .have p:=(AAJ hb).symm.trans z;cases p;subst hb;exact⟨ha,by rw[ABL];exact hl,vs,_,rv,ha⟩
    .have p:=(AAH hb).symm.trans z;cases p
   .by_cases hb:b=a
    .exact hb
    .exact absurd (AAH hb) z
abbrev KOf {K:AAG}{h:Sr}(_:K.In h):AAG:=K
def walk_of {l:PySem.W.OpenLaw}{n k:Nat}{q:Wf}{loose:kj Str}{XP:(Str->kc ki)->Sr->Prop}{YP:Tb->Sr->Prop}{d:DefRec}{K:Params->AAG}{CX:Tb->ah}{sp:Tb->Sp}{x:Str}(hn:l.most=some n)(m:n<=sizeLine)(z:d.params.defaults= [])(A:Room k callerA)(B:∀(w:Tb) (h:Sr),YP w h->(K w.params).In h)(F:∀(w:Tb) (mg:Str->kc ki) (i:kd) (h:Sr),(K w.params).In h->h.Ns mainGlobals mg->mg d.name=some (.ref i)-> ∃p:FuncData,(∀(s:kf) (u:ki),BindsTo s p ⟨[u], []⟩ [(x,u)])/\ ∀base:Sr,(K w.params).In base->base.Ns mainGlobals mg->FF l.prog w (K w.params) mg base (CX w) k i p [x] (sp w))(C:∀(w:Tb) (H:Hp) (a:kd) (j:kj Int),j.length<=n->oE H->FY (K w.params) H a (j.map V.int)->sp w [.ref a] H (λv _=>v= .bl true) λ_ _ _=>False)(D:∀(w:Tb) (H:Hp) (s:kf) (e:ki) (r:kf),CX w [] H s (λ_ _ _=>False) e r->False):PySem.W.WalkO q loose XP YP l.row.toRowW d [] (λf vs=>PySem.call f vs):=by refine Att.attach_call hn z λw s₀ c mg Q i o R S E a vs j G Y U hd X I J L t M=> ?_;have y:=B w _ Y;obtain⟨p,hb,N⟩:=F w mg i _ y G.T.g I;exact gA y G.T.g G.T.b G.T.builtins G.T.nolimit M J L (ABT t m) A N hb (λH O P=>C w H a j t O P) λH e r=>D w H c e r
abbrev VL:ah:=λ_ _ _ _ _ _=>False
abbrev E0:XK:=λ_ _ _=>False
def uX {X:Cx}:Passes VL X E0:=λ_ _ _ _ _ _ _ h=>h.elim
structure XD (K:AAG) (x qual:Str) (st:Stmt) (f:Addr) (fd:FuncData):Prop where
 ex:∃(oc:Value) (od:Option Addr) (kV doc pm:Value) (an:Option Addr) (cdv ct:Value) (osl:Array (Option Value)),
  fd=PySem.W.fnOf x qual (Gh st) (EZ st) (BS st) .none kV doc pm an cdv ct/\K.lookup f=some ⟨oc,od, .func fd,osl⟩/\PySem.W.codeIn K cdv qual=true
 kp:PySem.W.keepIn K (.ref f)=true
section
variable {P:Wf}{w:Tb}{K:AAG}{mg:Str->kc ki}{base:Sr}
def XD.ok {x qual:Str}{st:Stmt}{f:kd}{b:FuncData}{N ps:kj Str}{k:Nat}{sp:Sp}(F:XD K x qual st f b)(S:Ev N ps (BS st))(len:∀vs H Q E,sp vs H Q E->vs.length=ps.length)(c:∀(a:ki) (A:Sl) (outer:kj Env) (s:kf) (H:Hp) (vs:kj V) (Q:VK) (E:XK),Room k (A.deeper (envOfC qual (BS st) s.heap.objs.size f a))->sp vs H Q E-> ∃t,ZF (Vf VL P w K mg base N qual (BS st) f a A outer s H E).nox (EZ st) t/\t {nx:=λ_ d=>Q .non d,rt:=Q} (start N vs) H):FF P w K mg base VL (k+1) f b ps sp:=by obtain⟨n,o,kV,e,p,r,a,ct,g,rfl,i,j⟩:=F.ex;refine tF i j S len λA outer s H vs Q E l m=> ?_;obtain⟨t,h,q⟩:=c a A outer s H vs Q E l m;exact⟨t,h.nox,q⟩
def XD.binds {x qual:Str}{st:Stmt}{f:kd}{g:FuncData}{ps:kj Str}(F:XD K x qual st f g)(h:∀(kV a c:ki) (d:kc kd) (b ct:ki) (e:kj ki),e.length=ps.length->bindArgs (PySem.W.fnOf x qual (Gh st) (EZ st) (BS st) .none kV a c d b ct) ⟨e, []⟩=pure (ps.zip e)):Binds K g ps [] :=by obtain⟨j,k,kV,a,c,d,b,ct,i,rfl,l,m⟩:=F.ex;exact .all (h kV a c d b ct)
def fF {x qual:Str}{st:Stmt}{f:kd}{h:ki}{i e:kc kd}{d:Array (kc ki)}{kV b g a ct:ki}(l:K.lookup f=some ⟨h,i, .func (PySem.W.fnOf x qual (Gh st) (EZ st) (BS st) .none kV b g e a ct),d⟩)(c:PySem.W.codeIn K a qual=true)(k:PySem.W.keepIn K (.ref f)=true):XD K x qual st f (PySem.W.fnOf x qual (Gh st) (EZ st) (BS st) .none kV b g e a ct):=⟨⟨h,i,kV,b,g,e,a,ct,d,rfl,l,c⟩,k⟩
end
section
variable {X:Cx}
def pv (i:Nat){x:Str}{a:Pos}(hN:X.N[i]? =some x:=by rfl)(hv:me X.env.scope x:=by first | exact Or.inl rfl|exact Or.inr (Or.inl rfl)|exact Or.inr (Or.inr rfl))(hd:(x==("__debug__" :Str))=false:=by decide)(b:(x==("__classdict__" :Str))=false:=by decide):PE X (.Name x a) (GX i):=Pw hN hv hd b
end
def uB {c A B:Prop}[Decidable c](h1:c->A)(h2:¬c->B):if c then A else B:=by
 by_cases h:c
 .rw [AAJ h];exact h1 h
 .rw [AAH h];exact h2 h
def Ku (H a:Hp):Prop:=∀b o,H b=some o->a b=some o
def Ku.refl (H:Hp):Ku H H:=λ_ _ h=>h
def Ku.trans {H d e:Hp}(a:Ku H d)(b:Ku d e):Ku H e:=λc o h=>b c o (a c o h)
def Ku.free {H a:Hp}(e:Ku H a){l:kd}(h:a l=Option.none):H l=Option.none:=by
 cases q:H l with
 | none=>rfl
 | some o=> rw[e l o q] at h;cases h
def Ku.seq {K:AAG}{H b:Hp}{a:kd}{xs:kj V}(e:Ku H b)(h:FY K H a xs):FY K b a xs:=by
 rcases h with(h|⟨o,h⟩)|h
 .exact .inl (.inl (e _ _ h))
 .exact .inl (.inr ⟨o,e _ _ h⟩)
 .exact .inr h
theorem Hu {c d:Type}[BEq c][LawfulBEq c]{k:c}{a:d}:∀{l:kj (c×d)},l.lookup k=some a->(k,a)∈l
 | [],h=>by simp at h
 | (n,b)::r,h=>by
   rw[ADe] at h;cases e:k==n with
   | true=>
     rw[e] at h;have e':k=n:=by simpa using e
     have hb:b=a:=by simpa using h
     subst e' hb;exact ADM
   | false=> rw[e] at h;exact ACO _ (Hu h)
theorem Rt {c d:Type}[BEq c][LawfulBEq c]{k:c}{a:d}:∀{l:kj (c×d)},(k,a)∈l->∃b,l.lookup k=some b
 | [],h=>nomatch h
 | (n,b)::r,h=>by
   rw[ADe];cases e:k==n with
   | true=>exact⟨b,rfl⟩
   | false=>
     rcases AAK.mp h with z|z
     .have:k=n:=congrArg Prod.fst z;rw[this] at e;simp at e
     .exact Rt z
theorem Hk {env:Env}{F:Str×NameKind->kj (Str×kd)->Sem (ForInStep (kj (Str×kd)))}(h1:∀n r c,env.cells.lookup n=some c->F (n, .free) r=pure (.yield ((n,c)::r)))(h2:∀n k r,k≠NameKind.free->F (n,k) r=pure (.yield r)):∀(names:kj (Str×NameKind)) (f:kj (Str×kd)),(∀x∈names,x.2= .free->∃c,env.cells.lookup x.1=some c)-> ∃cl,(forIn names f F:Sem _)=pure cl/\(∀p∈cl,p∈f\/env.cells.lookup p.1=some p.2)/\(∀p∈f,p∈cl)/\∀x∈names,x.2= .free->∃c,(x.1,c)∈cl
 | [],f,_=>⟨f,rfl,λp hp=> .inl hp,λp hp=>hp,λx hx=>nomatch hx⟩
 | (n,k)::r,f,h=>by
   by_cases hk:k= .free
   .subst hk;obtain⟨c,hc⟩:=h (n, .free) ADM rfl;obtain⟨cl,e,a,b,d⟩:=Hk h1 h2 r ((n,c)::f) (λx hx=>h x (ACO _ hx));refine⟨cl, ?_,λp hp=> ?_,λp hp=>b p (ACO _ hp),λx hx g=> ?_⟩
    .rw [ADf,h1 n f c hc];exact e
    .rcases a p hp with z|z
     .rcases AAK.mp z with z|z
      .subst z;exact .inr hc
      .exact .inl z
     .exact .inr z
    .rcases AAK.mp hx with z|z
     .subst z;exact⟨c,b _ ADM⟩
     .exact d x z g
   .obtain ⟨cl,e,a,b,d⟩:=Hk h1 h2 r f (λx hx=>h x (ACO _ hx));refine⟨cl, ?_,a,b,λx hx g=> ?_⟩
    .rw [ADf,h2 n k f hk];exact e
    .rcases AAK.mp hx with z|z
     .subst z;exact absurd g hk
     .exact d x z g
def Gg {env:Env}{scope:Scope}(h:∀x∈scope.names,x.2= .free->∃c,env.cells.lookup x.1=some c):∃cl,closureFor scope env=pure cl/\(∀y c,cl.lookup y=some c->env.cells.lookup y=some c)/\∀y,(y,NameKind.free)∈scope.names->∃c,cl.lookup y=some c:=by
 obtain⟨cl,e,a,_,d⟩:=Hk (env:=env) (F:=λx cs=>match x with | (name,kind)=>if (kind==NameKind.free)=true then do let a <-cellOf env name;pure (ForInStep.yield ((name,a)::cs)) else pure (ForInStep.yield cs))
  (λn r c hc=>by
    show (do let a <-cellOf env n;pure (ForInStep.yield ((n,a)::r)):Sem _)=_;unfold cellOf;rw[hc];rfl)
  (λn k r hk=>by
    have:(k==NameKind.free)=false:=by simpa using hk
    simp[this]) scope.names [] h
 refine⟨cl, ?_,λy c q=> ?_,λy hy=> ?_⟩
 .unfold closureFor;have b:(forIn scope.names ([] :kj (Str×kd)) λx cs=>match x with | (name,kind)=>if (kind==NameKind.free)=true then do let a <-cellOf env name;pure (ForInStep.yield ((name,a)::cs)) else pure (ForInStep.yield cs):Sem _) >>= (λr=>pure r)=pure cl:=by rw[e];rfl
  exact b
 .rcases a _ (Hu q) with z|z
  .exact nomatch z
  .exact z
 .obtain ⟨c,hc⟩:=d (y, .free) hy rfl;exact Rt hc
def Fv (env:Env)(sc:Scope)(cl:kj (Str×kd))(C:kd):Env:=
 {scope:=sc,locals:=C,globals:=env.globals,cells:=cl,qual:=env.qual,func:=none,code:=env.code,frame:=env.frame,builtins:=env.builtins}
def blk (X:Cx)(sc:Scope)(N:kj Str)(cl:kj (Str×kd))(C:kd)(s:kf)(H:Hp)(ex:kj kd)(pn:kj (kd×Obj)):Cx where
 prog:=X.prog
 w:=X.w
 K:=X.K
 mg:=X.mg
 base:=X.base
 A:=X.A
 N:=N
 s₀:=s
 H₀:=H
 env:=Fv X.env sc cl C
 outer:=X.stack
 stack:=X.stack
 ex:=ex
 fn:=λ_=>false
 calm:=X.calm
 pn:=pn
 xe:=λ_ _=>False
section
variable {X:Cx}{Sb:kj (kd×Obj)}{σ:St}{H:Hp}{s:kf}{fp:kj kd}{sc:Scope}{N:kj Str}{cl:kj (Str×kd)}
def Inv.notStk (I:Inv X Sb σ H s){b:kd}(h1:b≠X.env.locals)(h2:b ∉ X.fs):b ∉ dJ X.stack:=λz=>by
 rcases AAK.mp (I.stkSub b z) with e|e
 .exact h1 e
 .exact h2 e
def Inv.szLt (I:Inv X Sb σ H s){x:Str}{c:kd}(e:X.env.cells.lookup x=some c):c<s.heap.objs.size:=by obtain⟨v,q⟩:=I.cell x c e;exact q.lt
def oP (I:Inv X Sb σ H s)(d:∀b∈fp,EM X Sb H b)(f:∀b∈fp,b<s.heap.objs.size)(hk:sc.kind= .function)(h1:∀y c,cl.lookup y=some c->X.env.cells.lookup y=some c)(h2:∀y,(sc.names.lookup y=some .cell\/sc.names.lookup y=some .free)->∃c,cl.lookup y=some c):(blk X sc N cl s.heap.objs.size s H fp (X.pn++Sb)).Ok where
 mod:=I.ok.mod
 kind:=hk
 glob:=I.ok.glob
 blt:=I.ok.blt
 above:=ABH _
 inj:=λx y c a b=>I.ok.inj x y c (h1 x c a) (h1 y c b)
 has:=λx hx=>h2 x hx
 cab:=λx c z=>nomatch z
 hd:=I.ok.hd
 frames:=I.ok.frames
 stk:= .inl rfl
 exf:=λb hb=>⟨ABK (f b hb),λx c e=>(d b hb).2.2.2.2.1 x c (h1 x c e)⟩
 bs:=I.bs
 bsz:=ABT I.ok.bsz I.sz
 noex:=λb o e hb=>by
  rcases (d b hb).2.2.2.1 with z|z
  .exact I.ok.noex b o e z
  .exact absurd (ABb (ABD (I.ok.bs b o e).1) z) (ACZ _)
 exfs:=λb hb=>I.notStk (d b hb).2.1 (d b hb).2.2.1
 funs:=I.stack
 frf:=I.stkFree
def B5 (own:Nat)(ix:kj Nat)(σ:St):St:=List.replicate own none++ix.map λi=>(σ[i]?).getD none
def MI {own:Nat}{ix:kj Nat}{σ:St}:(B5 own ix σ).length=own+ix.length:=by simp[B5]
def FI {own:Nat}{ix:kj Nat}{σ:St}{j:Nat}{v:V}(h:(B5 own ix σ)[j]? =some (some v)):own<=j/\∃i,ix[j-own]? =some i/\σ[i]? =some (some v):=by
 unfold B5 at h;by_cases hj:j<own
 .rw [ABv (by simpa using hj),ADB] at h;simp[hj] at h
 .have bY:own<=j:=by omega
  rw[ACR (by simpa using bY),AC4,ABw] at h;refine⟨bY, ?_⟩;cases e:ix[j-own]? with
  | none=>rw[e] at h;simp at h
  | some i=>
    rw[e] at h;refine⟨i,rfl, ?_⟩;have h':(σ[i]?).getD none=some v:=by simpa using h
    cases a:σ[i]? with
    | none=>rw[a] at h';simp at h'
    | some o=>
      rw[a] at h';have:o=some v:=by simpa using h'
      rw[this]
structure RV (X:Cx) (sc:Scope) (own:Nat) (ix:List Nat) (N:List Str):Prop where
 len:N.length=own+ix.length
 out:∀j i,ix[j]? =some i->∃x,N[own+j]? =some x/\X.N[i]? =some x/\X.env.scope.names.lookup x=some .cell/\sc.names.lookup x=some .cell
def eH {own:Nat}{ix:kj Nat}{h':Sr}{m:Str->kc ki}{t':Nat}(I:Inv X Sb σ H s)(B:∀b∈fp,EM X Sb H b)(C:∀b∈fp,b<s.heap.objs.size)(hk:sc.kind= .function)(h1:∀y c,cl.lookup y=some c->X.env.cells.lookup y=some c)(h2:∀y,(sc.names.lookup y=some .cell\/sc.names.lookup y=some .free)->∃c,cl.lookup y=some c)(F:RV X sc own ix N)(hn:h'.Ns s.heap.objs.size m)(k:∀b o,s.heap.get? b=some o->h'.get? b=some o):Inv (blk X sc N cl s.heap.objs.size s H fp (X.pn++Sb)) [] (B5 own ix σ) H {s with heap:=h',toks:=t'} where
 ok:=oP I B C hk h1 h2
 os:=rfl
 bare:=I.bare
 base:=Un.kept k
 loc:=by
  refine⟨m,hn,λi x v D E R=> ?_⟩;obtain⟨bY,G,J,es⟩:=FI E;obtain⟨y,n,K,t,w⟩:=F.out _ _ J;have g:x=y:=by have h:N[i]? =some x:=D;rw[show own+(i-own)=i by omega,h] at n;exact ABW n
  subst g;obtain⟨m0,L,M⟩:=I.loc;obtain⟨u,r,l⟩:=M G x v K es (.inr (.inl t));refine⟨u,r, ?_⟩;rcases l with⟨z,_⟩|⟨_,c,O,z⟩
  .have A:X.env.scope.names.lookup x=some .local:=z;rw[t] at A;cases A
  .obtain ⟨P,f⟩:=h2 x (.inl w);have:=h1 x P f;rw[O] at this;cases this;obtain⟨o,j,hd⟩:=z;exact .inr ⟨.inl w,c,f,o,k c o j,hd⟩
 cell:=λx c e=>by obtain⟨v,o,j,hd⟩:=I.cell x c (h1 x c e);exact⟨v,o,k c o j,hd⟩
 free:=I.hok.fresh (ABH _)
 freeC:=λx c e=>I.freeC x c (h1 x c e)
 pin:=λp hp=>by
  have Q:p∈X.pn++Sb:=by simpa[blk] using hp
  obtain⟨a,b,c,d,e⟩:=I.pin p Q;exact⟨k _ _ a,b,ABK (ABD a),I.notStk c d,e⟩
 hok:=I.hok.kept k
 len:=by rw[MI];exact F.len.symm
def ZJ {own:Nat}{ix:kj Nat}{d:St}{e:Hp}{f:kf}{a:kj (kd×Obj)}(I:Inv X Sb σ H s)(c:∀b∈fp,EM X Sb H b)(g:∀b∈fp,b<s.heap.objs.size)(B:Inv (blk X sc N cl s.heap.objs.size s H fp (X.pn++Sb)) a d e f):Inv X Sb σ e f:=
 I.call' (ch:=fp) B.os B.base B.hok B.bare λb hb=>⟨(c b hb).2.2.2.1,(c b hb).2.1,(c b hb).2.2.2.2.1,(c b hb).2.2.2.2.2⟩
def O7 {f:Hp}{a:St}{d:kf}{C:kd}{h':Sr}(I:Inv X Sb σ H s)(g:C=s.heap.objs.size)(h:Inv X Sb a f d)(hn:f C=none)(hs:Heap.SameBut C d.heap h'):Inv X Sb a f {d with heap:=h'}:=by subst g;refine h.turned (t':=d.toks) (it:=s.heap.objs.size) (λb o hb e=>(hs.2 b hb).trans e) hn (ABu I.lt) (.inr I.sz) (λx c e=>ABK (I.szLt e)) λp hp=>ABK (ABD (I.pin p hp).1)
end
def ZE (X:Cx)(a:kj fe)(t:TT):Prop:=
 ∀(Sb:kj (kd×Obj)) (s:kf) (b:St) (H:Hp) (Q:da->Hp->Prop),Inv X Sb b H s->t b H Q->
  wpAny (model X.prog X.w) X.A (forIn a true λc r=>if r=true then do let ok <-isTrue c X.env (eval c X.env);pure (ForInStep.yield ok) else pure (ForInStep.yield r)) (TP X Sb b Q) X.xe s
def x9:TT:=λ_ H Q=>Q true H
def la {X:Cx}:ZE X [] x9:=λ_ _ _ H _ I h=>wpAny_tests_nil ⟨H,I,h⟩
def lb {X:Cx}{c:fe}{t:TT}(hc:PT X c t):ZE X [c] t:=λSb s a H Q I h=>wpAny_tests_one (hc Sb s a H Q I h)
def Hg (own:Nat)(g:TG):Prop:=∀v b H Q,g v b H Q->g v b H λa c=>Q a c/\a.length=b.length/\∀j,own<=j->a[j]? =b[j]?
def Ov (own:Nat)(g:XG):Prop:=∀vs b H Q,g vs b H Q->g vs b H λa c=>Q a c/\a.length=b.length/\∀j,own<=j->a[j]? =b[j]?
def kA {own i:Nat}(h:i<own):Hg own (DU i):=λv a H Q q=>⟨q,by simp,λj hj=>ABj (by omega)⟩
def kB {own:Nat}:Ov own Vj:=λvs a H Q q=>⟨q.1,q.2,rfl,λ_ _=>rfl⟩
def fP {own:Nat}{t:TG}{u:XG}(h1:Hg own t)(m1:∀v b H Q d,(∀a c,Q a c->d a c)->t v b H Q->t v b H d)(h2:Ov own u)(m2:∀v b H Q d,(∀a c,Q a c->d a c)->u v b H Q->u v b H d):Ov own (Fh t u):=by intro vs b H Q q;obtain⟨v,r,e,q⟩:=q;refine⟨v,r,e,m1 _ _ _ _ _ (λa c z=> ?_) (h1 _ _ _ _ q)⟩;obtain⟨z,l,g⟩:=z;refine m2 _ _ _ _ _ (λh m f=> ?_) (h2 _ _ _ _ z);obtain⟨f,i,k⟩:=f;exact⟨f,i.trans l,λj hj=>(k j hj).trans (g j hj)⟩
def kC {i:Nat}:∀v b H Q c,(∀a d,Q a d->c a d)->DU i v b H Q->DU i v b H c:=λ_ _ _ _ _ m q=>m _ _ q
def kD:∀v b H Q c,(∀a d,Q a d->c a d)->Vj v b H Q->Vj v b H c:=λ_ _ _ _ _ m q=>⟨q.1,m _ _ q.2⟩
def fQ {t:TG}{u:XG}(m1:∀v b H Q c,(∀a d,Q a d->c a d)->t v b H Q->t v b H c)(m2:∀v b H Q c,(∀a d,Q a d->c a d)->u v b H Q->u v b H c):∀v b H Q c,(∀a d,Q a d->c a d)->Fh t u v b H Q->Fh t u v b H c:=λ_ _ _ _ _ m ⟨v,r,e,q⟩=>⟨v,r,e,m1 _ _ _ _ _ (λ_ _ z=>m2 _ _ _ _ _ m z) q⟩
def Jg (J:It)(D:kd)(c:St)(g:TG)(h:TT)(te:TE)(Q:Hp->Prop)(W:Nat->Nat->Hp->Prop):Prop:=
 ∀i m H,W i m H->(J.stop i H/\Q H)\/(J.go i H/\∀x d,J.yld i H x d->g x c d λa j=>h a j λok e=>
  if ok=true then te a e λy f=>∃ys,f D=some (.lst ys)/\ys.length<sizeLine/\∃b,b<m/\W (i+1) b (upd f D (.lst (ys ++ [y]))) else ∃b,b<m/\W (i+1) b e)
def aS (c:TI)(own:Nat)(ix:kj Nat)(g:TG)(d:TT)(te:TE):TE:=λa H Q=>c a H λJ b=>∀D,b D=none->
 ∃W:Nat->Nat->Hp->Prop,(∃m,W 0 m (upd b D (.lst [])))/\Jg J D (B5 own ix a) g d te (Q (.ref D)) W
section
variable {X:Cx}{tg elt iter:fe}{ifs:kj fe}{scope:Scope}{pos:Pos}{wi:TI}{own:Nat}{ix:kj Nat}{N:kj Str}{g:TG}{tt:TT}{te:TE}
structure L8 (X:Cx) (tg elt:Expr) (ifs:List Expr) (scope:Scope) (own:Nat) (ix:List Nat) (N:List Str) (g:TG) (tt:TT) (te:TE):Prop where
 kind:scope.kind= .function
 nocell:∀y∈scope.names,y.2≠ .cell
 names:∀y∈scope.names,y.2= .local->scope.names.lookup y.1=some .local
 frees:∀y∈scope.names,y.2= .free->X.env.scope.names.lookup y.1=some .cell
 ins:RV X (relabel scope X.env) own ix N
 keep:Hg own g
 tgt:∀cl C s H ex pn,PG (blk X (relabel scope X.env) N cl C s H ex pn) tg g
 tst:∀cl C s H ex pn,ZE (blk X (relabel scope X.env) N cl C s H ex pn) ifs tt
 val:∀cl C s H ex pn,PE (blk X (relabel scope X.env) N cl C s H ex pn) elt te
def Fn {env:Env}{y:Str}{k:NameKind}(c:∀y∈scope.names,y.2≠ .cell)(h:(y,k)∈(relabel scope env).names)(hk:k= .cell\/k= .free):(y,NameKind.free)∈scope.names:=by
 obtain⟨⟨n,b⟩,a,e⟩:=ABG.mp (show (y,k)∈scope.names.map _ from h);dsimp only at e;split at e
 .rename_i hc;cases e;have:b= .free:=by cases b <;> simp_all
  subst this;exact a
 .cases e;rcases hk with z|z
  .subst z;exact absurd rfl (c _ a)
  .subst z;exact a
def bF {Sb:kj (kd×Obj)}{M:St}{H:Hp}{s:kf}{k:kj kd}{cl:kj (Str×kd)}{it:kd}{tn:Nat->Sr->Prop}{J:It}{D:kd}{R:Result->kf->Prop}{Qh:Hp->Prop}{W:Nat->Nat->Hp->Prop}(hc:X.calm=true)(O:L8 X tg elt ifs scope own ix N g tt te)(T:Kz X.prog X.w X.K tg J k it tn)(I:Inv X Sb M H s)(hf:∀b∈k,EM X Sb H b)(Ea:∀b∈k,b<s.heap.objs.size)(hW:Jg J D (B5 own ix M) g tt te Qh W)(hR:∀σ' a P,Inv (blk X (relabel scope X.env) N cl s.heap.objs.size s H k (X.pn++Sb)) [] σ' a P->Qh a->R (.ok .next) P)(n:Nat)(s0:kf)(h0:∃i a,Inv (blk X (relabel scope X.env) N cl s.heap.objs.size s H k (X.pn++Sb)) [] (B5 own ix M) a s0/\tn i s0.heap/\(∀b∈k,a b=none)/\W i n a):codeAny (model X.prog X.w) X.A (.compLoop (.ListComp elt [⟨tg,iter,ifs,0⟩] scope pos) 0 (.ref it) (.ref D) (Fv X.env (relabel scope X.env) cl s.heap.objs.size)) R s0:=by
 refine AEd rfl (λn P=>∃i a,Inv (blk X (relabel scope X.env) N cl s.heap.objs.size s H k (X.pn++Sb)) [] (B5 own ix M) a P/\tn i P.heap/\(∀b∈k,a b=none)/\W i n a) (λn s1 h1=> ?_) n h0;obtain⟨i,H1,B1,S,U,w1⟩:=h1;generalize f:blk X (relabel scope X.env) N cl s.heap.objs.size s H k (X.pn++Sb)=Y at *;have eA:Y.A=X.A:=by rw[<-f];rfl
 have Z:Y.prog=X.prog:=by rw[<-f];rfl
 have eW:Y.w=X.w:=by rw[<-f];rfl
 have eK:Y.K=X.K:=by rw[<-f];rfl
 have eE:Fv X.env (relabel scope X.env) cl s.heap.objs.size=Y.env:=by rw[<-f];rfl
 have eX:Y.xe=λ_ _=>False:=by rw[<-f];rfl
 have eC:Y.calm=true:=by rw[<-f];exact hc
 have hg:PG Y tg g:=by rw[<-f];exact O.tgt _ _ _ _ _ _
 have ht:ZE Y ifs tt:=by rw[<-f];exact O.tst _ _ _ _ _ _
 have hv:PE Y elt te:=by rw[<-f];exact O.val _ _ _ _ _ _
 have l:∀{a:Hp},(∀b∈k,a b=none)->∀b∈k,EM Y [] a b:=λ{a} hn b hb=>by
  obtain⟨_,a1,a2,a3,a4,a5⟩:=hf b hb;refine⟨hn b hb, ?_, ?_, ?_, ?_, ?_⟩
  .rw [<-f];exact ABK (Ea b hb)
  .rw [<-f];exact I.notStk a1 a2
  .rw [<-f];exact .inl hb
  .intro x c e;exact(B1.ok.exf b (by rw[<-f];exact hb)).2 x c e
  .intro p hp;have:p∈X.pn++Sb:=by rw[<-f] at hp;simpa[blk] using hp
   exact a5 p this
 rw[eE,<-eA,<-Z,<-eW];show wpAny _ _ ((compTurn (.ListComp elt [⟨tg,iter,ifs,0⟩] scope pos) 0 (.ref it) (.ref D) Y.env).onRaise (λx=>do noteFrame x Y.env;theTreesLotGoes x)) _ _ s1;refine AEe ?_;rw[compTurn_list];have ff:∀{α:Type} {t:Sem α} {Q:α->kf->Prop} {E:ki->kf->Prop} {s:kf},wpAny (model Y.prog Y.w) Y.A t Q Y.xe s->wpAny (model Y.prog Y.w) Y.A t Q E s:=λh=>AB4 h (λ_ _ q=>q) λ_ _ z=>by rw[eX] at z;exact z.elim
 refine AAF (ACP (AAF ?_));rcases hW i n H1 w1 with⟨stop,qn⟩|⟨go,step⟩
 .have zd:=λE=>T.done Y Z eW eK eC i [] s1 _ H1 E B1 (l U) S stop;rw[<-Z,<-eW] at zd;refine Be (zd _) λr s4 ⟨hr,I4⟩=> ?_;subst hr;exact AAI (hR _ _ _ I4 qn)
 .have zi:=λE=>T.item Y Z eW eK eC i [] s1 _ H1 E B1 (l U) S go;rw[<-Z,<-eW] at zi;refine Be (zi _) λr s4 ⟨u,hr,h4⟩=> ?_;subst hr;refine AAF (Be h4 λ_ s5 ⟨x,H5,I5,r5,y5,C,fr5⟩=> ?_);have I5':=I5.pinned (l fr5) (T.obj _ _ C);refine AAF (Be (ff (hg _ s5 _ H5 x u _ I5' r5 (O.keep _ _ _ _ (step x H5 y5)))) λ_ s6 ⟨B,H6,I6,q6,l6,k6⟩=> ?_);refine AAF (Be (ff (ht _ s6 B H6 _ I6 q6)) λok s7 ⟨H7,I7,q7⟩=> ?_);have back:∀{F:Hp} {G:kf} {L:Nat},Inv Y ([] ++ F2 k s5.heap) B F G->L<n->W (i+1) L F->
   ∃m,m<n/\∃i a,Inv Y [] (B5 own ix M) a G/\tn i G.heap/\(∀b∈k,a b=none)/\W i m a:=λ{F G L} I8 hm w8=>by
   refine⟨L,hm,i+1,F,I8.unpinned.weak l6.symm (λj v hj=> ?_),T.keep _ _ _ C λb hb o e=>(I8.pin (b,o) (ABY _ (ABY _ (CG hb e)))).1,λb hb=> ?_,w8⟩
   .rw [k6 j (FI hj).1];exact hj
   .obtain ⟨o,e,d⟩:=T.obj _ _ C b hb;exact(I8.pin (b,o) (ABY _ (ABY _ (CG hb e)))).2.1
  cases ok with
  | false=> obtain⟨L,hm,w8⟩:=q7;exact AAI ⟨rfl,back I7 hm w8⟩
  | true=> refine AAF (AAF (Be (ff (hv _ s7 B H7 _ I7 q7)) λyv G ⟨y,F,I8,r8,ys,hD,hz,L,hm,w8⟩=> ?_));refine AAF (Be (ff (IX _ G B F (.ref D) [y] (.ref D) [yv] (λ_ H9=>H9=upd F D (.lst (ys ++ [y]))) I8 rfl (.cons r8 .nil) ⟨D,ys,y,rfl,rfl,hD,hz,rfl⟩)) λ_ s9 ⟨_,H9,I9,_,e9⟩=> ?_);subst e9;exact AAI (AAI ⟨rfl,back I9 hm w8⟩)
def Vd {Sb:kj (kd×Obj)}{u:St}{H:Hp}{s:kf}{use:kc (ki->Sem Unit)}{Q:ki->kf->Prop}{it:kd}{j:kj kd}{cl:kj (Str×kd)}{tn:Nat->Sr->Prop}{J:It}{Qd:kd->Hp->Prop}(hc:X.calm=true)(O:L8 X tg elt ifs scope own ix N g tt te)(T:Kz X.prog X.w X.K tg J j it tn)(I:Inv X Sb u H s)(P:∀b∈j,EM X Sb H b)(st:tn 0 s.heap)(h1:∀y c,cl.lookup y=some c->X.env.cells.lookup y=some c)(h2:∀y,(y,NameKind.free)∈scope.names->∃c,cl.lookup y=some c)(hq:∀D,H D=none->∃W:Nat->Nat->Hp->Prop,(∃m,W 0 m (upd H D (.lst [])))/\Jg J D (B5 own ix u) g tt te (Qd D) W)(R:∀D C i k,(∃m,k.heap.Ns C m)->Inv X Sb u i k->(∀f v,Inv X Sb f i v->∀h',Heap.SameBut C v.heap h'->Inv X Sb f i {v with heap:=h'})->C≠X.env.locals->(∀x c,X.env.cells.lookup x=some c->C≠c)->Qd D i-> compPost (model X.prog X.w) X.A X.xe use Q (.ref D) C (.ok .next) k):wpAny (model X.prog X.w) X.A (newList []) (λl n=>wpAny (model X.prog X.w) X.A (newFunctionEnv scope X.env.globals cl [] X.env.qual none .none (some X.env)) (λd p=> codeAny (model X.prog X.w) X.A (.compStart (.ListComp elt [⟨tg,iter,ifs,0⟩] scope pos) 0 (.ref it) l {d with scope:=relabel scope X.env}) (compPost (model X.prog X.w) X.A X.xe use Q l d.locals) p) X.xe n) X.xe s:=by
 refine AB5 ?_ (by simp[sizeOk]);have h:Inv X Sb u (upd H s.heap.objs.size (.lst [])) {s with heap:=s.heap.push {cls:= .type "list",data:= .seq ([] :kj ki).toArray}}:=I.lnew (t':=s.toks) .nil (AB7 _);have S:=I.fresh;obtain⟨W,⟨m0,U⟩,hW⟩:=hq _ S;have Y:∀b∈j,b<s.heap.objs.size:=λb hb=>by obtain⟨o,e,_⟩:=T.obj _ _ st b hb;exact ABD e
 have E:∀b∈j,EM X Sb (upd H s.heap.objs.size (.lst [])) b:=λb hb=>by obtain⟨Z,ar⟩:=P b hb;exact⟨by rw[Ai (ABK (Y b hb))];exact Z,ar⟩
 generalize kT:({s with heap:=s.heap.push {cls:= .type "list",data:= .seq ([] :kj ki).toArray}}:kf)=s3 at h;have r:tn 0 s3.heap:=T.keep _ _ _ st λb hb o e=>by rw[<-kT];exact ABF _ e
 have F:∀b∈j,b<s3.heap.objs.size:=λb hb=>by obtain⟨o,e,_⟩:=T.obj _ _ r b hb;exact ABD e
 refine wpAny_newFunctionEnv O.nocell (by intro y hy;simp at hy) (λa m7 xQ=> ?_) O.kind;have M:∀b o,s3.heap.get? b=some o->a.get? b=some o:=λb o e=>xQ.extBut b o (ABK (ABD e)) (ABF _ e);have tT:∀y,((relabel scope X.env).names.lookup y=some .cell\/(relabel scope X.env).names.lookup y=some .free)->∃c,cl.lookup y=some c:=λy hy=>by
  rcases hy with z|z
  .exact h2 y (Fn O.nocell (Hu z) (.inl rfl))
  .exact h2 y (Fn O.nocell (Hu z) (.inr rfl))
 have B:=eH (N:=N) (t':=s3.toks+([] :kj (Str×ki)).length) h E F (sc:=relabel scope X.env) O.kind h1 tT O.ins m7 M;have t:tn 0 a:=T.keep _ _ _ r λb hb o e=>M b o e;have loop:∀G:kf,G={s3 with heap:=a,toks:=s3.toks+([] :kj (Str×ki)).length}->
  codeAny (model X.prog X.w) X.A (.compLoop (.ListComp elt [⟨tg,iter,ifs,0⟩] scope pos) 0 (.ref it) (.ref s.heap.objs.size) (Fv X.env (relabel scope X.env) cl s3.heap.objs.size)) (compPost (model X.prog X.w) X.A X.xe use Q (.ref s.heap.objs.size) s3.heap.objs.size) G:=by rintro G rfl;refine bF (cl:=cl) (Qh:=Qd s.heap.objs.size) hc O T h E F hW (λσ' i k L q'=> ?_) m0 _ ⟨0,_,B,t,λb hb=>(E b hb).1,U⟩;refine R _ _ i k (let ⟨m,hm,_⟩:=L.loc;⟨m,hm⟩) (ZJ (own:=own) (ix:=ix) h E F L) (λf v I2 h' hs=>O7 h rfl I2 L.free hs) (ABu h.lt) (λx c e=>ABu (h.szLt e)) q'
 exact AFF (loop _ rfl) (T.self _ 0 _ _ _ t (loop _ rfl))
def lT (hc:X.calm=true)(hi:PI X tg iter wi)(O:L8 X tg elt ifs scope own ix N g tt te)(hs:∀x,foldedSetIterable iter X.env x=pure x:=by intro _;rfl):PE X (.ListComp elt [⟨tg,iter,ifs,0⟩] scope pos) (aS wi own ix g tt te):=by intro Sb s c H Q I h;obtain⟨cl,d,h1,h2⟩:=Gg (env:=X.env) (scope:=scope) λy hy e=>I.ok.has y.1 (.inl (O.frees y hy e));rw[eval_ListComp];refine AEf (use:=none) rfl hs d O.kind O.names (Be (hi Sb s c H _ I h) λv p hv=>Be hv λf r i=> ?_);obtain⟨it,t,tn,J,u,rfl,j,T,a,f2,q⟩:=i;exact Vd (Qd:=λD b=>Q (.ref D) b) hc O T j f2 a h1 h2 q λD C b k hn l gone w z n=>by obtain⟨m,o⟩:=hn;exact⟨m,o,λh' hs=>⟨.ref D,b,gone c k l h' hs,rfl,n⟩⟩
def Z8 {i:Nat}{x:Str}{pos' b:Pos}(hc:X.calm=true)(hN:X.N.Nodup)(n:X.N[i]? =some x)(hx:Loc X.env.scope x)(hi:PI X tg iter wi)(O:L8 X tg elt ifs scope own ix N g tt te)(o:swapsWith (.ListComp elt [⟨tg,iter,ifs,0⟩] scope pos) (some (.Name x pos')) b.line X.env=pure true:=by rfl)(hs:∀x,foldedSetIterable iter X.env x=pure x:=by intro _;rfl)(p:X.fn x=true\/X.env.scope.names.lookup x=some .local:=by first | exact .inl rfl|exact .inr rfl|assumption):PS X (.Assign [.Name x pos'] (.ListComp elt [⟨tg,iter,ifs,0⟩] scope pos) b) (Wt (aS wi own ix g tt te) (DU i)):=by
 intro Sb s l H D I h;obtain⟨cl,r,h1,h2⟩:=Gg (env:=X.env) (scope:=scope) λy hy e=>I.ok.has y.1 (.inl (O.frees y hy e));rw[exec_Assign_Name_used _ _ _ _ o];refine AAF (ACP (AAF ?_));show wpAny _ _ (do let _ <-comprehension (.ListComp elt [⟨tg,iter,ifs,0⟩] scope pos) scope X.env _ (newList []) false (eval iter X.env) (some (assign (.Name x pos') X.env))) _ _ s;refine AAF (Be (AEf (use:=some (assign (.Name x pos') X.env)) (Q:=λ_ c=>SP X Sb D .next c) rfl hs r O.kind O.names (Be (hi Sb s l H _ I h) λv P hv=>Be hv λt R u=> ?_)) λ_ c hq=>AAI (AAI hq));obtain⟨it,S,tn,J,U,rfl,w,T,f,f2,q⟩:=u;refine Vd (Qd:=λd j=>DU i (.ref d) l j D.nx) hc O T w f2 f h1 h2 q λd C j c hn A gone B E F=> ?_;obtain⟨m,G⟩:=hn;show wpAny _ _ (assign (.Name x pos') X.env (.ref d)) _ _ c;refine wpAny_assign_Name (SM (v:= .ref d) A hN n hx rfl (λK L ⟨a,M,ha⟩=> ?_) p);have k:C≠a:=by
  rcases ha with z|z
  .rw [z];exact B
  .exact E x a z
 exact⟨m,G.sameBut M k,λh' hs=>⟨_,j,gone _ K L h' hs,F⟩⟩
end
def LG {n k:Nat}(h:n<2^k)(hk:0<k):n.log2<k:=by
 by_cases e:n=0
 .subst e;simpa using hk
 .exact (Nat.log2_lt e).mpr h
def IT {i:Int}{k:Nat}(h:i.natAbs<2^k):Builtin.Int.intBits i<=k:=by
 unfold Builtin.Int.intBits;by_cases e:i=0
 .subst e;simp
 .have a:(i==0)=false:=by simpa using e
  rw[a];simp only[AB0,ABe];have b:i.natAbs≠0:=by omega
  have:=(Nat.log2_lt b).mpr h;omega
section
variable {X:Cx}
def wI (i j:Int):Prop:=i.natAbs<2^8000/\j.natAbs<2^8000
def sM (i j:Int):Prop:=Oi i j\/wI i j
def IY:Em X (binaryOp .Mult) (rI sM λi j=> .int (i*j)):=p7 λ_ _ _ _ _ _ _ hc q=>mul_int q (by
 rcases hc with z|z
 .exact z.ok
 .exact .of_le (IT z.1) (IT z.2) (by decide))
def sL (_ j:Int):Prop:=0<j/\j.natAbs<2^8000
def gf:Em X (binaryOp .FloorDiv) (rI sL λi j=> .int (i/j)):=p7 λi j _ _ _ _ _ hc q=>by have h1:(0:Int)<j:=hc.1;refine floordiv_int (by omega) ?_ (.inl (AFY (ADR (LG hc.2 (by decide)) (by decide))));rw[ADS _ (Int.le_of_lt h1)];exact q
inductive Kd where
 | int|bl|non|str|lst|tup
 deriving DecidableEq
def sQ (K:AAG)(x:V)(H:Hp):Kd->Prop
 | .int=>∃i,x= .int i
 | .bl=>∃b,x= .bl b
 | .non=>x= .non
 | .str=>∃z,x= .str z
 | .lst=>∃a ys,x= .ref a/\FY K H a ys
 | .tup=>∃a ys,x= .ref a/\Ky K H a ys
def Io:Kd->String->da
 | .int,T=>T == "int"
 | .bl,T=>T == "bool" || T == "int"
 | .non,_=>false
 | .str,_=>false
 | .lst,T=>T == "list"
 | .tup,T=>T == "tuple"
def JG (T:String):Prop:=T="int" \/T="bool" \/T="tuple" \/T="list"
def qS (K:AAG):kj V->Hp->VK->Prop:=λxs H Q=>∃x T k,xs= [x, .ty T] /\JG T/\sQ K x H k/\Q (.bl (Io k T)) H
def eJ:Cv X (.builtin "isinstance") (qS X.K):=by
 intro Sb s n H xs p Q I r h;obtain⟨x,T,k,rfl,f,hk,q⟩:=h;cases r with
 | cons g m=>
 cases m with
 | cons rt m=>
 cases m;cases rt;have c:Q (.bl true) H->EP X Sb n Q (.bool true) s:=λz=>⟨.bl true,H,I,rfl,z⟩;have b:Q (.bl false) H->EP X Sb n Q (.bool false) {s with toks:=s.toks+1}:=λz=>⟨.bl false,H,I.tok _,rfl,z⟩;cases k with
 | int=>
   obtain⟨i,rfl⟩:=hk;obtain⟨t,rfl⟩:=g;rcases f with rfl|rfl|rfl|rfl
   .exact IsiPair.int_int (c q)
   .exact IsiPair.int_bool (b q)
   .exact IsiPair.int_tuple (b q)
   .exact IsiPair.int_list (b q)
 | bl=>
   obtain⟨i,rfl⟩:=hk;cases g;rcases f with rfl|rfl|rfl|rfl
   .exact IsiPair.bool_int (c q)
   .exact IsiPair.bool_bool (c q)
   .exact IsiPair.bool_tuple (b q)
   .exact IsiPair.bool_list (b q)
 | non=>
   have e:x= .non:=hk;subst e;cases g;rcases f with rfl|rfl|rfl|rfl
   .exact IsiPair.NoneType_int (b q)
   .exact IsiPair.NoneType_bool (b q)
   .exact IsiPair.NoneType_tuple (b q)
   .exact IsiPair.NoneType_list (b q)
 | str=>
   obtain⟨i,rfl⟩:=hk;obtain⟨t,rfl⟩:=g;rcases f with rfl|rfl|rfl|rfl
   .exact IsiPair.str_int (b q)
   .exact IsiPair.str_bool (b q)
   .exact IsiPair.str_tuple (b q)
   .exact IsiPair.str_list (b q)
 | lst=>
   obtain⟨a,ys,rfl,hq⟩:=hk;cases g;obtain⟨l,o,j,hz⟩:=I.list hq;rcases f with rfl|rfl|rfl|rfl
   .exact IsiPair.isList_int j.isList (λ_ _ e=>e) (b q)
   .exact IsiPair.isList_bool j.isList (λ_ _ e=>e) (b q)
   .exact IsiPair.isList_tuple j.isList (λ_ _ e=>e) (b q)
   .exact IsiPair.isList_list j.isList (λ_ _ e=>e) (c q)
 | tup=>
   obtain⟨a,ys,rfl,hq⟩:=hk;cases g;obtain⟨l,o,j,hz⟩:=I.tuple hq;have d:s.heap.IsTuple a l.toArray:=j;rcases f with rfl|rfl|rfl|rfl
   .exact IsiPair.isTuple_int d (λ_ _ e=>e) (b q)
   .exact IsiPair.isTuple_bool d (λ_ _ e=>e) (b q)
   .exact IsiPair.isTuple_tuple d (λ_ _ e=>e) (c q)
   .exact IsiPair.isTuple_list d (λ_ _ e=>e) (b q)
def Inv.walked {Sb:kj (kd×Obj)}{h:St}{H:Hp}{s c:kf}{o:Obj}(I:Inv X Sb h H s)(m:Moved [s.heap.objs.size] (λa b=>b=a) {s with heap:=s.heap.push o} c):Inv X Sb h H c:=by
 obtain⟨h',g',d',t',i⟩:=c;obtain⟨hk,d,hd,f,_⟩:=m;have g:∀b u,s.heap.get? b=some u->h'.get? b=some u:=λb u e=>hk b u (by
  intro z;have j:b=s.heap.objs.size:=by simpa using z
  exact absurd (ABD e) (by rw[j];exact ACZ _)) (ABF _ e)
 have d:g'=s.gens:=d;have hd:d'=s.drawn:=hd;have f:i=s.os:=f;subst d hd f;exact I.kept (t':=t') g
def kW (xs:kj V)(k:Nat)(y:V):kj V:=xs.take k++y::xs.drop k
def A3.ins {xs:kj V}{a:kj ki}{y:V}{u:ki}(r:A3 xs a)(b:RelV y u)(k:Nat):A3 (kW xs k y) (a.take k++u::a.drop k):=A3.append (r.take k) (.cons b (r.drop k))
def UK:V->kj V->Hp->VK->Prop:=λx vs H Q=>∃l xs i y,x= .ref l/\vs= [.int i,y] /\H l=some (.lst xs)/\0<=i/\i<=(xs.length:Int)/\xs.length<sizeLine/\Q .non (upd H l (.lst (kW xs i.toNat y)))
def cH:oB X "list.insert" UK:=by
 intro Sb s o H x vs v p Q I f rv h;obtain⟨l,xs,i,y,rfl,rfl,c,u,h1,hz,q⟩:=h;cases f;cases rv with
 | cons g b=>
 cases b with
 | cons j b=>
 cases b;rename_i d;obtain⟨t,rfl⟩:=g;obtain⟨z,a,n,r,hl,e⟩:=I.lstM c;have w:=MX;have m:¬(!Builtin.List.listFitsIndex i)=true:=by have:=fitsIndex_both (k:=i) (by omega) (by omega);simp[this]
 refine call_meets F.slot_list_insert ⟨_,e,rfl⟩ F.entry_list_insert (F.args_list_insert_3 _ _ _) (AutoSeq1.list_insert_list_int_val_1 l a.toArray n i t d m (by rw[ABP];omega)) ⟨e, ?_⟩;refine⟨.non,_,I.lset (ys:=kW xs i.toNat y) (its':=a.take i.toNat++d::a.drop i.toNat) c e ?_ (r.ins j _) ?_,rfl,q⟩
 .dsimp only;rw[AAH (by omega),ABP,Nat.min_eq_left (by omega)];apply Array.toList_inj.mp;simp;exact AEg (by simp)
 .unfold kW;simp;omega
end
def Qq:da->Sr->kd->kd->Nat->Prop
 | true,h,q,l,k=>h.IsListIter q l k
 | false,h,q,l,k=>h.IsTupleIter q l k
def N1:da->Sr->kd->Array ki->Prop
 | true,h,l,xs=>h.IsList l xs
 | false,h,l,xs=>h.IsTuple l xs
def Qq.mv {b:da}{h h':Sr}{q l:kd}{k:Nat}(x:Qq b h q l k)(e:∀o,h.get? q=some o->h'.get? q=some o):Qq b h' q l k:=by
 cases b with
 | true=>obtain⟨o,a,r⟩:=x;exact⟨o,e o a,r⟩
 | false=>obtain⟨o,a,r⟩:=x;exact⟨o,e o a,r⟩
def Qq.obj {b:da}{h:Sr}{q l:kd}{k:Nat}(x:Qq b h q l k):∃o,h.get? q=some o/\∀v,o.data≠ .cell v:=by
 cases b with
 | true=> obtain⟨o,a,_,d⟩:=x;exact⟨o,a,λv z=>by rw[d] at z;cases z⟩
 | false=> obtain⟨o,a,_,d⟩:=x;exact⟨o,a,λv z=>by rw[d] at z;cases z⟩
def N1.mv {b:da}{h h':Sr}{l:kd}{xs:Array ki}(x:N1 b h l xs)(e:∀o,h.get? l=some o->h'.get? l=some o):N1 b h' l xs:=by
 cases b with
 | true=>obtain⟨o,a,r⟩:=x;exact⟨o,e o a,r⟩
 | false=>obtain⟨o,a,r⟩:=x;exact⟨o,e o a,r⟩
section
variable {prog:Wf}{w:Tb}{A:Sl}{E:ki->kf->Prop}{s:kf}
def K5 {b:da}{q l:kd}{k:Nat}{xs:Array ki}{x:ki}{Q:ki->kf->Prop}(hq:Qq b s.heap q l k)(hl:N1 b s.heap l xs)(hx:xs[k]? =some x)(hQ:∀h',Qq b h' q l (k+1)->Heap.SameBut q s.heap h'->Q x {s with heap:=h'}):wpAny (model prog w) A (Builtin.SmallTypes.nextOf (.ref q)) Q E s:=by
 cases b with
 | true=>exact wpAny_nextOf_list_item hq hl hx hQ
 | false=> have d:s.heap.IsTupleIter q l k:=hq;obtain⟨f,c,e,a⟩:=id d;obtain⟨ol,gl,_,g,dl⟩:=hl;unfold Builtin.SmallTypes.nextOf;refine AAF (ACS (name:=Str.ofString "__next__") d.typeIs AEh (ABz AEh d.typeIs AFZ ?_ (AFa _)));show wpAny _ _ (field (.ref q) 0 >>= _) _ _ _;refine AAF (ABU c a (x:= .ref l) rfl ?_);show wpAny _ _ (if (Value.ref l==Value.none)=true then _ else _) _ _ _;rw[AAH (by intro z;cases z)];show wpAny _ _ (field (.ref q) 1 >>= _) _ _ _;refine AAF (ABU c a (x:= .int k 0) rfl ?_);show wpAny _ _ (seqItems? (.ref l) >>= _) _ _ _;refine AAF (ABt gl dl ?_);simp only[ADc,hx];refine AAF (ADz c a (by simp) (AAI ⟨x,rfl,AAI (hQ _ ?_ (AD0 ..))⟩));refine⟨_,ADQ _ c (AFG (AD1 a _)),(Obj.cls_mapFields ..).trans e, ?_⟩;rw[AD1 a];simp[rawInt]
def MM {b:da}{q l:kd}{k:Nat}{xs:Array ki}{Q:ki->kf->Prop}(c:A.handled=none)(hq:Qq b s.heap q l k)(hl:N1 b s.heap l xs)(hx:xs[k]? =none)(h:∀h' e,Heap.ExtBut q s.heap h'->(∃o,h'.get? e=some o/\o.cls= .type "StopIteration")->E (.ref e) {s with heap:=h'}):wpAny (model prog w) A (Builtin.SmallTypes.nextOf (.ref q)) Q E s:=by
 cases b with
 | true=>exact wpAny_nextOf_list_end c hq hl hx h
 | false=>
   have d:s.heap.IsTupleIter q l k:=hq;obtain⟨i,f,j,g⟩:=id d;obtain⟨ol,gl,_,n,dl⟩:=hl;unfold Builtin.SmallTypes.nextOf;refine AAF (ACS (name:=Str.ofString "__next__") d.typeIs AEh (ABz AEh d.typeIs AFZ ?_ (AFa _)));show wpAny _ _ (field (.ref q) 0 >>= _) _ _ _;refine AAF (ABU f g (x:= .ref l) rfl ?_);show wpAny _ _ (if (Value.ref l==Value.none)=true then _ else _) _ _ _;rw[AAH (by intro z;cases z)];show wpAny _ _ (field (.ref q) 1 >>= _) _ _ _;refine AAF (ABU f g (x:= .int k 0) rfl ?_);show wpAny _ _ (seqItems? (.ref l) >>= _) _ _ _;refine AAF (ABt gl dl ?_);simp only[ADc,hx];refine AAF (ACH (AAF (ADz f g (by simp) ?_)));refine AAF (m:=newExc (.type "StopIteration") []) ?_;simp only[newExc,newTuple];refine AAF (AB5 ?_ (by size_fits));refine AAF (m:=firstArgMember _ _) (ADD (a:=Value.none) (by first | rfl|(simp only[firstArgMember];rfl)) (AB5 ?_ (by size_fits)));simp only[raiseNew];refine AAF (wpAny_handled ?_);first | rw[show A.in1.handled=none from c] | rw[c]
   exact AAF (AAI (wpAny_throw (h _ _ (((AD0 ..).extBut.push _).push _) ⟨_,ABM _ rfl,rfl⟩)))
structure oI (b c:Bool) (z TI TO i j l m:Addr) (k:Nat) (f:Value) (h:Heap):Prop where
 zip:IsZip h z TI TO f
 its:IsPair h TI (.ref i) (.ref j)
 own:∃x y,IsPair h TO x y
 one:Qq b h i l k
 two:Qq c h j m k
def oI.mv {b c:da}{z TI TO i j l m:kd}{k:Nat}{f:ki}{h h':Sr}(Z:oI b c z TI TO i j l m k f h)(e:∀p∈ [z,TI,TO,i,j],∀o,h.get? p=some o->h'.get? p=some o):oI b c z TI TO i j l m k f h':=by obtain⟨a,d,⟨x,y,g⟩,n,r⟩:=Z;exact⟨e z (by simp) _ a,e TI (by simp) _ d,⟨x,y,e TO (by simp) _ g⟩,n.mv (e i (by simp)),r.mv (e j (by simp))⟩
variable {b c:da}{z TI TO i j l m:kd}{k:Nat}{xs ys:Array ki}
def vT {x y:ki}{Q:ki->kf->Prop}(D:ZipApart z TI TO i j l m)(Z:oI b c z TI TO i j l m k .none s.heap)(hl:N1 b s.heap l xs)(hm:N1 c s.heap m ys)(hx:xs[k]? =some x)(hy:ys[k]? =some y)(hQ:∀h',IsZip h' z TI TO (rawInt s.heap.objs.size)->IsPair h' TI (.ref i) (.ref j)->IsPair h' TO x y->Qq b h' i l (k+1)->Qq c h' j m (k+1)->IsPair h' s.heap.objs.size x y-> (∀p o,p≠z->p≠TO->p≠i->p≠j->s.heap.get? p=some o->h'.get? p=some o)->Q (.ref s.heap.objs.size) {s with heap:=h'}):wpAny (model prog w) A (Builtin.«zip.__next__» ⟨[.ref z], []⟩) (λK s'=>∃v,K= .done (.ret v)/\Q v s') E s:=by
 obtain⟨h,S,⟨x0,L,zo⟩,z1,z2⟩:=Z;show wpAny _ _ (field (.ref z) 2 >>= _) _ _ _;refine AAF (ABU h rfl (x:= .bool false) rfl ?_);show wpAny _ _ (field (.ref z) 3 >>= _) _ _ _;refine AAF (ABU h rfl (x:= .ref TI) rfl (AAF (ABt S rfl ?_)));refine AAF (m:=Builtin.SmallTypes.ownedTupleIsFree (.ref z)) ?_;unfold Builtin.SmallTypes.ownedTupleIsFree;refine AAF (ABU h rfl (x:= .none) rfl (AAI ?_));simp only[AB2];refine AAF (ACH (AAF (ABU h rfl (x:= .ref TO) rfl (AAF (ACT h (by simp) λg1 M b1=> ?_)))));have M:IsZip g1 z TI TO .ellipsis:=M;refine AAF ?_;simp only[AEi,AEj,ADf,AD2];refine AAF (AAF (ADT ?_));refine AAF (m:=Builtin.SmallTypes.nextOf (.ref i)) (K5 (z1.mv λo=>b1.extBut _ o D.i1z) (hl.mv λo=>b1.extBut _ o D.l1z) hx λg2 e2 b2=>AAI ?_);have T:IsPair g2 TO x0 L:=b2.extBut _ _ D.TOi1 (b1.extBut _ _ D.TOz zo);refine AAF (ABt T rfl (AAF (AD3 T λg3 N g=>AAF (ADg (AAI ?_)))));have N:IsPair g3 TO x L:=N;refine AAF (AAF (ADT ?_));refine AAF (m:=Builtin.SmallTypes.nextOf (.ref j)) (K5 (((z2.mv λo=>b1.extBut _ o D.i2z).mv λo=>b2.extBut _ o D.i12.symm).mv λo=>g.extBut _ o D.TOi2.symm)
  (((hm.mv λo=>b1.extBut _ o D.l2z).mv λo=>b2.extBut _ o D.l2i1).mv λo=>g.extBut _ o D.l2TO) hy λg4 e4 n=>AAI ?_)
 have U:IsPair g4 TO x L:=n.extBut _ _ D.TOi2 N;refine AAF (ABt U rfl (AAF (AD3 U λa F r=>AAF (ADg (AAI (AAI ?_))))));have F:IsPair a TO x y:=F;refine AAF (ABt F rfl (AAF (wpAny_newTuple ?_)));have W:a.objs.size=s.heap.objs.size:=by rw[r.1,n.1,g.1,b2.1,b1.1]
 have X:IsZip a z TI TO .ellipsis:=r.extBut _ _ D.TOz.symm (n.extBut _ _ D.i2z.symm (g.extBut _ _ D.TOz.symm (b2.extBut _ _ D.i1z.symm M)));have d:∀p o,p≠z->p≠TO->p≠i->p≠j->s.heap.get? p=some o->a.get? p=some o:=λp o G H O P e=>
  r.extBut _ _ H (n.extBut _ _ P (g.extBut _ _ H (b2.extBut _ _ O (b1.extBut _ _ G e))))
 have t:Qq b a i l (k+1):=((e2.mv λo=>g.extBut _ o D.TOi1.symm).mv λo=>n.extBut _ o D.i12).mv λo=>r.extBut _ o D.TOi1.symm;have u:Qq c a j m (k+1):=e4.mv λo=>r.extBut _ o D.TOi2.symm;have B:z<a.objs.size:=ABD X;refine AAF (m:=Builtin.SmallTypes.ownedTupleHandOut (.ref z) (.ref a.objs.size)) ?_;unfold Builtin.SmallTypes.ownedTupleHandOut;have k6:IsZip (a.push {cls:= .type "tuple",data:= .seq #[x,y] }) z TI TO .ellipsis:=ABF _ X;refine AAF (ACT k6 (by simp) λg7 R Y=> ?_);have R:IsZip g7 z TI TO (rawInt a.objs.size):=R;refine ACT R (by simp) λI J b8=> ?_;have J:IsZip I z TI TO (rawInt a.objs.size):=J;have C:∀p o,p≠z->a.get? p=some o->I.get? p=some o:=λp o q e=>b8.extBut _ _ q (Y.extBut _ _ q (ABF _ e));have f:IsPair I a.objs.size x y:=b8.extBut _ _ (ABu B) (Y.extBut _ _ (ABu B) (ABM _ rfl));rw[W] at J f;refine AAI ⟨_,rfl, ?_⟩;show Q (.ref a.objs.size) _;rw[W];exact hQ I J (C _ _ D.TIz (d _ _ D.TIz D.TITO D.TIi1 D.TIi2 S)) (C _ _ D.TOz F) (t.mv λo=>C _ o D.i1z) (u.mv λo=>C _ o D.i2z) f λp o G H O P e=>C p o G (d p o G H O P e)
def y8 {Q:Fin->kf->Prop}(y:A.handled=none)(D:ZipApart z TI TO i j l m)(Z:oI b c z TI TO i j l m k .none s.heap)(hl:N1 b s.heap l xs)(L:N1 c s.heap m ys)(M:xs[k]? =none\/ys[k]? =none)(B:∀h' e,(∀p o,p≠z->p≠TO->p≠i->p≠j->s.heap.get? p=some o->h'.get? p=some o)->(∃o,h'.get? e=some o/\o.cls= .type "StopIteration")->E (.ref e) {s with heap:=h'}):wpAny (model prog w) A (Builtin.«zip.__next__» ⟨[.ref z], []⟩) Q E s:=by
 obtain⟨f,N,⟨O,P,R⟩,C,S⟩:=Z;show wpAny _ _ (field (.ref z) 2 >>= _) _ _ _;refine AAF (ABU f rfl (x:= .bool false) rfl ?_);show wpAny _ _ (field (.ref z) 3 >>= _) _ _ _;refine AAF (ABU f rfl (x:= .ref TI) rfl (AAF (ABt N rfl ?_)));refine AAF (m:=Builtin.SmallTypes.ownedTupleIsFree (.ref z)) ?_;unfold Builtin.SmallTypes.ownedTupleIsFree;refine AAF (ABU f rfl (x:= .none) rfl (AAI ?_));simp only[AB2];refine AAF (ACH (AAF (ABU f rfl (x:= .ref TO) rfl (AAF (ACT f (by simp) λT n b1=> ?_)))));have n:IsZip T z TI TO .ellipsis:=n;refine AAF ?_;simp only[AEi,AEj,ADf,AD2];refine AAF (AAF (ADT ?_));cases hx:xs[k]? with
 | none=>
   refine AAF (m:=Builtin.SmallTypes.nextOf (.ref i)) (MM y (C.mv λo=>b1.extBut _ o D.i1z) (hl.mv λo=>b1.extBut _ o D.l1z) hx λr e b2 he=> ?_);obtain⟨t,a,g⟩:=he;have F:IsZip r z TI TO .ellipsis:=b2 _ _ D.i1z.symm n;have u:e≠z:=λq=>by subst q;rw[F] at a;cases a;simp at g
   refine ACT F (by simp) λG _ d=>B G e (λp o h _ v _ q=>d.extBut _ _ h (b2 _ _ v (b1.extBut _ _ h q))) ⟨t,d.extBut _ _ u a,g⟩
 | some x=>
   have hy:ys[k]? =none:=by
    rcases M with q|q
    .rw [hx] at q;cases q
    .exact q
   refine AAF (m:=Builtin.SmallTypes.nextOf (.ref i)) (K5 (C.mv λo=>b1.extBut _ o D.i1z) (hl.mv λo=>b1.extBut _ o D.l1z) hx λr e2 b2=>AAI ?_);have H:IsPair r TO O P:=b2.extBut _ _ D.TOi1 (b1.extBut _ _ D.TOz R);refine AAF (ABt H rfl (AAF (AD3 H λG o3 d=>AAF (ADg (AAI ?_)))));refine AAF (AAF (ADT ?_));refine AAF (m:=Builtin.SmallTypes.nextOf (.ref j)) (MM y (((S.mv λo=>b1.extBut _ o D.i2z).mv λo=>b2.extBut _ o D.i12.symm).mv λo=>d.extBut _ o D.TOi2.symm)
    (((L.mv λo=>b1.extBut _ o D.l2z).mv λo=>b2.extBut _ o D.l2i1).mv λo=>d.extBut _ o D.l2TO) hy λU e I he=> ?_)
   obtain⟨t,a,g⟩:=he;have J:IsZip U z TI TO .ellipsis:=I _ _ D.i2z.symm (d.extBut _ _ D.TOz.symm (b2.extBut _ _ D.i1z.symm n));have u:e≠z:=λq=>by subst q;rw[J] at a;cases a;simp at g
   refine ACT J (by simp) λW _ K=>B W e (λp o h X v Y q=>K.extBut _ _ h (I _ _ Y (d.extBut _ _ X (b2.extBut _ _ v (b1.extBut _ _ h q))))) ⟨t,K.extBut _ _ u a,g⟩
end
def cC (b:da)(l:kd):Obj:={cls:= .type (match b with | true=>"list_iterator" | false=>"tuple_iterator"),data:= .fields #[.ref l, .int 0 0] }
abbrev zA (b:da)(h:Sr)(l:kd):Sr:=h.push (cC b l)
abbrev zB (b c:da)(h:Sr)(l m:kd):Sr:=(zA b h l).push (cC c m)
abbrev zC (b c:da)(h:Sr)(l m:kd):Sr:=(zB b c h l m).push {cls:= .type "tuple",data:= .seq #[.ref h.objs.size, .ref (zA b h l).objs.size] }
abbrev zD (b c:da)(h:Sr)(l m:kd):Sr:=(zC b c h l m).push {cls:= .type "tuple",data:= .seq #[.none, .none] }
abbrev zF (b c:da)(h:Sr)(l m:kd):Sr:=(zD b c h l m).push {cls:= .type "zip",data:= .fields #[.none, .bool false, .bool false, .ref (zB b c h l m).objs.size, .ref (zC b c h l m).objs.size] }
def Xr {prog:Wf}{w:Tb}{A:Sl}{E:ki->kf->Prop}{h:Sr}{g:Array GenState}{d:Drawn}{a:Nat}{os:OsState}{b:da}{l:kd}{xs:Array ki}{Q:ki->kf->Prop}(hl:N1 b h l xs)(q:Q (.ref h.objs.size) ⟨h.push (cC b l),g,d,a,os⟩):wpAny (model prog w) A (pyIter (.ref l)) Q E ⟨h,g,d,a,os⟩:=by
 cases b with
 | true=>exact AFH (s:=⟨h,g,d,a,os⟩) hl q
 | false=>exact wpAny_pyIter_tuple (s:=⟨h,g,d,a,os⟩) hl q
def dF (b c:da)(l m:kd)(xs ys:Array ki):Meets (Builtin.«zip.__new__» ⟨[.type "zip", .ref l, .ref m], []⟩) (λ_ R s=>N1 b s.heap l xs/\N1 c s.heap m ys/\R (.ok (.ret (.ref (zD b c s.heap l m).objs.size))) {s with heap:=zF b c s.heap l m}):=
 .of_wp λprog w A R s h=>by
   obtain⟨hp,g,d,j,os⟩:=s;obtain⟨hl,a,h⟩:=h;have k:=sub_zip;have f:N1 b hp l xs:=hl;have i:N1 c (hp.push (cC b l)) m ys:=a.mv λo e=>ABF _ e
   wp_walk using Xr f,Xr i
   exact⟨_,rfl,h⟩
section
variable {prog:Wf}{w:Tb}{A:Sl}{E:ki->kf->Prop}{s:kf}{b c:da}{l m:kd}{xs ys:Array ki}
def ft {h:Sr}{q:kd}(e:h.get? q=some (cC b l)):Qq b h q l 0:=by
 cases b with
 | true=>exact⟨_,e,rfl,rfl⟩
 | false=>exact⟨_,e,rfl,rfl⟩
def rE (hl:N1 b s.heap l xs)(n:N1 c s.heap m ys){Q:ki->kf->Prop}(h:∀h',oI b c (s.heap.objs.size+4) (s.heap.objs.size+2) (s.heap.objs.size+3) s.heap.objs.size (s.heap.objs.size+1) l m 0 .none h'->(∀p o,s.heap.get? p=some o->h'.get? p=some o)->Q (.ref (s.heap.objs.size+4)) {s with heap:=h'}):wpAny (model prog w) A (call (.type "zip") [.ref l, .ref m]) Q E s:=by
 refine callType_new F.called_zip (by decide) (F.typeCall_zip_2 _ _) (F.newCall_zip_2 _ _) (λobj=>F.args_object_init_3 obj _ _) F.entry_zip_new (dF b c l m xs ys) ⟨hl,n, ?_⟩;have a:(zA b s.heap l).objs.size=s.heap.objs.size+1:=ACI ..;have d:(zB b c s.heap l m).objs.size=s.heap.objs.size+2:=by rw[ACI,a]
 have f:(zC b c s.heap l m).objs.size=s.heap.objs.size+3:=by rw[ACI,d]
 have i:(zD b c s.heap l m).objs.size=s.heap.objs.size+4:=by rw[ACI,f]
 have g:(zF b c s.heap l m).get? (zD b c s.heap l m).objs.size=some _:=ABM _ rfl;have j:(zF b c s.heap l m).get? (zC b c s.heap l m).objs.size=some _:=ABF _ (ABM _ rfl);have k:(zF b c s.heap l m).get? (zB b c s.heap l m).objs.size=some _:=ABF _ (ABF _ (ABM _ rfl));have p2:(zF b c s.heap l m).get? (zA b s.heap l).objs.size=some (cC c m):=ABF _ (ABF _ (ABF _ (ABM _ rfl)));have p1:(zF b c s.heap l m).get? s.heap.objs.size=some (cC b l):=ABF _ (ABF _ (ABF _ (ABF _ (ABM _ rfl))));rw[d,f,i] at g;rw[a,d] at k;rw[f] at j;rw[a] at p2;show _/\_;rw[i];exact⟨⟨_,g,rfl⟩,h _ ⟨g,k,⟨_,_,j⟩,ft p1,ft p2⟩ λp o e=>ABF _ (ABF _ (ABF _ (ABF _ (ABF _ e))))⟩
end
def Sq (K:AAG):da->Hp->kd->kj V->Prop
 | true,H,a,xs=>FY K H a xs
 | false,H,a,xs=>Ky K H a xs
section
variable {X:Cx}{Sb:kj (kd×Obj)}{σ:St}{H:Hp}{s:kf}{a:kd}{ys xs:kj V}{b:da}{h':Sr}
def Inv.sq (I:Inv X Sb σ H s)(h:Sq X.K b H a xs):∃c:kj ki,A3 xs c/\N1 b s.heap a c.toArray/\xs.length<=sizeLine:=by
 cases b with
 | true=> obtain⟨c,r,p,z⟩:=I.list h;exact⟨c,r,p.isList,z⟩
 | false=> obtain⟨c,r,p,z⟩:=I.tuple h;exact⟨c,r,p,z⟩
def Inv.sq_inj (I:Inv X Sb σ H s)(h:Sq X.K b H a xs)(h2:Sq X.K b H a ys):xs=ys:=by
 cases b with
 | true=>exact I.list_inj h h2
 | false=>exact I.tuple_inj h h2
def Inv.turnedL {ch:kj kd}{t':Nat}(I:Inv X Sb σ H s)(c:∀p∈ch,EM X Sb H p)(k:∀p o,p ∉ ch->s.heap.get? p=some o->h'.get? p=some o):Inv X Sb σ H {s with heap:=h',toks:=t'}:=by
 have d:∀p u,H p=some u->p ∉ ch:=λp u e z=>by rw[(c p z).1] at e;cases e
 refine I.step (g':=s.gens) (d':=s.drawn) (ch:=ch) (λp hp=>⟨(c p hp).2.2.2.1,(c p hp).2.1,(c p hp).2.2.2.2.1,(c p hp).2.2.2.2.2⟩) (λp o _ _ hc e _=>k p o hc e) (λp o _ _ hc e _=>⟨o.slots,k p o hc e⟩)
  (λ_ _ _ _ n=>n) (λp o hc e=>⟨o,k p o hc e⟩) (λ_ _ e=>e) (λ_ _ _ e=>e) (λp ps e=>⟨#[],by rw[e];simp⟩) (λm f=> ?_) (λp u e=> ?_) I.bare
 .obtain ⟨o,es,ep,g,r⟩:=f;exact⟨o,es,ep,k _ o (λz=>(c _ z).2.1 rfl) g,r⟩
 .refine (I.hok p u e).stay (λq v hq h=>k q v ?_ h) (λ_ q=>q) λ_ _ q=>q;rcases hq with z|z
  .rw [z];exact d p u e
  .exact d q _ z
def Inv.turnedN {ch:kj kd}{t':Nat}{n:kd}{o:HO}(I:Inv X Sb σ H s)(c:∀p∈ch,EM X Sb H p)(i:∀p∈ch,p<s.heap.objs.size)(k:∀p o,p ∉ ch->s.heap.get? p=some o->h'.get? p=some o)(hn:s.heap.objs.size<=n)(new:DT X.prog X.w (upd H n o) h' n o):Inv X Sb σ (upd H n o) {s with heap:=h',toks:=t'}:=by
 have f:Inv X Sb σ H {s with heap:=h',toks:=t'}:=I.turnedL c k;have d:H n=none:=I.hok.fresh hn;have hx:∀p u,s.heap.get? p=some u->p≠n:=λp u e=>ABK (ABb (ABD e) hn);refine I.step (g':=s.gens) (d':=s.drawn) (ch:=ch) (λp hp=>⟨(c p hp).2.2.2.1,(c p hp).2.1,(c p hp).2.2.2.2.1,(c p hp).2.2.2.2.2⟩) (λp o _ _ hc e _=>k p o hc e) (λp o _ _ hc e _=>⟨o.slots,k p o hc e⟩)
  (λp u _ e z=>by rw[Ai (hx p u e)];exact z) (λp o hc e=>⟨o,k p o hc e⟩) (λp xs e=>by rw[Ai (Az e d)];exact e) (λp o xs e=>by rw[Ai (Az e d)];exact e)
  (λp ps e=>⟨#[],by rw[Ai (Az e d),e];simp⟩) (λm g=> ?_) (λp u e=> ?_) I.bare
 .obtain ⟨o,es,ep,h,r⟩:=g;exact⟨o,es,ep,k _ o (λz=>(c _ z).2.1 rfl) h,r⟩
 .by_cases hp:p=n
  .subst hp;rw[Al] at e;cases e;exact new
  .rw [Ai hp] at e;exact(f.hok p u e).stay (λ_ _ _ q=>q) (λq hq=>by rw[Ai (Az hq d)];exact hq) λq xs hq=>by rw[Ai (Az hq d)];exact hq
end
def wb (K:AAG)(b c:da)(l m:kd):It:=
 ⟨λi H=>∃xs ys x y,Sq K b H l xs/\Sq K c H m ys/\xs[i]? =some x/\ys[i]? =some y,
  λi H v a=>∃T x y,v= .ref T/\H T=none/\a=upd H T (.tup [x,y])/\(∀xs,Sq K b H l xs->xs[i]? =some x)/\∀ys,Sq K c H m ys->ys[i]? =some y,
  λi H=>∃xs ys,Sq K b H l xs/\Sq K c H m ys/\(xs.length<=i\/ys.length<=i)⟩
def jC {P:Wf}{w:Tb}{K:AAG}{es:kj fe}{M:Nat}{r:Pos}{b c:da}{z TI TO i j l m:kd}(D:ZipApart z TI TO i j l m):Kz P w K (.Tuple es M r) (wb K b c l m) [z,TI,TO,i,j] z (λk h=>oI b c z TI TO i j l m k .none h) where
 mem:=by simp
 obj:=λk h Z p hp=>by
  have a:p=z\/p=TI\/p=TO\/p=i\/p=j:=by simpa using hp
  rcases a with e|e|e|e|e
  .subst e;exact⟨_,Z.zip,λv q=>nomatch q⟩
  .subst e;exact⟨_,Z.its,λv q=>nomatch q⟩
  .subst e;obtain⟨x,y,q⟩:=Z.own;exact⟨_,q,λv q=>nomatch q⟩
  .subst e;exact Z.one.obj
  .subst e;exact Z.two.obj
 keep:=λk h h' Z e=>Z.mv e
 item:=by
  intro X t hw A hc k Sb s J H E I g Z B;subst t hw A;obtain⟨xs,ys,x,y,hl,n,hx,hy⟩:=B;obtain⟨L,C,F,_⟩:=I.sq hl;obtain⟨vs,rv,sv,_⟩:=I.sq n;obtain⟨u,hu,N⟩:=C.get hx;obtain⟨v,hv,O⟩:=rv.get hy;have f:s.TypeIs (.ref z) "zip" :=⟨_,Z.zip,rfl⟩;unfold pyNext;refine AAF (ADU (ACS (name:=Str.ofString "__next__") f ADE (ABz ADE f AEk
   (vT D Z F sv (x:=u) (y:=v) (by simpa using hu) (by simpa using hv) λh1 Q R S U W Y a7=>AAI ?_) (AEl _))))
  refine⟨_,rfl,wpAny_letOwnedTupleGo_zip (s:={s with heap:=h1}) Q λh2 c1 c2=> ?_⟩;have G:∀p∈ [z,TI,TO,i,j],p<s.heap.objs.size:=λp hp=>by
   have a:p=z\/p=TI\/p=TO\/p=i\/p=j:=by simpa using hp
   rcases a with e|e|e|e|e
   .subst e;exact ABD Z.zip
   .subst e;exact ABD Z.its
   .subst e;obtain⟨x,y,q⟩:=Z.own;exact ABD q
   .subst e;obtain⟨o,q,_⟩:=Z.one.obj;exact ABD q
   .subst e;obtain⟨o,q,_⟩:=Z.two.obj;exact ABD q
  have d:∀p o,p≠z->h1.get? p=some o->h2.get? p=some o:=λp o q e=>c2.extBut _ _ q e;have kp:∀p o,p ∉ [z,TI,TO,i,j] ->s.heap.get? p=some o->h2.get? p=some o:=λp o hp e=>by
   have a:p≠z/\p≠TI/\p≠TO/\p≠i/\p≠j:=by simpa using hp
   exact d p o a.1 (a7 p o a.1 a.2.2.1 a.2.2.2.1 a.2.2.2.2 e)
  have xY:s.heap.objs.size≠z:=ABu (G z (by simp));have I2:Inv X Sb J (upd H s.heap.objs.size (.tup [x,y])) {s with heap:=h2,toks:=s.toks}:=I.turnedN g G kp (ABH _)
   ⟨(by show 2<=sizeLine;decide), [u,v], .cons N (.cons O .nil),⟨_,d _ _ xY Y,rfl,_,rfl⟩⟩
  have Vv:H s.heap.objs.size=none:=I.fresh;refine⟨.ref s.heap.objs.size,upd H s.heap.objs.size (.tup [x,y]),I2,rfl,⟨_,x,y,rfl,Vv,rfl,λxs' h'=> ?_,λys' h'=> ?_⟩, ?_,λp hp=> ?_⟩
  .rw [I.sq_inj h' hl];exact hx
  .rw [I.sq_inj h' n];exact hy
  .exact ⟨c1,d _ _ D.TIz R,⟨_,_,d _ _ D.TOz S⟩,U.mv λo=>d _ o D.i1z,W.mv λo=>d _ o D.i2z⟩
  .rw [Ai (ABK (G p hp))];exact(g p hp).1
 done:=by
  intro X t hw A hc k Sb s J H E I g Z B;subst t hw A;obtain⟨xs,ys,hl,n,he⟩:=B;obtain⟨L,C,F,_⟩:=I.sq hl;obtain⟨vs,rv,sv,_⟩:=I.sq n;have e1:=C.length;have e2:=rv.length;have om:L.toArray[k]? =none\/vs.toArray[k]? =none:=by
   rcases he with q|q
   .exact .inl (by simp;omega)
   .exact .inr (by simp;omega)
  have f:s.TypeIs (.ref z) "zip" :=⟨_,Z.zip,rfl⟩;unfold pyNext;refine AAF (ADU (ACS (name:=Str.ofString "__next__") f ADE (ABz ADE f AEk
   (y8 (I.ok.hd hc) D Z F sv om λh1 e hk he=> ?_) (AEl _))))
  obtain⟨o,ho,oj⟩:=he;refine AAF (AC9 (T:="StopIteration") (b:=true) ⟨o,ho,oj⟩ isSubtype_stop (AAI ⟨rfl, ?_⟩));exact I.turnedL (t':=s.toks) g λp o hp e=>by
   have a:p≠z/\p≠TI/\p≠TO/\p≠i/\p≠j:=by simpa using hp
   exact hk p o a.1 a.2.2.1 a.2.2.2.1 a.2.2.2.2 e
 self:=λ_ _ _ _ _ Z h=>AEm Z.zip h
structure Has (P:Program) (w:World) (K:AAG) (mg:Str->Option Value) (base:Heap) (k:Nat) (x:Str) (ps:List Str) (sp:Sp):Prop where
 ex:∃f fd,mg x=some (.ref f)/\PySem.W.keepIn K (.ref f)=true/\Binds K fd ps [] /\FF P w K mg base VL k f fd ps sp
def Has.mono {P:Wf}{w:Tb}{K:AAG}{mg:Str->kc ki}{base:Sr}{j k:Nat}{x:Str}{ps:kj Str}{sp:Sp}(h:Has P w K mg base j x ps sp)(hk:j<=k):Has P w K mg base k x ps sp:=by obtain⟨f,e,a,b,c,d⟩:=h.ex;exact⟨f,e,a,b,c,d.mono hk⟩
section
variable {X:Cx}{x:Str}{p pos:Pos}{e:fe}{es:kj fe}{t:TA}{k:Nat}{ps:kj Str}{sp:Sp}
def qH (D:Has X.prog X.w X.K X.mg X.base k x ps sp)(a:Room k X.A)(b:Gl X x)(ha:PA X (e::es) t)(hs:starEach (e::es) X.env=(false,eval e X.env)::starEach es X.env:=by rfl)(hpl:(backTo pos (starEach es X.env)).any (·.1)=false:=by rfl)(hd:(x==("__debug__" :Str))=false:=by decide):PE X (.Call (.Name x p) (e::es) [] pos) (nU sp [] E0 t):=by obtain⟨f,h,c,d,g,G⟩:=D.ex;exact lS G a b c d g .nil uX ha (hdb:=hd) (he:=hs) (hpl:=hpl)
end
section
variable {X:Cx}{tg elt:fe}{ifs:kj fe}{scope:Scope}{own:Nat}{ix:kj Nat}{N:kj Str}{g:TG}{tt:TT}{te:TE}
def PJ (X:Cx)(sc:Scope)(own:Nat)(ix:kj Nat)(N:kj Str):da:=
 (List.range ix.length).all λj=>match ix[j]? with
   | none=>false
   | some i=>match N[own+j]?,X.N[i]? with
     | some x,some y=>decide (x=y)&&decide (X.env.scope.names.lookup x=some .cell)&&decide (sc.names.lookup x=some .cell)
     | _,_=>false
def Vi {sc:Scope}(h1:N.length=own+ix.length)(h2:PJ X sc own ix N=true):RV X sc own ix N:=by
 refine⟨h1,λj i hj=> ?_⟩;have c:j<ix.length:=(ABc.mp hj).1;have h:=ADF.mp h2 j (List.mem_range.mpr c);rw[hj] at h;dsimp only at h;cases a:N[own+j]? with
 | none=>rw[a] at h;simp at h
 | some x=>
   cases b:X.N[i]? with
   | none=>rw[a,b] at h;simp at h
   | some y=> rw[a,b] at h;simp only[ACA,ADh] at h;obtain⟨⟨d,e⟩,f⟩:=h;subst d;exact⟨x,rfl,rfl,e,f⟩
def ZM (h1:scope.kind= .function)(h2:(scope.names.all λy=> !decide (y.2= .cell))=true)(c:(scope.names.all λy=> !decide (y.2= .local)||decide (scope.names.lookup y.1=some .local))=true)(d:(scope.names.all λy=> !decide (y.2= .free)||decide (X.env.scope.names.lookup y.1=some .cell))=true)(f:N.length=own+ix.length)(h:PJ X (relabel scope X.env) own ix N=true)(hk:Hg own g)(a:∀cl C s H ex pn,PG (blk X (relabel scope X.env) N cl C s H ex pn) tg g)(b:∀cl C s H ex pn,ZE (blk X (relabel scope X.env) N cl C s H ex pn) ifs tt)(val:∀cl C s H ex pn,PE (blk X (relabel scope X.env) N cl C s H ex pn) elt te):L8 X tg elt ifs scope own ix N g tt te:=by
 refine⟨h1,λy hy e=> ?_,λy hy e=> ?_,λy hy e=> ?_,Vi f h,hk,a,b,val⟩
 .have:=ADF.mp h2 y hy;simp[e] at this
 .have:=ADF.mp c y hy;simpa[e] using this
 .have:=ADF.mp d y hy;simpa[e] using this
end
def Ku.new {H:Hp}{p:kd}{o:HO}(h:H p=none):Ku H (upd H p o):=λb u q=>by rw[Ai (Az q h)];exact q
def jV (p:kd)(H a:Hp):Prop:=∀b o,b≠p->H b=some o->a b=some o
def jV.refl {p:kd}{H:Hp}:jV p H H:=λ_ _ _ h=>h
def jV.trans {p:kd}{H d e:Hp}(a:jV p H d)(b:jV p d e):jV p H e:=λc o n h=>b c o n (a c o n h)
def Ku.but {p:kd}{H b:Hp}(a:Ku H b):jV p H b:=λc o _ h=>a c o h
def jV.upd {p:kd}{H:Hp}{o:HO}:jV p H (upd H p o):=λb u n q=>by rw[Ai n];exact q
end L2
namespace PL
open PySem PySem.Spec PyProof.Rows L2
inductive PV where
 | non|bl (b:Bool)|int (i:Int)|str (x:Str)|ty (n:String)
 | tup (xs:List PV)|lst (xs:List PV)|tape|scr (ns:List Int)|dct (kvs:List (FK×Int))
def FG (H:Hp)(p:kd):Prop:=∃d x:Int,H p=some (.lst [.int d, .int x])/\0<=d/\0<=x/\x<2147483647
def MD (o:HO):Prop:=(∀vs,o≠ .tup vs)/\∀q u,o≠ .frz q u
def MD.lst {xs:kj V}:MD (.lst xs):=⟨(λ_ e=>nomatch e),(λ_ _ e=>nomatch e)⟩
def FG.mut {H:Hp}{p:kd}(h:FG H p):∃o,H p=some o/\MD o:=by obtain⟨d,x,e,_⟩:=h;exact⟨_,e,MD.lst⟩
def vc (K:AAG)(H:Hp)(a:kd)(xs:kj V):Prop:=H a=some (.tup xs)\/∃(o:Obj) (b:Array ki) (n:Nat),K.lookup a=some o/\o.cls= .type "tuple" /\o.data= .seq b n/\b.size<=sizeLine/\A3 xs b.toList
def vc.sq {K:AAG}{H:Hp}{a:kd}{xs:kj V}(h:vc K H a xs):Ky K H a xs:=h.elim (λz=> .inl (.inl z)) .inr
def CH (a:kj (FK×Int)):kj (FK×V):=a.map λp=>(p.1,V.int p.2)
mutual
inductive CZ (K:AAG) (T M:Addr->Prop) (H:Hp):V->PV->Prop where
 | non:CZ K T M H .non .non
 | bl (b:Bool):CZ K T M H (.bl b) (.bl b)
 | int (i:Int):CZ K T M H (.int i) (.int i)
 | str (x:Str):CZ K T M H (.str x) (.str x)
 | ty (n:String):CZ K T M H (.ty n) (.ty n)
 | tup {a:Addr} {vs:List V} {xs:List PV} (h:vc K H a vs) (r:A6 K T M H vs xs):CZ K T M H (.ref a) (.tup xs)
 | lst {a:Addr} {vs:List V} {xs:List PV} (h:H a=some (.lst vs)) (t:¬T a) (m:¬M a) (r:A6 K T M H vs xs):CZ K T M H (.ref a) (.lst xs)
 | tape {a:Addr} (t:T a):CZ K T M H (.ref a) .tape
 | dct {a:Addr} {kvs:List (FK×Int)} (h:H a=some (.dN K (CH kvs))) (t:¬T a) (m:¬M a):CZ K T M H (.ref a) (.dct kvs)
 | scr {a:Addr} {ns:List Int} (h:(Rd H a (.lst (ns.map V.int))/\¬T a/\¬M a)\/∀H,FY K H a (ns.map V.int)):CZ K T M H (.ref a) (.scr ns)
inductive A6 (K:AAG) (T M:Addr->Prop) (H:Hp):List V->List PV->Prop where
 | nil:A6 K T M H [] []
 | cons {v:V} {x:PV} {vs:List V} {xs:List PV} (h:CZ K T M H v x) (t:A6 K T M H vs xs):A6 K T M H (v::vs) (x::xs)
end
structure HK (T M:Addr->Prop) (H:Hp):Prop where
 tp:∀a,T a->FG H a
 mu:∀a,M a->∃o,H a=some o/\MD o
def HK.noTup {T M:kd->Prop}{H:Hp}(v:HK T M H){a:kd}{vs:kj V}(r:Rd H a (.tup vs)):¬T a/\¬M a:=by
 have go:∀o,H a=some o->MD o->False:=λo e m=>by
  rcases r with r|⟨q,r⟩
  .rw [e] at r;cases r;exact m.1 _ rfl
  .rw [e] at r;cases r;exact m.2 _ _ rfl
 exact⟨λt=>let ⟨o,e,m⟩:=(v.tp a t).mut;go o e m,λt=>let ⟨o,e,m⟩:=v.mu a t;go o e m⟩
structure Mv (K:AAG) (T M:Addr->Prop) (H:Hp) (T' M':Addr->Prop) (H':Hp):Prop where
 va:HK T M H
 keep:∀b o,¬T b->¬M b->H b=some o->H' b=some o
 sub:∀b,T b->T' b
 tn:∀b,H b≠none->T' b->T b
 mn:∀b,H b≠none->M' b->M b
def aB {H:Hp}{a:kd}{u:HO}(r:Rd H a u):H a≠none:=by rcases r with r|⟨o,r⟩ <;> rw[r] <;> exact λe=>nomatch e
def uq {H b:Hp}{a:kd}{u:HO}(r:Rd H a u)(k:∀o,H a=some o->b a=some o):Rd b a u:=by
 rcases r with r|⟨o,r⟩
 .exact .inl (k _ r)
 .exact .inr ⟨o,k _ r⟩
section
variable {K:AAG}{T M T' M':kd->Prop}{H H':Hp}
mutual
theorem CZ.mv (m:Mv K T M H T' M' H'):∀{v:V} {x:PV},CZ K T M H v x->CZ K T' M' H' v x
 | _,_, .non=> .non
 | _,_, .bl b=> .bl b
 | _,_, .int i=> .int i
 | _,_, .str x=> .str x
 | _,_, .ty n=> .ty n
 | _,_, .tup (a:=a) (vs:=vs) h r=>by
   refine .tup (vs:=vs) ?_ (A6.mv m r);rcases h with h|h
   .obtain ⟨t,u⟩:=m.va.noTup (.inl h);exact .inl (m.keep _ _ t u h)
   .exact .inr h
 | _,_, .lst (a:=a) h t u r=> .lst (m.keep _ _ t u h) (λz=>t (m.tn a (by rw[h];exact λe=>nomatch e) z)) (λz=>u (m.mn a (by rw[h];exact λe=>nomatch e) z)) (A6.mv m r)
 | _,_, .tape t=> .tape (m.sub _ t)
 | _,_, .dct (a:=a) h t u=> .dct (m.keep _ _ t u h) (λz=>t (m.tn a (by rw[h];exact λe=>nomatch e) z)) (λz=>u (m.mn a (by rw[h];exact λe=>nomatch e) z))
 | _,_, .scr (a:=a) (.inl ⟨h,t,u⟩)=> .scr (.inl ⟨uq h λo e=>m.keep _ o t u e,λz=>t (m.tn a (aB h) z),λz=>u (m.mn a (aB h) z)⟩)
 | _,_, .scr (.inr h)=> .scr (.inr h)
theorem A6.mv (m:Mv K T M H T' M' H'):∀{vs:kj V} {xs:kj PV},A6 K T M H vs xs->A6 K T' M' H' vs xs
 | _,_, .nil=> .nil
 | _,_, .cons h t=> .cons (CZ.mv m h) (A6.mv m t)
end
end
def A6.length {K:AAG}{T M:kd->Prop}{H:Hp}:∀{vs:kj V} {xs:kj PV},A6 K T M H vs xs->vs.length=xs.length
 | _,_, .nil=>rfl
 | _,_, .cons _ t=>by simp[t.length]
theorem A6.get {K:AAG}{T M:kd->Prop}{H:Hp}:∀{vs:kj V} {xs:kj PV} {i:Nat} {x:PV},A6 K T M H vs xs->xs[i]? =some x->∃v,vs[i]? =some v/\CZ K T M H v x
 | _,_,_,_, .nil,e=>by simp at e
 | _,_,0,_, .cons h _,e=>by simp at e;subst e;exact⟨_,rfl,h⟩
 | _,_,i+1,x, .cons _ t,e=>by obtain⟨u,h1,h2⟩:=A6.get (i:=i) (x:=x) t (by simpa using e);exact⟨u,by simpa using h1,h2⟩
def A6.get' {K:AAG}{T M:kd->Prop}{H:Hp}{vs:kj V}{xs:kj PV}{i:Nat}{v:V}(h:A6 K T M H vs xs)(e:vs[i]? =some v):∃x,xs[i]? =some x/\CZ K T M H v x:=by have hl:=h.length;have hi:i<vs.length:=(ABc.mp e).1;obtain⟨w,a,r⟩:=h.get (i:=i) (x:=xs[i]'(by omega)) (ABf (by omega));rw[e] at a;cases a;exact⟨_,ABf (by omega),r⟩
def A6.append {K:AAG}{T M:kd->Prop}{H:Hp}:∀{vs ws:kj V} {xs ys:kj PV},A6 K T M H vs xs->A6 K T M H ws ys->A6 K T M H (vs++ws) (xs++ys)
 | _,_,_,_, .nil,s=>s
 | _,_,_,_, .cons h t,s=> .cons h (t.append s)
def A6.take {K:AAG}{T M:kd->Prop}{H:Hp}:∀{vs:kj V} {xs:kj PV} (n:Nat),A6 K T M H vs xs->A6 K T M H (vs.take n) (xs.take n)
 | _,_,0,_=> .nil
 | _,_,_+1, .nil=> .nil
 | _,_,n+1, .cons r t=> .cons r (t.take n)
def A6.drop {K:AAG}{T M:kd->Prop}{H:Hp}:∀{vs:kj V} {xs:kj PV} (n:Nat),A6 K T M H vs xs->A6 K T M H (vs.drop n) (xs.drop n)
 | _,_,0,r=>r
 | _,_,_+1, .nil=> .nil
 | _,_,n+1, .cons _ t=>t.drop n
theorem A6.set {K:AAG}{T M:kd->Prop}{H:Hp}{v:V}{x:PV}(r:CZ K T M H v x):∀{vs:kj V} {xs:kj PV} (i:Nat),A6 K T M H vs xs->A6 K T M H (vs.set i v) (xs.set i x)
 | _,_,_, .nil=> .nil
 | _,_,0, .cons _ t=> .cons r t
 | _,_,i+1, .cons q t=> .cons q (A6.set r i t)
def A6.nil_iff {K:AAG}{T M:kd->Prop}{H:Hp}{vs:kj V}{xs:kj PV}(h:A6 K T M H vs xs):vs= [] ↔xs= [] :=by cases h <;> simp
def A6.reverse {K:AAG}{T M:kd->Prop}{H:Hp}{vs:kj V}{xs:kj PV}(h:A6 K T M H vs xs):A6 K T M H vs.reverse xs.reverse:=by
 induction vs generalizing xs with
 | nil=>cases h;exact .nil
 | cons v vs ih=>
   cases h with
   | cons h t=>rw[AEc,AEc];exact(ih t).append (.cons h .nil)
structure Dj (T:Addr->Prop) (H:Hp) (T':Addr->Prop) (H':Hp):Prop where
 keep:∀b o,¬T b->H b=some o->H' b=some o
 sub:∀b,T b->T' b
 new:∀b,T' b->T b\/H b=none
 tp:∀a,T' a->FG H' a
def Dj.refl {T:kd->Prop}{H:Hp}(h:∀a,T a->FG H a):Dj T H T H:=⟨λ_ _ _ e=>e,λ_ e=>e,λ_ e=> .inl e,h⟩
def Dj.some {T c:kd->Prop}{H a:Hp}(s:Dj T H c a){b:kd}(h:H b≠none):a b≠none:=by
 by_cases t:T b
 .obtain ⟨o,e,_⟩:=(s.tp b (s.sub b t)).mut;rw[e];exact λe=>nomatch e
 .cases e:H b with
  | none=>exact absurd e h
  | some o=>rw[s.keep b o t e];exact λe=>nomatch e
def Dj.none {T c:kd->Prop}{H a:Hp}(s:Dj T H c a){b:kd}(h:a b=none):H b=none:=by
 cases e:H b with
 | none=>rfl
 | some o=>exact absurd h (s.some (by rw[e];exact λe=>nomatch e))
def Dj.trans {T d f:kd->Prop}{H g h:Hp}(a:Dj T H d g)(b:Dj d g f h):Dj T H f h where
 keep:=λc o t e=>b.keep c o (λz=>(a.new c z).elim t λn=>by rw[n] at e;cases e) (a.keep c o t e)
 sub:=λc t=>b.sub c (a.sub c t)
 new:=λc t=>(b.new c t).elim (λz=>a.new c z) λz=> .inr (a.none z)
 tp:=b.tp
def Dj.lay {T:kd->Prop}{H:Hp}{p:kd}{o:HO}(h:∀a,T a->FG H a)(hp:H p=Option.none):Dj T H T (upd H p o) where
 keep:=λb u _ e=>by rw[Ai (Az e hp)];exact e
 sub:=λ_ t=>t
 new:=λ_ t=> .inl t
 tp:=λa t=>by obtain⟨d,x,e,z⟩:=h a t;exact⟨d,x,by rw[Ai (Az e hp)];exact e,z⟩
def Dj.mv {K:AAG}{T a M:kd->Prop}{H c:Hp}(s:Dj T H a c)(v:HK T M H):Mv K T M H a M c where
 va:=v
 keep:=λb o t _ e=>s.keep b o t e
 sub:=s.sub
 tn:=λb n t=>(s.new b t).elim id λz=>absurd z n
 mn:=λ_ _ z=>z
def HK.stp {T b M:kd->Prop}{H c:Hp}(v:HK T M H)(s:Dj T H b c)(d:∀a,M a->¬T a):HK b M c:=
 ⟨s.tp,λa m=>let ⟨o,e,q⟩:=v.mu a m;⟨o,s.keep a o (d a m) e,q⟩⟩
def CZ.stp {K:AAG}{T a M:kd->Prop}{H b:Hp}{v:V}{x:PV}(r:CZ K T M H v x)(s:Dj T H a b)(va:HK T M H):CZ K a M b v x:=r.mv (s.mv va)
def A6.stp {K:AAG}{T a M:kd->Prop}{H b:Hp}{v:kj V}{x:kj PV}(r:A6 K T M H v x)(s:Dj T H a b)(va:HK T M H):A6 K a M b v x:=r.mv (s.mv va)
def Mv.anti {K:AAG}{T M c:kd->Prop}{H:Hp}(v:HK T M H)(h:∀a,c a->M a):Mv K T M H T c H:=⟨v,λ_ _ _ _ e=>e,λ_ t=>t,λ_ _ t=>t,λb _ t=>h b t⟩
inductive AV where
 | val (x:PV)
 | own (xs:List PV)
abbrev BD:=kj (kc AV)
structure DB where
 T:Addr->Prop
 H:Hp
 M:Addr->Prop
def DB.add (B:DB)(p:kd):DB:=⟨B.T,B.H,λa=>B.M a\/a=p⟩
def Ct (a:L2.St)(τ:BD)(p:kd):Prop:=∃(i:Nat) (xs:kj PV),τ[i]? =some (some (.own xs))/\a[i]? =some (some (.ref p))
def mt (B:DB)(a:L2.St)(τ:BD)(p:kd):Prop:=B.M p\/Ct a τ p
structure SR (K:AAG) (B:DB) (T:Addr->Prop) (H:Hp) (σ:L2.St) (τ:BD):Prop where
 len:σ.length=τ.length
 val:∀(i:Nat) (x:PV),τ[i]? =some (some (.val x))->∃v,σ[i]? =some (some v)/\CZ K T (mt B σ τ) H v x
 own:∀(i:Nat) (xs:List PV),τ[i]? =some (some (.own xs))->∃p vs,σ[i]? =some (some (.ref p))/\H p=some (.lst vs)/\A6 K T (mt B σ τ) H vs xs/\B.H p=none/\¬T p/\¬B.M p
 dist:∀(i j:Nat) (xs ys:List PV) (p:Addr),τ[i]? =some (some (.own xs))->τ[j]? =some (some (.own ys))->σ[i]? =some (some (.ref p))->σ[j]? =some (some (.ref p))->i=j
 tp:∀a,T a->FG H a
 bm:∀a,B.M a->∃o,H a=some o/\MD o
 bt:∀a,B.M a->¬T a
 st:Dj B.T B.H T H
section
variable {K:AAG}{B:DB}{T T':kd->Prop}{H H':Hp}{σ:L2.St}{τ:BD}
def SR.ownH (s:SR K B T H σ τ){p:kd}(o:Ct σ τ p):∃vs,H p=some (.lst vs)/\B.H p=none/\¬T p/\¬B.M p:=by obtain⟨i,xs,h1,h2⟩:=o;obtain⟨q,vs,e,h,_,b,t,m⟩:=s.own i xs h1;rw[h2] at e;cases e;exact⟨vs,h,b,t,m⟩
def SR.va (s:SR K B T H σ τ):HK T (mt B σ τ) H:=⟨s.tp,λa m=>m.elim (s.bm a) λo=>let ⟨vs,h,_⟩:=s.ownH o;⟨_,h,MD.lst⟩⟩
def SR.nt (s:SR K B T H σ τ){a:kd}(m:mt B σ τ a):¬T a:=m.elim (s.bt a) λo=>let ⟨_,_,_,t,_⟩:=s.ownH o;t
def SR.stp (s:SR K B T H σ τ)(p:Dj T H T' H'):SR K B T' H' σ τ where
 len:=s.len
 val:=λi x e=>let ⟨v,h,r⟩:=s.val i x e;⟨v,h,r.stp p s.va⟩
 own:=λi xs e=>by obtain⟨q,vs,c,h,r,b,t,m⟩:=s.own i xs e;exact⟨q,vs,c,p.keep _ _ t h,r.stp p s.va,b,(λz=>(p.new q z).elim t λn=>by rw[n] at h;cases h),m⟩
 dist:=s.dist
 tp:=p.tp
 bm:=λa m=>let ⟨o,e,q⟩:=s.bm a m;⟨o,p.keep a o (s.bt a m) e,q⟩
 bt:=λa m z=>by obtain⟨o,e,_⟩:=s.bm a m;exact(p.new a z).elim (s.bt a m) λn=>by rw[n] at e;cases e
 st:=s.st.trans p
def SR.add {p:kd}{o:HO}(s:SR K B T H σ τ)(q:Dj T H T' H')(hn:H p=none)(j:H' p=some o)(k:MD o)(l:¬T' p):SR K (B.add p) T' H' σ τ:=by
 have c:=s.stp q;have f:Mv K T (mt B σ τ) H T' (mt (B.add p) σ τ) H':=⟨s.va,λb o t _ e=>q.keep b o t e,q.sub,λb n t=>(q.new b t).elim id λz=>absurd z n,λb n z=>by
  rcases z with(z|z)|z
  .exact .inl z
  .subst z;exact absurd hn n
  .exact .inr z⟩
 refine⟨s.len,λi x e=> ?_,λi xs e=> ?_,s.dist,c.tp,λa m=> ?_,λa m=> ?_,c.st⟩
 .obtain ⟨v,h,r⟩:=s.val i x e;exact⟨v,h,r.mv f⟩
 .obtain ⟨a,vs,g,h,r,b,t,m⟩:=s.own i xs e;obtain⟨w,u,d,h',_,y,t',A⟩:=c.own i xs e;rw[g] at d;cases d;rw[q.keep _ _ t h] at h';cases h';refine⟨a,vs,g,q.keep _ _ t h,r.mv f,b,t',λz=> ?_⟩;rcases z with z|z
  .exact m z
  .subst z;rw[hn] at h;cases h
 .rcases m with m|m
  .exact c.bm a m
  .subst m;exact⟨o,j,k⟩
 .rcases m with m|m
  .exact c.bt a m
  .subst m;exact l
def SR.drop {p:kd}(s:SR K (B.add p) T H σ τ):SR K B T H σ τ:=by have c:Mv K T (mt (B.add p) σ τ) H T (mt B σ τ) H:= .anti s.va λa m=>m.elim (λz=> .inl (.inl z)) .inr;refine⟨s.len,λi x e=>let ⟨v,h,r⟩:=s.val i x e;⟨v,h,r.mv c⟩,λi xs e=> ?_,s.dist,s.tp,λa m=>s.bm a (.inl m),λa m=>s.bt a (.inl m),s.st⟩;obtain⟨a,vs,d,h,r,b,t,m⟩:=s.own i xs e;exact⟨a,vs,d,h,r.mv c,b,t,λz=>m (.inl z)⟩
end
def j5:kc AV->kc AV
 | some (.own xs)=>some (.val (.lst xs))
 | o=>o
def frz (τ:BD):BD:=τ.map j5
def Zb {τ:BD}{i:Nat}:(frz τ)[i]? =(τ[i]?).map j5:=by simp[frz]
def j6 {τ:BD}{i:Nat}{x:PV}(h:(frz τ)[i]? =some (some (.val x))):τ[i]? =some (some (.val x))\/∃xs,x= .lst xs/\τ[i]? =some (some (.own xs)):=by
 rw[Zb] at h;cases e:τ[i]? with
 | none=>rw[e] at h;cases h
 | some o=>
   rw[e] at h;cases o with
   | none=>cases h
   | some a=>
     cases a with
     | val y=>cases h;exact .inl rfl
     | own xs=>cases h;exact .inr ⟨xs,rfl,rfl⟩
def TV {τ:BD}{i:Nat}{xs:kj PV}:(frz τ)[i]? ≠some (some (.own xs)):=by
 rw[Zb];cases e:τ[i]? with
 | none=>exact λz=>nomatch z
 | some o=>
   cases o with
   | none=>exact λz=>nomatch z
   | some a=>cases a <;> exact λz=>nomatch z
def WN {a:L2.St}{τ:BD}{p:kd}:¬Ct a (frz τ) p:=λ⟨_,_,h,_⟩=>TV h
section
variable {K:AAG}{B:DB}{T T':kd->Prop}{H H':Hp}{σ:L2.St}{τ:BD}
def SR.frz (s:SR K B T H σ τ):SR K B T H σ (frz τ):=by
 have c:Mv K T (mt B σ τ) H T (mt B σ (PL.frz τ)) H:= .anti s.va λa m=>m.elim .inl λz=>absurd z WN;refine⟨by simp[PL.frz,s.len],λi x e=> ?_,λi xs e=>absurd e TV,λi j xs ys p e=>absurd e TV,s.tp,s.bm,s.bt,s.st⟩;rcases j6 e with e'|⟨xs,d,e'⟩
 .obtain ⟨v,h,r⟩:=s.val i x e';exact⟨v,h,r.mv c⟩
 .subst d;obtain⟨p,vs,f,h,r,b,t,m⟩:=s.own i xs e';exact⟨.ref p,f, .lst h t (λz=>z.elim m WN) (r.mv c)⟩
end
mutual
def cN:PV->da
 | .lst _=>false
 | .tape=>false
 | .scr _=>false
 | .dct _=>false
 | .tup xs=>WA xs
 | _=>true
def WA:kj PV->da
 | [] =>true
 | x::xs=>cN x&&WA xs
end
section
variable {K:AAG}{T M M':kd->Prop}{H:Hp}
mutual
theorem CZ.free:∀{v:V} {x:PV},cN x=true->CZ K T M H v x->CZ K T M' H v x
 | _,_,_, .non=> .non
 | _,_,_, .bl b=> .bl b
 | _,_,_, .int i=> .int i
 | _,_,_, .str x=> .str x
 | _,_,_, .ty n=> .ty n
 | _,_,n, .tup h r=> .tup h (A6.free (by rw[cN] at n;exact n) r)
 | _,_,n, .lst _ _ _ _=>by rw[cN] at n;cases n
 | _,_,n, .tape _=>by rw[cN] at n;cases n
 | _,_,n, .scr _=>by rw[cN] at n;cases n
 | _,_,n, .dct _ _ _=>by rw[cN] at n;cases n
theorem A6.free:∀{vs:kj V} {xs:kj PV},WA xs=true->A6 K T M H vs xs->A6 K T M' H vs xs
 | _,_,_, .nil=> .nil
 | _,_,n, .cons h t=>by rw[WA,ACA] at n;exact .cons (CZ.free n.1 h) (A6.free n.2 t)
end
end
abbrev AE:=BD->(PV->Prop)->Prop
abbrev AT:=BD->(da->Prop)->Prop
abbrev AA:=BD->(kj PV->Prop)->Prop
abbrev AF:=kj PV->(PV->Prop)->Prop
def Tv:BD->Nat->kc AV
 | [],_=>none
 | x::_,0=>x
 | _::r,n+1=>Tv r n
theorem Md:∀{τ:BD} {i:Nat} {a:AV},Tv τ i=some a->τ[i]? =some (some a)
 | [],_,_,h=>by simp[Tv] at h
 | x::_,0,_,h=>by simpa[Tv] using h
 | _::r,n+1,a,h=>by have:=Md (τ:=r) (i:=n) (a:=a) (by simpa[Tv] using h);simpa using this
def jM (x:PV)(R:Int->Prop):Prop:=match x with | .int i=>R i|_=>False
def cY (x y:PV)(R:Int->Int->Prop):Prop:=match x,y with | .int i, .int j=>R i j|_,_=>False
def pp (x:PV)(R:da->Prop):Prop:=match x with | .bl b=>R b|_=>False
def gZ (o:kc PV)(R:PV->Prop):Prop:=match o with | some z=>R z|none=>False
def pz {o:kc PV}{R:PV->Prop}(h:gZ o R):∃z,o=some z/\R z:=by cases o <;> first | exact⟨_,rfl,h⟩|exact h.elim
def Uu (x:PV)(R:kj PV->Prop):Prop:=match x with | .tup xs=>R xs | .lst xs=>R xs|_=>False
def UF {x:PV}{R:Int->Prop}(h:jM x R):∃i,x= .int i/\R i:=by cases x <;> first | exact⟨_,rfl,h⟩|exact h.elim
def OD {x y:PV}{R:Int->Int->Prop}(h:cY x y R):∃i j,x= .int i/\y= .int j/\R i j:=by cases x <;> cases y <;> first | exact⟨_,_,rfl,rfl,h⟩|exact h.elim
def YN {x:PV}{R:da->Prop}(h:pp x R):∃b,x= .bl b/\R b:=by cases x <;> first | exact⟨_,rfl,h⟩|exact h.elim
def Js {x:PV}{R:kj PV->Prop}(h:Uu x R):∃xs,(x= .tup xs\/x= .lst xs)/\R xs:=by cases x <;> first | exact⟨_, .inl rfl,h⟩|exact⟨_, .inr rfl,h⟩|exact h.elim
def CZ.toI {K:AAG}{T M:kd->Prop}{H:Hp}{v:V}{i:Int}(r:CZ K T M H v (.int i)):v= .int i:=by cases r;rfl
def CZ.toB {K:AAG}{T M:kd->Prop}{H:Hp}{v:V}{i:da}(r:CZ K T M H v (.bl i)):v= .bl i:=by cases r;rfl
def Gf (K:AAG)(t:TE)(a:AE):Prop:=∀(B:DB) (T:kd->Prop) (b:L2.St) (τ:BD) (H:Hp) (Q:VK) (d:PV->Prop),SR K B T H b τ->a τ d->
 (∀v x e c,Dj T H e c->CZ K e (mt B b τ) c v x->d x->Q v c)->t b H Q
def Nc (K:AAG)(t:TT)(a:AT):Prop:=∀(B:DB) (T:kd->Prop) (c:L2.St) (τ:BD) (H:Hp) (Q:da->Hp->Prop) (d:da->Prop),SR K B T H c τ->a τ d->
 (∀b f e,Dj T H f e->d b->Q b e)->t c H Q
def oG (K:AAG)(t:TA)(a:AA):Prop:=∀(B:DB) (T:kd->Prop) (b:L2.St) (τ:BD) (H:Hp) (Q:kj V->Hp->Prop) (d:kj PV->Prop),SR K B T H b τ->a τ d->
 (∀vs xs e c,Dj T H e c->A6 K e (mt B b τ) c vs xs->d xs->Q vs c)->t b H Q
def dk (K:AAG)(t:TE)(a:AA):Prop:=∀(B:DB) (T:kd->Prop) (c:L2.St) (τ:BD) (H:Hp) (Q:VK) (e:kj PV->Prop),SR K B T H c τ->a τ e->
 (∀p vs xs d b,Dj T H d b->SR K (B.add p) d b c τ->H p=none->b p=some (.lst vs)->¬d p->A6 K d (mt (B.add p) c τ) b vs xs->e xs->Q (.ref p) b)->t c H Q
def SE (X:Cx)(e:fe)(a:AE):Prop:=∃t,PE X e t/\Gf X.K t a
def Us (X:Cx)(e:fe)(a:AT):Prop:=∃t,PT X e t/\Nc X.K t a
def SW (X:Cx)(e:fe)(a:AT):Prop:=∃t,PW X e t/\Nc X.K t a
def SA (X:Cx)(es:kj fe)(a:AA):Prop:=∃t,PA X es t/\oG X.K t a
def SF (X:Cx)(e:fe)(a:AA):Prop:=∃t,PE X e t/\dk X.K t a
abbrev KF:=PV->PV->(PV->Prop)->Prop
def CM (K:AAG)(r:R2)(f:KF):Prop:=∀(T M:kd->Prop) (H:Hp) (u v:V) (x y:PV) (Q:VK) (b:PV->Prop),HK T M H->CZ K T M H u x->CZ K T M H v y->f x y b->
 (∀w z c a,Dj T H c a->CZ K c M a w z->b z->Q w a)->r u v H Q
def Hi (K:AAG)(r:kj V->Hp->VK->Prop)(f:AF):Prop:=∀(T M:kd->Prop) (H:Hp) (b:kj V) (xs:kj PV) (Q:VK) (c:PV->Prop),HK T M H->A6 K T M H b xs->f xs c->
 (∀w z d a,Dj T H d a->CZ K d M a w z->c z->Q w a)->r b H Q
section
variable {X:Cx}{a b c:fe}{es:kj fe}{pos:Pos}{ta tb:AE}{tA tB':AT}
def aV (i:Nat):AE:=λτ Q=>match Tv τ i with | some (.val x)=>Q x|_=>False
def sY {i:Nat}{τ:BD}{Q:PV->Prop}(h:aV i τ Q):∃x,τ[i]? =some (some (.val x))/\Q x:=by
 unfold aV at h;cases e:Tv τ i with
 | none=>rw[e] at h;exact h.elim
 | some z=>
   rw[e] at h;cases z with
   | own xs=>exact h.elim
   | val x=>exact⟨x,Md e,h⟩
def AH (i:Nat){x:Str}{pos:Pos}(hN:X.N[i]? =some x:=by rfl)(hv:me X.env.scope x:=by first | exact Or.inl rfl|exact Or.inr (Or.inl rfl)|exact Or.inr (Or.inr rfl))(hd:(x==("__debug__" :Str))=false:=by decide)(d:(x==("__classdict__" :Str))=false:=by decide):SE X (.Name x pos) (aV i):=by refine⟨_,Pw hN hv hd d,λB T g τ H Q j s h k=> ?_⟩;obtain⟨x,e,q⟩:=sY h;obtain⟨v,f,r⟩:=s.val i x e;exact⟨v,f,k v x T H (.refl s.tp) r q⟩
def aC (x:PV):AE:=λ_ Q=>Q x
def Wn {v:V}{x:PV}(h:∀T M H,CZ X.K T M H v x):Gf X.K (tC v) (aC x):=λB T d τ H Q e s h' k=>k v x T H (.refl s.tp) (h _ _ _) h'
def AJ {i:Int}{j pos}:SE X (.Constant (.int i) j pos) (aC (.int i)):=⟨_,BF,Wn λ_ _ _=> .int i⟩
def Ce {i:da}{j pos}:SE X (.Constant (.bool i) j pos) (aC (.bl i)):=⟨_,uZ,Wn λ_ _ _=> .bl i⟩
def Ba {j pos}:SE X (.Constant .none j pos) (aC .non):=⟨_,gy,Wn λ_ _ _=> .non⟩
def QG {i:Str}{j pos}:SE X (.Constant (.str i) j pos) (aC (.str i)):=⟨_,qK,Wn λ_ _ _=> .str i⟩
def nR {x:Str}{n:String}{u:ki}{pos:Pos}(d:Gl X x)(e:X.mg x=none)(hv:bootBuiltins x=some u)(r:RelV (.ty n) u)(hn:x≠"__name__" :=by decide)(hd:(x==("__debug__" :Str))=false:=by decide):SE X (.Name x pos) (aC (.ty n)):=
 ⟨_,Gs (v:= .ty n) d e hv r hn hd,Wn λ_ _ _=> .ty n⟩
def AX (f:KF)(ta tb:AE):AE:=λτ Q=>ta τ λx=>tb τ λy=>f x y Q
def Ug {r:R2}{f:KF}{t u:TE}(i:CM X.K r f)(ha:Gf X.K t ta)(hb:Gf X.K u tb):Gf X.K (mN r t u) (AX f ta tb):=by intro B T g τ H Q j s h k;refine ha B T g τ H _ _ s h λv x l m d r1 h1=> ?_;refine hb B l g τ m _ _ (s.stp d) h1 λw y n o e r2 h2=> ?_;have p:=(s.stp d).stp e;exact i n _ o v w x y Q j p.va (r1.stp e (s.stp d).va) r2 h2 λw z T3 A C D q=>k w z T3 A ((d.trans e).trans C) D q
def Ad {op:Operator}{r:R2}{f:KF}(d:Em X (binaryOp op) r/\CM X.K r f)(ha:SE X a ta)(hb:SE X b tb):SE X (.BinOp a op b pos) (AX f ta tb):=
 let ⟨_,p,s⟩:=ha;let ⟨_,e,g⟩:=hb;⟨_,CN d.1 p e,Ug d.2 s g⟩
def CT {op:CmpOp}{r:R2}{f:KF}(d:Em X (compareOp op) r/\CM X.K r f)(ha:SE X a ta)(hb:SE X b tb)(e:behindInMarks op b=false):SE X (.Compare a [op] [b] pos) (AX f ta tb):=
 let ⟨_,p,s⟩:=ha;let ⟨_,g,h⟩:=hb;⟨_,Z7 d.1 p g e,Ug d.2 s h⟩
def u7 {r:R2}{f:KF}(d:jc X r/\CM X.K r f)(ha:SE X a ta)(hb:SE X b tb)(hs:TH b):SE X (.Subscript a b pos) (AX f ta tb):=
 let ⟨_,p,s⟩:=ha;let ⟨_,e,g⟩:=hb;⟨_,NO d.1 p e hs,Ug d.2 s g⟩
def fI (g:Int->Int->PV):KF:=λx y Q=>cY x y λi j=>Q (g i j)
def tD (C:Int->Int->Prop)(g:Int->Int->PV):KF:=λx y Q=>cY x y λi j=>C i j/\Q (g i j)
def aJ {g:Int->Int->V}{g':Int->Int->PV}(d:∀i j T M H,CZ X.K T M H (g i j) (g' i j)):CM X.K (Ry g) (fI g'):=by intro T M H u v x y Q f va e rv h k;obtain⟨i,j,rfl,rfl,q⟩:=OD h;exact⟨i,j,e.toI,rv.toI,k _ _ T H (.refl va.tp) (d i j T M H) q⟩
def Ym {C:Int->Int->Prop}{g:Int->Int->V}{g':Int->Int->PV}(d:∀i j T M H,CZ X.K T M H (g i j) (g' i j)):CM X.K (rI C g) (tD C g'):=by intro T M H u v x y Q f va e rv h k;obtain⟨i,j,rfl,rfl,c,q⟩:=OD h;exact⟨i,j,e.toI,rv.toI,c,k _ _ T H (.refl va.tp) (d i j T M H) q⟩
abbrev so:KF:=fI λi j=> .int (i+j)
abbrev Ex:KF:=fI λi j=> .int (i-j)
abbrev ZW:KF:=fI λi j=> .bl (decide (i<j))
abbrev mq:KF:=fI λi j=> .bl (decide (j<i))
abbrev mo:KF:=fI λi j=> .bl (decide (j<=i))
def Bt:Em X (binaryOp .Sub) (Ry λi j=> .int (i-j))/\CM X.K (Ry λi j=> .int (i-j)) Ex:=⟨YQ,aJ λi j _ _ _=> .int _⟩
def Fq:Em X (compareOp .Lt) (Ry λi j=> .bl (decide (i<j)))/\CM X.K (Ry λi j=> .bl (decide (i<j))) ZW:=⟨nJ,aJ λi j _ _ _=> .bl _⟩
def R9:Em X (compareOp .Gt) (Ry λi j=> .bl (decide (j<i)))/\CM X.K (Ry λi j=> .bl (decide (j<i))) mq:=⟨nI,aJ λi j _ _ _=> .bl _⟩
def QN:Em X (compareOp .GtE) (Ry λi j=> .bl (decide (j<=i)))/\CM X.K (Ry λi j=> .bl (decide (j<=i))) mo:=⟨nH,aJ λi j _ _ _=> .bl _⟩
structure MulOk (i j:Int):Prop where
 l:i.natAbs<2^1000000
 r:j.natAbs<2^1000000
def lQ:Em X (binaryOp .Mult) (rI MulOk λi j=> .int (i*j)):=p7 λ_ _ _ _ _ _ _ hc q=>mul_int q (.of_le (IT hc.l) (IT hc.r) (by decide))
abbrev Dc:KF:=tD MulOk λi j=> .int (i*j)
def BP:Em X (binaryOp .Mult) (rI MulOk λi j=> .int (i*j))/\CM X.K (rI MulOk λi j=> .int (i*j)) Dc:=⟨lQ,Ym λi j _ _ _=> .int _⟩
structure VQ (i j:Int):Prop where
 ne:j≠0
 lt:j.natAbs<2^8900
def gg:Em X (binaryOp .FloorDiv) (rI VQ λi j=> .int (i.fdiv j)):=p7 λi j _ _ _ _ _ hc q=>
 floordiv_int hc.ne q (.inl (AFY (ADR (LG hc.lt (by decide)) (by decide))))
abbrev Qz:KF:=tD VQ λi j=> .int (i.fdiv j)
def Ez:Em X (binaryOp .FloorDiv) (rI VQ λi j=> .int (i.fdiv j))/\CM X.K (rI VQ λi j=> .int (i.fdiv j)) Qz:=⟨gg,Ym λi j _ _ _=> .int _⟩
abbrev bJ:KF:=tD (λ_ j=>j≠0) λi j=> .int (i.fmod j)
def Yp:Em X (binaryOp .Mod) (rI (λ_ j=>j≠0) λi j=> .int (i.fmod j))/\CM X.K (rI (λ_ j=>j≠0) λi j=> .int (i.fmod j)) bJ:=⟨lP,Ym λi j _ _ _=> .int _⟩
def vj:PV->da | .non=>true|_=>false
def Nf:KF:=λx y Q=>match y with | .non=>Q (.bl (vj x))|_=>False
def GR:KF:=λx y Q=>match y with | .non=>Q (.bl (!vj x))|_=>False
def Zo {K:AAG}{T M:kd->Prop}{H:Hp}{v:V}{x:PV}(r:CZ K T M H v x):decide (v= .non)=vj x:=by cases r <;> simp[vj]
def G3:Em X (compareOp .Is) (λx y H Q=>y= .non/\Q (.bl (decide (x= .non))) H)/\CM X.K (λx y H Q=>y= .non/\Q (.bl (decide (x= .non))) H) Nf:=by
 refine⟨qA,λT M H u v x y Q e va d rv h k=> ?_⟩;cases y <;> first | exact h.elim|skip
 cases rv;refine⟨rfl, ?_⟩;rw[Zo d];exact k _ _ T H (.refl va.tp) (.bl _) h
def Fs:Em X (compareOp .IsNot) (λx y H Q=>y= .non/\Q (.bl (!decide (x= .non))) H)/\CM X.K (λx y H Q=>y= .non/\Q (.bl (!decide (x= .non))) H) GR:=by
 refine⟨Z0,λT M H u v x y Q e va d rv h k=> ?_⟩;cases y <;> first | exact h.elim|skip
 cases rv;refine⟨rfl, ?_⟩;rw[Zo d];exact k _ _ T H (.refl va.tp) (.bl _) h
def Ao:KF:=λx y Q=>Uu x λxs=>jM y λi=>gZ (Je xs i) Q
def ZI {K:AAG}{T M:kd->Prop}{H:Hp}{vs:kj V}{xs:kj PV}{i:Int}{z:PV}(r:A6 K T M H vs xs)(h:Je xs i=some z):∃v,Je vs i=some v/\CZ K T M H v z:=by
 unfold Je at h ⊢;rw[r.length];cases e:V3 xs.length i with
 | none=>rw[e] at h;cases h
 | some j=> rw[e] at h;exact r.get h
def ui (K:AAG):R2:=λx y H Q=>uh K x y H Q\/uj K x y H Q
def vA:jc X (ui X.K)/\CM X.K (ui X.K) Ao:=by
 refine⟨Fk.or pI,λT M H u v x y Q g va f rv h k=> ?_⟩;obtain⟨xs,hx,h1⟩:=Js h;obtain⟨i,rfl,h2⟩:=UF h1;cases rv.toI;obtain⟨z,e,q⟩:=pz h2;rcases hx with rfl|rfl
 .cases f with
  | tup hq r=> obtain⟨w,ew,d⟩:=ZI r e;exact .inr ⟨_,_,i,w,rfl,rfl,hq.sq,ew,k w z T H (.refl va.tp) d q⟩
 .cases f with
  | lst hq t m r=> obtain⟨w,ew,d⟩:=ZI r e;exact .inl ⟨_,_,i,w,rfl,rfl, .inl (.inl hq),ew,k w z T H (.refl va.tp) d q⟩
def TL (f:PV->(PV->Prop)->Prop)(ta:AE):AE:=λτ Q=>ta τ λx=>f x Q
def Hl (x:PV)(Q:PV->Prop):Prop:=jM x λi=>Q (.int (-i))
def Dd (ha:SE X a ta):SE X (.UnaryOp .USub a pos) (TL Hl ta):=by obtain⟨t,p,s⟩:=ha;refine⟨_,ud qz p,λB T d τ H Q l e h k=>s B T d τ H _ _ e h λv x f g j r1 h1=> ?_⟩;obtain⟨i,rfl,q⟩:=UF h1;exact⟨i,r1.toI,k _ _ f g j (.int _) q⟩
def oS (x:PV)(Q:PV->Prop):Prop:=pp x λi=>Q (.bl (!i))
def qe (ha:SE X a ta):SE X (.UnaryOp .Not a pos) (TL oS ta):=by obtain⟨t,p,s⟩:=ha;refine⟨_,qI p,λB T d τ H Q l e h k=>s B T d τ H _ _ e h λv x f g j r1 h1=> ?_⟩;obtain⟨i,rfl,q⟩:=YN h1;exact⟨i,r1.toB,k _ _ f g j (.bl _) q⟩
def Qt (ta tb:AE):AE:=λτ Q=>ta τ λx=>pp x λc=>if c=true then tb τ Q else Q (.bl false)
def J7 {op}(h:SE X a ta):SE X (.BoolOp op [a] pos) ta:=let ⟨_,p,s⟩:=h;⟨_,qJ p,s⟩
def IK {rest:kj fe}(ha:SE X a ta)(hb:SE X (.BoolOp .And (b::rest) pos) tb):SE X (.BoolOp .And (a::b::rest) pos) (Qt ta tb):=by
 obtain⟨t,p,s⟩:=ha;obtain⟨t',l,m⟩:=hb;refine⟨_,qG p l,λB T e τ H Q u f h k=>s B T e τ H _ _ f h λv x g j d r1 h1=> ?_⟩;obtain⟨i,rfl,q⟩:=YN h1;refine⟨i,r1.toB, ?_⟩;cases i with
 | true=>rw[AAJ rfl] at q ⊢;exact m B g e τ j _ _ (f.stp d) q λw y n o r r2 h2=>k w y n o (d.trans r) r2 h2
 | false=>rw[AAH ABO] at q ⊢;exact k _ _ g j d (.bl _) q
def Ah (ta:AE):AT:=λτ Q=>ta τ λx=>pp x Q
def Uh {t:TE}(s:Gf X.K t ta):Nc X.K (iw t) (Ah ta):=λB T d τ H Q l e h k=>s B T d τ H _ _ e h λv x f g j r1 h1=>by obtain⟨i,rfl,q⟩:=YN h1;exact⟨i,r1.toB,k _ f g j q⟩
def ig {op:CmpOp}{r:R2}{f:KF}(d:Em X (compareOp op) r/\CM X.K r f)(ha:SE X a ta)(hb:SE X b tb)(e:behindInMarks op b=false):Us X (.Compare a [op] [b] pos) (Ah (AX f ta tb)):=
 let ⟨_,p,s⟩:=ha;let ⟨_,g,h⟩:=hb;⟨_,OH d.1 p g e,Uh (Ug d.2 s h)⟩
def A0 {e:fe}(h:SE X e ta)(he:∀whole,isTrue e X.env whole=(do let v <-whole;standAt e.pos;holding [v] (truthy v)):=by intro _;rfl):Us X e (Ah ta):=
 let ⟨_,p,s⟩:=h;⟨_,qP p he,Uh s⟩
def Ca (t:AT):AT:=λτ Q=>t τ λc=>Q (!c)
def Ff (t u:AT):AT:=λτ Q=>t τ λc=>if c=true then u τ Q else Q false
def Ew (t u:AT):AT:=λτ Q=>t τ λc=>if c=true then Q true else u τ Q
def Bp (ha:Us X a tA):Us X (.UnaryOp .Not a pos) (Ca tA):=by obtain⟨t,p,s⟩:=ha;exact⟨_,qO p,λB T d τ H Q j e h k=>s B T d τ H _ _ e h λv f g i h1=>k _ f g i h1⟩
def Eb (ha:Us X a tA):SW X (.BoolOp .And [a] pos) tA:=let ⟨_,p,s⟩:=ha;⟨_,lj p,s⟩
def C7 (ha:Us X a tA):SW X (.BoolOp .Or [a] pos) tA:=let ⟨_,p,s⟩:=ha;⟨_,qR p,s⟩
def FU {rest:kj fe}(ha:Us X a tA)(hb:SW X (.BoolOp .And (b::rest) pos) tB'):SW X (.BoolOp .And (a::b::rest) pos) (Ff tA tB'):=by
 obtain⟨t,p,s⟩:=ha;obtain⟨t',l,m⟩:=hb;refine⟨_,qQ p l,λB T e τ H Q u f h k=>s B T e τ H _ _ f h λi g j d q=> ?_⟩;cases i with
 | true=>rw[AAJ rfl] at q ⊢;exact m B g e τ j _ _ (f.stp d) q λb n o r h2=>k b n o (d.trans r) h2
 | false=>rw[AAH ABO] at q ⊢;exact k _ g j d q
def DK {rest:kj fe}(ha:Us X a tA)(hb:SW X (.BoolOp .Or (b::rest) pos) tB'):SW X (.BoolOp .Or (a::b::rest) pos) (Ew tA tB'):=by
 obtain⟨t,p,s⟩:=ha;obtain⟨t',l,m⟩:=hb;refine⟨_,ue p l,λB T e τ H Q u f h k=>s B T e τ H _ _ f h λi g j d q=> ?_⟩;cases i with
 | false=>rw[AAH ABO] at q ⊢;exact m B g e τ j _ _ (f.stp d) q λb n o r h2=>k b n o (d.trans r) h2
 | true=>rw[AAJ rfl] at q ⊢;exact k _ g j d q
def EX (h:SW X a tA):Us X a tA:=let ⟨_,p,s⟩:=h;⟨_,p.pt,s⟩
def mf (t:AT)(ta tb:AE):AE:=λτ Q=>t τ λc=>if c=true then ta τ Q else tb τ Q
def R5 (hc:Us X c tA)(ha:SE X a ta)(hb:SE X b tb):SE X (.IfExp c a b pos) (mf tA ta tb):=by
 obtain⟨t,p,s⟩:=hc;obtain⟨t1,p1,e⟩:=ha;obtain⟨t2,p2,f⟩:=hb;refine⟨_,gw p p1 p2,λB T g τ H Q u j h k=>s B T g τ H _ _ j h λi o r d q=> ?_⟩;cases i with
 | true=>rw[AAJ rfl] at q ⊢;exact e B o g τ r _ _ (j.stp d) q λw y l m n r2 h2=>k w y l m (d.trans n) r2 h2
 | false=>rw[AAH ABO] at q ⊢;exact f B o g τ r _ _ (j.stp d) q λw y l m n r2 h2=>k w y l m (d.trans n) r2 h2
def AM:AA:=λ_ Q=>Q []
def AB (ta:AE)(r:AA):AA:=λτ Q=>ta τ λx=>r τ λxs=>Q (x::xs)
def CQ:SA X [] AM:=⟨_,EU,λB T e τ H Q f d h k=>k [] [] T H (.refl d.tp) .nil h⟩
def Aw {e:fe}{r:AA}(ha:SE X e ta)(j:SA X es r)(hs:starEach (e::es) X.env=(false,eval e X.env)::starEach es X.env:=by rfl):SA X (e::es) (AB ta r):=by obtain⟨t,p,s⟩:=ha;obtain⟨t',l,m⟩:=j;refine⟨_,Bf p l hs,λB T g τ H Q y d h k=>s B T g τ H _ _ d h λv x n o f r1 h1=> ?_⟩;exact m B n g τ o _ _ (d.stp f) h1 λvs xs u w i r2 h2=>k _ _ u w (f.trans i) (.cons (r1.stp i (d.stp f).va) r2) h2
def Ay (r:AA):AE:=λτ Q=>r τ λxs=>xs.length<=sizeLine/\Q (.tup xs)
def Ab {x1}{r:AA}(h:SA X es r):SE X (.Tuple es x1 pos) (Ay r):=by obtain⟨t,p,s⟩:=h;refine⟨_,Pu p,λB T f τ H Q i d h k=>s B T f τ H _ _ d h λvs xs g j e r1 h1=>⟨by rw[r1.length];exact h1.1,λq hq=> ?_⟩⟩;have l:=Dj.lay (o:= .tup vs) (d.stp e).tp hq;exact k _ _ g _ (e.trans l) (.tup (.inl Al) (r1.stp l (d.stp e).va)) h1.2
def Ci (r:AA):AA:=λτ Q=>r τ λxs=>xs.length<=sizeLine/\Q xs
def Tk {K:AAG}{B:DB}{T:kd->Prop}{H:Hp}{d:L2.St}{τ:BD}{p:kd}{vs:kj V}{xs:kj PV}(f:SR K B T H d τ)(hq:H p=none)(r:A6 K T (mt B d τ) H vs xs):Dj T H T (upd H p (.lst vs))/\SR K (B.add p) T (upd H p (.lst vs)) d τ/\¬T p/\A6 K T (mt (B.add p) d τ) (upd H p (.lst vs)) vs xs:=by
 have l:=Dj.lay (o:= .lst vs) f.tp hq;have g:¬T p:=λz=>by obtain⟨o,e,_⟩:=(f.tp p z).mut;rw[hq] at e;cases e
 refine⟨l,f.add l hq Al MD.lst g,g,r.mv ⟨f.va,λb o t _ e=>l.keep b o t e,l.sub,λb n t=>t,λb n z=> ?_⟩⟩;rcases z with(z|z)|z
 .exact .inl z
 .subst z;exact absurd hq n
 .exact .inr z
def A8 {r:AA}(h:SA X es r):SF X (.List es pos) (Ci r):=by obtain⟨t,p,s⟩:=h;refine⟨_,gx p,λB T g τ H Q m f h k=>s B T g τ H _ _ f h λvs xs i n d r1 h1=>⟨by rw[r1.length];exact h1.1,λq hq=> ?_⟩⟩;obtain⟨l,e,j,r2⟩:=Tk (f.stp d) hq r1;exact k q vs xs i _ (d.trans l) e (d.none hq) Al j r2 h1.2
def FX (r:AA):AE:=λτ Q=>r τ λxs=>Q (.lst xs)
def iS {t:TE}{r:AA}(s:dk X.K t r):Gf X.K t (FX r):=λB T g τ H Q v d h k=>s B T g τ H _ _ d h λp vs xs i j l f hn hp n r1 h1=>by
 have u:¬Ct g τ p:=λo=>by obtain⟨_,e,_⟩:=d.ownH o;rw[hn] at e;cases e
 have hb:¬B.M p:=λo=>by obtain⟨_,e,_⟩:=d.bm p o;rw[hn] at e;cases e
 exact k _ _ i j l (.lst hp n (λz=>z.elim hb u) (r1.mv (.anti f.va λa m=>m.elim (λz=> .inl (.inl z)) .inr))) h1
def CU {r:AA}(h:SF X a r):SE X a (FX r):=let ⟨_,p,s⟩:=h;⟨_,p,iS s⟩
def Cf (K:AAG)(n:Nat)(F:AF):Sp:=λvs H Q _=>∃(T M:kd->Prop) (xs:kj PV) (e:PV->Prop),HK T M H/\(∀a,M a->¬T a)/\A6 K T M H vs xs/\xs.length=n/\F xs e/\
 ∀v x f d,Dj T H f d->CZ K f M d v x->e x->Q v d
def AR (n:Nat)(F:AF)(r:AA):AE:=λτ Q=>r τ λxs=>xs.length=n/\F xs Q
def AK {x:Str}{p:Pos}{e:fe}{k n:Nat}{ps:kj Str}{F:AF}{r:AA}(D:Has X.prog X.w X.K X.mg X.base k x ps (Cf X.K n F))(g:Room k X.A)(i:Gl X x)(ha:SA X (e::es) r)(hs:starEach (e::es) X.env=(false,eval e X.env)::starEach es X.env:=by rfl)(hpl:(backTo pos (starEach es X.env)).any (·.1)=false:=by rfl)(hd:(x==("__debug__" :Str))=false:=by decide):SE X (.Call (.Name x p) (e::es) [] pos) (AR n F r):=by obtain⟨t,j,s⟩:=ha;refine⟨_,qH D g i j hs hpl hd,λB T l τ H Q o d h k=>s B T l τ H _ _ d h λvs xs u E f r1 h1=> ?_⟩;rw[ACQ];exact⟨u,_,xs,o,(d.stp f).va,λa m=>(d.stp f).nt m,r1,h1.1,h1.2,λv x y z C r2 q=>k v x y z (f.trans C) r2 q⟩
def FZ (f:AF)(r:AA):AE:=λτ Q=>r τ λxs=>f xs Q
def iR {d:kj V->Hp->VK->Prop}{f:AF}{t:TA}{r:AA}(i:Hi X.K d f)(s:oG X.K t r):Gf X.K (xx d t) (FZ f r):=λB T j τ H Q l e h k=>s B T j τ H _ _ e h λvs xs m n g r1 h1=>
 i m _ n vs xs Q l (e.stp g).va r1 h1 λw z o p u r2 q=>k w z o p (g.trans u) r2 q
def BA {id:String}{x:Str}{p:Pos}{e:fe}{d:kj V->Hp->VK->Prop}{f:AF}{r:AA}(hc:Cv X (.builtin id) d/\Hi X.K d f)(g:Gl X x)(h:X.mg x=none)(hv:bootBuiltins x=some (.builtin id))(ha:SA X (e::es) r)(hn:x≠"__name__" :=by decide)(hdb:(x==("__debug__" :Str))=false:=by decide)(he:starEach (e::es) X.env=(false,eval e X.env)::starEach es X.env:=by rfl)(hpl:(backTo pos (starEach es X.env)).any (·.1)=false:=by rfl):SE X (.Call (.Name x p) (e::es) [] pos) (FZ f r):=by obtain⟨t,i,s⟩:=ha;exact⟨_,LL hc.1 g h hv i hn hdb he hpl,iR hc.2 s⟩
def BV {T:String}{x:Str}{p:Pos}{e:fe}{d:kj V->Hp->VK->Prop}{f:AF}{r:AA}(hc:Cv X (.type T) d/\Hi X.K d f)(g:Gl X x)(h:X.mg x=none)(hv:bootBuiltins x=some (.type T))(ha:SA X (e::es) r)(hn:x≠"__name__" :=by decide)(hdb:(x==("__debug__" :Str))=false:=by decide)(he:starEach (e::es) X.env=(false,eval e X.env)::starEach es X.env:=by rfl)(hpl:(backTo pos (starEach es X.env)).any (·.1)=false:=by rfl):SE X (.Call (.Name x p) (e::es) [] pos) (FZ f r):=by obtain⟨t,i,s⟩:=ha;exact⟨_,Mj hc.1 g h hv i hn hdb he hpl,iR hc.2 s⟩
end
section
variable {X:Cx}
def DM {K:AAG}{T M:kd->Prop}{H:Hp}{v:V}{xs:kj PV}(r:CZ K T M H v (.tup xs)):∃a vs,v= .ref a/\Ky K H a vs/\A6 K T M H vs xs:=by
 cases r with
 | tup h r=>exact⟨_,_,rfl,h.sq,r⟩
def iZ {K:AAG}{T M:kd->Prop}{H:Hp}{v:V}{xs:kj PV}(r:CZ K T M H v (.tup xs)):∃a vs,v= .ref a/\vc K H a vs/\A6 K T M H vs xs:=by
 cases r with
 | tup h r=>exact⟨_,_,rfl,h,r⟩
def C6 {K:AAG}{T M:kd->Prop}{H:Hp}{v:V}{xs:kj PV}(r:CZ K T M H v (.lst xs)):∃a vs,v= .ref a/\H a=some (.lst vs)/\¬T a/\¬M a/\A6 K T M H vs xs:=by
 cases r with
 | lst h t m r=>exact⟨_,_,rfl,h,t,m,r⟩
def iL {K:AAG}{T M:kd->Prop}{H:Hp}{v:V}{b:kj Int}(r:CZ K T M H v (.scr b)):∃a,v= .ref a/\FY K H a (b.map V.int):=by
 cases r with
 | scr h=>
   rcases h with⟨h,_,_⟩|h
   .exact ⟨_,rfl, .inl h⟩
   .exact ⟨_,rfl,h H⟩
def FN:AF:=λxs Q=>match xs with | [.tup ys] =>Q (.int ys.length) | [.lst ys] =>Q (.int ys.length) | [.scr ns] =>Q (.int ns.length)|_=>False
def uk (K:AAG):kj V->Hp->VK->Prop:=λxs H Q=>∃p ys,xs= [.ref p] /\(FY K H p ys\/Ky K H p ys)/\Q (.int ys.length) H
def D6:Cv X (.builtin "len") (uk X.K)/\Hi X.K (uk X.K) FN:=by
 refine⟨K2,λT M H b xs Q c va r h k=> ?_⟩;unfold FN at h;split at h <;> first | exact h.elim|skip
 .rename_i ys;cases r with | cons r t=>cases t;obtain⟨a,vs,rfl,hq,r⟩:=DM r;refine⟨a,vs,rfl, .inr hq, ?_⟩;rw[r.length];exact k _ _ T H (.refl va.tp) (.int _) h
 .rename_i ys;cases r with | cons r t=>cases t;obtain⟨a,vs,rfl,hq,_,_,r⟩:=C6 r;refine⟨a,vs,rfl, .inl (.inl (.inl hq)), ?_⟩;rw[r.length];exact k _ _ T H (.refl va.tp) (.int _) h
 .rename_i d;cases r with | cons r t=>cases t;obtain⟨a,rfl,hq⟩:=iL r;refine⟨a,_,rfl, .inl hq, ?_⟩;rw[ABL];exact k _ _ T H (.refl va.tp) (.int _) h
def TW:AF:=λxs Q=>match xs with | [.int i] =>Q (.int i.natAbs)|_=>False
def M6:Cv X (.builtin "abs") (λxs H Q=>∃i,xs= [.int i] /\Q (.int (if i<0 then -i else i)) H)/\Hi X.K (λxs H Q=>∃i,xs= [.int i] /\Q (.int (if i<0 then -i else i)) H) TW:=by
 refine⟨O8,λT M H a xs Q b va r h k=> ?_⟩;unfold TW at h;split at h <;> first | exact h.elim|skip
 rename_i i;cases r with
 | cons r t=> cases t;cases r;refine⟨i,rfl, ?_⟩;rw[show (if i<0 then -i else i)=(i.natAbs:Int) by split <;> omega];exact k _ _ T H (.refl va.tp) (.int _) h
def tG (g:Int->Int->Int):AF:=λxs Q=>match xs with | [.int i, .int j] =>Q (.int (g i j))|_=>False
def qi {g g':Int->Int->Int}(a:∀i j,g i j=g' i j):Hi X.K (λxs H Q=>∃i j,xs= [.int i, .int j] /\Q (.int (g i j)) H) (tG g'):=by
 intro T M H b xs Q c va r h k;unfold tG at h;split at h <;> first | exact h.elim|skip
 rename_i i j;cases r with
 | cons r t=>
   cases t with
   | cons r2 t=> cases t;cases r;cases r2;refine⟨i,j,rfl, ?_⟩;rw[a];exact k _ _ T H (.refl va.tp) (.int _) h
def qd (hc:X.calm=true):Cv X (.builtin "min") (λxs H Q=>∃i j,xs= [.int i, .int j] /\Q (.int (if j<i then j else i)) H)/\Hi X.K (λxs H Q=>∃i j,xs= [.int i, .int j] /\Q (.int (if j<i then j else i)) H) (tG min):=
 ⟨bB hc,qi λi j=>by split <;> omega⟩
def bO:AF:=λxs Q=>match xs with | [.int i] =>Q (.int i) | [.bl k] =>Q (.int (if k then 1 else 0))|_=>False
def Yj:Cv X (.type "int") (λxs H Q=>(∃i,xs= [.int i] /\Q (.int i) H)\/∃k,xs= [.bl k] /\Q (.int (if k then 1 else 0)) H)/\Hi X.K (λxs H Q=>(∃i,xs= [.int i] /\Q (.int i) H)\/∃k,xs= [.bl k] /\Q (.int (if k then 1 else 0)) H) bO:=by
 refine⟨Rf,λT M H a xs Q b va r h k=> ?_⟩;unfold bO at h;split at h <;> first | exact h.elim|skip
 .cases r with | cons r t=>cases t;cases r;exact .inl ⟨_,rfl,k _ _ T H (.refl va.tp) (.int _) h⟩
 .cases r with | cons r t=>cases t;cases r;exact .inr ⟨_,rfl,k _ _ T H (.refl va.tp) (.int _) h⟩
def Co:AF:=λxs Q=>match xs with | [.tup ys] =>Q (.tup ys) | [.lst ys] =>Q (.tup ys)|_=>False
def iA (K:AAG):kj V->Hp->VK->Prop:=λxs H Q=>∃p ys,xs= [.ref p] /\((FY K H p ys/\∀l,H l=none->Q (.ref l) (upd H l (.tup ys)))\/(Ky K H p ys/\Q (.ref p) H))
def CS:Cv X (.type "tuple") (iA X.K)/\Hi X.K (iA X.K) Co:=by
 refine⟨Qv,λT M H c xs Q d va r h k=> ?_⟩;unfold Co at h;split at h <;> first | exact h.elim|skip
 .cases r with | cons r t=>cases t;obtain⟨a,vs,rfl,hq,b⟩:=iZ r;exact⟨a,vs,rfl, .inr ⟨hq.sq,k _ _ T H (.refl va.tp) (.tup hq b) h⟩⟩
 .cases r with
  | cons r t=> cases t;obtain⟨a,vs,rfl,hq,_,_,b⟩:=C6 r;refine⟨a,vs,rfl, .inl ⟨.inl (.inl hq),λl hl=> ?_⟩⟩;have s:=Dj.lay (o:= .tup vs) va.tp hl;exact k _ _ T _ s (.tup (.inl Al) (b.stp s va)) h
def kdOf:PV->kc Kd
 | .non=>some .non | .bl _=>some .bl | .int _=>some .int | .str _=>some .str | .tup _=>some .tup | .lst _=>some .lst | .tape=>none | .scr _=>none | .ty _=>none | .dct _=>none
def fG:AF:=λxs Q=>match xs with | [x, .ty T] =>JG T/\(match kdOf x with | some k=>Q (.bl (Io k T))|none=>False)|_=>False
def iK:Cv X (.builtin "isinstance") (qS X.K)/\Hi X.K (qS X.K) fG:=by
 refine⟨eJ,λT M H c xs Q d va r h k=> ?_⟩;unfold fG at h;split at h <;> first | exact h.elim|skip
 rename_i x ty;obtain⟨a,h⟩:=h;cases r with
 | cons r t=>
   cases t with
   | cons r2 t=>
     cases t;cases r2;cases r with
     | non=>exact⟨_,_, .non,rfl,a,rfl,k _ _ T H (.refl va.tp) (.bl _) h⟩
     | bl b=>exact⟨_,_, .bl,rfl,a,⟨_,rfl⟩,k _ _ T H (.refl va.tp) (.bl _) h⟩
     | int b=>exact⟨_,_, .int,rfl,a,⟨_,rfl⟩,k _ _ T H (.refl va.tp) (.bl _) h⟩
     | str b=>exact⟨_,_, .str,rfl,a,⟨_,rfl⟩,k _ _ T H (.refl va.tp) (.bl _) h⟩
     | ty b=>exact h.elim
     | tup hq _=>exact⟨_,_, .tup,rfl,a,⟨_,_,rfl,hq.sq⟩,k _ _ T H (.refl va.tp) (.bl _) h⟩
     | lst hq _ _ _=>exact⟨_,_, .lst,rfl,a,⟨_,_,rfl, .inl (.inl hq)⟩,k _ _ T H (.refl va.tp) (.bl _) h⟩
     | tape _=>exact h.elim
     | scr _=>exact h.elim
     | dct _ _ _=>exact h.elim
def aH:PV->PV->kc da
 | .non, .non=>some true | .non, .int _=>some false | .int _, .non=>some false | .non, .bl _=>some false | .bl _, .non=>some false | .non, .str _=>some false | .str _, .non=>some false
 | .int i, .int j=>some (decide (i=j)) | .bl i, .bl j=>some (decide (i=j)) | .str i, .str j=>some (decide (i=j))
 | .int _, .str _=>some false | .str _, .int _=>some false | .bl _, .str _=>some false | .str _, .bl _=>some false
 | _,_=>none
def Wi {K:AAG}{T M:kd->Prop}{H:Hp}{u v:V}{x y:PV}{b:da}(r:CZ K T M H u x)(r2:CZ K T M H v y)(e:aH x y=some b):l8 u v=true/\decide (u=v)=b:=by cases r <;> cases r2 <;> simp[aH] at e <;> subst e <;> simp[l8]
def mR:PV->kc da
 | .non=>some false | .bl b=>some b | .int i=>some (i != 0) | .tup xs=>some (!xs.isEmpty) | .lst xs=>some (!xs.isEmpty)|_=>none
def oJ (a:AE):AT:=λτ Q=>a τ λx=>match mR x with | some b=>Q b|none=>False
def LB {K:AAG}{T M:kd->Prop}{H:Hp}{vs:kj V}{xs:kj PV}(r:A6 K T M H vs xs):vs.isEmpty=xs.isEmpty:=by cases r <;> rfl
def qo {a:fe}{d:AE}(ha:SE X a d)(he:∀whole,isTrue a X.env whole=(do let v <-whole;standAt a.pos;holding [v] (truthy v)):=by intro _;rfl):Us X a (oJ d):=by
 obtain⟨t,p,s⟩:=ha;refine⟨_,hI p he,λB T f τ H Q m g h k=>s B T f τ H _ _ g h λv x i j l r1 h1=> ?_⟩;cases e:mR x with
 | none=>rw[e] at h1;exact h1.elim
 | some b=>
   rw[e] at h1;refine⟨b, ?_,k b i j l h1⟩;cases r1 <;> simp[mR] at e
   .exact e
   .exact e.symm
   .exact e.symm
   .rename_i hq c;exact .inr (.inl ⟨_,hq.sq,by rw[LB c,e];simp⟩)
   .rename_i hq _ _ c;exact .inl ⟨_, .inl (.inl hq),by rw[LB c,e];simp⟩
end
structure G6 where
 nx:BD->Prop
 rt:PV->Prop
 bk:BD->Prop
 ct:BD->Prop
abbrev AS:=G6->BD->Prop
structure Fu (T:Addr->Prop) (H:Hp) (σ:L2.St) (τ:BD) (T':Addr->Prop) (H':Hp) (σ':L2.St) (τ':BD):Prop where
 keep:∀b o,¬T b->¬Ct σ τ b->H b=some o->H' b=some o
 sub:∀b,T b->T' b
 new:∀b,T' b->T b\/H b=none
 own:∀b,Ct σ' τ' b->Ct σ τ b\/H b=none
 some:∀b,H b≠none->H' b≠none
section
variable {K:AAG}{B:DB}{T T' T1 T2:kd->Prop}{H H' H1 H2:Hp}{σ σ' σ1 σ2:L2.St}{τ τ' τ1 τ2:BD}
def Fu.refl:Fu T H σ τ T H σ τ:=⟨λ_ _ _ _ e=>e,λ_ t=>t,λ_ t=> .inl t,λ_ o=> .inl o,λ_ h=>h⟩
def Fu.trans (a:Fu T H σ τ T1 H1 σ1 τ1)(b:Fu T1 H1 σ1 τ1 T2 H2 σ2 τ2):Fu T H σ τ T2 H2 σ2 τ2 where
 keep:=λc o t w e=>b.keep c o (λz=>(a.new c z).elim t λn=>by rw[n] at e;cases e) (λz=>(a.own c z).elim w λn=>by rw[n] at e;cases e) (a.keep c o t w e)
 sub:=λc t=>b.sub c (a.sub c t)
 new:=λc t=>(b.new c t).elim (λz=>a.new c z) λz=> .inr (by
  cases e:H c with
  | none=>rfl
  | some o=>exact absurd z (a.some c (by rw[e];exact λe=>nomatch e)))
 own:=λc t=>(b.own c t).elim (λz=>a.own c z) λz=> .inr (by
  cases e:H c with
  | none=>rfl
  | some o=>exact absurd z (a.some c (by rw[e];exact λe=>nomatch e)))
 some:=λc h=>b.some c (a.some c h)
def Dj.prog (s:Dj T H T' H'):Fu T H σ τ T' H' σ τ:=⟨λb o t _ e=>s.keep b o t e,s.sub,s.new,λ_ o=> .inl o,λ_ h=>s.some h⟩
def Fu.less (h:∀b,Ct σ' τ' b->Ct σ τ b):Fu T H σ τ T H σ' τ':=⟨λ_ _ _ _ e=>e,λ_ t=>t,λ_ t=> .inl t,λb o=> .inl (h b o),λ_ h=>h⟩
structure ER (K:AAG) (B:DB) (T:Addr->Prop) (H:Hp) (σ:L2.St) (τ:BD) (D:Os) (AD:G6):Prop where
 nx:∀T' H' σ' τ',Fu T H σ τ T' H' σ' τ'->SR K B T' H' σ' τ'->AD.nx τ'->D.nx σ' H'
 bk:∀T' H' σ' τ',Fu T H σ τ T' H' σ' τ'->SR K B T' H' σ' τ'->AD.bk τ'->D.bk σ' H'
 ct:∀T' H' σ' τ',Fu T H σ τ T' H' σ' τ'->SR K B T' H' σ' τ'->AD.ct τ'->D.ct σ' H'
 rt:∀v x T' H',Dj B.T B.H T' H'->CZ K T' B.M H' v x->AD.rt x->D.rt v H'
def ER.shift {D:Os}{a:G6}(e:ER K B T H σ τ D a)(p:Fu T H σ τ T1 H1 σ1 τ1):ER K B T1 H1 σ1 τ1 D a:=
 ⟨λ_ _ _ _ q=>e.nx _ _ _ _ (p.trans q),λ_ _ _ _ q=>e.bk _ _ _ _ (p.trans q),λ_ _ _ _ q=>e.ct _ _ _ _ (p.trans q),e.rt⟩
end
def dn (K:AAG)(t:TS)(a:AS):Prop:=∀(B:DB) (T:kd->Prop) (b:L2.St) (τ:BD) (H:Hp) (D:Os) (c:G6),SR K B T H b τ->a c τ->ER K B T H b τ D c->t D b H
def SS (X:Cx)(st:Stmt)(a:AS):Prop:=∃t,PS X st t/\dn X.K t a
def jI (X:Cx)(st:kj Stmt)(a:AS):Prop:=∃t,ZF X st t/\dn X.K t a
def BH {a:Type}{l:kj a}{i j:Nat}{x y:a}(h:(l.set i x)[j]? =some y):(j=i/\y=x/\i<l.length)\/(j≠i/\l[j]? =some y):=by
 by_cases e:j=i
 .subst e;rw[AD4] at h;simp at h;obtain⟨h1,h2⟩:=h;exact .inl ⟨rfl,h2.symm,h1⟩
 .rw [ABj (λz=>e z.symm)] at h;exact .inr ⟨e,h⟩
section
variable {K:AAG}{B:DB}{T:kd->Prop}{H:Hp}{σ:L2.St}{τ:BD}
def Dk {i:Nat}{v:V}{x:PV}{b:kd}(h:Ct (σ.set i (some v)) (τ.set i (some (.val x))) b):Ct σ τ b:=by
 obtain⟨j,xs,h1,h2⟩:=h;rcases BH h1 with⟨_,e,_⟩|⟨n,a⟩
 .cases e
 .rw [ABj (λz=>n z.symm)] at h2;exact⟨j,xs,a,h2⟩
def SR.set {i:Nat}{v:V}{x:PV}(s:SR K B T H σ τ)(r:CZ K T (mt B σ τ) H v x):SR K B T H (σ.set i (some v)) (τ.set i (some (.val x))):=by
 have b:Mv K T (mt B σ τ) H T (mt B (σ.set i (some v)) (τ.set i (some (.val x)))) H:= .anti s.va λa m=>m.elim .inl λz=> .inr (Dk z);refine⟨by simp[s.len],λj y e=> ?_,λj ys e=> ?_,λj k ys l p o t g h=> ?_,s.tp,s.bm,s.bt,s.st⟩
 .rcases BH e with⟨rfl,e',hl⟩|⟨n,e'⟩
  .cases e';refine⟨v,by rw[AD4];simp[s.len,hl],r.mv b⟩
  .obtain ⟨w,hw,c⟩:=s.val j y e';exact⟨w,by rw[ABj (λz=>n z.symm)];exact hw,c.mv b⟩
 .rcases BH e with⟨_,e',_⟩|⟨n,e'⟩
  .cases e'
  .obtain ⟨p,vs,h1,h2,u,A⟩:=s.own j ys e';exact⟨p,vs,by rw[ABj (λz=>n z.symm)];exact h1,h2,u.mv b,A⟩
 .rcases BH o with⟨_,e',_⟩|⟨n,d⟩
  .cases e'
  .rcases BH t with⟨_,e',_⟩|⟨C,f⟩
   .cases e'
   .rw [ABj (λz=>n z.symm)] at g;rw[ABj (λz=>C z.symm)] at h;exact s.dist j k ys l p d f g h
def NN {i:Nat}{p:kd}{xs:kj PV}{b:kd}(h:Ct (σ.set i (some (.ref p))) (τ.set i (some (.own xs))) b):Ct σ τ b\/b=p:=by
 obtain⟨j,ys,h1,h2⟩:=h;rcases BH h1 with⟨rfl,e,_⟩|⟨n,a⟩
 .rcases BH h2 with⟨_,e',_⟩|⟨n,_⟩
  .cases e';exact .inr rfl
  .exact absurd rfl n
 .rw [ABj (λz=>n z.symm)] at h2;exact .inl ⟨j,ys,a,h2⟩
def SR.take {i:Nat}{p:kd}{vs:kj V}{xs:kj PV}(s:SR K (B.add p) T H σ τ)(hp:H p=some (.lst vs))(A:¬T p)(t:¬Ct σ τ p)(C:¬B.M p)(D:B.H p=none)(r:A6 K T (mt (B.add p) σ τ) H vs xs):SR K B T H (σ.set i (some (.ref p))) (τ.set i (some (.own xs))):=by
 have g:Mv K T (mt (B.add p) σ τ) H T (mt B (σ.set i (some (.ref p))) (τ.set i (some (.own xs)))) H:= .anti s.va λa m=>by
  rcases m with m|m
  .exact .inl (.inl m)
  .rcases NN m with z|z
   .exact .inr z
   .exact .inl (.inr z)
 refine⟨by simp[s.len],λj y e=> ?_,λj ys e=> ?_,λj k ys u q E v f c=> ?_,s.tp,λa m=>s.bm a (.inl m),λa m=>s.bt a (.inl m),s.st⟩
 .rcases BH e with⟨_,e',_⟩|⟨n,e'⟩
  .cases e'
  .obtain ⟨w,hw,h⟩:=s.val j y e';exact⟨w,by rw[ABj (λz=>n z.symm)];exact hw,h.mv g⟩
 .rcases BH e with⟨rfl,e',hl⟩|⟨n,e'⟩
  .cases e';exact⟨p,vs,by rw[AD4];simp[s.len,hl],hp,r.mv g,D,A,C⟩
  .obtain ⟨q,ws,h1,h2,F,G,I,J⟩:=s.own j ys e';exact⟨q,ws,by rw[ABj (λz=>n z.symm)];exact h1,h2,F.mv g,G,I,λz=>J (.inl z)⟩
 .rcases BH E with⟨x,_,_⟩|⟨n,d⟩
  .rcases BH v with⟨l,_,_⟩|⟨o,b⟩
   .rw [x,l]
   .subst x;rw[ABj (λz=>o z.symm)] at c;rcases BH f with⟨_,e',_⟩|⟨n,_⟩
    .cases e';exact absurd ⟨k,u,b,c⟩ t
    .exact absurd rfl n
  .rw [ABj (λz=>n z.symm)] at f;rcases BH v with⟨l,_,_⟩|⟨o,b⟩
   .subst l;rcases BH c with⟨_,e',_⟩|⟨n,_⟩
    .cases e';exact absurd ⟨j,ys,d,f⟩ t
    .exact absurd rfl n
   .rw [ABj (λz=>o z.symm)] at c;exact s.dist j k ys u q d b f c
def SR.write {i:Nat}{p:kd}{ws vs:kj V}{xs ys:kj PV}(s:SR K B T H σ τ)(f:τ[i]? =some (some (.own xs)))(hs:σ[i]? =some (some (.ref p)))(hp:H p=some (.lst ws))(r:A6 K T (mt B σ τ) H vs ys):SR K B T (upd H p (.lst vs)) σ (τ.set i (some (.own ys)))/\Fu T H σ τ T (upd H p (.lst vs)) σ (τ.set i (some (.own ys))):=by
 obtain⟨P,M,G,Q,R,I,D,J⟩:=s.own i xs f;rw[hs] at G;cases G;have S:σ.set i (some (.ref p))=σ:=by
  apply List.ext_getElem?;intro k;by_cases hk:i=k
  .subst hk;rw[AD4,hs];simp[(ABc.mp hs).1]
  .rw [ABj hk]
 have g:Ct σ τ p:=⟨i,xs,f,hs⟩;have L:∀b,Ct σ (τ.set i (some (.own ys))) b->Ct σ τ b:=λb h=>by
  obtain⟨j,c,h1,h2⟩:=h;rcases BH h1 with⟨rfl,e,_⟩|⟨n,A⟩
  .exact ⟨j,xs,f,h2⟩
  .exact ⟨j,c,A,h2⟩
 have E:Mv K T (mt B σ τ) H T (mt B σ (τ.set i (some (.own ys)))) (upd H p (.lst vs)):=⟨s.va,λb o _ m e=>by
  rw[Ai (λz=>m (by subst z;exact .inr g))];exact e,λ_ t=>t,λ_ _ t=>t,λb _ m=>m.elim .inl λz=> .inr (L b z)⟩
 refine⟨⟨by simp[s.len],λj y e=> ?_,λj c e=> ?_,λj k c C q h1 h2 l u=> ?_,λa t=> ?_,λa m=> ?_,s.bt, ?_⟩,⟨λb o t w e=>by rw[Ai (λz=>w (by subst z;exact g))];exact e,λ_ t=>t,λ_ t=> .inl t,λb o=> .inl (L b o),λb h=> ?_⟩⟩
 .rcases BH e with⟨_,e',_⟩|⟨n,e'⟩
  .cases e'
  .obtain ⟨v,h,N⟩:=s.val j y e';exact⟨v,h,N.mv E⟩
 .rcases BH e with⟨rfl,e',_⟩|⟨n,e'⟩
  .cases e';exact⟨p,vs,hs,Al,r.mv E,I,D,J⟩
  .obtain ⟨q,C,h1,h2,l,u⟩:=s.own j c e';have hq:q≠p:=λz=>by subst z;exact n (s.dist j i c xs q e' f h1 hs)
   exact⟨q,C,h1,by rw[Ai hq];exact h2,l.mv E,u⟩
 .rcases BH h1 with⟨rfl,_,_⟩|⟨n,A⟩
  .rcases BH h2 with⟨rfl,_,_⟩|⟨O,F⟩
   .rfl
   .exact s.dist _ k xs C q f F l u
  .rcases BH h2 with⟨rfl,_,_⟩|⟨O,F⟩
   .exact s.dist j _ c xs q A f l u
   .exact s.dist j k c C q A F l u
 .obtain ⟨d,x,e,z⟩:=s.tp a t;exact⟨d,x,by rw[Ai (λw=>by subst w;exact D t)];exact e,z⟩
 .obtain ⟨o,e,z⟩:=s.bm a m;exact⟨o,by rw[Ai (λw=>by subst w;exact J m)];exact e,z⟩
 .refine ⟨λb o t e=> ?_,s.st.sub,s.st.new,λa t=> ?_⟩
  .rw [Ai (λw=>by subst w;rw[I] at e;cases e)];exact s.st.keep b o t e
  .obtain ⟨d,x,e,z⟩:=s.tp a t;exact⟨d,x,by rw[Ai (λw=>by subst w;exact D t)];exact e,z⟩
 .by_cases z:b=p
  .subst z;rw[Al];exact λe=>nomatch e
  .rw [Ai z];exact h
end
section
variable {X:Cx}{st:Stmt}{rest:kj Stmt}{e:fe}{pos:Pos}{a b:AS}{ta:AE}
def XI (ta:AE):AE:=λτ Q=>ta (frz τ) λx=>cN x=true/\Q x
def UZ (h:SE X e ta):SE X e (XI ta):=by obtain⟨t,p,s⟩:=h;refine⟨t,p,λB T c τ H Q j d h k=>s B T c (frz τ) H _ _ d.frz h λv x f g i r1 h1=> ?_⟩;exact k v x f g i (r1.free h1.1) h1.2
def RX (c:AT):AT:=λτ Q=>c (frz τ) Q
def Yq {c:AT}(h:Us X e c):Us X e (RX c):=by obtain⟨t,p,s⟩:=h;exact⟨t,p,λB T d τ H Q l f h k=>s B T d (frz τ) H _ _ f.frz h λb g i j h1=>k b g i j h1⟩
def Av:AS:=λD τ=>D.nx τ
def AY (a b:AS):AS:=λD τ=>a {D with nx:=b D} τ
def Ag:jI X [] Av:=⟨_,OG,λB T c τ H D g d h f=>f.nx T H c τ .refl d h⟩
def AL (h1:SS X st a)(h2:jI X rest b):jI X (st::rest) (AY a b):=by obtain⟨t,p,s⟩:=h1;obtain⟨t',i,j⟩:=h2;exact⟨_,CA p i,λB T k τ H D l m h c=>s B T k τ H _ _ m h ⟨λn o d f q g h'=>j B n d f o D l g h' (c.shift q),c.bk,c.ct,c.rt⟩⟩
def AN (h1:SS X st a):jI X [st] a:=let ⟨_,p,s⟩:=h1;⟨_,Fm p,s⟩
def Ak (ta:AE):AS:=λD τ=>ta (frz τ) D.rt
def AU (h:SE X e ta):SS X (.Return (some e) pos) (Ak ta):=by obtain⟨t,p,s⟩:=h;refine⟨_,Py p,λB T f τ H D k c h g=>s B T f (frz τ) H _ _ c.frz h λv x i j d r1 h1=> ?_⟩;exact g.rt v x i j (c.st.trans d) (r1.mv (.anti (c.frz.stp d).va λa m=> .inl m)) h1
def BE (c:AT)(a b:AS):AS:=λD τ=>c τ λk=>if k=true then a D τ else b D τ
def Au {c:fe}{x y:kj Stmt}{l:AT}(hc:Us X c l)(ha:jI X x a)(hb:jI X y b):SS X (.If c x y pos) (BE l a b):=by
 obtain⟨t,p,s⟩:=hc;obtain⟨t1,p1,f⟩:=ha;obtain⟨t2,p2,g⟩:=hb;refine⟨_,Z9 p p1 p2,λB T i τ H D m j h n=>s B T i τ H _ _ j h λk o r d h1=> ?_⟩;cases k with
 | true=>rw[AAJ rfl] at h1 ⊢;exact f B o i τ r D m (j.stp d) h1 (n.shift d.prog)
 | false=>rw[AAH ABO] at h1 ⊢;exact g B o i τ r D m (j.stp d) h1 (n.shift d.prog)
abbrev AG:=PV->BD->(BD->Prop)->Prop
abbrev W1:=kj PV->BD->(BD->Prop)->Prop
def Kx (K:AAG)(g:TG)(ag:AG):Prop:=∀(B:DB) (T:kd->Prop) (f:L2.St) (τ:BD) (H:Hp) (v:V) (x:PV) (Q:L2.St->Hp->Prop) (h:BD->Prop),SR K B T H f τ->CZ K T (mt B f τ) H v x->ag x τ h->
 (∀c d,SR K B T H c d->(∀b,Ct c d b->Ct f τ b)->h d->Q c H)->g v f H Q
def RW (K:AAG)(g:XG)(ag:W1):Prop:=∀(B:DB) (T:kd->Prop) (f:L2.St) (τ:BD) (H:Hp) (vs:kj V) (xs:kj PV) (Q:L2.St->Hp->Prop) (h:BD->Prop),SR K B T H f τ->A6 K T (mt B f τ) H vs xs->ag xs τ h->
 (∀c d,SR K B T H c d->(∀b,Ct c d b->Ct f τ b)->h d->Q c H)->g vs f H Q
def SG (X:Cx)(c:fe)(ag:AG):Prop:=∃g,PG X c g/\Kx X.K g ag
def vY (X:Cx)(c:kj fe)(ag:W1):Prop:=∃g,rN X c g/\RW X.K g ag
def An (i:Nat):AG:=λx τ Q=>Q (τ.set i (some (.val x)))
def Uf {K:AAG}{i:Nat}:Kx K (DU i) (An i):=λB T d τ H v x Q f c r h k=>k _ _ (c.set r) (λb o=>Dk o) h
def LZ {i:Nat}{x:Str}(hN:X.N.Nodup)(hi:X.N[i]? =some x)(hx:Loc X.env.scope x)(c:X.fn x=true\/X.env.scope.names.lookup x=some .local:=by first | exact .inl rfl|exact .inr rfl|assumption):SG X (.Name x pos) (An i):=
 ⟨_,LM hN hi hx c,Uf⟩
def BY:W1:=λxs τ Q=>match xs with | [] =>Q τ|_=>False
def AZ (g:AG)(r:W1):W1:=λxs τ Q=>match xs with | x::t=>g x τ λc=>r t c Q | [] =>False
def Wo {K:AAG}:RW K Vj BY:=λB T c τ H vs xs Q f d r h k=>by
 cases r with
 | nil=>exact⟨rfl,k c τ d (λ_ o=>o) h⟩
 | cons _ _=>exact h.elim
def R7 {K:AAG}{g:TG}{p:XG}{ag:AG}{c:W1}(h1:Kx K g ag)(h2:RW K p c):RW K (Fh g p) (AZ ag c):=λB T v τ H vs xs Q w s r h k=>by
 cases r with
 | nil=>exact h.elim
 | cons r t=> refine⟨_,_,rfl,h1 B T v τ H _ _ _ _ s r h λd f i u x=> ?_⟩;exact h2 B T d f H _ _ Q w i (t.mv (.anti s.va λa m=>m.elim .inl λz=> .inr (u a z))) x λj l n y A=>k j l n (λb o=>u b (y b o)) A
def BN:vY X [] BY:=⟨_,UH,Wo⟩
def AW {es:kj fe}{ag:AG}{c:W1}(h1:SG X e ag)(h2:vY X es c)(hs:(assignEach (e::es) X.env).map (·.2)=assign e X.env::(assignEach es X.env).map (·.2):=by rfl):vY X (e::es) (AZ ag c):=
 let ⟨_,p,s⟩:=h1;let ⟨_,d,f⟩:=h2;⟨_,Hy p d hs,R7 s f⟩
def Am (ta:AE)(g:AG):AS:=λD τ=>ta τ λx=>g x τ D.nx
def Ud {K:AAG}{t:TE}{g:TG}{ag:AG}(s:Gf K t ta)(n:Kx K g ag):dn K (Wt t g) (Am ta ag):=λB T i τ H D u j h o=>s B T i τ H _ _ j h λv x k l m r1 h1=>
 n B k i τ l v x _ _ (j.stp m) r1 h1 λc d f p r=>o.nx k l c d (m.prog.trans (.less p)) f r
def Er {c:fe}{ag:AG}(he:SE X e ta)(d:SG X c ag)(hs:swapsWithSole [c] e pos.line X.env=pure false:=by rfl)(hw:swappedStores [c] e X.env=pure none:=by rfl)(h1:(assignEach [c] X.env).map (·.2)= [assign c X.env] :=by rfl):SS X (.Assign [c] e pos) (Am ta ag):=
 let ⟨_,p,s⟩:=he;let ⟨_,f,g⟩:=d;⟨_,UI p f hs hw h1,Ud s g⟩
def Ul {i:Nat}{x:Str}{pos':Pos}(hN:X.N.Nodup)(hi:X.N[i]? =some x)(hx:Loc X.env.scope x)(he:SE X e ta)(hs:swapsWith e (some (.Name x pos')) pos.line X.env=pure false:=by rfl)(c:X.fn x=true\/X.env.scope.names.lookup x=some .local:=by first | exact .inl rfl|exact .inr rfl|assumption):SS X (.Assign [.Name x pos'] e pos) (Am ta (An i)):=let ⟨_,p,s⟩:=he;⟨_,F3 hN hi hx p hs c,Ud s Uf⟩
def GN (r:AA)(i:Nat):AS:=λD τ=>r τ λxs=>D.nx (τ.set i (some (.own xs)))
def aM {K:AAG}{t:TE}{r:AA}{i:Nat}(s:dk K t r):dn K (Wt t (DU i)) (GN r i):=λB T g τ H D v c h j=>s B T g τ H _ _ c h λp vs xs k l d f hn hp m r1 h1=>by
 have n:¬Ct g τ p:=λo=>by obtain⟨_,e,_⟩:=c.ownH o;rw[hn] at e;cases e
 have u:¬B.M p:=λo=>by obtain⟨_,e,_⟩:=c.bm p o;rw[hn] at e;cases e
 refine j.nx k l _ _ ⟨λb o t _ e=>d.keep b o t e,d.sub,d.new,λb o=> ?_,λb h=>d.some h⟩ (f.take hp m n u (c.st.none hn) r1) h1;rcases NN o with z|z
 .exact .inl z
 .subst z;exact .inr hn
def Dg {i:Nat}{x:Str}{pos':Pos}{r:AA}(hN:X.N.Nodup)(hi:X.N[i]? =some x)(hx:Loc X.env.scope x)(he:SF X e r)(hs:swapsWith e (some (.Name x pos')) pos.line X.env=pure false:=by rfl)(c:X.fn x=true\/X.env.scope.names.lookup x=some .local:=by first | exact .inl rfl|exact .inr rfl|assumption):SS X (.Assign [.Name x pos'] e pos) (GN r i):=let ⟨_,p,s⟩:=he;⟨_,F3 hN hi hx p hs c,aM s⟩
def TK (i j:Nat)(r:AA):AS:=λD τ=>r τ λxs=>match xs with | [x,y] =>D.nx ((τ.set i (some (.val x))).set j (some (.val y)))|_=>False
def QQ {i j:Nat}{x y:Str}{c d:fe}{r:AA}{g k l:Pos}{kt k2 pt2}(hc:X.calm=true)(hN:X.N.Nodup)(hi:X.N[i]? =some x)(hj:X.N[j]? =some y)(v:i≠j)(hx:X.env.scope.names.lookup x=some .local)(hy:X.env.scope.names.lookup y=some .local)(ha:SA X [c,d] r)(hw:swappedStores [.Tuple [.Name x g, .Name y k] kt l] (.Tuple [c,d] k2 pt2) X.env=pure (some [x,y]))(hs:swapsWithSole [.Tuple [.Name x g, .Name y k] kt l] (.Tuple [c,d] k2 pt2) pos.line X.env=pure false:=by rfl):SS X (.Assign [.Tuple [.Name x g, .Name y k] kt l] (.Tuple [c,d] k2 pt2) pos) (TK i j r):=by
 obtain⟨t,p,s⟩:=ha;refine⟨_,qM hc hN hi hj v hx hy p hw hs,λB T w τ H D I n h A=>s B T w τ H _ _ n h λvs xs C E u r1 h1=> ?_⟩;cases r1 with
 | nil=>exact h1.elim
 | cons ra ta=>
   cases ta with
   | nil=>exact h1.elim
   | cons F G=>
     cases G with
     | cons _ _=>exact h1.elim
     | nil=> have f:=n.stp u;refine⟨_,_,rfl,A.nx C E _ _ ?_ ((f.set (i:=i) ra).set (i:=j) (F.mv (.anti f.va λa m=>m.elim .inl λz=> .inr (Dk z)))) h1⟩;exact u.prog.trans (.less λb o=>Dk (Dk o))
def XH (i:Nat)(f:KF)(ta:AE):AS:=λD τ=>match Tv τ i with | some (.val x)=>ta τ λy=>f x y λz=>D.nx (τ.set i (some (.val z)))|_=>False
def ia {i:Nat}{x:Str}{op:Operator}{g:sW}{f:KF}{pos':Pos}(hN:X.N.Nodup)(hi:X.N[i]? =some x)(hx:Loc X.env.scope x)(he:SE X e ta)(j:rO X op g/\CM X.K g f)(l:X.fn x=true\/X.env.scope.names.lookup x=some .local:=by first | exact .inl rfl|exact .inr rfl|assumption):SS X (.AugAssign (.Name x pos') op e pos) (XH i f ta):=by
 obtain⟨t,p,s⟩:=he;refine⟨_,qL hN hi hx p j.1 l,λB T m τ H D G c h n=> ?_⟩;unfold XH at h;split at h <;> first | exact h.elim|skip
 rename_i y r;obtain⟨v,ev,rv⟩:=c.val i y (Md r);refine⟨v,ev,s B T m τ H _ _ c h λw z A C d r1 h1=> ?_⟩;refine j.2 A _ C v w y z _ _ (c.stp d).va (rv.stp d c.va) r1 h1 λu q E F k r2 h2=> ?_;exact n.nx E F _ _ ((d.trans k).prog.trans (.less λb o=>Dk o)) (((c.stp d).stp k).set r2) h2
def qf:rO X .Add (xc λi j=>i+j)/\CM X.K (xc λi j=>i+j) so:=⟨pE,λT M H u v x y Q d va c rv h k=>by
 obtain⟨i,j,rfl,rfl,q⟩:=OD h;exact⟨i,j,c.toI,rv.toI,k _ _ T H (.refl va.tp) (.int _) q⟩⟩
def MG (i:Nat)(τ:BD)(R:kj PV->Prop):Prop:=match Tv τ i with | some (.own xs)=>R xs|_=>False
def TJ {i:Nat}{τ:BD}{R:kj PV->Prop}(h:MG i τ R):∃xs,τ[i]? =some (some (.own xs))/\R xs:=by
 unfold MG at h;cases e:Tv τ i with
 | none=>rw[e] at h;exact h.elim
 | some z=>
   rw[e] at h;cases z with
   | val x=>exact h.elim
   | own xs=>exact⟨xs,Md e,h⟩
abbrev mX:=kj PV->kj PV->(kj PV->Prop)->Prop
def dm (K:AAG)(r:V->kj V->Hp->VK->Prop)(f:mX):Prop:=∀(T M:kd->Prop) (H:Hp) (l:kd) (ws vs:kj V) (xs ys:kj PV) (Q:VK) (g:kj PV->Prop),H l=some (.lst ws)->A6 K T M H ws xs->A6 K T M H vs ys->f xs ys g->
 (∀c d,A6 K T M H c d->g d->Q .non (upd H l (.lst c)))->r (.ref l) vs H Q
def Dv (i:Nat)(f:mX)(r:AA):AS:=λD τ=>MG i τ λxs=>r τ λys=>f xs ys λc=>D.nx (τ.set i (some (.own c)))
def iU {K:AAG}{i:Nat}{l:V->kj V->Hp->VK->Prop}{f:mX}{t:TA}{r:AA}(v:dm K l f)(s:oG K t r):dn K (nV (tBM K "list" l (GX i) t)) (Dv i f r):=λB T m τ H D E d h w=>by obtain⟨xs,e,h⟩:=TJ h;obtain⟨p,vs,n,hp,r1,F,o,G⟩:=d.own i xs e;refine⟨.ref p,n, .inl ⟨rfl,vs, .inl (.inl hp)⟩,s B T m τ H _ _ d h λx ys u y c r2 h2=> ?_⟩;have g:=d.stp c;refine v u (mt B m τ) y p vs x xs ys _ _ (c.keep _ _ o hp) (r1.stp c d.va) r2 h2 λz I A C=> ?_;obtain⟨j,k⟩:=g.write (i:=i) (xs:=xs) e n (c.keep _ _ o hp) A;exact w.nx u _ _ _ (c.prog.trans k) j C
def Cj {i:Nat}{x name:Str}{es:kj fe}{id:String}{d:V->kj V->Hp->VK->Prop}{f:mX}{r:AA}{p apos c:Pos}(slot:Slot "list" name id)(h:typeOf (.builtin id)=pure (.type "method_descriptor"))(g:oB X id d/\dm X.K d f)(ha:SA X (e::es) r)(hN:X.N[i]? =some x:=by rfl)(hv:me X.env.scope x:=by first | exact Or.inl rfl|exact Or.inr (Or.inl rfl)|exact Or.inr (Or.inr rfl))(hd:(x==("__debug__" :Str))=false:=by decide)(j:(x==("__classdict__" :Str))=false:=by decide)(k:attributeBase (.Name x p) name X.env (eval (.Name x p) X.env)=eval (.Name x p) X.env:=by rfl)(l:((backTo c (starEach (e::es) X.env)).all (λx=> !x.1)&&(backToKw c (keywordEach [] X.env)).all (λx=>x.1.isSome) && decide ((e::es).length+([] :kj Keyword).length+(if ([] :kj Keyword).isEmpty then 0 else 1)<30))=true:=by rfl)(m:(apos.endLine==c.line)=true:=by rfl)(hs:starEach (e::es) X.env=(false,eval e X.env)::starEach es X.env:=by rfl)(n:(backTo c (starEach es X.env)).any (·.1)=false:=by rfl)(o:swapsWith (.Call (.Attribute (.Name x p) name apos) (e::es) [] c) none pos.line X.env=pure false:=by rfl):SS X (.Expr (.Call (.Attribute (.Name x p) name apos) (e::es) [] c) pos) (Dv i f r):=by obtain⟨t,u,s⟩:=ha;exact⟨_,lh (uc PySem.F.plainAttrs_list slot h g.1 (Pw hN hv hd j) u k l m hs n) o,iU g.2 s⟩
def Ip:mX:=λxs ys Q=>match ys with | [y] =>xs.length<sizeLine/\Q (xs ++ [y])|_=>False
def B2:oB X "list.append" UJ/\dm X.K UJ Ip:=by
 refine⟨IX,λT M H l ws vs xs ys Q d hl r1 r2 h k=> ?_⟩;unfold Ip at h;split at h <;> first | exact h.elim|skip
 cases r2 with
 | cons c t=> cases t;exact⟨l,ws,_,rfl,rfl,hl,by rw[r1.length];exact h.1,k _ _ (r1.append (.cons c .nil)) h.2⟩
def gJ:mX:=λxs ys Q=>match ys with | [.int i,y] =>(0<=i/\i<=(xs.length:Int)/\xs.length<sizeLine)/\Q (xs.take i.toNat++y::xs.drop i.toNat)|_=>False
def R8:oB X "list.insert" UK/\dm X.K UK gJ:=by
 refine⟨cH,λT M H l ws vs xs ys Q i hl r1 r2 h k=> ?_⟩;unfold gJ at h;split at h <;> first | exact h.elim|skip
 cases r2 with
 | cons c t=>
   cases t with
   | cons d t=> cases t;cases c;obtain⟨⟨h1,h2,f⟩,g⟩:=h;exact⟨l,ws,_,_,rfl,rfl,hl,h1,by rw[r1.length];exact h2,by rw[r1.length];exact f,k _ _ ((r1.take _).append (.cons d (r1.drop _))) g⟩
def frz1 (i:Nat)(τ:BD):BD:=match Tv τ i with | some (.own xs)=>τ.set i (some (.val (.lst xs)))|_=>τ
def SR.frz1 {K:AAG}{B:DB}{T:kd->Prop}{H:Hp}{c:L2.St}{τ:BD}(s:SR K B T H c τ)(i:Nat):SR K B T H c (frz1 i τ)/\∀b,Ct c (PL.frz1 i τ) b->Ct c τ b:=by
 unfold PL.frz1;split
 .rename_i xs e;have e:=Md e;obtain⟨p,vs,d,hp,r1,D,u,w⟩:=s.own i xs e;have E:c.set i (some (.ref p))=c:=by
   apply List.ext_getElem?;intro k;by_cases hk:i=k
   .subst hk;rw[AD4,d];simp[(ABc.mp d).1]
   .rw [ABj hk]
  have g:∀b,Ct c (τ.set i (some (.val (.lst xs)))) b->Ct c τ b/\b≠p:=λb h=>by
   obtain⟨j,ys,h1,h2⟩:=h;rcases BH h1 with⟨_,e',_⟩|⟨n,f⟩
   .cases e'
   .exact ⟨⟨j,ys,f,h2⟩,λz=>by subst z;exact n (s.dist j i ys xs b f e h2 d)⟩
  have l:Mv K T (mt B c τ) H T (mt B c (τ.set i (some (.val (.lst xs))))) H:= .anti s.va λa m=>m.elim .inl λz=> .inr (g a z).1;refine⟨⟨by simp[s.len],λj y h=> ?_,λj ys h=> ?_,λj k ys x q h1 h2 r t=> ?_,s.tp,s.bm,s.bt,s.st⟩,λb h=>(g b h).1⟩
  .rcases BH h with⟨rfl,e',_⟩|⟨n,h'⟩
   .cases e';exact⟨.ref p,d, .lst hp u (λz=>z.elim w λo=>(g p o).2 rfl) (r1.mv l)⟩
   .obtain ⟨v,hv,rv⟩:=s.val j y h';exact⟨v,hv,rv.mv l⟩
  .rcases BH h with⟨_,e',_⟩|⟨n,h'⟩
   .cases e'
   .obtain ⟨q,A,h1,h2,r,t⟩:=s.own j ys h';exact⟨q,A,h1,h2,r.mv l,t⟩
  .rcases BH h1 with⟨_,e',_⟩|⟨n,f⟩
   .cases e'
   .rcases BH h2 with⟨_,e',_⟩|⟨F,C⟩
    .cases e'
    .exact s.dist j k ys x q f C r t
 .exact ⟨s,λ_ o=>o⟩
def dy (i:Nat)(a:AS):AS:=λD τ=>a D (frz1 i τ)
def ic (i:Nat)(h:SS X st a):SS X st (dy i a):=by obtain⟨t,p,s⟩:=h;refine⟨t,p,λB T d τ H D f g h j=> ?_⟩;obtain⟨c,k⟩:=g.frz1 i;exact s B T d (frz1 i τ) H D f c h (j.shift (.less k))
def lN (o:kc Nat)(R:Nat->Prop):Prop:=match o with | some j=>R j|none=>False
def pq {o:kc Nat}{R:Nat->Prop}(h:lN o R):∃z,o=some z/\R z:=by cases o <;> first | exact⟨_,rfl,h⟩|exact h.elim
def jl (i:Nat)(c ta:AE):AS:=λD τ=>ta τ λy=>MG i τ λxs=>c τ λk=>jM k λk=>lN (V3 xs.length k) λj=>D.nx (τ.set i (some (.own (xs.set j y))))
def ie {i:Nat}{x:Str}{ix:fe}{z:AE}{p c:Pos}(hi:SE X ix z)(he:SE X e ta)(hN:X.N[i]? =some x:=by rfl)(hv:me X.env.scope x:=by first | exact Or.inl rfl|exact Or.inr (Or.inl rfl)|exact Or.inr (Or.inr rfl))(hd:(x==("__debug__" :Str))=false:=by decide)(I:(x==("__classdict__" :Str))=false:=by decide)(ha:∀v,assign (.Subscript (.Name x p) ix c) X.env v=(do
   let l <-holding [v] (eval (.Name x p) X.env);let m <-holding [v,l] (eval ix X.env)
   standAt c
   holding [v,l,m] (setItem l m v)
   release [v,l,m] []):=by intro _;rfl)(hs:swapsWithSole [.Subscript (.Name x p) ix c] e pos.line X.env=pure false:=by rfl)(hw:swappedStores [.Subscript (.Name x p) ix c] e X.env=pure none:=by rfl)(h1:(assignEach [.Subscript (.Name x p) ix c] X.env).map (·.2)= [assign (.Subscript (.Name x p) ix c) X.env] :=by rfl):SS X (.Assign [.Subscript (.Name x p) ix c] e pos) (jl i z ta):=by obtain⟨t,J,s⟩:=hi;obtain⟨t',n,K⟩:=he;refine⟨_,UI n (YS (Pw hN hv hd I) J QI ha) hs hw h1,λB T A τ H D S C h L=>K B T A τ H _ _ C h λv y M O E r1 h1=> ?_⟩;have d:=C.stp E;obtain⟨xs,e,h1⟩:=TJ h1;obtain⟨q,vs,F,hp,r2,U,G,W⟩:=d.own i xs e;refine⟨.ref q,F,s B M A τ O _ _ d h1 λw k P Y f Q g=> ?_⟩;obtain⟨k,rfl,g⟩:=UF g;obtain⟨j,R,g⟩:=pq g;cases Q.toI;have o:=d.stp f;obtain⟨r,u⟩:=o.write (i:=i) (xs:=xs) e F (f.keep _ _ G hp) (((r2.stp f d.va)).set (r1.stp f d.va) j);exact⟨q,vs,k,j,rfl,rfl,f.keep _ _ G hp,by rw[r2.length];exact R,L.nx P _ _ _ ((E.trans f).prog.trans u) r g⟩
end
section
variable {X:Cx}{st:Stmt}{e:fe}{pos:Pos}{a b:AS}{ta:AE}
def Ww (c:AT)(b:AS)(D:G6):Nat->BD->Prop
 | 0,_=>False
 | n+1,τ=>c (frz τ) λk=>if k=true then b {D with nx:=Ww c b D n,ct:=Ww c b D n,bk:=D.nx} τ else D.nx τ
def MH (c:AT)(b:AS):AS:=λD τ=>∃n,Ww c b D n τ
def Le {c:fe}{body:kj Stmt}{y:AT}(hp:PassesOwn (model X.prog X.w) X.A X.env X.xe)(hc:Us X c y)(hb:jI X body b):SS X (.While c body [] pos) (MH y b):=by
 obtain⟨t,p,s⟩:=hc;obtain⟨t',M,N⟩:=hb;refine⟨_,hG hp p M,λB T F τ H D G O h I=> ?_⟩;obtain⟨n,h⟩:=h;refine⟨λm g z=>∃C d,SR X.K B C z g d/\Fu T H F τ C z g d/\Ww y b G m d,⟨n,T,τ,O, .refl,h⟩, ?_⟩;rintro m g z ⟨C,d,r,j,h1⟩;cases m with
 | zero=>exact h1.elim
 | succ m=>
   refine s B C g (frz d) z _ _ r.frz h1 λk J L E h2=> ?_;have u:=r.stp E;have v:=(I.shift j).shift E.prog;cases k with
   | false=>rw[AAH ABO] at h2 ⊢;exact v.nx J L g d .refl u h2
   | true=> rw[AAJ rfl] at h2 ⊢;refine⟨λi x=>∃o f,SR X.K B o x i f/\Fu T H F τ o x i f/\Ww y b G m f,λi x q=>⟨m,Nat.lt_succ_self m,q⟩, ?_⟩;exact N B J g d L _ _ u h2 ⟨λo x i f q l h'=>⟨o,f,l,(j.trans E.prog).trans q,h'⟩,v.nx,λo x i f q l h'=>⟨o,f,l,(j.trans E.prog).trans q,h'⟩,I.rt⟩
abbrev AI:=BD->(kj PV->Prop)->Prop
structure VV (K:AAG) (M:Addr->Prop) (J:It) (xs:List PV) (T:Addr->Prop) (H:Hp):Prop where
 go:∀i y,xs[i]? =some y->J.go i H
 yld:∀i y v H',xs[i]? =some y->J.yld i H v H'->Dj T H T H'/\CZ K T M H' v y
 stop:∀i,xs.length<=i->J.stop i H
def ZB (T:kd->Prop)(H c:Hp):Prop:=∀b o,¬T b->H b=some o->c b=some o
def av (K:AAG)(s:da)(j:TI)(k:AI):Prop:=∀(B:DB) (T:kd->Prop) (f:L2.St) (τ:BD) (H:Hp) (R:It->Hp->Prop) (i:kj PV->Prop),SR K B T H f τ->k τ i->
 (∀J xs g c,Dj T H g c->(∀M2 h d,Mv K g (mt B f τ) c h M2 d->HK h M2 d->(s=true\/ZB g c d)->VV K M2 J xs h d)->i xs->R J c)->j f H R
def SI (X:Cx)(d iter:fe)(s:da)(f:AI):Prop:=∃c,PI X d iter c/\av X.K s c f
def t7 (K:AAG)(d:TE):TI:=λf H R=>d f H λx c=>∃a,x= .ref a/\(((∃xs,FY K c a xs)/\R (wY K a) c)\/((∃xs,Ky K c a xs)/\R (wZ K a) c))
def YT {j l:fe}{g:TE}(hl:PE X l g):PI X j l (t7 X.K g):=by
 intro Sb s k H R I h;refine Be (hl Sb s k H _ I h) λv c ⟨x,i,d,r1,m⟩=> ?_;obtain⟨a,e,q⟩:=m;subst e;cases r1;rcases q with⟨⟨xs,hq⟩,q⟩|⟨⟨xs,hq⟩,q⟩
 .obtain ⟨f,rv,p,hz⟩:=d.list hq;refine AFH p.isList ?_;refine⟨c.heap.objs.size, [c.heap.objs.size],_,_,i,rfl,d.kept (t':=c.toks) λb o e=>ABF _ e,c9 a _,⟨_,ABM _ rfl,rfl,rfl⟩,λb hb=> ?_,q⟩;have e:b=c.heap.objs.size:=by simpa using hb
  subst e;exact d.fpOk (ABH _) (d.hok.fresh (ABH _))
 .obtain ⟨f,rv,p,hz⟩:=d.tuple hq;refine wpAny_pyIter_tuple (show c.heap.IsTuple a f.toArray from p) ?_;refine⟨c.heap.objs.size, [c.heap.objs.size],_,_,i,rfl,d.kept (t':=c.toks) λb o e=>ABF _ e,Y1 a _,⟨_,ABM _ rfl,rfl,rfl⟩,λb hb=> ?_,q⟩;have e:b=c.heap.objs.size:=by simpa using hb
  subst e;exact d.fpOk (ABH _) (d.hok.fresh (ABH _))
def HM (ta:AE):AI:=λτ Q=>ta τ λx=>Uu x Q
def fo {K:AAG}{T M:kd->Prop}{H:Hp}{a:kd}{xs:kj PV}(va:HK T M H)(r:CZ K T M H (.ref a) (.tup xs)):VV K M (wZ K a) xs T H:=by
 obtain⟨f,vs,e,hq,rs⟩:=DM r;cases e;refine⟨λi y h=> ?_,λi y v g h c=> ?_,λi h=>⟨vs,hq,by rw[rs.length];exact h⟩⟩
 .obtain ⟨v,hv,_⟩:=rs.get h;exact⟨vs,v,hq,hv⟩
 .obtain ⟨rfl,c⟩:=c;obtain⟨z,hz,d⟩:=rs.get' (c vs hq);rw[h] at hz;cases hz;exact⟨.refl va.tp,d⟩
def V1 {K:AAG}{T M:kd->Prop}{H:Hp}{a:kd}{vs:kj V}{xs:kj PV}(va:HK T M H)(hq:H a=some (.lst vs))(rs:A6 K T M H vs xs):VV K M (wY K a) xs T H:=by
 have c:FY K H a vs:= .inl (.inl hq);refine⟨λi y h=> ?_,λi y v g h d=> ?_,λi h=>⟨vs,c,by rw[rs.length];exact h⟩⟩
 .obtain ⟨v,hv,_⟩:=rs.get h;exact⟨vs,v,c,hv⟩
 .obtain ⟨rfl,d⟩:=d;obtain⟨z,hz,f⟩:=rs.get' (d vs c);rw[h] at hz;cases hz;exact⟨.refl va.tp,f⟩
def DG {j:fe}(h:SE X e ta):SI X j e true (HM ta):=by
 obtain⟨t,p,s⟩:=h;refine⟨_,YT p,λB T l τ H R w m h k=>s B T l τ H _ _ m h λv x f g i r1 h1=> ?_⟩;obtain⟨xs,hx,q⟩:=Js h1;rcases hx with rfl|rfl
 .obtain ⟨a,vs,rfl,hq,rs⟩:=DM r1;refine⟨a,rfl, .inr ⟨⟨vs,hq⟩,k _ xs f g i (λM2 n o c va _=>fo va (r1.mv c)) q⟩⟩
 .obtain ⟨a,vs,rfl,hq,y,z,rs⟩:=C6 r1;refine⟨a,rfl, .inl ⟨⟨vs, .inl (.inl hq)⟩,k _ xs f g i (λM2 n o c va _=> ?_) q⟩⟩;obtain⟨A,r,e',u,_,_,d⟩:=C6 (r1.mv c);cases e';exact V1 va u d
def wo (i:Nat):AI:=λτ Q=>MG i τ Q
def xt (i:Nat){d:fe}{x:Str}(hN:X.N[i]? =some x:=by rfl)(hv:me X.env.scope x:=by first | exact Or.inl rfl|exact Or.inr (Or.inl rfl)|exact Or.inr (Or.inr rfl))(hd:(x==("__debug__" :Str))=false:=by decide)(f:(x==("__classdict__" :Str))=false:=by decide):SI X d (.Name x pos) false (wo i):=by
 refine⟨_,YT (Pw hN hv hd f),λB T m τ H R n c h k=> ?_⟩;obtain⟨xs,e,q⟩:=TJ h;obtain⟨p,vs,g,hp,rs,o,j,r⟩:=c.own i xs e;refine⟨.ref p,g,p,rfl, .inl ⟨⟨vs, .inl (.inl hp)⟩,k _ xs T H (.refl c.tp) (λM2 s t l va z=> ?_) q⟩⟩;rcases z with z|z
 .cases z
 .exact V1 va (z p _ j hp) (rs.mv l)
def rng (lo:Int)(n:Nat):kj PV:=(List.range n).map λ(k:Nat)=> .int (lo+(k:Int))
def V2 {K:AAG}{T M:kd->Prop}{H:Hp}{lo:Int}{n:Nat}(va:HK T M H):VV K M (sP lo n) (rng lo n) T H:=by
 have hl:(rng lo n).length=n:=by simp[rng]
 refine⟨λi y h=> ?_,λi y v d h c=> ?_,λi h=>by rw[hl] at h;exact h⟩
 .have:=(ABc.mp h).1;rw[hl] at this;exact this
 .obtain ⟨rfl,rfl⟩:=c;have hi:=(ABc.mp h).1;rw[hl] at hi;have:y= .int (lo+(i:Int)):=by simp[rng,List.getElem?_range hi] at h;exact h.symm
  subst this;exact⟨.refl va.tp, .int _⟩
def XO (r:AA):AI:=λτ Q=>r τ λxs=>match xs with | [.int j] =>(-(2^62)<=j/\j<2^62)/\Q (rng 0 j.toNat)|_=>False
def jm (r:AA):AI:=λτ Q=>r τ λxs=>match xs with | [.int i, .int j] =>(-(2^62)<=i/\i<2^62/\ -(2^62)<=j/\j<2^62)/\Q (rng i (j-i).toNat)|_=>False
def Wm {d c:fe}{r:AA}{p:Pos}(f:Gl X "range")(g:X.mg "range" =none)(ha:SA X [c] r)(hs:starEach [c] X.env= [(false,eval c X.env)] :=by rfl):SI X d (.Call (.Name "range" p) [c] [] pos) true (XO r):=by
 obtain⟨t,i,s⟩:=ha;refine⟨_,cZ f g i hs,λB T j τ H R u l h k=>s B T j τ H _ _ l h λvs xs m n o r1 h1=> ?_⟩;split at h1 <;> first | exact h1.elim|skip
 cases r1 with
 | cons r t=> cases t;cases r;exact⟨_,rfl,h1.1.1,h1.1.2,k _ _ m n o (λM2 v w x va _=>V2 va) h1.2⟩
def nS {f c d:fe}{r:AA}{p:Pos}(g:Gl X "range")(i:X.mg "range" =none)(ha:SA X [c,d] r)(hs:starEach [c,d] X.env= [(false,eval c X.env),(false,eval d X.env)] :=by rfl)(j:starEach [d] X.env= [(false,eval d X.env)] :=by rfl):SI X f (.Call (.Name "range" p) [c,d] [] pos) true (jm r):=by
 obtain⟨t,l,s⟩:=ha;refine⟨_,cg g i l hs j,λB T m τ H R x n h k=>s B T m τ H _ _ n h λvs xs o u v r1 h1=> ?_⟩;split at h1 <;> first | exact h1.elim|skip
 cases r1 with
 | cons r t=>
   cases t with
   | cons w t=> cases t;cases r;cases w;exact⟨_,_,rfl,h1.1,k _ _ o u v (λM2 y z A va _=>V2 va) h1.2⟩
def GA (xs ys:kj PV):kj PV:=List.zipWith (λx y=> .tup [x,y]) xs ys
def t8 (K:AAG)(ta:TA):TI:=λf H R=>ta f H λvs d=>∃b c l m,vs= [.ref l, .ref m] /\(∃xs,Sq K b d l xs)/\(∃ys,Sq K c d m ys)/\R (wb K b c l m) d
def lY {e f:fe}{ta:TA}{p pos g:Pos}{es:kj fe}{w:Nat}(x:Gl X "zip")(y:X.mg "zip" =none)(ha:PA X [e,f] ta)(hs:starEach [e,f] X.env= [(false,eval e X.env),(false,eval f X.env)] :=by rfl)(t:starEach [f] X.env= [(false,eval f X.env)] :=by rfl):PI X (.Tuple es w g) (.Call (.Name "zip" p) [e,f] [] pos) (t8 X.K ta):=by
 intro Sb s z H R I h;refine Call_ (F1 I x y boot_zip (ADO (Be (ha pos Sb s z H _ I h) λA d ⟨vs,B,i,r1,C⟩=> ?_) (by rw[hs,t]) (by rw[t];rfl)));obtain⟨b,c,l,m,rfl,⟨xs,hl⟩,⟨ys,D⟩,q⟩:=C;cases r1 with
 | cons r j=>
 cases j with
 | cons E j=>
 cases j;cases r;cases E;obtain⟨A,J,u,_⟩:=i.sq hl;obtain⟨vs,rv,sv,_⟩:=i.sq D;have k:l<d.heap.objs.size:=by cases b <;> (obtain⟨o,e,_⟩:=u;exact ABD e)
 have n:m<d.heap.objs.size:=by cases c <;> (obtain⟨o,e,_⟩:=sv;exact ABD e)
 refine rE u sv λh1 Z F=>AEm Z.zip ?_;refine⟨_,_,_,_,B,rfl,i.kept (t':=d.toks) F,jC (zipApart_new k n),Z,λp hp=> ?_,q⟩;have v:d.heap.objs.size<=p:=by
  have G:p=d.heap.objs.size+4\/p=d.heap.objs.size+2\/p=d.heap.objs.size+3\/p=d.heap.objs.size\/p=d.heap.objs.size+1:=by simpa using hp
  rcases G with e|e|e|e|e <;> (rw[e];omega)
 exact i.fpOk v (i.hok.fresh v)
def sf:PV->da | .lst _=>true|_=>false
def aP {K:AAG}{T M:kd->Prop}{H:Hp}{v:V}{x:PV}{xs:kj PV}(hx:x= .tup xs\/x= .lst xs)(r:CZ K T M H v x):∃a vs,v= .ref a/\Sq K (sf x) H a vs/\A6 K T M H vs xs:=by
 rcases hx with rfl|rfl
 .obtain ⟨a,vs,rfl,hq,rs⟩:=DM r;exact⟨a,vs,rfl,hq,rs⟩
 .obtain ⟨a,vs,rfl,hq,_,_,rs⟩:=C6 r;exact⟨a,vs,rfl, .inl (.inl hq),rs⟩
def fq {K:AAG}{T M:kd->Prop}{H:Hp}{l m:kd}{x y:PV}{xs ys:kj PV}(va:HK T M H)(hx:x= .tup xs\/x= .lst xs)(hy:y= .tup ys\/y= .lst ys)(r:CZ K T M H (.ref l) x)(r2:CZ K T M H (.ref m) y):VV K M (wb K (sf x) (sf y) l m) (GA xs ys) T H:=by
 obtain⟨_,vs,e,hq,rs⟩:=aP hx r;cases e;obtain⟨_,ws,e,f,c⟩:=aP hy r2;cases e;have hz:∀i z,(GA xs ys)[i]? =some z->∃a b,xs[i]? =some a/\ys[i]? =some b/\z=PV.tup [a,b] :=λi z h=>by
  unfold GA at h;rw[AFb] at h;cases d:xs[i]? with
  | none=>rw[d] at h;cases h
  | some a=>
    cases g:ys[i]? with
    | none=>rw[d,g] at h;cases h
    | some b=>rw[d,g] at h;cases h;exact⟨a,b,by first | rfl|exact d,by first | rfl|exact g,rfl⟩
 refine⟨λi z h=> ?_,λi z v t h n=> ?_,λi h=>⟨vs,ws,hq,f, ?_⟩⟩
 .obtain ⟨a,b,ha,hb,_⟩:=hz i z h;obtain⟨u,hu,_⟩:=rs.get ha;obtain⟨w,hw,_⟩:=c.get hb;exact⟨vs,ws,u,w,hq,f,hu,hw⟩
 .obtain ⟨a,b,ha,hb,rfl⟩:=hz i z h;obtain⟨p,u,w,rfl,hn,rfl,hu,hw⟩:=n;obtain⟨A,j,ra⟩:=rs.get' (hu vs hq);obtain⟨B,k,s⟩:=c.get' (hw ws f);rw[ha] at j;cases j;rw[hb] at k;cases k;have st:=Dj.lay (o:= .tup [u,w]) va.tp hn;exact⟨st, .tup (.inl Al) (.cons (ra.stp st va) (.cons (s.stp st va) .nil))⟩
 .rw [rs.length,c.length];have:(GA xs ys).length=min xs.length ys.length:=by simp[GA]
  omega
def sZ (r:AA):AI:=λτ Q=>r τ λc=>match c with | [x,y] =>Uu x λxs=>Uu y λys=>Q (GA xs ys)|_=>False
def qh {e f:fe}{r:AA}{p pos c:Pos}{es:kj fe}{i:Nat}(j:Gl X "zip")(n:X.mg "zip" =none)(ha:SA X [e,f] r)(hs:starEach [e,f] X.env= [(false,eval e X.env),(false,eval f X.env)] :=by rfl)(o:starEach [f] X.env= [(false,eval f X.env)] :=by rfl):SI X (.Tuple es i c) (.Call (.Name "zip" p) [e,f] [] pos) true (sZ r):=by
 obtain⟨t,u,s⟩:=ha;refine⟨_,lY j n u hs o,λB T v τ H R I w h k=>s B T v τ H _ _ w h λvs xs z A C r1 h1=> ?_⟩;split at h1 <;> first | exact h1.elim|skip
 rename_i x y;obtain⟨xs,hx,h2⟩:=Js h1;obtain⟨ys,hy,D⟩:=Js h2;cases r1 with
 | cons ra t=>
   cases t with
   | cons d t=> cases t;obtain⟨l,E,rfl,hq,rs⟩:=aP hx ra;obtain⟨m,ws,rfl,F,G⟩:=aP hy d;exact⟨sf x,sf y,l,m,rfl,⟨E,hq⟩,⟨ws,F⟩,k _ _ z A C (λM2 J K g va _=>fq va hx hy (ra.mv g) (d.mv g)) D⟩
def Eh (g:AG)(b:AS)(D:G6):kj PV->BD->Prop
 | [],τ=>D.nx τ
 | x::r,τ=>g x τ λc=>b {D with nx:=Eh g b D r,ct:=Eh g b D r,bk:=D.nx} c
def Du (c:AI)(g:AG)(b:AS):AS:=λD τ=>c τ λxs=>Eh g b D xs τ
def Fu.mvv {K:AAG}{B:DB}{T g:kd->Prop}{H h:Hp}{f c:L2.St}{τ d:BD}(s:SR K B T H f τ)(p:Fu T H f τ g h c d):Mv K T (mt B f τ) H g (mt B c d) h:=
 ⟨s.va,λb o t m e=>p.keep b o t (λz=>m (.inr z)) e,p.sub,λb n t=>(p.new b t).elim id λz=>absurd z n,λb n m=>m.elim .inl λz=>(p.own b z).elim .inr λz=>absurd z n⟩
def Bc {G iter:fe}{body:kj Stmt}{R:AI}{g:AG}(hp:PassesOwn (model X.prog X.w) X.A X.env X.xe)(hc:X.calm=true)(hi:SI X G iter true R)(hg:SG X G g)(hb:jI X body b)(hs:∀x,foldedSetIterable iter X.env x=pure x:=by intro _;rfl):SS X (.For G iter body [] pos) (Du R g b):=by
 obtain⟨wi,pi,si⟩:=hi;obtain⟨tg',pg,sg⟩:=hg;obtain⟨tb,pb,sb⟩:=hb;refine⟨_,g9 hp hc pi pg pb hs,λB T C τ H D S U h I=>si B T C τ H _ _ U h λJ xs E L M walk h1=> ?_⟩;have s:=U.stp M;refine⟨λi m f t=>m=xs.length-i/\∃k d,SR X.K B k t f d/\Fu E L C τ k t f d/\Eh g b S (xs.drop i) d,⟨_,rfl,E,τ,s, .refl,h1⟩, ?_⟩;rintro i m f t ⟨rfl,k,d,n,o,h2⟩;have w:=walk _ k t (o.mvv s) n.va (.inl rfl);have N:=(I.shift M.prog).shift o;by_cases W:i<xs.length
 .have Y:xs[i]? =some xs[i] :=ABf W;rw[ADV W] at h2;refine .inr ⟨w.go i _ Y,λj u=>∃l c,SR X.K B l u j c/\Fu E L C τ l u j c/\Eh g b S (xs.drop (i+1)) c,λj u ⟨l,c,q1,q2,q3⟩=>⟨_,by omega,rfl,l,c,q1,q2,q3⟩,λv F yl=> ?_⟩;obtain⟨Z,r3⟩:=w.yld i _ v F Y yl;have O:=n.stp Z;refine sg B k f d F v _ _ _ O r3 h2 λy z P o4 h4=> ?_;have p:Fu E L C τ k F y z:=(o.trans Z.prog).trans (.less o4);have Q:=(I.shift M.prog).shift p;exact sb B k y z F _ _ P h4 ⟨λl u j c q r h'=>⟨l,c,r,p.trans q,h'⟩,Q.nx,λl u j c q r h'=>⟨l,c,r,p.trans q,h'⟩,I.rt⟩
 .rw [AD5 (by omega)] at h2;exact .inl ⟨w.stop i (by omega),N.nx k t f d .refl n h2⟩
def az:kc AV->kc AV|some (.val x)=>some (.val x)|_=>none
def K1 (own:Nat)(ix:kj Nat)(τ:BD):BD:=List.replicate own none++ix.map λi=>az (Tv τ i)
def DI (g:AG)(t:AT)(te:AE)(c:BD)(Q:kj PV->Prop):kj PV->kj PV->Prop
 | [],acc=>Q acc
 | x::r,acc=>g x c λd=>t d λok=>if ok=true then te d λy=>DI g t te c Q r (acc ++ [y]) else DI g t te c Q r acc
def C1 (c:AI)(own:Nat)(ix:kj Nat)(g:AG)(t:AT)(te:AE):AA:=λτ Q=>c τ λxs=>xs.length<sizeLine/\DI g t te (K1 own ix τ) Q xs []
def eF {own:Nat}{ix:kj Nat}{τ:BD}{j:Nat}{x:PV}(h:(K1 own ix τ)[j]? =some (some (.val x))):own<=j/\∃i,ix[j-own]? =some i/\τ[i]? =some (some (.val x)):=by
 unfold K1 at h;by_cases hj:j<own
 .rw [ABv (by simpa using hj),ADB,AAJ hj] at h;cases h
 .rw [ACR (by simpa using hj),AC4,ABw] at h;cases e:ix[j-own]? with
  | none=>rw[e] at h;cases h
  | some i=>
    rw[e] at h;refine⟨by omega,i,rfl,Md ?_⟩;cases c:Tv τ i with
    | none=>simp[c,az] at h
    | some z=>cases z <;> simp[c,az] at h;subst h;rfl
def GQ {own:Nat}{ix:kj Nat}{τ:BD}{j:Nat}{xs:kj PV}:(K1 own ix τ)[j]? ≠some (some (.own xs)):=λh=>by
 unfold K1 at h;by_cases hj:j<own
 .rw [ABv (by simpa using hj),ADB,AAJ hj] at h;cases h
 .rw [ACR (by simpa using hj),AC4,ABw] at h;cases e:ix[j-own]? with
  | none=>rw[e] at h;cases h
  | some i=>
    rw[e] at h;cases c:Tv τ i with
    | none=>simp[c,az] at h
    | some z=>cases z <;> simp[c,az] at h
def DB.blk (B:DB)(c:L2.St)(τ:BD)(D:kd):DB:=⟨B.T,B.H,λa=>mt B c τ a\/a=D⟩
def SR.blk {K:AAG}{B:DB}{T d:kd->Prop}{H f:Hp}{c:L2.St}{τ:BD}{D:kd}{ws:kj V}{own:Nat}{ix:kj Nat}(s:SR K B T H c τ)(q:Dj T H d f)(hn:H D=none)(hd:f D=some (.lst ws))(h:¬d D):SR K (B.blk c τ D) d f (B5 own ix c) (K1 own ix τ):=by
 have g:=s.stp q;have l:Mv K T (mt B c τ) H d (mt (B.blk c τ D) (B5 own ix c) (K1 own ix τ)) f:=⟨s.va,λb o t _ e=>q.keep b o t e,q.sub,λb n t=>(q.new b t).elim id λz=>absurd z n,λb n z=>by
  rcases z with(z|z)|⟨_,_,z,_⟩
  .exact z
  .subst z;exact absurd hn n
  .exact absurd z GQ⟩
 refine⟨by simp[B5,K1],λj x e=> ?_,λj xs e=>absurd e GQ,λj k xs ys p e=>absurd e GQ,g.tp,λa m=> ?_,λa m=> ?_,g.st⟩
 .obtain ⟨hj,i,hi,e'⟩:=eF e;obtain⟨v,hv,r⟩:=s.val i x e';refine⟨v, ?_,r.mv l⟩;unfold B5;rw[ACR (by simpa using hj),AC4,ABw,hi];simp[hv]
 .rcases m with m|m
  .exact g.va.mu a m
  .subst m;exact⟨_,hd,MD.lst⟩
 .rcases m with m|m
  .exact g.nt m
  .subst m;exact h
def mZ (X:Cx)(c:kj fe)(t:AT):Prop:=∃d,ZE X c d/\Nc X.K d t
def FH:AT:=λ_ Q=>Q true
def CB:mZ X [] FH:=⟨_,la,λB T d τ H Q f c h k=>k true T H (.refl c.tp) h⟩
def Uc {c:fe}{t:AT}(h:Us X c t):mZ X [c] t:=let ⟨_,p,s⟩:=h;⟨_,lb p,s⟩
def La {K:AAG}{s:da}{wi:TI}{ai:AI}{own:Nat}{ix:kj Nat}{g:TG}{ag:AG}{tt:TT}{C:AT}{te:TE}(hi:av K s wi ai)(hg:Kx K g ag)(ht:Nc K tt C)(he:Gf K te ta):dk K (aS wi own ix g tt te) (C1 ai own ix ag C ta):=by
 intro B T E τ H Q AQ sr h k;refine hi B T E τ H _ _ sr h λJ xs T1 H1 s1 walk h1 D F=> ?_;obtain⟨hl,h1⟩:=h1;have j:=sr.stp s1;have nt1:¬T1 D:=λz=>by obtain⟨o,e,_⟩:=(j.tp D z).mut;rw[F] at e;cases e
 have lay:=Dj.lay (o:= .lst []) j.tp F;refine⟨λi m G=>m=xs.length-i/\∃p vs c,Dj T1 H1 p G/\G D=some (.lst vs)/\¬p D/\A6 K p (λa=>mt B E τ a\/a=D) G vs c/\c.length<=i/\DI ag C ta (K1 own ix τ) AQ (xs.drop i) c,
  ⟨_,rfl,T1, [], [],lay,Al,nt1, .nil,ABH _,h1⟩, ?_⟩
 rintro i m G ⟨rfl,p,vs,c,r,Z,f,r2,kM,h2⟩;have I:=j.blk (own:=own) (ix:=ix) r F Z f;have L:HK p (λa=>mt B E τ a\/a=D) G:=⟨I.tp,I.bm⟩;have w:=walk (λa=>mt B E τ a\/a=D) p G ⟨j.va,λb o t _ e=>r.keep b o t e,r.sub,λb n t=>(r.new b t).elim id λz=>absurd z n,λb n z=>z.elim id λz=>by subst z;exact absurd F n⟩ L (.inr r.keep);by_cases Ea:i<xs.length
 .have Vw:xs[i]? =some xs[i] :=ABf Ea;rw[ADV Ea] at h2;refine .inr ⟨w.go i _ Vw,λv H3 yl=> ?_⟩;obtain⟨P,r3⟩:=w.yld i _ v H3 Vw yl;have l:=I.stp P;refine hg _ p _ _ H3 v _ _ _ l (r3.mv (.anti ⟨l.tp,l.bm⟩ λa z=>z.elim id λ⟨_,_,z,_⟩=>absurd z GQ)) h2 λR S U o4 h4=> ?_;refine ht _ p R S H3 _ _ U h4 λok T5 H5 N h5=> ?_;have u:=U.stp N;have oh:=P.keep D _ f Z;have kI:=N.keep D _ f oh;have M:¬T5 D:=λz=>(N.new D z).elim f λn=>by rw[n] at oh;cases oh
  have r5:=(r2.stp P L).stp N ⟨l.tp,l.bm⟩;cases ok with
  | false=> rw[AAH ABO] at h5 ⊢;exact⟨_,by omega,rfl,T5,vs,c,(r.trans P).trans N,kI,M,r5,by omega,h5⟩
  | true=>
    rw[AAJ rfl] at h5 ⊢;refine he _ T5 R S H5 _ _ u h5 λvy y O H6 W r6 h6=> ?_;have A:=u.stp W;have wz:=W.keep D _ M kI;have Y:¬O D:=λz=>(W.new D z).elim M λn=>by rw[n] at kI;cases kI
    have va6:HK O (λa=>mt B E τ a\/a=D) H6:=⟨A.tp,A.bm⟩;have r7:=r5.stp W ⟨u.tp,u.bm⟩;have s7:=((r.trans P).trans N).trans W;have tp8:∀a,O a->FG (upd H6 D (.lst (vs ++ [vy]))) a:=λa t=>by obtain⟨d,x,e,z⟩:=A.tp a t;exact⟨d,x,by rw[Ai (λw=>by subst w;exact Y t)];exact e,z⟩
    have mv8:Mv K O (λa=>mt B E τ a\/a=D) H6 O (λa=>mt B E τ a\/a=D) (upd H6 D (.lst (vs ++ [vy]))):=⟨va6,λb o _ m e=>by rw[Ai (λw=>m (.inr w))];exact e,λ_ t=>t,λ_ _ t=>t,λ_ _ z=>z⟩;refine⟨vs,wz,by rw[r2.length];omega,_,(by omega:xs.length-(i+1)<xs.length-i),rfl,O,vs ++ [vy],c ++ [y],⟨λb o t e=> ?_,s7.sub,s7.new,tp8⟩,Al,Y,(r7.append (.cons (r6.mv (.anti A.va λa z=> .inl z)) .nil)).mv mv8,by simp;omega,h6⟩;rw[Ai (Az e F)];exact s7.keep b o t e
 .rw [AD5 (by omega)] at h2;refine .inl ⟨w.stop i (by omega), ?_⟩;exact k D vs c p G (s1.trans r) (j.add r F Z MD.lst f) (s1.none F) Z f (r2.mv (.anti L λa z=>by
   rcases z with(z|z)|z
   .exact .inl (.inl z)
   .exact .inr z
   .exact .inl (.inr z))) h2
structure Y9 (X:Cx) (tg elt:Expr) (ifs:List Expr) (scope:Scope) (own:Nat) (ix:List Nat) (N:List Str) (g:AG) (t:AT) (te:AE):Prop where
 ex:∃g' t' te',L8 X tg elt ifs scope own ix N g' t' te'/\Kx X.K g' g/\Nc X.K t' t/\Gf X.K te' te
def DZ {f c iter:fe}{d:kj fe}{scope:Scope}{own:Nat}{ix:kj Nat}{N:kj Str}{g:AG}{t:AT}{s:da}{h:AI}(hc:X.calm=true)(hi:SI X f iter s h)(O:Y9 X f c d scope own ix N g t ta)(hs:∀x,foldedSetIterable iter X.env x=pure x:=by intro _;rfl):SF X (.ListComp c [⟨f,iter,d,0⟩] scope pos) (C1 h own ix g t ta):=by obtain⟨n,i,j⟩:=hi;obtain⟨g',t',k,O,l,st,m⟩:=O.ex;exact⟨_,lT hc i O hs,La j l st m⟩
def ib {i:Nat}{x:Str}{pos' c:Pos}{h d iter:fe}{f:kj fe}{scope:Scope}{own:Nat}{ix:kj Nat}{N:kj Str}{g:AG}{t:AT}{s:da}{j:AI}(hc:X.calm=true)(hN:X.N.Nodup)(k:X.N[i]? =some x)(hx:Loc X.env.scope x)(hi:SI X h iter s j)(O:Y9 X h d f scope own ix N g t ta)(l:swapsWith (.ListComp d [⟨h,iter,f,0⟩] scope pos) (some (.Name x pos')) c.line X.env=pure true:=by rfl)(hs:∀x,foldedSetIterable iter X.env x=pure x:=by intro _;rfl)(m:X.fn x=true\/X.env.scope.names.lookup x=some .local:=by first | exact .inl rfl|exact .inr rfl|assumption):SS X (.Assign [.Name x pos'] (.ListComp d [⟨h,iter,f,0⟩] scope pos) c) (GN (C1 j own ix g t ta) i):=by obtain⟨v,n,o⟩:=hi;obtain⟨g',t',p,O,r,st,u⟩:=O.ex;exact⟨_,Z8 hc hN k hx n O l hs m,aM (La o r st u)⟩
def Wq {i:Nat}{x:Str}{pos' c:Pos}{h d iter:fe}{f:kj fe}{scope:Scope}{own:Nat}{ix:kj Nat}{N:kj Str}{g:AG}{t:AT}{s:da}{j:AI}(hc:X.calm=true)(hN:X.N.Nodup)(k:X.N[i]? =some x)(hx:Loc X.env.scope x)(hi:SI X h iter s j)(O:Y9 X h d f scope own ix N g t ta)(l:swapsWith (.ListComp d [⟨h,iter,f,0⟩] scope pos) (some (.Name x pos')) c.line X.env=pure true:=by rfl)(hs:∀x,foldedSetIterable iter X.env x=pure x:=by intro _;rfl)(m:X.fn x=true\/X.env.scope.names.lookup x=some .local:=by first | exact .inl rfl|exact .inr rfl|assumption):SS X (.Assign [.Name x pos'] (.ListComp d [⟨h,iter,f,0⟩] scope pos) c) (Am (FX (C1 j own ix g t ta)) (An i)):=by obtain⟨v,n,o⟩:=hi;obtain⟨g',t',p,O,r,st,u⟩:=O.ex;exact⟨_,Z8 hc hN k hx n O l hs m,Ud (iS (La o r st u)) Uf⟩
end
def M9 (N:Nat)(xs:kj PV):BD:=xs.map (λx=>some (.val x))++List.replicate (N-xs.length) none
def Ap (N:Nat)(b:AS):AF:=λxs Q=>b {nx:=λ_=>Q .non,rt:=Q,bk:=λ_=>False,ct:=λ_=>False} (M9 N xs)
def ii {K:AAG}{T M:kd->Prop}{H:Hp}{N:kj Str}{vs:kj V}{xs:kj PV}(va:HK T M H)(b:∀a,M a->¬T a)(r:A6 K T M H vs xs):SR K ⟨T,H,M⟩ T H (start N vs) (M9 N.length xs):=by
 have c:∀(j:Nat) (ys:kj PV),(M9 N.length xs)[j]? ≠some (some (.own ys)):=λj ys h=>by
  unfold M9 at h;by_cases hj:j<xs.length
  .rw [ABv (by simpa using hj),ABw,ABf hj] at h;cases h
  .rw [ACR (by simpa using hj),ADB] at h;split at h <;> cases h
 refine⟨by simp[L2.start,M9,r.length],λj x h=> ?_,λj ys h=>absurd h (c j ys),λj k ys d p h=>absurd h (c j ys),va.tp,va.mu,b, .refl va.tp⟩;unfold M9 at h;by_cases hj:j<xs.length
 .rw [ABv (by simpa using hj),ABw,ABf hj] at h;cases h;obtain⟨v,hv,rv⟩:=r.get (ABf hj);refine⟨v, ?_,rv.mv (.anti va λa m=>m.elim id λ⟨_,_,z,_⟩=>absurd z (c _ _))⟩;unfold L2.start;rw[ABv (by rw[ABL,r.length];exact hj),ABw,hv];rfl
 .rw [ACR (by simpa using hj),ADB] at h;split at h <;> cases h
section
variable {P:Wf}{w:Tb}{K:AAG}{mg:Str->kc ki}{base:Sr}
def j4 {x qual:Str}{st:Stmt}{f:kd}{g:FuncData}{N ps:kj Str}{k n:Nat}{b:AS}(F:XD K x qual st f g)(S:Ev N ps (BS st))(hn:n=ps.length)(i:∀(a:ki) (A:Sl) (outer:kj Env) (s:kf) (H:Hp) (E:XK),Room k (A.deeper (envOfC qual (BS st) s.heap.objs.size f a))-> jI (Vf VL P w K mg base N qual (BS st) f a A outer s H E).nox (EZ st) b):FF P w K mg base VL (k+1) f g ps (Cf K n (Ap N.length b)):=by
 refine F.ok S (λvs H Q E h=> ?_) (λa A outer s H vs Q E j h=> ?_)
 .obtain ⟨T,M,xs,l,_,_,r,hl,_⟩:=h;rw[r.length,hl,hn]
 .obtain ⟨T,M,xs,l,va,c,r,hl,m,hQ⟩:=h;obtain⟨t,p,o⟩:=i a A outer s H E j;refine⟨t,p,o ⟨T,H,M⟩ T _ _ H _ _ (ii va c r) m ⟨λd e u y _ z q=> ?_,λ_ _ _ _ _ _ q=>q.elim,λ_ _ _ _ _ _ q=>q.elim,λv x d e B C q=>hQ v x d e B C q⟩⟩;exact hQ _ _ d e z.st .non q
end
section
variable {X:Cx}
def eV {prog:Wf}{w:Tb}{A:Sl}{E:ki->kf->Prop}{s:kf}{t b:kd}{ws:kj ki}{Q:ki->kf->Prop}(i:IsTup s.heap t #[])(hb:IsTup s.heap b ws.toArray)(j:Q (.ref b) s):wpAny (model prog w) A (binaryOp .Add (.ref t) (.ref b)) Q E s:=by
 obtain⟨⟨cls,k,data,l⟩,d,hc,n,hd⟩:=id i;obtain⟨⟨e,a,data2,c⟩,f,g,m,h⟩:=id hb;simp only at hc hd g h;subst hc hd g h;exact concat_meets ⟨_,d,rfl⟩ ⟨_,f,rfl⟩ AFB seq_tuple_add AFC AFD (AFE _ _)
  (tuple_addW0 t b #[] ws.toArray n m k a l c (by simp)) ⟨d,f,j⟩
def hU (K:AAG):R2:=λx y H Q=>∃a b ys,x= .ref a/\y= .ref b/\Ky K H a [] /\Ky K H b ys/\Q (.ref b) H
def gc:Em X (binaryOp .Add) (hU X.K):=by intro Sb s g H x y v u Q I d e h;obtain⟨a,b,ys,rfl,rfl,ha,hb,q⟩:=h;cases d;cases e;obtain⟨f,r1,p1,_⟩:=I.tuple ha;obtain⟨c,r2,p2,_⟩:=I.tuple hb;cases r1;exact eV p1 p2 ⟨.ref b,H,I,rfl,q⟩
def nN (K:AAG):R2:=λx y H Q=>((Ry (λi j=>V.int (i+j)) x y H Q\/uf x y H Q)\/nO K x y H Q)\/hU K x y H Q
def BL:KF:=λx y Q=>match x,y with
 | .int i, .int j=>Q (.int (i+j))
 | .lst xs, .lst ys=>xs.length+ys.length<=sizeLine/\Q (.lst (xs++ys))
 | .tup xs, .tup ys=>xs.length+ys.length<=sizeLine/\Q (.tup (xs++ys))
 | _,_=>False
def A2:Em X (binaryOp .Add) (nN X.K)/\CM X.K (nN X.K) BL:=by
 refine⟨((Jt.or ga).or lO).or gc,λT M H u v x y Q m va d rv h k=> ?_⟩;unfold BL at h;split at h <;> first | exact h.elim|skip
 .exact .inl (.inl (.inl ⟨_,_,d.toI,rv.toI,k _ _ T H (.refl va.tp) (.int _) h⟩))
 .obtain ⟨a,vs,rfl,hq,n,r,rs⟩:=C6 d;obtain⟨b,ws,rfl,f,g,i,c⟩:=C6 rv;refine .inl (.inl (.inr ⟨a,b,vs,ws,rfl,rfl,hq,f,by rw[rs.length,c.length];exact h.1,λp hp=> ?_⟩));have st:=Dj.lay (o:= .lst (vs++ws)) va.tp hp;have j:¬T p:=λz=>by obtain⟨o,e,_⟩:=(va.tp p z).mut;rw[hp] at e;cases e
  have l:¬M p:=λz=>by obtain⟨o,e,_⟩:=va.mu p z;rw[hp] at e;cases e
  exact k _ _ T _ st (.lst Al j l ((rs.append c).stp st va)) h.2
 .obtain ⟨a,vs,rfl,hq,rs⟩:=DM d;obtain⟨b,ws,rfl,f,c⟩:=DM rv;by_cases e:vs= []
  .subst e;cases rs;exact .inr ⟨a,b,ws,rfl,rfl,hq,f,k _ _ T H (.refl va.tp) rv (by simpa using h.2)⟩
  .refine .inl (.inr ⟨a,b,vs,ws,rfl,rfl,hq,f,e,by rw[rs.length,c.length];exact h.1,λz=> ?_,λz p hp=> ?_⟩)
   .subst z;cases c;exact k _ _ T H (.refl va.tp) d (by simpa using h.2)
   .have st:=Dj.lay (o:= .tup (vs++ws)) va.tp hp;exact k _ _ T _ st (.tup (.inl Al) ((rs.append c).stp st va)) h.2
def Im {prog:Wf}{w:Tb}{A:Sl}{E:ki->kf->Prop}{s:kf}{t b:kd}{items:Array ki}{c d:ki}{lo hi:kc Int}{Q:ki->kf->Prop}(a:IsTup s.heap t items)(hs:s.heap.IsSliceOf b c d .none)(e:IsPart c lo)(f:IsPart d hi)(hw:HT.sIx items.size 0 lo=0/\HT.sIx items.size items.size hi=items.size)(h:Q (.ref t) s):wpAny (model prog w) A (getItem (.ref t) (.ref b)) Q E s:=by
 obtain⟨os,g,i,o⟩:=id hs;have j:s.TypeIs (.ref b) "slice" :=⟨os,g,i⟩;obtain⟨p,k,l,r,m⟩:=id a;unfold getItem;try with_reducible refine AB3 ?_
 first | refine AAF (AAI ?_)|skip
 refine AAF (wpAny_sequenceKey a.typeIs (by decide) ?_);refine AAF (ACS (name:=Str.ofString "__getitem__") a.typeIs ADC
  (ABz ADC a.typeIs entry_tuple_getitem ?_ (args_tuple_getitem _ _)))
 show wpAny _ _ (Builtin.Tuple.tupleItemsOf (.ref t) >>= _) _ _ s;refine AAF (tupleItemsOf_ a ?_);refine AAF (ADx j ?_);rw[AAJ (by decide)];refine AAF (HT.sliceApplied_gen hs e f ?_);have n:((((HT.sIx items.size 0 lo:Nat):Int)==0&&(1:Int)==1&&(HT.sIx items.size items.size hi-HT.sIx items.size 0 lo)==items.size)=true):=by rw[hw.1,hw.2];simp
 show wpAny _ _ (if (((HT.sIx items.size 0 lo:Nat):Int)==0&&(1:Int)==1&&(HT.sIx items.size items.size hi-HT.sIx items.size 0 lo)==items.size)=true then _ else _) _ _ s;rw[AAJ n];unfold Builtin.Tuple.tupleIsExact;simp only[bind_assoc,pure_bind];refine AAF (ADx a.typeIs ?_);rw[AAJ (by decide)];exact AAF (ACH (AAI ⟨_,rfl,AAI h⟩))
def xp (K:AAG):V->kc Int->kc Int->Hp->VK->Prop:=λx lo hi H Q=>∃a xs,x= .ref a/\Ky K H a xs/\
 (HT.sIx xs.length 0 lo=0/\HT.sIx xs.length xs.length hi=xs.length)/\Q (.ref a) H
def mJ:ma X (xp X.K):=by
 intro Sb s i H x v j k lo hi l Q I d hs e f h;obtain⟨a,xs,rfl,hx,hw,q⟩:=h;cases d;obtain⟨b,r,c,hz⟩:=I.tuple hx;have g:b.toArray.size=xs.length:=by rw[ABP];exact r.length.symm
 refine⟨"tuple",_,ADC.lookup,c.typeIs, ?_⟩;exact Im c hs e f (by rw[g];exact hw) ⟨.ref a,H,I,rfl,q⟩
def Il (xs:kj PV)(lo hi:kc Int):kj PV:=(xs.drop (HT.sIx xs.length 0 lo)).take (HT.sIx xs.length xs.length hi-HT.sIx xs.length 0 lo)
def ZO {K:AAG}{T M:kd->Prop}{H:Hp}{vs:kj V}{xs:kj PV}(r:A6 K T M H vs xs)(lo hi:kc Int):A6 K T M H (Qw vs lo hi) (Il xs lo hi):=by unfold Qw Il;rw[r.length];exact(r.drop _).take _
abbrev AO:=BD->(kc Int->Prop)->Prop
def wd (K:AAG)(t:TO)(a:AO):Prop:=∀(B:DB) (T:kd->Prop) (b:L2.St) (τ:BD) (H:Hp) (Q:kc Int->Hp->Prop) (c:kc Int->Prop),SR K B T H b τ->a τ c->
 (∀o e d,Dj T H e d->c o->Q o d)->t b H Q
def SO (X:Cx)(e:kc fe)(a:AO):Prop:=∃t,PO X e t/\wd X.K t a
def dH:AO:=λ_ Q=>Q none
def dI (a:AE):AO:=λτ Q=>a τ λx=>jM x λi=>Q (some i)
def jP:SO X none dH:=⟨_,lc,λB T b τ H Q c a h k=>k _ T H (.refl a.tp) h⟩
def jQ {e:fe}{a:AE}(h:SE X e a):SO X (some e) (dI a):=by obtain⟨t,p,s⟩:=h;refine⟨_,lf p,λB T b τ H Q j c h k=>s B T b τ H _ _ c h λv x d f g r1 h1=> ?_⟩;obtain⟨i,rfl,q⟩:=UF h1;exact⟨i,r1.toI,k _ d f g q⟩
@[irreducible] def ZX (x:PV)(lo hi:kc Int)(Q:PV->Prop):Prop:=match x with | .tup xs=>Q (.tup (Il xs lo hi)) | .lst xs=>Q (.lst (Il xs lo hi))|_=>False
def Ie {xs:kj PV}{lo hi:kc Int}{Q:PV->Prop}(h:Q (.tup (Il xs lo hi))):ZX (.tup xs) lo hi Q:=by unfold ZX;exact h
def Ey {xs:kj PV}{lo hi:kc Int}{Q:PV->Prop}(h:Q (.lst (Il xs lo hi))):ZX (.lst xs) lo hi Q:=by unfold ZX;exact h
def dG (a:AE)(l h:AO):AE:=λτ Q=>a τ λx=>l τ λlo=>h τ λhi=>ZX x lo hi Q
def JJ {e:fe}{lo hi:kc fe}{p2 n:Pos}{C:AE}{l h:AO}(he:SE X e C)(hl:SO X lo l)(D:SO X hi h):SE X (.Subscript e (.Slice lo hi none p2) n) (dG C l h):=by
 obtain⟨t,p,s⟩:=he;obtain⟨t1,p1,r⟩:=hl;obtain⟨t2,u,w⟩:=D;refine⟨_,gz ((mI.or qk).or mJ) p p1 u,λB T m τ H Q M f h k=>s B T m τ H _ _ f h λv x E F g r1 h1=> ?_⟩;refine r B E m τ F _ _ (f.stp g) h1 λlo G I i h2=> ?_;refine w B G m τ I _ _ ((f.stp g).stp i) h2 λhi T3 J y d=> ?_;have b:=((f.stp g).stp i).stp y;have A:=(r1.stp i (f.stp g).va).stp y ((f.stp g).stp i).va;have c:=(g.trans i).trans y;unfold ZX at d;split at d <;> first | exact d.elim|skip
 .obtain ⟨a,vs,rfl,hq,rs⟩:=DM A;by_cases hw:HT.sIx vs.length 0 lo=0/\HT.sIx vs.length vs.length hi=vs.length
  .refine .inr ⟨a,vs,rfl,hq,hw,k _ _ T3 J c A ?_⟩;rename_i xs;have:Il xs lo hi=xs:=by unfold Il;rw[<-rs.length,hw.1,hw.2,rs.length];simp
   rw[this] at d;exact d
  .refine .inl (.inr ⟨a,vs,rfl,hq,hw,λq j=> ?_⟩);have st:=Dj.lay (o:= .tup (Qw vs lo hi)) b.tp j;exact k _ _ T3 _ (c.trans st) (.tup (.inl Al) ((ZO rs lo hi).stp st b.va)) d
 .obtain ⟨a,vs,rfl,hq,N,O,rs⟩:=C6 A;refine .inl (.inl ⟨a,vs,rfl, .inl (.inl hq),λq j=> ?_⟩);have st:=Dj.lay (o:= .lst (Qw vs lo hi)) b.tp j;have K:¬T3 q:=λz=>by obtain⟨o,e,_⟩:=(b.tp q z).mut;rw[j] at e;cases e
  have L:¬mt B m τ q:=λz=>by obtain⟨o,e,_⟩:=b.va.mu q z;rw[j] at e;cases e
  exact k _ _ T3 _ (c.trans st) (.lst Al K L ((ZO rs lo hi).stp st b.va)) d
end
def BO:AF:=λxs Q=>match xs with | [.tape, .int m] =>(0<m/\m<4611686018427387904)/\∀r,0<=r->r<m->Q (.int r)|_=>False
def Ot:AF:=λxs Q=>match xs with | [.scr ns, .int k] =>(0<=k/\k<=1000)/\Q .tape|_=>False
def sO (g:TG):Prop:=∀v b H Q c,(∀a d,Q a d->c a d)->g v b H Q->g v b H c
def n8 (g:XG):Prop:=∀v b H Q c,(∀a d,Q a d->c a d)->g v b H Q->g v b H c
def SK (own:Nat)(X:Cx)(a:fe)(ag:AG):Prop:=∃g,PG X a g/\Kx X.K g ag/\Hg own g/\sO g
def vZ (own:Nat)(X:Cx)(a:kj fe)(ag:W1):Prop:=∃g,rN X a g/\RW X.K g ag/\Ov own g/\n8 g
section
variable {X:Cx}{pos:Pos}{own:Nat}
def aO {i:Nat}{x:Str}(hN:X.N.Nodup)(hi:X.N[i]? =some x)(hx:Loc X.env.scope x)(hk:i<own)(a:X.fn x=true\/X.env.scope.names.lookup x=some .local:=by first | exact .inl rfl|exact .inr rfl|assumption):SK own X (.Name x pos) (An i):=
 ⟨_,LM hN hi hx a,Uf,kA hk,kC⟩
def Ic:vZ own X [] BY:=⟨_,UH,Wo,kB,kD⟩
def Cn {e:fe}{es:kj fe}{ag:AG}{a:W1}(h1:SK own X e ag)(h2:vZ own X es a)(hs:(assignEach (e::es) X.env).map (·.2)=assign e X.env::(assignEach es X.env).map (·.2):=by rfl):vZ own X (e::es) (AZ ag a):=
 let ⟨_,p,s,k,m⟩:=h1;let ⟨_,c,d,f,b⟩:=h2;⟨_,Hy p c hs,R7 s d,fP k m f b,fQ m b⟩
end
def oX (K:AAG)(own:Nat)(ag:AG):TG:=λv d H Q=>∃(B:DB) (T:kd->Prop) (τ:BD) (x:PV) (e:BD->Prop),SR K B T H d τ/\CZ K T (mt B d τ) H v x/\ag x τ e/\
 ∀a c,SR K B T H a c->(∀b,Ct a c b->Ct d τ b)->e c->(a.length=d.length/\∀j,own<=j->a[j]? =d[j]?)->Q a H
def rh (K:AAG)(a:AT):TT:=λe H Q=>∃(B:DB) (T:kd->Prop) (τ:BD) (c:da->Prop),SR K B T H e τ/\a τ c/\∀b f d,Dj T H f d->c b->Q b d
def rR (K:AAG)(a:AE):TE:=λc H Q=>∃(B:DB) (T:kd->Prop) (τ:BD) (d:PV->Prop),SR K B T H c τ/\a τ d/\∀v x e b,Dj T H e b->CZ K e (mt B c τ) b v x->d x->Q v b
def OJ {K:AAG}{own:Nat}{ag:AG}:Kx K (oX K own ag) ag:=λB T e τ H v x Q c d r h k=>⟨B,T,τ,x,c,d,r,h,λa b s o q _=>k a b s o q⟩
def LD {K:AAG}{own:Nat}{ag:AG}:Hg own (oX K own ag):=λv e H Q ⟨B,T,τ,x,c,d,r,h,k⟩=>⟨B,T,τ,x,c,d,r,h,λa b s o q z=>⟨k a b s o q z,z⟩⟩
def OK {K:AAG}{a:AT}:Nc K (rh K a) a:=λB T d τ H Q b c h k=>⟨B,T,τ,b,c,h,k⟩
def Ue {K:AAG}{a:AE}:Gf K (rR K a) a:=λB T d τ H Q b c h k=>⟨B,T,τ,b,c,h,k⟩
section
variable {X:Cx}
def SK.of {own:Nat}{i:fe}{ag:AG}(h:SK own X i ag):PG X i (oX X.K own ag):=by obtain⟨g,p,s,k,m⟩:=h;intro Sb l e H v u Q I r hw;obtain⟨B,T,τ,x,j,n,t,h,c⟩:=hw;have h1:g v e H λd w=>w=H/\∃a,SR X.K B T H d a/\(∀b,Ct d a b->Ct e τ b)/\j a:=s B T e τ H v x _ j n t h λd a s o q=>⟨rfl,a,s,o,q⟩;have h2:=k v e H _ h1;refine p Sb l e H v u Q I r (m v e H _ _ (λf D q=> ?_) h2);obtain⟨⟨rfl,a,y,A,C⟩,z⟩:=q;exact c f a y A C z
def mZ.of {b:kj fe}{a:AT}(h:mZ X b a):ZE X b (rh X.K a):=by obtain⟨t,p,s⟩:=h;intro Sb e d H Q I hw;obtain⟨B,T,τ,f,g,h,c⟩:=hw;exact p Sb e d H Q I (s B T d τ H Q f g h c)
def SE.of {e:fe}{a:AE}(h:SE X e a):PE X e (rR X.K a):=by obtain⟨t,p,s⟩:=h;intro Sb d b H Q I hw;obtain⟨B,T,τ,f,g,h,c⟩:=hw;exact p Sb d b H Q I (s B T b τ H Q f g h c)
def Db {e a:fe}{b:kj fe}{scope:Scope}{own:Nat}{ix:kj Nat}{N:kj Str}{g:AG}{t:AT}{te:AE}(h1:scope.kind= .function)(h2:(scope.names.all λy=> !decide (y.2= .cell))=true)(f:(scope.names.all λy=> !decide (y.2= .local)||decide (scope.names.lookup y.1=some .local))=true)(h:(scope.names.all λy=> !decide (y.2= .free)||decide (X.env.scope.names.lookup y.1=some .cell))=true)(i:N.length=own+ix.length)(j:PJ X (relabel scope X.env) own ix N=true)(c:∀cl C s H ex pn,SK own (blk X (relabel scope X.env) N cl C s H ex pn) e g)(d:∀cl C s H ex pn,mZ (blk X (relabel scope X.env) N cl C s H ex pn) b t)(val:∀cl C s H ex pn,SE (blk X (relabel scope X.env) N cl C s H ex pn) a te):Y9 X e a b scope own ix N g t te:=
 ⟨oX X.K own g,rh X.K t,rR X.K te,ZM h1 h2 f h i j LD (λcl C s H ex pn=>(c cl C s H ex pn).of) (λcl C s H ex pn=>(d cl C s H ex pn).of) (λcl C s H ex pn=>(val cl C s H ex pn).of),OJ,OK,Ue⟩
end
mutual
def pd:PV->PyData
 | .bl b=> .bool b
 | .int i=> .int i
 | .str x=> .str x
 | .tup xs=> .tuple (Mi xs)
 | .lst xs=> .list (Mi xs)
 | _=> .none
def Mi:kj PV->kj PyData
 | [] => []
 | x::xs=>pd x::Mi xs
end
mutual
def D3:Nat->PV->da
 | _, .non=>true
 | _, .bl _=>true
 | _, .int _=>true
 | _, .str x=>PyData.strOk x
 | n+1, .tup xs=>HL n xs
 | n+1, .lst xs=>HL n xs
 | _,_=>false
def HL:Nat->kj PV->da
 | _, [] =>true
 | n,x::xs=>D3 n x&&HL n xs
end
mutual
theorem Go:∀(n:Nat) (x:PV),D3 n x=true->(pd x).canLay0=true/\(pd x).depth<=n/\(pd x).hasDict=false
 | n, .non,_=>⟨rfl,AB7 _,rfl⟩
 | n, .bl _,_=>⟨rfl,AB7 _,rfl⟩
 | n, .int _,_=>⟨rfl,AB7 _,rfl⟩
 | n, .str x,h=>⟨by simpa[pd,PyData.canLay0,D3] using h,AB7 _,rfl⟩
 | 0, .tup xs,h=>by simp[D3] at h
 | 0, .lst xs,h=>by simp[D3] at h
 | n+1, .tup xs,h=>by obtain⟨a,b,c⟩:=Hx n xs (by simpa[D3] using h);exact⟨by simpa[pd,PyData.canLay0] using a,by simpa[pd,PyData.depth] using b,by simpa[pd,PyData.hasDict] using c⟩
 | n+1, .lst xs,h=>by obtain⟨a,b,c⟩:=Hx n xs (by simpa[D3] using h);exact⟨by simpa[pd,PyData.canLay0] using a,by simpa[pd,PyData.depth] using b,by simpa[pd,PyData.hasDict] using c⟩
 | n, .tape,h=>by simp[D3] at h
 | n, .scr _,h=>by simp[D3] at h
 | n, .ty _,h=>by simp[D3] at h
theorem Hx:∀(n:Nat) (xs:kj PV),HL n xs=true->PyData.canLayAll0 (Mi xs)=true/\PyData.depthAll (Mi xs)<=n/\PyData.hasDictAll (Mi xs)=false
 | n, [],_=>⟨rfl,AB7 _,rfl⟩
 | n,x::xs,h=>by simp only[HL,ACA] at h;obtain⟨a,b,c⟩:=Go n x h.1;obtain⟨d,f,e⟩:=Hx n xs h.2;exact⟨by simp[Mi,PyData.canLayAll0,a,d],by simp only[Mi,PyData.depthAll];omega,by simp[Mi,PyData.hasDictAll,c,e]⟩
end
section
variable {X:Cx}{Sb:kj (kd×Obj)}{σ:L2.St}{H:Hp}{s:kf}
mutual
theorem C3 (I:Inv X Sb σ H s){T M:kd->Prop}:∀(n:Nat) {x:PV} {v:V} {u:ki},CZ X.K T M H v x->D3 n x=true->RelV v u->∃as,Reads s.heap u (pd x) as
 | _,_,_,_, .non,_,r=>by cases r;exact⟨_, .none⟩
 | _,_,_,_, .bl b,_,r=>by cases r;exact⟨_, .bool b⟩
 | _,_,_,_, .int i,_,r=>by obtain⟨t,rfl⟩:=r;exact⟨_, .int i t⟩
 | _,_,_,_, .str x,_,r=>by obtain⟨t,rfl⟩:=r;exact⟨_, .str x t⟩
 | _,_,_,_, .ty n,h,r=>by simp[D3] at h
 | 0,_,_,_, .tup hq rs,h,r=>by simp[D3] at h
 | 0,_,_,_, .lst hq t m rs,h,r=>by simp[D3] at h
 | n+1,_,_,_, .tup hq rs,h,r=>by cases r;obtain⟨a,rv,⟨o,c,hc,k,hd⟩,_⟩:=I.tuple hq.sq;obtain⟨as,ra⟩:=IA I n rs (by simpa[D3] using h) rv;exact⟨_, .tuple c hc hd (by simpa using ra)⟩
 | n+1,_,_,_, .lst hq t m rs,h,r=>by cases r;obtain⟨a,rv,⟨o,k,c,hc,_,hd⟩,_⟩:=I.list (FY.of hq);obtain⟨as,ra⟩:=IA I n rs (by simpa[D3] using h) rv;exact⟨_, .list c hc hd (by simpa using ra)⟩
 | _,_,_,_, .tape _,h,r=>by simp[D3] at h
 | _,_,_,_, .scr _,h,r=>by simp[D3] at h
theorem IA (I:Inv X Sb σ H s){T M:kd->Prop}:∀(n:Nat) {xs:kj PV} {vs:kj V} {a:kj ki},A6 X.K T M H vs xs->HL n xs=true->A3 vs a->∃as,ReadsAll s.heap a (Mi xs) as
 | _,_,_,_, .nil,_,r=>by cases r;exact⟨_, .nil⟩
 | n,_,_,_, .cons h t,hk,r=>by
   simp only[HL,ACA] at hk;cases r with
   | cons r b=> obtain⟨as,ra⟩:=C3 I n h hk.1 r;obtain⟨bs,c⟩:=IA I n t hk.2 b;exact⟨_, .cons ra c⟩
end
end
section
variable {X:Cx}
def HN (x y:PV):da:=PyData.eqv (pd x) (pd y)
def ln (K:AAG)(neg:da):R2:=λu v H Q=>∃(T M:kd->Prop) (x y:PV),CZ K T M H u x/\CZ K T M H v y/\D3 30 x=true/\D3 30 y=true/\Q (.bl (if neg then !HN x y else HN x y)) H
def p8 {k:Nat}(b:Room k X.A):Em X (compareOp .Eq) (ln X.K false):=by intro Sb s i H u v j l Q I c rv h;obtain⟨T,M,x,y,d,e,a,ky,q⟩:=h;obtain⟨as,ra⟩:=C3 I 30 d a c;obtain⟨bs,f⟩:=C3 I 30 e ky rv;obtain⟨g,m,_⟩:=Go 30 x a;obtain⟨b1,b2,_⟩:=Go 30 y ky;exact SeqAt.compareEq_reads ra f g b1 (by have:=b.un;omega) ⟨.bl _,H,I,rfl,q⟩
def qB {k:Nat}(b:Room k X.A):Em X (compareOp .NotEq) (ln X.K true):=by intro Sb s i H u v j l Q I c rv h;obtain⟨T,M,x,y,d,e,a,ky,q⟩:=h;obtain⟨as,ra⟩:=C3 I 30 d a c;obtain⟨bs,f⟩:=C3 I 30 e ky rv;obtain⟨g,m,_⟩:=Go 30 x a;obtain⟨b1,b2,_⟩:=Go 30 y ky;exact SeqAt.compareNe_reads ra f g b1 (by have:=b.un;omega) ⟨.bl _,H,I,rfl,q⟩
def KG:KF:=λx y Q=>match aH x y with | some b=>Q (.bl b)|none=>(D3 30 x=true/\D3 30 y=true)/\Q (.bl (HN x y))
def KH:KF:=λx y Q=>match aH x y with | some b=>Q (.bl (!b))|none=>(D3 30 x=true/\D3 30 y=true)/\Q (.bl (!HN x y))
def ug (K:AAG):R2:=λx y H Q=>rEq x y H Q\/ln K false x y H Q
def um (K:AAG):R2:=λx y H Q=>rNe x y H Q\/ln K true x y H Q
def C5 {k:Nat}(c:Room k X.A):Em X (compareOp .Eq) (ug X.K)/\CM X.K (ug X.K) KG:=by
 refine⟨uV.or (p8 c),λT M H u v x y Q d va a rv h k=> ?_⟩;unfold KG at h;split at h
 .rename_i b e;obtain⟨h1,h2⟩:=Wi a rv e;refine .inl ⟨h1, ?_⟩;rw[h2];exact k _ _ T H (.refl va.tp) (.bl _) h
 .exact .inr ⟨T,M,x,y,a,rv,h.1.1,h.1.2,k _ _ T H (.refl va.tp) (.bl _) h.2⟩
def Eu {k:Nat}(c:Room k X.A):Em X (compareOp .NotEq) (um X.K)/\CM X.K (um X.K) KH:=by
 refine⟨uW.or (qB c),λT M H u v x y Q d va a rv h k=> ?_⟩;unfold KH at h;split at h
 .rename_i b e;obtain⟨h1,h2⟩:=Wi a rv e;refine .inl ⟨h1, ?_⟩;rw[h2];exact k _ _ T H (.refl va.tp) (.bl _) h
 .exact .inr ⟨T,M,x,y,a,rv,h.1.1,h.1.2,k _ _ T H (.refl va.tp) (.bl _) h.2⟩
structure oF (x:PV):Prop where
 ok:D3 30 x=true
 sh:(pd x).showable=true
 sz:(pd x).shown.length<=sizeLine
end
section
variable {prog:Wf}{w:Tb}{A:Sl}{E:ki->kf->Prop}{s:kf}
def NL {h:Sr}{l:kd}{items:Array ki}(hl:h.IsList l items)(o:Obj):(h.push o).IsList l items:=by obtain⟨a,e,r⟩:=hl;exact⟨a,ABF _ e,r⟩
theorem Rj {it t:kd}{items:Array ki}(f:t≠it):∀(n i:Nat) (s:kf) (Q:kj ki->kf->Prop),s.heap.IsListIter it t i->s.heap.IsList t items->i+n<=items.size-> (∀h',h'.IsListIter it t (i+n)->Heap.SameBut it s.heap h'->Q ((items.toList.drop i).take n) {s with heap:=h'})->wpAny (model prog w) A (draw (.ref it) n) Q E s
 | 0,i,s,Q,hit,_,_,hQ=>by show wpAny _ _ (pure []) Q E s;exact AAI (by simpa using hQ s.heap hit (Heap.SameBut.refl ..))
 | n+1,i,s,Q,hit,ht,bY,hQ=>by
   have g:i<items.size:=by omega
   show wpAny _ _ (pyNext (.ref it) >>= _) Q E s;refine AAF (wpAny_pyNext_list_item hit ht (x:=items[i]) (by simp[g]) λh b a=> ?_);refine AAF (AB3 (Rj f n (i+1) _ _ b (ht.extBut a.extBut f) (by omega) λe c d=>AAI ?_));have hd:items.toList.drop i=items[i] :: items.toList.drop (i+1):=by simp[ADV,g]
   have:=hQ e (by rw[show i+(n+1)=i+1+n by omega];exact c) (a.trans d);rw[hd,AEn] at this;exact this
def NB {t:kd}{items:Array ki}{Q:kj ki->kf->Prop}(k:A.handled=none)(g:s.heap.IsList t items)(hQ:∀h',Heap.ExtBut s.heap.objs.size s.heap h'->Q items.toList {s with heap:=h'}):wpAny (model prog w) A (unpackItems (.ref t) items.size none) Q E s:=by
 have j:t≠s.heap.objs.size:=by obtain⟨o,l,_⟩:=g;exact ABK (ABD l)
 unfold unpackItems;refine AAF ?_
 .unfold notIterableAtAll;refine AAF (ACY g.typeIs slot_list_iter.lookup ?_);refine AAI ?_;simp only[AB0,ABe];refine AAF (AB3 (AFH g ?_));refine AAF (AB3 (Rj j items.size 0 _ _ ⟨_,ABM _ rfl,rfl,rfl⟩ (NL g _) (by omega) λh c a=> ?_));have m:List.take items.size (List.drop 0 items.toList)=items.toList:=by rw[List.drop_zero];exact AEg (by simp)
  rw[m];rw[AAH (by simp)];have d:h.IsList t items:=(NL g _).extBut a.extBut j;refine AAF (AB3 (wpAny_pyNext_list_end k c d (by simp) λi f=> ?_));simp only[Option.isSome_none,AB0,ABe];refine AAI (hQ i λb o hb e=>f b o hb (a.extBut b o hb (ABF _ e)))
def K0 {env:Env}{elts:kj fe}{x1}{a:Pos}{t:kd}{items:Array ki}{Q:Unit->kf->Prop}(b:A.handled=none)(c:s.heap.IsList t items)(hn:(assignEach elts env).length=items.size)(d:(assignEach elts env).findIdx? (·.1)=none)(h:∀h',Heap.ExtBut s.heap.objs.size s.heap h'->wpAny (model prog w) A (assignInOrder ((assignEach elts env).map (·.2)) items.toList) Q E {s with heap:=h'}):wpAny (model prog w) A (assign (.Tuple elts x1 a) env (.ref t)) Q E s:=by rw[assign_Tuple];refine AAF (ACP ?_);unfold unpack;rw[hn,d];exact AAF (AB3 (NB b c h))
end
section
variable {X:Cx}{pos:Pos}
def bP (K:AAG)(n:Nat)(t:XG):TG:=λv b H Q=>∃a xs,v= .ref a/\(Ky K H a xs\/FY K H a xs)/\xs.length=n/\t xs b H Q
def YR {es:kj fe}{k:Nat}{t:XG}{n:Nat}(hc:X.calm=true)(h:rN X es t)(hn:(assignEach es X.env).length=n:=by rfl)(i:(assignEach es X.env).findIdx? (·.1)=none:=by rfl):PG X (.Tuple es k pos) (bP X.K n t):=by
 intro Sb s c H v u Q I r hw;obtain⟨a,xs,j,hq,hl,hw⟩:=hw;subst j;cases r;rcases hq with hq|hq
 .obtain ⟨d,rv,f,hz⟩:=I.tuple hq;refine assign_Tuple_tuple (I.ok.hd hc) f (by simp[hn,<-hl,rv.length]) i λh' hx=> ?_;have g:Inv X Sb c H {s with heap:=h'}:=I.kept (t':=s.toks) λb o e=>hx b o (ABK (ABD e)) e;exact h Sb _ c H xs _ Q g (by simpa using rv) hw
 .obtain ⟨d,rv,f,hz⟩:=I.list hq;refine K0 (I.ok.hd hc) f.isList (by simp[hn,<-hl,rv.length]) i λh' hx=> ?_;have g:Inv X Sb c H {s with heap:=h'}:=I.kept (t':=s.toks) λb o e=>hx b o (ABK (ABD e)) e;exact h Sb _ c H xs _ Q g (by simpa using rv) hw
def HD (n:Nat)(r:W1):AG:=λx τ Q=>Uu x λxs=>xs.length=n/\r xs τ Q
def iT {K:AAG}{n:Nat}{c:XG}{a:W1}(s:RW K c a):Kx K (bP K n c) (HD n a):=λB T d τ H v x Q e f r h k=>by
 obtain⟨xs,hx,h⟩:=Js h;rcases hx with rfl|rfl
 .obtain ⟨p,vs,rfl,hq,b⟩:=DM r;exact⟨p,vs,rfl, .inl hq,by rw[b.length];exact h.1,s B T d τ H vs _ Q e f b h.2 k⟩
 .obtain ⟨p,vs,rfl,hq,g,i,b⟩:=C6 r;exact⟨p,vs,rfl, .inr (.inl (.inl hq)),by rw[b.length];exact h.1,s B T d τ H vs _ Q e f b h.2 k⟩
def Bo {es:kj fe}{k:Nat}{a:W1}{n:Nat}(hc:X.calm=true)(h:vY X es a)(hn:(assignEach es X.env).length=n:=by rfl)(b:(assignEach es X.env).findIdx? (·.1)=none:=by rfl):SG X (.Tuple es k pos) (HD n a):=
 let ⟨_,p,s⟩:=h;⟨_,YR hc p hn b,iT s⟩
def og {own:Nat}{K:AAG}{n:Nat}{t:XG}(h:Ov own t):Hg own (bP K n t):=λv b H Q ⟨a,xs,e,h1,h2,c⟩=>⟨a,xs,e,h1,h2,h xs b H Q c⟩
def M7 {own:Nat}{es:kj fe}{k:Nat}{b:W1}{n:Nat}(hc:X.calm=true)(h:vZ own X es b)(hn:(assignEach es X.env).length=n:=by rfl)(c:(assignEach es X.env).findIdx? (·.1)=none:=by rfl):SK own X (.Tuple es k pos) (HD n b):=
 let ⟨_,p,s,d,m⟩:=h;⟨_,YR hc p hn c,iT s,og d,λv g H Q i z ⟨a,xs,e,h1,h2,f⟩=>⟨a,xs,e,h1,h2,m _ _ _ _ _ z f⟩⟩
def pF:rO X .Mult (λx y H Q=>∃i j,x= .int i/\y= .int j/\MulOk i j/\Q (.int (i*j)) H):=by intro Sb s d H x y v u Q I r1 r2 h;obtain⟨i,j,a,b,c,q⟩:=h;subst a;subst b;obtain⟨t,rfl⟩:=r1;obtain⟨t',rfl⟩:=r2;exact AutoIntOps.imul_0 (show (Made.int (i*j)).post _ _ from⟨.int _,H,I.tok _,⟨_,rfl⟩,q⟩) (.of_le (IT c.l) (IT c.r) (by decide))
def qg:rO X .Mult (λx y H Q=>∃i j,x= .int i/\y= .int j/\MulOk i j/\Q (.int (i*j)) H)/\CM X.K (λx y H Q=>∃i j,x= .int i/\y= .int j/\MulOk i j/\Q (.int (i*j)) H) Dc:=⟨pF,λT M H u v x y Q b va a rv h k=>by
 obtain⟨i,j,rfl,rfl,c,q⟩:=OD h;exact⟨i,j,a.toI,rv.toI,c,k _ _ T H (.refl va.tp) (.int _) q⟩⟩
end
def QM {i:Int}(a:0<=i)(b:i<2147483647): -(2^64)<i/\i<2^64:=⟨by omega,by omega⟩
def b01 (b:da):(0:Int)<=(if b=true then 1 else 0):=by cases b <;> decide
def zV (b:da): -(2^64)<(if b=true then (1:Int) else 0)/\(if b=true then (1:Int) else 0)<2^64:=by cases b <;> decide
def i8 {T:kd->Prop}{H:Hp}{p:kd}{d x:Int}(tp:∀a,T a->FG H a)(t:T p)(c:0<=d)(f:0<=x)(g:x<2147483647):Dj T H T (upd H p (.lst [.int d, .int x])) where
 keep:=λb o n e=>by rw[Ai (λz=>n (by subst z;exact t))];exact e
 sub:=λ_ t=>t
 new:=λ_ t=> .inl t
 tp:=λa h=>by
  by_cases z:a=p
  .subst z;exact⟨d,x,Al,c,f,g⟩
  .obtain ⟨d',i,e,q⟩:=tp a h;exact⟨d',i,by rw[Ai z];exact e,q⟩
def iy {T:kd->Prop}{H:Hp}{p:kd}{d x:Int}(tp:∀a,T a->FG H a)(hp:H p=none)(f:0<=d)(g:0<=x)(h:x<2147483647):Dj T H (λb=>T b\/b=p) (upd H p (.lst [.int d, .int x])) where
 keep:=λb o n e=>by rw[Ai (Az e hp)];exact e
 sub:=λ_ t=> .inl t
 new:=λb t=>t.elim .inl λz=> .inr (by subst z;exact hp)
 tp:=λa c=>by
  by_cases z:a=p
  .subst z;exact⟨d,x,Al,f,g,h⟩
  .rcases c with c|c
   .obtain ⟨d',i,e,q⟩:=tp a c;exact⟨d',i,by rw[Ai z];exact e,q⟩
   .exact absurd c z
def law_sp {K:AAG}{H:Hp}{a:kd}{b:kj Int}{F:AF}(c:FY K H a (b.map V.int))(h:F [.scr b] λx=>x= .bl true):Cf K 1 F [.ref a] H (λv _=>v= .bl true) λ_ _ _=>False:=by
 refine⟨λ_=>False,λ_=>False, [.scr b],_,⟨λ_ z=>z.elim,λ_ z=>z.elim⟩,λ_ z=>z.elim, .cons (.scr ?_) .nil,rfl,h,λv x d f _ r e=> ?_⟩
 .rcases c with h|h
  .exact .inl ⟨h,id,id⟩
  .exact .inr λH=> .inr h
 .subst e;cases r;rfl
theorem K6 {g:AG}{b:AS}{D:G6}(a:kj PV->BD->Prop)(hd:∀τ,a [] τ->D.nx τ)(hs:∀x r τ (R:BD->Prop),(∀τ,a r τ->R τ)->a (x::r) τ->g x τ λc=>b {D with nx:=R,ct:=R,bk:=D.nx} c):∀xs τ,a xs τ->Eh g b D xs τ
 | [],τ,h=>hd τ h
 | x::r,τ,h=>hs x r τ _ (λd h2=>K6 a hd hs r d h2) h
theorem Y3 {c:AT}{b:AS}{D:G6}(a:Nat->BD->Prop)(e:∀τ,¬a 0 τ)(hs:∀n τ (R:BD->Prop),(∀τ,a n τ->R τ)->a (n+1) τ->c (frz τ) λk=>if k=true then b {D with nx:=R,ct:=R,bk:=D.nx} τ else D.nx τ):∀n τ,a n τ->Ww c b D n τ
 | 0,τ,h=>absurd h (e τ)
 | n+1,τ,h=>hs n τ _ (λd h2=>Y3 a e hs n d h2) h
def LQ (lo:Int)(n:Nat):rng lo (n+1)= .int lo::rng (lo+1) n:=by
 unfold rng;rw[List.range_succ_eq_map,ABJ,ACa];congr 1
 .simp
 .apply ADG;intro k _;simp only[Function.comp];congr 1;omega
def YX (lo:Int)(n:Nat):(rng lo n).length=n:=by simp[rng]
end PL
namespace PL
open PySem L2 PyProof.Rows
def fr (r:Rat):PV:= .tup [.int r.num, .int (r.den:Int)]
def Fz {b:da}{A B:Prop}(h1:b=true->A)(h2:b=false->B):if b=true then A else B:=by
 cases b with
 | true=>rw[AAJ rfl];exact h1 rfl
 | false=>rw[AAH ABO];exact h2 rfl
structure Bd (n:Nat) (r:Rat):Prop where
 top:r.num.natAbs<2^n
 bot:r.den<2^n
def Bd.botI {n:Nat}{r:Rat}(b:Bd n r):(r.den:Int).natAbs<2^n:=by simpa using b.bot
def Px {m n:Nat}(h:m<=n):2^m<=2^n:=Nat.pow_le_pow_right (by decide) h
def Bd.mono {m n:Nat}{r:Rat}(b:Bd m r)(h:m<=n):Bd n r:=⟨ABb b.top (Px h),ABb b.bot (Px h)⟩
def gM {a b m n:Nat}(ha:a<2^m)(hb:b<2^n):a*b<2^(m+n):=by rw[Nat.pow_add];exact Nat.mul_lt_mul_of_lt_of_le ha (AEV hb) (Nat.pos_of_ne_zero (by intro z;rw[z] at hb;omega)) |> λh=>h
def BU {a b:Int}{m n:Nat}(ha:a.natAbs<2^m)(hb:b.natAbs<2^n):(a*b).natAbs<2^(m+n):=by rw[AFI];exact gM ha hb
def N3 {a b:Int}{n:Nat}(ha:a.natAbs<2^n)(hb:b.natAbs<2^n):(a+b).natAbs<2^(n+1):=by rw[Nat.pow_succ];omega
def Um {a b:Int}{n:Nat}(ha:a.natAbs<2^n)(hb:b.natAbs<2^n):(a-b).natAbs<2^(n+1):=by rw[Nat.pow_succ];omega
def Ae {a m n:Nat}(h:a<2^m)(b:m<=n):a<2^n:=ABb h (Px b)
def MulOk.of {a b:Int}{m n:Nat}(ha:a.natAbs<2^m)(hb:b.natAbs<2^n)(c:m<=1000000:=by omega)(hn:n<=1000000:=by omega):MulOk a b:=⟨Ae ha c,Ae hb hn⟩
def Xa (t b:Int):(Rat.divInt t b).num.natAbs<=t.natAbs:=by
 rw[AEo];by_cases h:b=0
 .subst h;simp
 .have e:(b.gcd t:Int) ∣ b.sign*t:=Int.dvd_trans (Int.gcd_dvd_right ..) (Int.dvd_mul_left ..);rw[Int.natAbs_ediv_of_dvd e,AFI];refine ABT (AD6 _ _) ?_;rw[Int.natAbs_sign_of_ne_zero h];omega
def XZ (t b:Int)(h:b≠0):(Rat.divInt t b).den<=b.natAbs:=by rw[AFJ,AAH h];exact AD6 _ _
def Bd.divInt {n:Nat}{t b:Int}(h:b≠0)(a:t.natAbs<2^n)(hb:b.natAbs<2^n):Bd n (Rat.divInt t b):=
 ⟨ACJ (Xa t b) a,ACJ (XZ t b h) hb⟩
def Bh (a:Rat):(a.den:Int)≠0:=by have:=a.den_pos;omega
def Jd (a b:Rat):a+b=Rat.divInt (a.num*b.den+b.num*a.den) (a.den*b.den):=by have h:=AFc a.num b.num (Bh a) (Bh b);rw[AC5,AC5] at h;exact h
def KB (a b:Rat):a-b=Rat.divInt (a.num*b.den-b.num*a.den) (a.den*b.den):=by have h:=Rat.divInt_sub_divInt a.num b.num (Bh a) (Bh b);rw[AC5,AC5] at h;exact h
def Jo (a b:Rat):a*b=Rat.divInt (a.num*b.num) (a.den*b.den):=by have h:=AFd a.num b.num (d₁:=a.den) (d₂:=b.den);rw[AC5,AC5] at h;exact h
def Jj (a b:Rat):a/b=Rat.divInt (a.num*b.den) (a.den*b.num):=by rw[AEp,Rat.inv_def];have h:=AFd a.num b.den (d₁:=a.den) (d₂:=b.num);rw[AC5] at h;exact h
def D0 {a b:Int}(ha:a≠0)(hb:b≠0):a*b≠0:=Int.mul_ne_zero ha hb
def X6 {b:Rat}(h:b≠0):b.num≠0:=λz=>h (Rat.num_eq_zero.mp z)
def Bd.add {m n:Nat}{a b:Rat}(ha:Bd m a)(hb:Bd n b):Bd (m+n+1) (a+b):=by
 rw[Jd];refine .divInt (D0 (Bh a) (Bh b)) (N3 (BU ha.top (by simpa using hb.bot)) ?_) ?_
 .rw [Nat.add_comm m n];exact BU hb.top (by simpa using ha.bot)
 .exact Ae (BU (by simpa using ha.bot) (by simpa using hb.bot)) (by omega)
def Bd.sub {m n:Nat}{a b:Rat}(ha:Bd m a)(hb:Bd n b):Bd (m+n+1) (a-b):=by
 rw[KB];refine .divInt (D0 (Bh a) (Bh b)) (Um (BU ha.top (by simpa using hb.bot)) ?_) ?_
 .rw [Nat.add_comm m n];exact BU hb.top (by simpa using ha.bot)
 .exact Ae (BU (by simpa using ha.bot) (by simpa using hb.bot)) (by omega)
def Bd.mul {m n:Nat}{a b:Rat}(ha:Bd m a)(hb:Bd n b):Bd (m+n) (a*b):=by rw[Jo];exact .divInt (D0 (Bh a) (Bh b)) (BU ha.top hb.top) (BU (by simpa using ha.bot) (by simpa using hb.bot))
def Bd.div {m n:Nat}{a b:Rat}(h:b≠0)(ha:Bd m a)(hb:Bd n b):Bd (m+n) (a/b):=by rw[Jj];exact .divInt (D0 (Bh a) (X6 h)) (BU ha.top (by simpa using hb.bot)) (BU (by simpa using ha.bot) hb.top)
def Bd.neg {n:Nat}{a:Rat}(ha:Bd n a):Bd n (-a):=⟨by show (-a.num).natAbs<_;rw[ADW];exact ha.top,ha.bot⟩
def fE (n:Int):fr (n:Rat)= .tup [.int n, .int 1] :=by simp[fr]
def Bd.int {n:Int}{k:Nat}(h:n.natAbs<2^k)(hk:1<=k):Bd k (n:Rat):=⟨by simpa using h,by simp;omega⟩
def dR:AS:=
 (AY (MH (Ah (AX KH (aV 1) (aC (.int 0)))) (TK 0 1 (AB (aV 1) (AB (AX bJ (aV 0) (aV 1)) AM))))
   (Ak (aV 0)))
def GH:AF:=Ap 2 dR
def Hc (x y:Nat)(Q:PV->Prop)(h:Q (.int (Nat.gcd x y:Nat))):GH [.int x, .int y] Q:=by
 have go:∀y x:Nat,∀D:G6,D.nx [some (.val (.int (Nat.gcd x y:Nat))),some (.val (.int 0))] ->∃n,Ww (Ah (AX KH (aV 1) (aC (.int 0)))) (TK 0 1 (AB (aV 1) (AB (AX bJ (aV 0) (aV 1)) AM))) D n [some (.val (.int x)),some (.val (.int y))] :=by
  intro y;induction y using Nat.strongRecOn with
  | _ y ih=>
    intro x D a;by_cases hy:y=0
    .subst hy;refine⟨1, ?_⟩;rw[Nat.gcd_zero_right] at a;exact a
    .obtain ⟨n,hn⟩:=ih (x % y) (Nat.mod_lt _ (by omega)) y D (by rw[ADi y,<-Nat.gcd_rec,ADi y];exact a);refine⟨n+1, ?_⟩;refine Fz (b:= !decide ((y:Int)=0)) (λ_=> ?_) (λz=> ?_)
     .have c:(x:Int).fmod (y:Int)=((x % y:Nat):Int):=by rw[AEY _ (by omega)];simp
      refine⟨by omega, ?_⟩;rw[<-c] at hn;exact hn
     .have:(y:Int)=0:=by simpa using z
      omega
 obtain⟨n,hn⟩:=go y x {nx:=λτ=>Ak (aV 0) {nx:=λ_=>Q .non,rt:=Q,bk:=λ_=>False,ct:=λ_=>False} τ,rt:=Q,bk:=λ_=>False,ct:=λ_=>False} h;exact⟨n,hn⟩
def ae:AS:=
 (AY (BE (Ah (AX ZW (aV 1) (aC (.int 0)))) (Am (TL Hl (aV 2)) (An 2)) Av)
   (Ak (Ay (AB (AX Qz (aV 0) (aV 2)) (AB (AX Qz (aV 1) (aV 2)) AM)))))
def nu:AS:=
 (AY (Am (AR 2 GH (AB (FZ TW (AB (aV 0) AM)) (AB (FZ TW (AB (aV 1) AM)) AM))) (An 2))
   ae)
def Gc:AF:=Ap 3 nu
def gi (t b:Int)(hb:b≠0):∀s:Int,s=(if b<0 then -(Nat.gcd t.natAbs b.natAbs:Int) else (Nat.gcd t.natAbs b.natAbs:Int))->s≠0/\t.fdiv s=(Rat.divInt t b).num/\b.fdiv s=((Rat.divInt t b).den:Int):=by
 intro s hs;have g:0<Nat.gcd t.natAbs b.natAbs:=ADj _ (by omega);have f:b.gcd t=Nat.gcd t.natAbs b.natAbs:=by rw[AFe,ADi]
 have a:(Nat.gcd t.natAbs b.natAbs:Int) ∣ t:=by rw[<-Int.dvd_natAbs];exact Int.ofNat_dvd.mpr (Nat.gcd_dvd_left ..)
 have c:(Nat.gcd t.natAbs b.natAbs:Int) ∣ b:=by rw[<-Int.dvd_natAbs];exact Int.ofNat_dvd.mpr (AD7 ..)
 have d:s ∣ t:=by rw[hs];split <;> first | exact Int.neg_dvd.mpr a|exact a
 have e:s ∣ b:=by rw[hs];split <;> first | exact Int.neg_dvd.mpr c|exact c
 refine⟨by rw[hs];split <;> omega, ?_, ?_⟩
 .rw [AFf d,AEo,f,hs];by_cases h:b<0
  .rw [AAJ h,AFg h,Int.ediv_neg];have:(-1:Int)*t= -t:=by omega
   rw[this,Int.neg_ediv_of_dvd a]
  .rw [AAH h,AFK (by omega),Int.one_mul]
 .rw [AFf e,AFJ,AAH hb,f,hs];by_cases h:b<0
  .rw [AAJ h,Int.ediv_neg];have:(b.natAbs:Int)= -b:=by omega
   rw[AD8,this,Int.neg_ediv_of_dvd c]
  .rw [AAH h];have:(b.natAbs:Int)=b:=by omega
   rw[AD8,this]
def EJ (t b:Int)(hb:b≠0)(f:b.natAbs<2^8900)(Q:PV->Prop)(h:Q (fr (Rat.divInt t b))):Gc [.int t, .int b] Q:=by
 have g:0<Nat.gcd t.natAbs b.natAbs:=ADj _ (by omega);have gl:Nat.gcd t.natAbs b.natAbs<2^8900:=ACJ (AEq (by omega) (AD7 ..)) f;obtain⟨a,c,d⟩:=gi t b hb _ rfl;refine⟨rfl,Hc _ _ _ ?_⟩;refine Fz (b:=decide (b<0)) (λz=> ?_) (λz=> ?_)
 .have e:b<0:=ABx z;rw[AAJ e] at a c d;refine⟨⟨a,by rw[ADW];exact gl⟩,⟨a,by rw[ADW];exact gl⟩,(show 2<=sizeLine by decide), ?_⟩;unfold fr at h;rw[<-c,<-d] at h;exact h
 .have e:¬b<0:=ACb z;rw[AAH e] at a c d;refine⟨⟨a,gl⟩,⟨a,gl⟩,(show 2<=sizeLine by decide), ?_⟩;unfold fr at h;rw[<-c,<-d] at h;exact h
def Bd.mt {n:Nat}{a b:Rat}(ha:Bd 4000 a)(hb:Bd 4000 b):MulOk a.num b.den/\MulOk b.num a.den/\MulOk a.den b.den/\MulOk a.num b.num/\MulOk a.den b.num:=
 ⟨.of ha.top (by simpa using hb.bot), .of hb.top (by simpa using ha.bot), .of (by simpa using ha.bot) (by simpa using hb.bot), .of ha.top hb.top, .of (by simpa using ha.bot) hb.top⟩
def Rh {a b:Rat}(ha:Bd 4000 a)(hb:Bd 4000 b):((a.den:Int)*(b.den:Int)).natAbs<2^8900:=Ae (BU (a:=(a.den:Int)) (by simpa using ha.bot) (by simpa using hb.bot)) (by omega)
def nv:AS:=
 (Ak (AR 2 Gc (AB (AX BL (AX Dc (AX Ao (aV 0) (aC (.int 0))) (AX Ao (aV 1) (aC (.int 1)))) (AX Dc (AX Ao (aV 1) (aC (.int 0))) (AX Ao (aV 0) (aC (.int 1))))) (AB (AX Dc (AX Ao (aV 0) (aC (.int 1))) (AX Ao (aV 1) (aC (.int 1)))) AM))))
def Hf:AF:=Ap 2 nv
def RU {a b:Rat}(ha:Bd 4000 a)(hb:Bd 4000 b){Q:PV->Prop}(h:Q (fr (a+b))):Hf [fr a,fr b] Q:=by obtain⟨m1,m2,m3,_⟩:=Bd.mt (n:=0) ha hb;refine⟨m1,m2,m3,rfl,EJ _ _ (D0 (Bh a) (Bh b)) (Rh ha hb) _ ?_⟩;rw[Jd] at h;exact h
def jT:AS:=
 (Ak (AR 2 Gc (AB (AX Ex (AX Dc (AX Ao (aV 0) (aC (.int 0))) (AX Ao (aV 1) (aC (.int 1)))) (AX Dc (AX Ao (aV 1) (aC (.int 0))) (AX Ao (aV 0) (aC (.int 1))))) (AB (AX Dc (AX Ao (aV 0) (aC (.int 1))) (AX Ao (aV 1) (aC (.int 1)))) AM))))
def Ds:AF:=Ap 2 jT
def EH {a b:Rat}(ha:Bd 4000 a)(hb:Bd 4000 b){Q:PV->Prop}(h:Q (fr (a-b))):Ds [fr a,fr b] Q:=by obtain⟨m1,m2,m3,_⟩:=Bd.mt (n:=0) ha hb;refine⟨m1,m2,m3,rfl,EJ _ _ (D0 (Bh a) (Bh b)) (Rh ha hb) _ ?_⟩;rw[KB] at h;exact h
def jU:AS:=
 (Ak (AR 2 Gc (AB (AX Dc (AX Ao (aV 0) (aC (.int 0))) (AX Ao (aV 1) (aC (.int 0)))) (AB (AX Dc (AX Ao (aV 0) (aC (.int 1))) (AX Ao (aV 1) (aC (.int 1)))) AM))))
def Fe:AF:=Ap 2 jU
def Ou {a b:Rat}(ha:Bd 4000 a)(hb:Bd 4000 b){Q:PV->Prop}(h:Q (fr (a*b))):Fe [fr a,fr b] Q:=by obtain⟨_,_,m3,m4,_⟩:=Bd.mt (n:=0) ha hb;refine⟨m4,m3,rfl,EJ _ _ (D0 (Bh a) (Bh b)) (Rh ha hb) _ ?_⟩;rw[Jo] at h;exact h
def nr:AS:=
 (Ak (AR 2 Gc (AB (AX Dc (AX Ao (aV 0) (aC (.int 0))) (AX Ao (aV 1) (aC (.int 1)))) (AB (AX Dc (AX Ao (aV 0) (aC (.int 1))) (AX Ao (aV 1) (aC (.int 0)))) AM))))
def Gb:AF:=Ap 2 nr
def MC {a b:Rat}(c:b≠0)(ha:Bd 4000 a)(hb:Bd 4000 b){Q:PV->Prop}(h:Q (fr (a/b))):Gb [fr a,fr b] Q:=by obtain⟨m1,_,_,_,m5⟩:=Bd.mt (n:=0) ha hb;refine⟨m1,m5,rfl,EJ _ _ (D0 (Bh a) (X6 c)) (Ae (BU (a:=(a.den:Int)) (by simpa using ha.bot) hb.top) (by omega)) _ ?_⟩;rw[Jj] at h;exact h
def OX:AS:=
 (AY (Am (AX Ex (aC (.int 1)) (AX Dc (aC (.int 2)) (FZ bO (AB (AX ZW (aV 1) (aC (.int 0))) AM)))) (An 2))
   (Ak (Ay (AB (AX Qz (AX Dc (aV 2) (aV 0)) (aV 3)) (AB (AX Qz (AX Dc (aV 2) (aV 1)) (aV 3)) AM)))))
def OW:AS:=
 (AY (MH (Ah (AX mq (aV 4) (aC (.int 0)))) (TK 3 4 (AB (aV 4) (AB (AX bJ (aV 3) (aV 4)) AM))))
   OX)
def Uv:AS:=
 (AY (TK 3 4 (AB (FZ TW (AB (aV 0) AM)) (AB (FZ TW (AB (aV 1) AM)) AM)))
   OW)
def BK:AF:=Ap 5 Uv
def Tj (t b:Int)(hb:b≠0):∀s:Int,s=(if b<0 then -1 else 1)->(s*t).fdiv (Nat.gcd t.natAbs b.natAbs:Int)=(Rat.divInt t b).num/\(s*b).fdiv (Nat.gcd t.natAbs b.natAbs:Int)=((Rat.divInt t b).den:Int):=by
 intro s hs;have c:0<Nat.gcd t.natAbs b.natAbs:=ADj _ (by omega);have a:b.gcd t=Nat.gcd t.natAbs b.natAbs:=by rw[AFe,ADi]
 have es:b.sign=s:=by
  rw[hs];split
  .rename_i h;exact AFg h
  .exact AFK (by omega)
 rw[AEo,AFJ,AAH hb,a,es,ADS _ (by omega),ADS _ (by omega)];refine⟨rfl, ?_⟩;rw[AD8];congr 1;rw[hs];split <;> omega
def Dr (t b:Int)(hb:b≠0)(g:t.natAbs<2^900000)(d:b.natAbs<2^8900){Q:PV->Prop}(h:Q (fr (Rat.divInt t b))):BK [.int t, .int b] Q:=by
 have j:0<Nat.gcd t.natAbs b.natAbs:=ADj _ (by omega);have gl:Nat.gcd t.natAbs b.natAbs<2^8900:=ACJ (AEq (by omega) (AD7 ..)) d;have e:(1:Int)-2*(if decide (b<0)=true then 1 else 0)=(if b<0 then -1 else 1):=by by_cases z:b<0 <;> simp[z]
 obtain⟨i,a⟩:=Tj t b hb _ e;have go:∀y x:Nat,∀D:G6,∀u v w,D.nx [u,v,w,some (.val (.int (Nat.gcd x y:Nat))),some (.val (.int 0))] ->∃n,Ww (Ah (AX mq (aV 4) (aC (.int 0)))) (TK 3 4 (AB (aV 4) (AB (AX bJ (aV 3) (aV 4)) AM))) D n [u,v,w,some (.val (.int x)),some (.val (.int y))] :=by
  intro y;induction y using Nat.strongRecOn with
  | _ y ih=>
    intro x D u v w c;by_cases hy:y=0
    .subst hy;refine⟨1, ?_⟩;rw[Nat.gcd_zero_right] at c;exact c
    .obtain ⟨n,hn⟩:=ih (x % y) (Nat.mod_lt _ (by omega)) y D u v w (by rw[ADi y,<-Nat.gcd_rec,ADi y];exact c);refine⟨n+1, ?_⟩;refine Fz (b:=decide (0<(y:Int))) (λ_=> ?_) (λz=> ?_)
     .have a:(x:Int).fmod (y:Int)=((x % y:Nat):Int):=by rw[AEY _ (by omega)];simp
      refine⟨by omega, ?_⟩;rw[<-a] at hn;exact hn
     .have:¬(0:Int)<y:=ACb z;omega
 refine go b.natAbs t.natAbs _ (some (.val (.int t))) (some (.val (.int b))) none ?_;have one:(1:Int).natAbs<2^1:=by decide
 have f:((1:Int)-2*(if decide (b<0)=true then 1 else 0)).natAbs<2^1:=by rw[e];split <;> decide
 refine⟨.of (m:=2) (n:=1) (by decide) (by split <;> decide), .of f g,⟨by omega,gl⟩, .of f d,⟨by omega,gl⟩,(show 2<=sizeLine by decide), ?_⟩;unfold fr at h;rw[<-i,<-a] at h;exact h
def DF {m:Int}{Q:PV->Prop}(m0:0<m)(m1:m<4611686018427387904)(h:∀r,0<=r->r<m->Q (.int r)):BO [.tape, .int m] Q:=⟨⟨m0,m1⟩,h⟩
mutual
def okS:Nat->PV->da
 | 0,_=>false
 | _+1, .non=>true
 | _+1, .bl _=>true
 | _+1, .int _=>true
 | n+1, .tup xs=>uS n xs&&decide (xs.length<sizeLine)
 | _+1,_=>false
def uS:Nat->kj PV->da
 | _, [] =>true
 | n,x::xs=>okS n x&&uS n xs
end
def qr {t:Int}{n:Nat}(h:t.natAbs<2^n)(hn:n<=900000:=by omega):t.natAbs<2^900000:=Ae h hn
section
variable {a b:Rat}{Q:PV->Prop}
theorem pQ (ha:Bd 4000 a)(hb:Bd 4000 b)(h:Q (fr (a+b))):BK [.int (a.num*b.den+b.num*a.den), .int (a.den*b.den)] Q:=
 Dr _ _ (D0 (Bh a) (Bh b)) (qr (N3 (n:=8000) (BU ha.top hb.botI) (BU hb.top ha.botI))) (Rh ha hb) (by rw[<-Jd];exact h)
theorem pS (ha:Bd 4000 a)(hb:Bd 4000 b)(h:Q (fr (a-b))):BK [.int (a.num*b.den-b.num*a.den), .int (a.den*b.den)] Q:=
 Dr _ _ (D0 (Bh a) (Bh b)) (qr (Um (n:=8000) (BU ha.top hb.botI) (BU hb.top ha.botI))) (Rh ha hb) (by rw[<-KB];exact h)
theorem pR (ha:Bd 4000 a)(hb:Bd 4000 b)(h:Q (fr (a*b))):BK [.int (a.num*b.num), .int (a.den*b.den)] Q:=
 Dr _ _ (D0 (Bh a) (Bh b)) (qr (BU ha.top hb.top)) (Rh ha hb) (by rw[<-Jo];exact h)
end
def Uq {n:Int}{Q:PV->Prop}(h:Q (fr (n:Rat))):Q (.tup [.int n, .int 1]):=by rw[<-fE];exact h
def Bd.part {t b:Int}{n:Nat}(h:b≠0)(a:t.natAbs<2^n)(hb:b.natAbs<2^n):Bd n (Rat.divInt t b):= .divInt h a hb
def lz {a b:Nat}(h:Nat.ble a b=true:=by rfl):a<=b:=ACc h
structure Sh (d n:Nat) (x:PV):Prop where
 ok:D3 d x=true
 sh:(pd x).showable=true
 sz:(pd x).shown.length<=n
mutual
theorem Pj:∀{d e:Nat} (x:PV),d<=e->D3 d x=true->D3 e x=true
 | _,_, .non,_,_=>by simp[D3]
 | _,_, .bl _,_,_=>by simp[D3]
 | _,_, .int _,_,_=>by simp[D3]
 | _,_, .str x,_,h=>by simpa[D3] using h
 | 0,_, .tup xs,_,h=>by simp[D3] at h
 | 0,_, .lst xs,_,h=>by simp[D3] at h
 | d+1,0, .tup xs,h,_=>by omega
 | d+1,0, .lst xs,h,_=>by omega
 | d+1,e+1, .tup xs,h,k=>by simp only[D3] at k ⊢;exact Me xs (by omega) k
 | d+1,e+1, .lst xs,h,k=>by simp only[D3] at k ⊢;exact Me xs (by omega) k
 | _,_, .tape,_,h=>by simp[D3] at h
 | _,_, .scr _,_,h=>by simp[D3] at h
 | _,_, .dct _,_,h=>by simp[D3] at h
 | _,_, .ty _,_,h=>by simp[D3] at h
theorem Me:∀{d e:Nat} (xs:kj PV),d<=e->HL d xs=true->HL e xs=true
 | _,_, [],_,_=>by simp[HL]
 | _,_,x::xs,h,k=>by simp only[HL,ACA] at k ⊢;exact⟨Pj x h k.1,Me xs h k.2⟩
end
def Sh.mono {d n e m:Nat}{x:PV}(s:Sh d n x)(h1:d<=e)(h2:n<=m):Sh e m x:=⟨Pj x h1 s.ok,s.sh,ABT s.sz h2⟩
def Sh.go {d n:Nat}{x:PV}(s:Sh d n x)(h1:d<=30:=by omega)(h2:n<=16777216:=by omega):oF x:=⟨Pj x h1 s.ok,s.sh,ABT s.sz h2⟩
def Sh.int {i:Int}(h:i.natAbs<2^1900):Sh 0 1902 (.int i):=by
 refine⟨rfl, ?_, ?_⟩
 .show decide (i.natAbs.log2<1920)=true;exact ABQ (ADR (LG h (by decide)) (by decide))
 .show (Str.ofString (toString i)).length<=1902;rw[PySem.ofString_length];exact ABT (int_text_length_le (k:=1900) (by decide) (LG h (by decide))) (by decide)
theorem GU {d:Nat}:∀{xs:kj PV},(∀x∈xs,D3 d x=true)->HL d xs=true
 | [],_=>rfl
 | x::xs,h=>by simp only[HL,ACA];exact⟨h x (by simp),GU λy hy=>h y (by simp[hy])⟩
theorem Yl:∀{xs:kj PV},(∀x∈xs,(pd x).showable=true)->PyData.showableAll (Mi xs)=true
 | [],_=>rfl
 | x::xs,h=>by simp only[Mi,PyData.showableAll,ACA];exact⟨h x (by simp),Yl λy hy=>h y (by simp[hy])⟩
theorem Up {n:Nat}:∀{xs:kj PV},(∀x∈xs,(pd x).shown.length<=n)->((PyData.shownAll (Mi xs)).map (·.length)).sum<=xs.length*n
 | [],_=>by simp[Mi,PyData.shownAll]
 | x::xs,h=>by simp only[Mi,PyData.shownAll,ABJ,AD9,ABd];have h1:=h x (by simp);have h2:=Up (n:=n) (xs:=xs) λy hy=>h y (by simp[hy]);rw[AFL];omega
theorem G1:∀(xs:kj PV),(PyData.shownAll (Mi xs)).length=xs.length
 | [] =>rfl
 | x::xs=>by simp[Mi,PyData.shownAll,G1 xs]
def Sh.tup {d n:Nat}{xs:kj PV}(h:∀x∈xs,Sh d n x):Sh (d+1) (xs.length*(n+2)+3) (.tup xs):=by refine⟨by simp only[D3];exact GU λx hx=>(h x hx).ok,by simp only[pd,PyData.showable];exact Yl λx hx=>(h x hx).sh, ?_⟩;have h1:=Up (n:=n) (xs:=xs) λx hx=>(h x hx).sz;have h2:=tupleText_len_le (PyData.shownAll (Mi xs));rw[G1] at h2;simp only[pd,PyData.shown];rw[Nat.mul_add];omega
def Sh.lst {d n:Nat}{xs:kj PV}(h:∀x∈xs,Sh d n x):Sh (d+1) (xs.length*(n+2)+3) (.lst xs):=by refine⟨by simp only[D3];exact GU λx hx=>(h x hx).ok,by simp only[pd,PyData.showable];exact Yl λx hx=>(h x hx).sh, ?_⟩;have h1:=Up (n:=n) (xs:=xs) λx hx=>(h x hx).sz;have h2:=listText_len_le (PyData.shownAll (Mi xs));rw[G1] at h2;simp only[pd,PyData.shown];rw[Nat.mul_add];omega
def xi {c:Type}{P:c->Prop}{a b:c}(ha:P a)(hb:P b):∀x∈ [a,b],P x:=λx hx=>by
 simp only[AAK,ABR,ABS] at hx;rcases hx with rfl|rfl
 .exact ha
 .exact hb
def uK {d:Type}{P:d->Prop}{a b c:d}(ha:P a)(hb:P b)(hc:P c):∀x∈ [a,b,c],P x:=λx hx=>by
 simp only[AAK,ABR,ABS] at hx;rcases hx with rfl|rfl|rfl
 .exact ha
 .exact hb
 .exact hc
def uL {e:Type}{P:e->Prop}{a b c d:e}(ha:P a)(hb:P b)(hc:P c)(hd:P d):∀x∈ [a,b,c,d],P x:=λx hx=>by
 simp only[AAK,ABR,ABS] at hx;rcases hx with rfl|rfl|rfl|rfl
 .exact ha
 .exact hb
 .exact hc
 .exact hd
def Sh.fr {r:Rat}(h:Bd 1900 r):Sh 1 4000 (fr r):=(Sh.tup (xi (Sh.int h.top) (Sh.int h.botI))).mono (by omega) lz
def Fx (a b:Rat):HN (fr a) (fr b)=decide (a=b):=by
 show (PyData.eqvAll [.int a.num, .int a.den] [.int b.num, .int b.den])=_;simp only[PyData.eqvAll,PyData.eqv];by_cases h:a=b
 .subst h;simp
 .have:¬(a.num=b.num/\(a.den:Int)=b.den):=λz=>h (Rat.ext z.1 (by omega));rw[ABa h];simp only[Bool.and_true,Bool.and_eq_false_iff,AE8];by_cases h1:a.num=b.num
  .exact .inr λz=>this ⟨h1,z⟩
  .exact .inl h1
def Zz (d:Nat)(a:Rat):D3 (d+1) (fr a)=true:=rfl
def nF {a b:Rat}:decide (a.num*(b.den:Int)<b.num*(a.den:Int))=decide (a<b):=by rw[AC6];exact(Rat.lt_iff a b).symm
def dQ:AS:=
 (Ak (AX ZW (AX Dc (AX Ao (aV 0) (aC (.int 0))) (AX Ao (aV 1) (aC (.int 1)))) (AX Dc (AX Ao (aV 1) (aC (.int 0))) (AX Ao (aV 0) (aC (.int 1))))))
def Aj:AF:=Ap 2 dQ
section
variable {a b:Rat}{Q:PV->Prop}
theorem CW (ha:Bd 4000 a)(hb:Bd 4000 b)(h:Q (.bl (decide (a<b)))):Aj [fr a,fr b] Q:=by obtain⟨m1,m2,_⟩:=Bd.mt (n:=0) ha hb;refine⟨m1,m2, ?_⟩;rw[<-nF] at h;exact h
def W4:AS:=
 (Ak (AR 2 BK (AB (AX BL (AX Dc (AX Ao (aV 0) (aC (.int 0))) (AX Ao (aV 1) (aC (.int 1)))) (AX Dc (AX Ao (aV 1) (aC (.int 0))) (AX Ao (aV 0) (aC (.int 1))))) (AB (AX Dc (AX Ao (aV 0) (aC (.int 1))) (AX Ao (aV 1) (aC (.int 1)))) AM))))
def Br:AF:=Ap 2 W4
theorem JD (ha:Bd 4000 a)(hb:Bd 4000 b)(h:Q (fr (a+b))):Br [fr a,fr b] Q:=by obtain⟨m1,m2,m3,_⟩:=Bd.mt (n:=0) ha hb;exact⟨m1,m2,m3,rfl,pQ ha hb h⟩
def W3:AS:=
 (Ak (AR 2 BK (AB (AX Ex (AX Dc (AX Ao (aV 0) (aC (.int 0))) (AX Ao (aV 1) (aC (.int 1)))) (AX Dc (AX Ao (aV 1) (aC (.int 0))) (AX Ao (aV 0) (aC (.int 1))))) (AB (AX Dc (AX Ao (aV 0) (aC (.int 1))) (AX Ao (aV 1) (aC (.int 1)))) AM))))
def EE:AF:=Ap 2 W3
theorem Qo (ha:Bd 4000 a)(hb:Bd 4000 b)(h:Q (fr (a-b))):EE [fr a,fr b] Q:=by obtain⟨m1,m2,m3,_⟩:=Bd.mt (n:=0) ha hb;exact⟨m1,m2,m3,rfl,pS ha hb h⟩
def OZ:AS:=
 (Ak (AR 2 BK (AB (AX Dc (AX Ao (aV 0) (aC (.int 0))) (AX Ao (aV 1) (aC (.int 0)))) (AB (AX Dc (AX Ao (aV 0) (aC (.int 1))) (AX Ao (aV 1) (aC (.int 1)))) AM))))
def Bg:AF:=Ap 2 OZ
theorem Kk (ha:Bd 4000 a)(hb:Bd 4000 b)(h:Q (fr (a*b))):Bg [fr a,fr b] Q:=by obtain⟨m1,m2,m3,m4,_⟩:=Bd.mt (n:=0) ha hb;exact⟨m4,m3,rfl,pR ha hb h⟩
end
def wu {t b:Int}(a:0<t)(hb:0<b):0<Rat.divInt t b:=by
 rw[Rat.lt_iff];have h1:=AEo t b;show (0:Int)*_<_*1;rw[Int.zero_mul,Int.mul_one,h1,AFK hb,Int.one_mul];have g:0<(b.gcd t:Int):=by have:=Int.gcd_pos_of_ne_zero_left t (show b≠0 by omega);omega
 exact Int.ediv_pos_of_pos_of_dvd a (by omega) (Int.gcd_dvd_right ..)
def J9 {t b:Int}{Q:PV->Prop}(k:Nat)(hb:b≠0)(a:t.natAbs<2^k)(c:b.natAbs<2^k)(hk:k<=2000)(h:Bd k (Rat.divInt t b)->Q (fr (Rat.divInt t b))):BK [.int t, .int b] Q:=
 Dr t b hb (Ae a (by omega)) (Ae c (by omega)) (h (.part hb a c))
def Mul (D N:Nat)(a:Rat):Prop:=0<D/\∃k:Int,a=Rat.divInt k D/\k.natAbs<=N
def Mul.bd {D N n:Nat}{a:Rat}(h:Mul D N a)(h1:N<2^n)(h2:D<2^n):Bd n a:=by obtain⟨b,k,rfl,hk⟩:=h;exact .divInt (by omega) (by omega) (by simpa using h2)
def Mul.part {t b:Int}{c:Nat}(hb:0<b)(hc:0<c){N:Nat}(h:(t*c).natAbs<=N):Mul (b.toNat*c) N (Rat.divInt t b):=by
 refine⟨Nat.mul_pos (by omega) hc,t*c, ?_,h⟩;have e:((b.toNat*c:Nat):Int)=b*c:=by rw[AEr];congr 1;omega
 rw[e,(AFh (by omega) (D0 (by omega) (by omega)))];rw[Int.mul_comm b,Int.mul_assoc]
def Mul.add {D N M:Nat}{a b:Rat}(ha:Mul D N a)(hb:Mul D M b):Mul D (N+M) (a+b):=by obtain⟨c,k,rfl,hk⟩:=ha;obtain⟨_,l,rfl,hl⟩:=hb;refine⟨c,k+l, ?_,by omega⟩;rw[AFc _ _ (by omega) (by omega),AFh (D0 (by omega) (by omega)) (by omega)];rw[<-Int.add_mul,Int.mul_assoc]
def Mul.mono {D N M:Nat}{a:Rat}(h:Mul D N a)(b:N<=M):Mul D M a:=⟨h.1,let ⟨k,e,hk⟩:=h.2;⟨k,e,by omega⟩⟩
def Mul.int {n:Int}{D N:Nat}(a:0<D)(h:(n*D).natAbs<=N):Mul D N (n:Rat):=by
 have e:(n:Rat)=Rat.divInt n 1:=by rw[<-AC5 (n:Rat)];simp
 rw[e];have:=Mul.part (t:=n) (b:=1) (c:=D) (by decide) a h;simpa using this
def Oa:AS:=
 (AY (BE (Ah (AX ZW (aV 1) (aC (.int 3)))) (Ak (Ay (AB (AX BL (aC (.int 1)) (AR 2 BO (AB (aV 0) (AB (aC (.int 5)) AM)))) (AB (aC (.int 1)) AM)))) Av)
   (Ak (AR 2 BK (AB (AX BL (aC (.int 1)) (AR 2 BO (AB (aV 0) (AB (aC (.int 8)) AM)))) (AB (AX Ex (aV 1) (aC (.int 1))) AM)))))
def Uw:AS:=
 (AY (Am (AR 2 BO (AB (aV 0) (AB (aC (.int 5)) AM))) (An 1))
   Oa)
def CV:AF:=Ap 2 Uw
def HB {Q:PV->Prop}(h:∀a,Bd 8 a->0<a->Mul 6 48 a->Q (fr a)):CV [.tape] Q:=by
 refine⟨rfl,DF (by decide) (by decide) λw f g=> ?_⟩;refine Fz (b:=decide (w<3)) (λ_=> ?_) (λz=> ?_)
 .refine ⟨rfl,DF (by decide) (by decide) λr d r1=>⟨lz, ?_⟩⟩;exact Uq (h _ (.int (by omega) (by decide)) (by exact_mod_cast (by omega:(0:Int)<1+r)) (.int (by decide) (by omega)))
 .have i:¬w<3:=ACb z;have hw:w-1=2\/w-1=3:=by omega
  refine⟨rfl,DF (by decide) (by decide) λr d r1=>⟨rfl, ?_⟩⟩;refine J9 8 (by omega) (by omega) (by omega) (by decide) λb=>h _ b (wu (by omega) (by omega)) ?_;rcases hw with e|e
  .rw [e];exact Mul.part (t:=1+r) (b:=2) (c:=3) (by decide) (by decide) (by omega)
  .rw [e];exact Mul.part (t:=1+r) (b:=3) (c:=2) (by decide) (by decide) (by omega)
def NX:AS:=
 (AY (BE (Ah (AX KG (aV 1) (aC (.int 6)))) (Ak (AR 2 BK (AB (AX Ex (AR 2 BO (AB (aV 0) (AB (aC (.int 25)) AM))) (aC (.int 6))) (AB (aC (.int 2)) AM)))) Av)
   (Ak (AR 2 BK (AB (AX Ex (AR 2 BO (AB (aV 0) (AB (aC (.int 31)) AM))) (aC (.int 9))) (AB (aC (.int 3)) AM)))))
def NW:AS:=
 (AY (BE (Ah (AX ZW (aV 1) (aC (.int 6)))) (Ak (Ay (AB (AX Ex (AR 2 BO (AB (aV 0) (AB (aC (.int 10)) AM))) (aC (.int 3))) (AB (aC (.int 1)) AM)))) Av)
   NX)
def SV:AS:=
 (AY (Am (AR 2 BO (AB (aV 0) (AB (aC (.int 8)) AM))) (An 1))
   NW)
def A5:AF:=Ap 2 SV
def BB {Q:PV->Prop}(h:∀a,Mul 6 60 a->Q (fr a)):A5 [.tape] Q:=by
 refine⟨rfl,DF (by decide) (by decide) λw e f=> ?_⟩;refine Fz (b:=decide (w<6)) (λ_=> ?_) (λz=> ?_)
 .refine ⟨rfl,DF (by decide) (by decide) λr d r1=>⟨lz, ?_⟩⟩;exact Uq (h _ (.int (by decide) (by omega)))
 refine Fz (b:=decide (w=6)) (λ_=> ?_) (λz=> ?_)
 .exact ⟨rfl,DF (by decide) (by decide) λr d r1=>⟨rfl,J9 8 (by omega) (by omega) (by omega) (by decide) λb=>h _ (Mul.part (t:=r-6) (b:=2) (c:=3) (by decide) (by decide) (by omega))⟩⟩
 .exact ⟨rfl,DF (by decide) (by decide) λr d r1=>⟨rfl,J9 8 (by omega) (by omega) (by omega) (by decide) λb=>h _ (Mul.part (t:=r-9) (b:=3) (c:=2) (by decide) (by decide) (by omega))⟩⟩
abbrev C4:=Rat×Rat×Rat×Rat
def cor (c:C4):PV:= .tup [fr c.1,fr c.2.1,fr c.2.2.1,fr c.2.2.2]
def corL (c:C4):PV:= .lst [fr c.1,fr c.2.1,fr c.2.2.1,fr c.2.2.2]
def Aq (cs:kj C4):PV:= .tup (cs.map cor)
structure Dp (B:Nat) (c:C4):Prop where
 m:Bd B c.1
 x:Bd B c.2.1
 y:Bd B c.2.2.1
 z:Bd B c.2.2.2
def Dp.mono {B a:Nat}{c:C4}(h:Dp B c)(k:B<=a):Dp a c:=⟨h.m.mono k,h.x.mono k,h.y.mono k,h.z.mono k⟩
structure Oi (D N:Nat) (c:C4):Prop where
 m:Mul D N c.1
 x:Mul D N c.2.1
 y:Mul D N c.2.2.1
 z:Mul D N c.2.2.2
def Oi.mono {D N M:Nat}{c:C4}(h:Oi D N c)(k:N<=M):Oi D M c:=⟨h.m.mono k,h.x.mono k,h.y.mono k,h.z.mono k⟩
def Oi.bd {D N n:Nat}{c:C4}(h:Oi D N c)(h1:N<2^n)(h2:D<2^n):Dp n c:=⟨h.m.bd h1 h2,h.x.bd h1 h2,h.y.bd h1 h2,h.z.bd h1 h2⟩
def Et (cs:kj C4):Prop:=cs.Pairwise λa b=>a.1<b.1
structure Oy (n D N:Nat) (cs:List C4):Prop where
 two:2<=cs.length
 few:cs.length<=n
 mu:∀c∈cs,Oi D N c
 ris:Et cs
structure Ge (n B:Nat) (cs:List C4):Prop where
 two:2<=cs.length
 few:cs.length<=n
 bd:∀c∈cs,Dp B c
 ris:Et cs
def Tu (a:Rat):cN (fr a)=true:=rfl
def iG {cs:kj C4}{c d:C4}(h:Et (cs ++ [c]))(hd:c.1<d.1):Et (cs ++ [c] ++ [d]):=by
 refine ADk.mpr ⟨h,by simp,λa ha b hb=> ?_⟩;simp at hb;subst hb;rcases ABI.mp ha with ha|ha
 .have:=(ADk.mp h).2.2 a ha c (by simp);grind
 .simp at ha;subst ha;exact hd
def oR {cs:kj C4}{i:Int}{k:Nat}(hk:i=(k:Int))(h:k<=cs.length):Il (cs.map cor) none (some i)=(cs.take k).map cor:=by unfold Il;rw[hk,HT.sIx_none,HT.sIx_nat];rw[show min k (cs.map cor).length=k by simp;omega,AEA];simp
def eh {cs:kj C4}{i:Int}{k:Nat}(hk:i=(k:Int))(h:k<=cs.length):Il (cs.map cor) (some i) none=(cs.drop k).map cor:=by unfold Il;rw[hk,HT.sIx_none,HT.sIx_nat];rw[show min k (cs.map cor).length=k by simp;omega,ADl];exact AEg (by simp)
def u9 {cs:kj C4}{i:Int}{k:Nat}{Q:PV->Prop}(hk:i=(k:Int))(h:k<=cs.length)(q:Q (Aq (cs.take k))):ZX (Aq cs) none (some i) Q:=by refine Ie ?_;rw[oR hk h];exact q
def mH {cs:kj C4}{i:Int}{k:Nat}{Q:PV->Prop}(hk:i=(k:Int))(h:k<=cs.length)(q:Q (Aq (cs.drop k))):ZX (Aq cs) (some i) none Q:=by refine Ie ?_;rw[eh hk h];exact q
def VZ {cs ds:kj C4}{Q:PV->Prop}(h:cs.length+ds.length<=10000)(q:Q (Aq (cs++ds))):BL (Aq cs) (Aq ds) Q:=by
 refine⟨?_, ?_⟩
 .simp only[ABL];exact ABT h (by decide)
 .show Q (.tup (cs.map cor++ds.map cor));rw[<-ABV];exact q
def Oy.ok {n D N m:Nat}{cs:kj C4}(p:Oy n D N cs)(h1:N<2^m)(h2:D<2^m):Ge n m cs:=⟨p.two,p.few,λc hc=>(p.mu c hc).bd h1 h2,p.ris⟩
def BI (cs:kj C4)(v:PV):Prop:=∃f:C4->PV,(f=cor\/f=corL)/\(v= .tup (cs.map f)\/v= .lst (cs.map f))
def BI.self (cs:kj C4):BI cs (Aq cs):=⟨cor, .inl rfl, .inl rfl⟩
def BI.lists (cs:kj C4):BI cs (.lst (cs.map corL)):=⟨corL, .inr rfl, .inr rfl⟩
def BI.list (cs:kj C4):BI cs (.lst (cs.map cor)):=⟨cor, .inl rfl, .inr rfl⟩
theorem Dx {i l:Type}{g:AG}{te:AE}{d:BD}{Q:kj PV->Prop}(f:i->PV)(k:l->PV)(e:i->l)(P:i->Prop)(hs:∀a,P a->∀R:PV->Prop,R (k (e a))->g (f a) d λj=>te j R):∀(xs:kj i) (c:kj PV),(∀a∈xs,P a)->Q (c++(xs.map e).map k)->DI g FH te d Q (xs.map f) c
 | [],c,_,h=>(by simpa using h:Q c)
 | a::xs,c,hp,h=>by refine hs a (hp a (by simp)) (λy=>DI g FH te d Q (xs.map f) (c ++ [y])) (Dx f k e P hs xs _ (λb hb=>hp b (by simp[hb])) ?_);simpa using h
def Sh.cor {c:C4}(h:Dp 1900 c):Sh 2 17000 (cor c):=(Sh.tup (uL (Sh.fr h.m) (Sh.fr h.x) (Sh.fr h.y) (Sh.fr h.z))).mono (by decide) lz
def Sh.corL {c:C4}(h:Dp 1900 c):Sh 2 17000 (corL c):=(Sh.lst (uL (Sh.fr h.m) (Sh.fr h.x) (Sh.fr h.y) (Sh.fr h.z))).mono (by decide) lz
abbrev T3:=Rat×Rat×Rat
def inter (a b:C4)(m:Rat):T3:=(a.2.1+(m-a.1)/(b.1-a.1)*(b.2.1-a.2.1),a.2.2.1+(m-a.1)/(b.1-a.1)*(b.2.2.1-a.2.2.1),a.2.2.2+(m-a.1)/(b.1-a.1)*(b.2.2.2-a.2.2.2))
def spotG:C4->kj C4->Rat->kc T3
 | _, [],_=>none
 | a,b::r,m=>if b.1<m then spotG b r m else some (inter a b m)
def spotC:kj C4->Rat->kc T3
 | [],_=>none
 | a::r,m=>if m<a.1 then none else spotG a r m
def vC (t:T3):PV:= .tup [fr t.1,fr t.2.1,fr t.2.2]
def SH:kc T3->PV
 | none=> .non
 | some t=>vC t
structure EN (B:Nat) (t:T3):Prop where
 x:Bd B t.1
 y:Bd B t.2.1
 z:Bd B t.2.2
def EN.mono {B a:Nat}{t:T3}(h:EN B t)(k:B<=a):EN a t:=⟨h.x.mono k,h.y.mono k,h.z.mono k⟩
section
variable {B M:Nat}{a b:C4}{m:Rat}
theorem Yx {x y:Rat}(h:x<y):y-x≠0:=by grind
theorem Bd.share (ha:Dp B a)(hb:Dp B b)(c:Bd M m)(h:a.1<b.1):Bd (M+B+1+(B+B+1)) ((m-a.1)/(b.1-a.1)):=(c.sub ha.m).div (Yx h) (hb.m.sub ha.m)
theorem EN.inter (ha:Dp B a)(hb:Dp B b)(c:Bd M m)(h:a.1<b.1):EN (M+6*B+10) (inter a b m):=by have s:=Bd.share ha hb c h;exact⟨(ha.x.add (s.mul (hb.x.sub ha.x))).mono (by omega),(ha.y.add (s.mul (hb.y.sub ha.y))).mono (by omega),(ha.z.add (s.mul (hb.z.sub ha.z))).mono (by omega)⟩
end
theorem EN.spotG {B M:Nat}{m:Rat}(d:Bd M m):∀{a:C4} {r:kj C4},Et (a::r)->(∀c∈a::r,Dp B c)->∀t,spotG a r m=some t->EN (M+6*B+10) t
 | a, [],_,_,t,e=>by cases e
 | a,b::r,hr,hb,t,e=>by
   unfold PL.spotG at e;split at e
   .exact EN.spotG d (ABE.mp hr).2 (λc hc=>hb c (by simp[hc])) t e
   .cases e;exact .inter (hb a (by simp)) (hb b (by simp)) d ((ABE.mp hr).1 b (by simp))
def EN.spotC {B M:Nat}{m:Rat}{cs:kj C4}(b:Bd M m)(d:Et cs)(hb:∀c∈cs,Dp B c):∀t,spotC cs m=some t->EN (M+6*B+10) t:=λt e=>by
 cases cs with
 | nil=>cases e
 | cons a r=>
   simp only[PL.spotC] at e;split at e
   .cases e
   .exact EN.spotG b d hb t e
def Gi {f:C4->PV}{cs:kj C4}{i:Int}{k:Nat}{c:C4}{Q:PV->Prop}(hk:i=(k:Int))(e:cs[k]? =some c)(h:Q (f c)):gZ (Je (cs.map f) i) Q:=by have q:Je (cs.map f) ((k:Nat):Int)=some (f c):=DE (by rw[ABw,e] <;> rfl);rw[hk,q];exact h
def K7 {f:C4->PV}{cs:kj C4}{c:C4}{Q:PV->Prop}(e:cs.getLast?=some c)(h:Q (f c)):gZ (Je (cs.map f) (-1)) Q:=by
 have a:cs≠ [] :=by intro z;subst z;cases e
 have hl:0<cs.length:=List.length_pos_iff.mpr a;have q:Je (cs.map f) (-1)=some (f c):=by
  unfold Je V3;rw[ABL,AAH (by decide),AAJ (by omega)];have b:(-1+(cs.length:Int)).toNat=cs.length-1:=by omega
  rw[Option.bind_some,b,ABw,<-AFi,e];rfl
 rw[q];exact h
def Oe:AS:=
 (AY (Am (AR 2 Gb (AB (AR 2 Ds (AB (aV 2) (AB (AX Ao (aV 0) (aC (.int 0))) AM))) (AB (AR 2 Ds (AB (AX Ao (aV 1) (aC (.int 0))) (AB (AX Ao (aV 0) (aC (.int 0))) AM))) AM))) (An 3))
   (Ak (FZ Co (AB (FX (C1 (sZ (AB (dG (aV 0) (dI (aC (.int 1))) dH) (AB (dG (aV 1) (dI (aC (.int 1))) dH) AM))) 2 [3] (HD 2 (AZ (An 0) (AZ (An 1) BY))) FH (AR 2 Hf (AB (aV 0) (AB (AR 2 Fe (AB (aV 2) (AB (AR 2 Ds (AB (aV 1) (AB (aV 0) AM))) AM))) AM))))) AM))))
def Dt:AF:=Ap 4 Oe
def Kr {f:C4->PV}(i:f=cor\/f=corL){a b:C4}{B M:Nat}{m:Rat}(ha:Dp B a)(hb:Dp B b)(c:Bd M m)(h:a.1<b.1)(k:M+6*B+10<=3990){Q:PV->Prop}(q:Q (vC (inter a b m))):Dt [f a,f b,fr m] Q:=by
 simp only[vC,inter] at q;have s:=Bd.share ha hb c h;have key:DI (HD 2 (AZ (An 0) (AZ (An 1) BY))) FH (AR 2 Hf (AB (aV 0) (AB (AR 2 Fe (AB (aV 2) (AB (AR 2 Ds (AB (aV 1) (AB (aV 0) AM))) AM))) AM))) [none,none,some (.val (fr ((m-a.1)/(b.1-a.1))))] (λxs=>Q (.tup xs))
  ([(a.2.1,b.2.1),(a.2.2.1,b.2.2.1),(a.2.2.2,b.2.2.2)].map λp:Rat×Rat=>PV.tup [fr p.1,fr p.2]) [] :=by refine Dx (λp:Rat×Rat=>PV.tup [fr p.1,fr p.2]) fr (λp=>p.1+(m-a.1)/(b.1-a.1)*(p.2-p.1)) (λp=>Bd B p.1/\Bd B p.2) (λp hp R j=> ?_) _ [] (uK ⟨ha.x,hb.x⟩ ⟨ha.y,hb.y⟩ ⟨ha.z,hb.z⟩) q;have d:=hp.1;have g:=hp.2;exact⟨rfl,rfl,EH (g.mono (by omega)) (d.mono (by omega)) ⟨rfl,Ou (s.mono (by omega)) ((g.sub d).mono (by omega)) ⟨rfl,RU (d.mono (by omega)) ((s.mul (g.sub d)).mono (by omega)) j⟩⟩⟩
 have m1:=c.mono (n:=4000) (by omega);have e:=ha.m.mono (n:=4000) (by omega);have b1:=hb.m.mono (n:=4000) (by omega);rcases i with rfl|rfl
 .exact ⟨rfl,EH m1 e ⟨rfl,EH b1 e ⟨rfl,MC (Yx h) ((c.sub ha.m).mono (by omega)) ((hb.m.sub ha.m).mono (by omega)) (Ie (Ie ⟨lz,key⟩))⟩⟩⟩
 .exact ⟨rfl,EH m1 e ⟨rfl,EH b1 e ⟨rfl,MC (Yx h) ((c.sub ha.m).mono (by omega)) ((hb.m.sub ha.m).mono (by omega)) (Ey (Ey ⟨lz,key⟩))⟩⟩⟩
def S6:AS:=
 (AY (Du (jm (AB (aC (.int 1)) (AB (FZ FN (AB (aV 0) AM)) AM))) (An 2) (BE (Ca (Ah (AR 2 Aj (AB (AX Ao (AX Ao (aV 0) (aV 2)) (aC (.int 0))) (AB (aV 1) AM))))) (Ak (AR 3 Dt (AB (AX Ao (aV 0) (AX Ex (aV 2) (aC (.int 1)))) (AB (AX Ao (aV 0) (aV 2)) (AB (aV 1) AM))))) Av))
   (Ak (aC .non)))
def af:AS:=
 (AY (BE (Ah (AR 2 Aj (AB (aV 1) (AB (AX Ao (AX Ao (aV 0) (aC (.int 0))) (aC (.int 0))) AM)))) (Ak (aC .non)) Av)
   S6)
def Di:AF:=Ap 3 af
def UL {cs:kj C4}(h:Et cs){k:Nat}{a b:C4}(c:cs[k]? =some a)(d:cs[k+1]? =some b):a.1<b.1:=by have h1:=(ABc.mp c);have h2:=(ABc.mp d);obtain⟨e,rfl⟩:=h1;obtain⟨f,rfl⟩:=h2;exact AFM.mp h k (k+1) e f (by omega)
def Ch {cs:kj C4}{v:PV}{B M:Nat}{m:Rat}(hv:BI cs v)(hc:∀c∈cs,Dp B c)(A:Et cs)(C:cs≠ [])(hl:cs.length<=1000)(s:Bd M m)(D:M+6*B+10<=3990){Q:PV->Prop}(q:Q (SH (spotC cs m))):Di [v,fr m] Q:=by
 obtain⟨f,t,hv⟩:=hv;have m1:=s.mono (n:=4000) (by omega);cases cs with
 | nil=>exact absurd rfl C
 | cons a r=>
   have E:=hc a (by simp);have F:=E.m.mono (n:=4000) (by omega);simp only[spotC] at q;have G:r.length+1<=1000:=hl;have u:∀(c:C4) (P:PV->Prop),P (fr c.1)->Uu (f c) λys=>gZ (Je ys 0) P:=λc P H=>by rcases t with rfl|rfl <;> exact H
   rcases hv with rfl|rfl;all_goals
    refine Gi (k:=0) (c:=a) rfl rfl (u a _ ⟨rfl,CW m1 F ?_⟩);refine Fz (b:=decide (m<a.1)) (λz=> ?_) (λz=> ?_)
    .rw [AAJ (ABx z)] at q;exact q
    .rw [AAH (ACb z)] at q;have i:∀f:C4->PV,((((a::r).map f).length:Nat):Int)=r.length+1:=λf=>by simp
     refine⟨⟨by decide,by decide,by rw[i];omega,by rw[i];omega⟩, ?_⟩;rw[i,show ((r.length:Int)+1-1).toNat=r.length by omega];refine K6 (λw τ=>∃(k:Nat) (j:kc AV) (c:C4) (ds:kj C4),w=rng ((k:Int)+1) ds.length/\(a::r)[k]? =some c/\(a::r).drop (k+1)=ds/\spotG c ds m=spotG a r m/\τ= [some (.val _),some (.val (fr m)),j]) ?_ ?_ _ _ ⟨0,none,a,r,rfl,rfl,rfl,rfl,rfl⟩
     .rintro τ ⟨k,j,c,ds,g,h,o,es,rfl⟩;have:ds= [] :=by
       cases ds with
       | nil=>rfl
       | cons d ds=>rw[ABd,LQ] at g;cases g
      subst this;rw[<-es] at q;exact q
     .rintro x w τ R I ⟨k,j,c,ds,g,h,o,es,rfl⟩;cases ds with
      | nil=>cases g
      | cons d ds=>
        rw[ABd,LQ] at g;cases g;have e:(a::r)[k+1]? =some d:=by have:=congrArg (λl=>l[0]?) o;simpa[ADm] using this
        have y:=hc d (AB8 e);have J:=hc c (AB8 h);refine Gi (k:=k+1) (by omega) e (u d _ ⟨rfl,CW (y.m.mono (by omega)) m1 ?_⟩);refine Fz (b:= !decide (d.1<m)) (λz=> ?_) (λz=> ?_)
        .have p:¬d.1<m:=by simpa using z
         rw[<-es] at q;simp only[spotG,AAH p,SH] at q;exact Gi (k:=k) (by omega) h (Gi (k:=k+1) (by omega) e ⟨rfl,Kr t J y s (UL A h e) D q⟩)
        .have p:d.1<m:=by simpa using z
         refine I _ ⟨k+1,_,d,ds, ?_,e, ?_, ?_,rfl⟩
         .rw [show (((k+1:Nat):Int)+1)=(k:Int)+1+1 by omega]
         .have:=congrArg List.tail o;simpa[List.tail_drop] using this
         .rw [<-es];simp only[spotG,AAJ p]
def Hr {a b:C4}(h:a.1<b.1):inter a b a.1=a.2:=by
 have s:(a.1-a.1)/(b.1-a.1)=0:=by grind
 simp only[inter,s];obtain⟨m,x,y,z⟩:=a;show (x+0*(b.2.1-x),y+0*(b.2.2.1-y),z+0*(b.2.2.2-z))=(x,y,z);rw[show x+0*(b.2.1-x)=x by grind,show y+0*(b.2.2.1-y)=y by grind,show z+0*(b.2.2.2-z)=z by grind]
def Gk {a b:C4}(h:a.1<b.1):inter a b b.1=b.2:=by
 have s:(b.1-a.1)/(b.1-a.1)=1:=by grind
 simp only[inter,s];obtain⟨m,x,y,z⟩:=b;show (a.2.1+1*(x-a.2.1),a.2.2.1+1*(y-a.2.2.1),a.2.2.2+1*(z-a.2.2.2))=(x,y,z);rw[show a.2.1+1*(x-a.2.1)=x by grind,show a.2.2.1+1*(y-a.2.2.1)=y by grind,show a.2.2.2+1*(z-a.2.2.2)=z by grind]
theorem Ld:∀{a:C4} {r:kj C4},Et (a::r)->∀c∈r,spotG a r c.1=some c.2
 | a, [],_,c,hc=>by cases hc
 | a,b::r,hr,c,hc=>by
   have e:=(ABE.mp hr).1 b (by simp);have d:Et (b::r):=(ABE.mp hr).2;rcases AAK.mp hc with rfl|hc
   .have:¬c.1<c.1:=by grind
    simp only[spotG,AAH this,Gk e]
   .have:b.1<c.1:=(ABE.mp d).1 c hc;simp only[spotG,AAJ this];exact Ld d c hc
def Uj {cs:kj C4}(d:Et cs)(h2:2<=cs.length):∀c∈cs,spotC cs c.1=some c.2:=λc hc=>by
 match cs,d,h2,hc with
 | a::b::r,d,_,hc=>
   have e:=(ABE.mp d).1 b (by simp);rcases AAK.mp hc with rfl|hc
   .have h1:¬c.1<c.1:=by grind
    have f:¬b.1<c.1:=by grind
    simp only[spotC,spotG,AAH h1,AAH f,Hr e]
   .have h1:¬c.1<a.1:=by have:=(ABE.mp d).1 c hc;grind
    simp only[spotC,AAH h1];exact Ld d c hc
def oF.t3 {t:T3}(h:EN 1900 t):oF (vC t):=(Sh.tup (uK (Sh.fr h.x) (Sh.fr h.y) (Sh.fr h.z))).go (by decide) lz
def sp (cs:kj C4)(m:Rat):C4:=(m,(spotC cs m).getD (0,0,0))
def IU (f t:Rat)(c:C4):da:=decide (f<c.1)&&decide (c.1<t)
def DJ (cs:kj C4)(f t:Rat):kj C4:=sp cs f::(cs.filter (IU f t) ++ [sp cs t])
theorem QO {m:Rat}:∀{a:C4} {r:kj C4} {l:C4},r≠ [] ->(a::r).getLast?=some l->m<=l.1->∃t,spotG a r m=some t
 | a, [],l,h,_,_=>absurd rfl h
 | a,b::r,l,_,e,hm=>by
   simp only[spotG];split
   .rename_i h;cases r with
    | nil=>
      have:b=l:=by simpa using e
      subst this;grind
    | cons c r=>exact QO (l:=l) (by simp) (by simpa[AEB] using e) hm
   .exact ⟨_,rfl⟩
def Df {a:C4}{r:kj C4}{l:C4}{m:Rat}(h2:r≠ [])(e:(a::r).getLast?=some l)(b:a.1<=m)(h1:m<=l.1):∃t,spotC (a::r) m=some t:=by simp only[spotC];rw[AAH (by grind)];exact QO h2 e h1
def LP:C4->kj C4->Rat->kj C4
 | a, [],f=> [a]
 | a,b::r,f=>if b.1<=f then LP b r f else (f,inter a b f)::b::r
def E8 {a b l:C4}{r:kj C4}(e:(a::b::r).getLast?=some l):(b::r).getLast?=some l:=by simpa[AEB] using e
def SJ {a b:C4}{r:kj C4}{t:Rat}(h:Et (a::b::r))(f:r≠ [])(i:b.1<=t):spotC (b::r) t=spotC (a::b::r) t:=by
 have g:=(ABE.mp h).1 b (by simp);simp only[spotC];rw[AAH (by grind),AAH (by grind)];simp only[spotG];split
 .rfl
 .have e:t=b.1:=by grind
  subst e;rw[Gk g];match r,f with
  | c::r,_=> have d:=(ABE.mp (ABE.mp h).2).1 c (by simp);simp only[spotG];rw[AAH (by grind),Hr d]
def Xo {a b f t c d:Rat}(h1:a<b)(h2:f<b):(c+(f-a)/(b-a)*(d-c))+(t-f)/(b-f)*(d-(c+(f-a)/(b-a)*(d-c)))=c+(t-a)/(b-a)*(d-c):=by
 have e:b-a≠0:=by grind
 have g:b-f≠0:=by grind
 grind
def Vy {a b:C4}{f t:Rat}(h1:a.1<b.1)(h2:f<b.1):inter (f,inter a b f) b t=inter a b t:=by simp only[inter];rw[Xo h1 h2,Xo h1 h2,Xo h1 h2]
def filter_all {r:kj C4}{l:C4}{f:Rat}:∀{b:C4},Et (b::r)->(b::r).getLast?=some l->f<b.1->(b::r).filter (IU f l.1) ++ [l] =b::r:=by
 induction r with
 | nil=>
   intro b _ e _;have:b=l:=by simpa using e
   subst this;have:IU f b.1 b=false:=by simp[IU]
   simp[this]
 | cons c r ih=>
   intro b h e a;have hb:=(ABE.mp h).1;have e':=E8 e;have hl:=hb l (ACB e');have q:IU f l.1 b=true:=by simp[IU];exact⟨a,hl⟩
   rw[ABg,AAJ q,AEC,ih (ABE.mp h).2 e' (by have:=hb c (by simp);grind)]
theorem Ps:∀{a:C4} {r:kj C4} {l:C4} {f:Rat},Et (a::r)->(a::r).getLast?=some l->a.1<=f->f<l.1->DJ (a::r) f l.1=LP a r f
 | a, [],l,f,_,e,h0,h1=>by
   have:a=l:=by simpa using e
   subst this;grind
 | a,b::r,l,f,h,e,h0,h1=>by
   have hb:=(ABE.mp h).1;have k:=hb b (by simp);have e':=E8 e;have h':=(ABE.mp h).2;have j:=hb l (ACB e');have i:IU f l.1 a=false:=by simp[IU];grind
   have g:∀(x:C4) (q:kj C4),Et (x::q)->q≠ [] ->(x::q).getLast?=some l->sp (x::q) l.1=l:=λx q c hq hl=>by have:spotC (x::q) l.1=some l.2:=Uj c (by cases q with | nil=>exact absurd rfl hq|cons _ _=>simp) l (ACB hl);simp only[sp,this,AEs]
   simp only[LP];by_cases d:b.1<=f
   .rw [AAJ d];have c:r≠ [] :=by
     intro z;subst z;have:b=l:=by simpa using e'
     subst this;grind
    rw[<-Ps h' e' d h1];unfold DJ;rw[ABg,AAH (by simp[i]),g _ _ h (by simp) e,g _ _ h' c e'];simp only[sp];rw[SJ h c d]
   .rw [AAH d];unfold DJ;rw[ABg,AAH (by simp[i]),g _ _ h (by simp) e,filter_all h' e' (by grind)];have:spotC (a::b::r) f=some (inter a b f):=by simp only[spotC,spotG];rw[AAH (by grind),AAH (by grind)]
    simp only[sp,this,AEs]
theorem P3:∀{a:C4} {r:kj C4} {l:C4} {f t:Rat},Et (a::r)->(a::r).getLast?=some l->a.1<=f->f<l.1->f<=t->spotC (LP a r f) t=spotC (a::r) t
 | a, [],l,f,t,_,e,h0,h1,_=>by
   have:a=l:=by simpa using e
   subst this;grind
 | a,b::r,l,f,t,h,e,h0,h1,ht=>by
   have hb:=(ABE.mp h).1;have d:=hb b (by simp);have e':=E8 e;have h':=(ABE.mp h).2;simp only[LP];by_cases c:b.1<=f
   .rw [AAJ c];have g:r≠ [] :=by
     intro z;subst z;have:b=l:=by simpa using e'
     subst this;grind
    rw[P3 h' e' c h1 ht];exact SJ h g (by grind)
   .rw [AAH c];simp only[spotC,spotG];rw[AAH (show ¬t<f by grind),AAH (show ¬t<a.1 by grind),Vy d (by grind)]
theorem Rz:∀{a:C4} {r:kj C4} {f:Rat},Et (a::r)->Et (LP a r f)
 | a, [],f,h=>h
 | a,b::r,f,h=>by
   simp only[LP];split
   .exact Rz (ABE.mp h).2
   .rename_i d;have h':=(ABE.mp h).2;refine ABE.mpr ⟨λc hc=> ?_,h'⟩;show f<c.1;rcases AAK.mp hc with rfl|hc
    .grind
    .have:=(ABE.mp h').1 c hc;grind
theorem P1:∀{a:C4} {r:kj C4} {l:C4} {f:Rat},(a::r).getLast?=some l->(LP a r f).getLast?=some l
 | a, [],l,f,e=>e
 | a,b::r,l,f,e=>by
   simp only[LP];split
   .exact P1 (E8 e)
   .rw [AEB];exact E8 e
def mx (b a:Rat):Rat:=if b<a then a else b
def mn (e l:Rat):Rat:=if e<l then e else l
def LI (cs:kj C4)(f t:Rat):kc (kj C4):=if f<t then some (DJ cs f t) else none
def Rx:kc (kj C4)->PV
 | none=> .non
 | some ds=>Aq ds
def OS:AS:=
 (Ak (mf (Ah (AR 2 Aj (AB (aV 0) (AB (aV 1) AM)))) (aV 1) (aV 0)))
def BR:AF:=Ap 2 OS
def Fd {a b:Rat}(ha:Bd 4000 a)(hb:Bd 4000 b){Q:PV->Prop}(q:Q (fr (mx a b))):BR [fr a,fr b] Q:=by
 refine⟨rfl,CW ha hb ?_⟩;refine Fz (b:=decide (a<b)) (λz=> ?_) (λz=> ?_)
 .rw [mx,AAJ (ABx z)] at q;exact q
 .rw [mx,AAH (ACb z)] at q;exact q
def dS:AS:=
 (Ak (mf (Ah (AR 2 Aj (AB (aV 1) (AB (aV 0) AM)))) (aV 1) (aV 0)))
def Eg:AF:=Ap 2 dS
def NG {a b:Rat}(ha:Bd 4000 a)(hb:Bd 4000 b){Q:PV->Prop}(q:Q (fr (mn a b))):Eg [fr a,fr b] Q:=by
 refine⟨rfl,CW hb ha ?_⟩;refine Fz (b:=decide (b<a)) (λz=> ?_) (λz=> ?_)
 .have c:=ABx z;rw[show mn a b=b by unfold mn;split <;> grind] at q;exact q
 .have c:=ACb z;rw[show mn a b=a by unfold mn;split <;> grind] at q;exact q
theorem EQ {i:Type}{g:AG}{j:AT}{te:AE}{d:BD}{Q:kj PV->Prop}(f k:i->PV)(p:i->da)(P:i->Prop)(hs:∀a,P a->∀(R:PV->Prop) (N:Prop),(p a=true->R (k a))->(p a=false->N)->g (f a) d λe=>j e λok=>if ok=true then te e R else N):∀(xs:kj i) (c:kj PV),(∀a∈xs,P a)->Q (c++(xs.filter p).map k)->DI g j te d Q (xs.map f) c
 | [],c,_,h=>(by simpa using h:Q c)
 | a::xs,c,hp,h=>by
   refine hs a (hp a (by simp)) (λy=>DI g j te d Q (xs.map f) (c ++ [y])) _ (λz=> ?_) (λz=> ?_)
   .exact EQ f k p P hs xs _ (λb hb=>hp b (by simp[hb])) (by simpa[ABg,z] using h)
   .exact EQ f k p P hs xs _ (λb hb=>hp b (by simp[hb])) (by simpa[ABg,z] using h)
def both {f t:Rat}{c:C4}{b:(da->Prop)->Prop}{A:Prop}{N:Prop}(h1:IU f t c=true->A)(h2:IU f t c=false->N):if decide (f<c.1)=true then (if decide (c.1<t)=true then A else N) else N:=by unfold IU at h1 h2;refine Fz (λz=>Fz (λa=>h1 (by rw[z,a];rfl)) (λa=>h2 (by rw[z,a];rfl))) (λz=>h2 (by rw[z];rfl))
def KW:AS:=
 (Ak (FX (C1 (HM (aV 0)) 1 [1,2] (An 0) (Ff (Ah (AR 2 Aj (AB (aV 1) (AB (AX Ao (aV 0) (aC (.int 0))) AM)))) (Ah (AR 2 Aj (AB (AX Ao (aV 0) (aC (.int 0))) (AB (aV 2) AM))))) (FZ Co (AB (aV 0) AM)))))
def Bj:AF:=Ap 3 KW
def Cy {cs:kj C4}{v:PV}{B:Nat}{f t:Rat}(hv:BI cs v)(hl:cs.length<=1000)(hc:∀c∈cs,Dp B c)(h:B<=4000)(i:Bd 4000 f)(j:Bd 4000 t){Q:PV->Prop}(q:Q (.lst ((cs.filter (IU f t)).map cor))):Bj [v,fr f,fr t] Q:=by
 obtain⟨g,k,hv⟩:=hv;have a:(cs.map g).length<sizeLine:=by rw[ABL];exact ACJ hl (by decide)
 have key:∀(c:C4),Dp B c->∀(R:PV->Prop) (N:Prop),(IU f t c=true->R (cor c))->(IU f t c=false->N)->
  (An 0) (g c) [none,some (.val (fr f)),some (.val (fr t))] λd=>(Ff (Ah (AR 2 Aj (AB (aV 1) (AB (AX Ao (aV 0) (aC (.int 0))) AM)))) (Ah (AR 2 Aj (AB (AX Ao (aV 0) (aC (.int 0))) (AB (aV 2) AM))))) d λok=>if ok=true then (FZ Co (AB (aV 0) AM)) d R else N:=by
  intro c l R N h1 h2;have bm:=l.m.mono h;rcases k with rfl|rfl;all_goals
   refine⟨rfl,CW i bm ?_⟩;refine Fz (b:=decide (f<c.1)) (λz=> ?_) (λz=>h2 (by unfold IU;rw[z];rfl));refine⟨rfl,CW bm j ?_⟩;exact Fz (b:=decide (c.1<t)) (λe=>h1 (by unfold IU;rw[z,e];rfl)) (λe=>h2 (by unfold IU;rw[z,e];rfl))
 rcases hv with rfl|rfl
 .exact ⟨a,EQ g cor (IU f t) (Dp B) key cs [] hc q⟩
 .exact ⟨a,EQ g cor (IU f t) (Dp B) key cs [] hc q⟩
def Ux:AS:=
 (Ak (AX BL (Ay (AB (aV 1) AM)) (AR 2 Di (AB (aV 0) (AB (aV 1) AM)))))
def Ee:AF:=Ap 2 Ux
def Hd {cs:kj C4}{v:PV}{B M:Nat}{m:Rat}(hv:BI cs v)(hc:∀c∈cs,Dp B c)(a:Et cs)(b:cs≠ [])(hl:cs.length<=1000)(d:Bd M m)(f:M+6*B+10<=3990)(hs:∃t,spotC cs m=some t){Q:PV->Prop}(q:Q (cor (sp cs m))):Ee [v,fr m] Q:=by obtain⟨t,e⟩:=hs;unfold sp at q;rw[e] at q;refine⟨lz,rfl,Ch hv hc a b hl d f ?_⟩;rw[e];exact⟨lz,q⟩
def Xb {cs:kj C4}{f t:Rat}(hl:cs.length<=1000):((cs.filter (IU f t)).map cor).length<=1000:=by rw[ABL];exact ABT (ACz _ _) hl
def Bd.mx {n:Nat}{a b:Rat}(ha:Bd n a)(hb:Bd n b):Bd n (mx a b):=by unfold PL.mx;split <;> assumption
def Bd.mn {n:Nat}{a b:Rat}(ha:Bd n a)(hb:Bd n b):Bd n (mn a b):=by unfold PL.mn;split <;> assumption
def uO (b a:Rat):a<=mx b a:=by unfold mx;split <;> grind
def uM (e l:Rat):mn e l<=l:=by unfold mn;split <;> grind
def Sy:AS:=
 (AY (Am (AR 3 Bj (AB (aV 0) (AB (aV 3) (AB (aV 4) AM)))) (An 5))
   (Ak (FZ Co (AB (AX BL (AX BL (FX (Ci (AB (AR 2 Ee (AB (aV 0) (AB (aV 3) AM))) AM))) (aV 5)) (FX (Ci (AB (AR 2 Ee (AB (aV 0) (AB (aV 4) AM))) AM)))) AM))))
def Sx:AS:=
 (AY (BE (Ca (Ah (AR 2 Aj (AB (aV 3) (AB (aV 4) AM))))) (Ak (aC .non)) Av)
   Sy)
def Sw:AS:=
 (AY (Am (AR 2 Eg (AB (aV 2) (AB (AX Ao (AX Ao (aV 0) (TL Hl (aC (.int 1)))) (aC (.int 0))) AM))) (An 4))
   Sx)
def ab:AS:=
 (AY (Am (AR 2 BR (AB (aV 1) (AB (AX Ao (AX Ao (aV 0) (aC (.int 0))) (aC (.int 0))) AM))) (An 3))
   Sw)
def GK:AF:=Ap 6 ab
def Kq {a l:C4}{r:kj C4}{v:PV}{B M:Nat}{b e:Rat}(hv:BI (a::r) v)(hc:∀c∈a::r,Dp B c)(u:Et (a::r))(w:r≠ [])(m:(a::r).getLast?=some l)(hl:(a::r).length<=1000)(hb:Bd M b)(he:Bd M e)(ha:Bd M a.1)(y:Bd M l.1)(A:M+6*B+10<=3990){Q:PV->Prop}(q:Q (Rx (LI (a::r) (mx b a.1) (mn e l.1)))):GK [v,fr b,fr e] Q:=by
 have n:=hv;obtain⟨g,D,hv⟩:=hv;have i:=hb.mx ha;have bt:=he.mn y;have C:∀(c:C4) (P:PV->Prop),P (fr c.1)->Uu (g c) λys=>gZ (Je ys 0) P:=λc P E=>by rcases D with rfl|rfl <;> exact E
 have o:=uO b a.1;have p:=uM e l.1;have j:=Xb (cs:=a::r) (f:=mx b a.1) (t:=mn e l.1) hl;have d:∀{x:Rat},Bd M x->Bd 4000 x:=λh=>h.mono (by omega);rcases hv with rfl|rfl;all_goals
  refine Gi (k:=0) (c:=a) rfl rfl (C a _ ⟨rfl,Fd (d hb) (d ha) ?_⟩);refine K7 m (C l _ ⟨rfl,NG (d he) (d y) ?_⟩)
  revert q i bt o p j
  generalize mx b a.1=f;generalize mn e l.1=t;intro q i bt o p j;refine⟨rfl,CW (d i) (d bt) ?_⟩;refine Fz (b:= !decide (f<t)) (λz=> ?_) (λz=> ?_)
  .have s:¬f<t:=by simpa using z
   rw[LI,AAH s] at q;exact q
  .have s:f<t:=by simpa using z
   rw[LI,AAJ s] at q;refine⟨rfl,Cy n hl hc (by omega) (d i) (d bt) ?_⟩;refine⟨rfl,Hd n hc u (by simp) hl i A (Df w m o (by grind)) ⟨lz, ?_⟩⟩;refine⟨ABT (show _<=1001 by simp only[ABd,ADn];omega) (by decide), ?_⟩;refine⟨rfl,Hd n hc u (by simp) hl bt A (Df w m (by grind) p) ⟨lz, ?_⟩⟩;refine⟨ABT (show _<=1002 by simp only[AB9,ABd,ADn];omega) (by decide), ?_⟩;have F:Rx (some (DJ (a::r) f t))= .tup ([cor (sp (a::r) f)] ++ ((a::r).filter (IU f t)).map cor ++ [cor (sp (a::r) t)]):=by simp[Rx,DJ,Aq]
   rw[F] at q;exact q
section
variable {a b:AS}{ta tb:AE}{tt tu:AT}{g:AG}{gs:W1}{nx bk ct:BD->Prop}{rt:PV->Prop}{τ:BD}{Q:PV->Prop}{QB:da->Prop}{QL:kj PV->Prop}{QT:BD->Prop}{r:AA}{ai:AI}{F:AF}{n i j:Nat}{x y z:PV}{xs ys:kj PV}
def ut {f:KF}(e:Tv τ i=some (.val x))(h:ta τ λy=>f x y λz=>nx (τ.set i (some (.val z)))):XH i f ta ⟨nx,rt,bk,ct⟩ τ:=by unfold XH;rw[e];exact h
def u6 (e:Tv τ i=some (.own xs))(h:QL xs):MG i τ QL:=by unfold MG;rw[e];exact h
def s_V (e:Tv τ i=some (.val x))(h:Q x):aV i τ Q:=by unfold aV;rw[e];exact h
def zw (x:PV)(i:Int):kc PV:=match x with | .tup xs=>Je xs i | .lst xs=>Je xs i|_=>none
def xq {i:Int}(e:zw x i=some z)(h:Q z):Ao x (.int i) Q:=by cases x <;> first | (cases e;done)|(show gZ (Je _ i) Q;rw[show Je _ i=some z from e];exact h)
def iJ {a:C4}{cs:kj C4}(h:Q (cor a)):Ao (Aq (a::cs)) (.int 0) Q:=Gi (k:=0) (c:=a) rfl rfl h
def qZ {l:C4}{cs:kj C4}(c:cs.getLast?=some l)(h:Q (cor l)):Ao (Aq cs) (.int (-1)) Q:=K7 c h
def uv {a b:Rat}(h:Q (.bl (decide (a=b)))):KG (fr a) (fr b) Q:=⟨⟨Zz 29 _,Zz 29 _⟩,by rw[Fx];exact h⟩
def u5 {a b:Rat}(h:Q (.bl (!decide (a=b)))):KH (fr a) (fr b) Q:=⟨⟨Zz 29 _,Zz 29 _⟩,by rw[Fx];exact h⟩
def qb {cs:kj C4}(h:Q (.int cs.length)):FN [Aq cs] Q:=by show Q (.int (cs.map cor).length);rw[ABL];exact h
def u4 {T:String}{k:Kd}(c:JG T)(e:kdOf x=some k)(h:Q (.bl (Io k T))):fG [x, .ty T] Q:=by refine⟨c, ?_⟩;rw[e];exact h
def ux {c:da}{A B:Prop}(e:c=true)(h:A):if c=true then A else B:=by rw[AAJ e];exact h
def uw {c:da}{A B:Prop}(e:c=false)(h:B):if c=true then A else B:=by rw[AAH (by rw[e];exact ABO)];exact h
def uz {p:Prop}[Decidable p]{A B:Prop}(h1:p->A)(h2:¬p->B):if decide p=true then A else B:=by
 by_cases h:p
 .rw [AAJ (ABQ h)];exact h1 h
 .rw [AAH (by simp[h])];exact h2 h
def u0 {p:Prop}[Decidable p]{A B:Prop}(h1:¬p->A)(h2:p->B):if (!decide p)=true then A else B:=by
 by_cases h:p
 .rw [AAH (by simp[h])];exact h2 h
 .rw [AAJ (by simp[h])];exact h1 h
end
def jJ:Bd 1 (0:Rat):=⟨by decide,by decide⟩
def rQ:Bd 1 (1:Rat):=⟨by decide,by decide⟩
section
variable {g:AG}{b:AS}{nx bk ct:BD->Prop}{rt:PV->Prop}
def Za (P:Nat->BD->Prop){lo:Int}{n:Nat}(hd:∀τ,P n τ->nx τ)(hs:∀i,i<n->∀τ (R:BD->Prop),(∀τ,P (i+1) τ->R τ)->P i τ->g (.int (lo+i)) τ λc=>b ⟨R,rt,nx,R⟩ c){τ:BD}(f:P 0 τ):Eh g b ⟨nx,rt,bk,ct⟩ (rng lo n) τ:=by
 refine K6 (λr τ=>∃i,i<=n/\r=rng (lo+i) (n-i)/\P i τ) ?_ ?_ _ _ ⟨0,AB7 _,by simp,f⟩
 .rintro τ ⟨i,hi,a,hp⟩;have:n-i=0:=by
   cases e:n-i with
   | zero=>rfl
   | succ k=>rw[e,LQ] at a;cases a
  have:i=n:=by omega
  subst this;exact hd τ hp
 .rintro x r τ R h ⟨i,hi,a,hp⟩;cases e:n-i with
  | zero=>rw[e] at a;cases a
  | succ k=> rw[e,LQ] at a;cases a;exact hs i (by omega) τ R (λd h2=>h d ⟨i+1,by omega,by rw[show n-(i+1)=k by omega,show lo+((i+1:Nat):Int)=lo+i+1 by omega],h2⟩) hp
def B6 {d:Type}(f:d->PV)(P:kj d->kj d->BD->Prop){cs:kj d}(hd:∀τ,P cs [] τ->nx τ)(hs:∀a c vs,a++c::vs=cs->∀τ (R:BD->Prop),(∀τ,P (a ++ [c]) vs τ->R τ)->P a (c::vs) τ->g (f c) τ λi=>b ⟨R,rt,nx,R⟩ i){τ:BD}(k:P [] cs τ):Eh g b ⟨nx,rt,bk,ct⟩ (cs.map f) τ:=by
 refine K6 (λr τ=>∃a vs,a++vs=cs/\r=vs.map f/\P a vs τ) ?_ ?_ _ _ ⟨[],cs,rfl,rfl,k⟩
 .rintro τ ⟨a,vs,e,h,hp⟩;cases vs with
  | nil=>rw[ACQ] at e;subst e;exact hd τ hp
  | cons v vs=>cases h
 .rintro x r τ R l ⟨a,vs,e,h,hp⟩;cases vs with
  | nil=>cases h
  | cons c vs=> cases h;exact hs a c vs e τ R (λj h2=>l j ⟨a ++ [c],vs,by simpa using e,rfl,h2⟩) hp
def vS {c:AT}(P:Nat->BD->Prop)(hs:∀n τ (R:BD->Prop),(∀τ,P n τ->R τ)->P (n+1) τ->c (frz τ) λk=>if k=true then b ⟨R,rt,nx,R⟩ τ else nx τ)(a:∀τ,¬P 0 τ){n:Nat}{τ:BD}(d:P n τ):MH c b ⟨nx,rt,bk,ct⟩ τ:=
 ⟨n,Y3 P a (λn τ R e hp=>hs n τ R e hp) n τ d⟩
end
end PL
namespace PL
section
variable {p:Prop}[Decidable p]{A B:Prop}
def qY (h:¬p)(a:B):if decide p=true then A else B:=by rw[AAH (by simp[h])];exact a
end
end PL
namespace PL
open PySem PySem.Spec PyProof.Rows L2
section
variable {K:AAG}{T M:kd->Prop}{H:Hp}
inductive KR (K:AAG):List Value->List PV->Prop where
 | nil:KR K [] []
 | cons {u:Value} {x:PV} {us:List Value} {xs:List PV} (h:∃V,RelV V u/\∀T M H,CZ K T M H V x) (t:KR K us xs):KR K (u::us) (x::xs)
def KR.length:∀{a:kj ki} {xs:kj PV},KR K a xs->a.length=xs.length
 | _,_, .nil=>rfl
 | _,_, .cons _ t=>by simp[t.length]
end
def jd (K:AAG)(d:kd):kj (Str×PV)->Prop
 | [] =>True
 | p::r=>(∃(u:ki) (V:V),PySem.W.nsIn K d p.1=some (some u)/\RelV V u/\∀T M H,CZ K T M H V p.2)/\jd K d r
theorem jd.get {K:AAG}{d:kd}:∀{c:kj (Str×PV)},jd K d c->∀s v,c.lookup s=some v->∃(u:ki) (V:V),PySem.W.nsIn K d s=some (some u)/\RelV V u/\∀T M H,CZ K T M H V v
 | [],_,s,v,e=>by cases e
 | (a,b)::r,h,s,v,e=>by
   rw[ADe] at e;split at e
   .rename_i hb;cases e;have:s=a:=eq_of_beq hb;subst this;exact h.1
   .exact jd.get h.2 s v e
section
variable {X:Cx}
def bZ (x:PV)(xs:kj PV):da:=xs.any λy=>HN y x
def fC (neg:da):KF:=λx y Q=>Uu y λys=>(D3 29 x=true/\HL 29 ys=true)/\Q (.bl (if neg then !bZ x ys else bZ x ys))
def YV (K:AAG)(neg:da):R2:=λu v H Q=>∃(T M:kd->Prop) (x y:PV) (ys:kj PV),CZ K T M H u x/\CZ K T M H v y/\(y= .tup ys\/y= .lst ys)/\D3 29 x=true/\HL 29 ys=true/\Q (.bl (if neg then !bZ x ys else bZ x ys)) H
def OF (xs:kj PV)(x:PV):(Mi xs).any (λy=>PyData.eqv y (pd x))=bZ x xs:=by
 induction xs with
 | nil=>rfl
 | cons y ys ih=>simp only[Mi,ABr,ih,bZ,HN]
def p9 {k:Nat}(e:Room k X.A):Em X (compareOp .In) (YV X.K false):=by
 intro Sb s i H u v j l Q I f rv h;obtain⟨T,M,x,y,ys,g,b,hy,c,ky,q⟩:=h;obtain⟨as,ra⟩:=C3 I 29 g c f;obtain⟨d,m,_⟩:=Go 29 x c;obtain⟨b1,b2,_⟩:=Hx 29 ys ky;have hu:X.A.units+1+min (PyData.depthAll (Mi ys)) (pd x).depth<cLine:=by have:=e.un;omega
 rcases hy with rfl|rfl
 .obtain ⟨bs,a⟩:=C3 I 30 b (by simpa[D3] using ky) rv;exact SeqAt.in_tuple_reads a ra b1 d hu (by rw[OF];exact⟨.bl _,H,I,rfl,q⟩)
 .obtain ⟨bs,a⟩:=C3 I 30 b (by simpa[D3] using ky) rv;exact SeqAt.in_list_reads a ra b1 d hu (by rw[OF];exact⟨.bl _,H,I,rfl,q⟩)
def lR {k:Nat}(e:Room k X.A):Em X (compareOp .NotIn) (YV X.K true):=by
 intro Sb s i H u v j l Q I f rv h;obtain⟨T,M,x,y,ys,g,b,hy,c,ky,q⟩:=h;obtain⟨as,ra⟩:=C3 I 29 g c f;obtain⟨d,m,_⟩:=Go 29 x c;obtain⟨b1,b2,_⟩:=Hx 29 ys ky;have hu:X.A.units+1+min (PyData.depthAll (Mi ys)) (pd x).depth<cLine:=by have:=e.un;omega
 rcases hy with rfl|rfl
 .obtain ⟨bs,a⟩:=C3 I 30 b (by simpa[D3] using ky) rv;exact SeqAt.notIn_tuple_reads a ra b1 d hu (by rw[OF];exact⟨.bl _,H,I,rfl,q⟩)
 .obtain ⟨bs,a⟩:=C3 I 30 b (by simpa[D3] using ky) rv;exact SeqAt.notIn_list_reads a ra b1 d hu (by rw[OF];exact⟨.bl _,H,I,rfl,q⟩)
def aK {neg:da}:CM X.K (YV X.K neg) (fC neg):=λT M H u v x y Q b va a rv h k=>by obtain⟨ys,hy,h1,q⟩:=Js h;exact⟨T,M,x,y,ys,a,rv,hy,h1.1,h1.2,k _ _ T H (.refl va.tp) (.bl _) q⟩
def iW {k:Nat}(a:Room k X.A):Em X (compareOp .In) (YV X.K false)/\CM X.K (YV X.K false) (fC false):=⟨p9 a,aK⟩
def ql {k:Nat}(a:Room k X.A):Em X (compareOp .NotIn) (YV X.K true)/\CM X.K (YV X.K true) (fC true):=⟨lR a,aK⟩
end
end PL
namespace PL
open PySem L2 PyProof.Rows
class Wp (P:Prop) (P':outParam Prop):Prop where
 go:P'->P
class N2 (P:Prop) (C P':outParam Prop):Prop where
 go:C->P'->P
class zT (P:Prop) (P':outParam Prop):Prop where
 go:P'->P
class wj (P:Prop) (A B:outParam Prop):Prop where
 go:A->B->P
class jf (τ:BD) (i:Nat) (x:outParam AV):Prop where
 e:Tv τ i=some x
instance n_0 {v:AV}{r:BD}:jf (some v::r) 0 v:=⟨rfl⟩
instance n_1 {y:kc AV}{r:BD}{i:Nat}{v:AV}[h:jf r i v] :jf (y::r) (i+1) v:=⟨h.e⟩
class au (τ:BD) (i:Nat) (v:AV) (τ':outParam BD):Prop where
 e:τ.set i (some v)=τ'
instance ACW {y:kc AV}{r:BD}{v:AV}:au (y::r) 0 v (some v::r):=⟨rfl⟩
instance ACX {y:kc AV}{r a:BD}{i:Nat}{v:AV}[h:au r i v a] :au (y::r) (i+1) v (y::a):=⟨by rw[ADX,h.e]⟩
class ap (τ:BD) (τ':outParam BD):Prop where
 e:frz τ=τ'
instance ABm:ap [] [] :=⟨rfl⟩
instance (priority:=low) ABq {z:kc AV}{r a:BD}[h:ap r a] :ap (z::r) (j5 z::a):=⟨by rw[<-h.e];rfl⟩
instance ABn {r a:BD}[h:ap r a] :ap (none::r) (none::a):=⟨by rw[<-h.e];rfl⟩
instance ABp {x:PV}{r a:BD}[h:ap r a] :ap (some (.val x)::r) (some (.val x)::a):=⟨by rw[<-h.e];rfl⟩
instance ABo {x:kj PV}{r a:BD}[h:ap r a] :ap (some (.own x)::r) (some (.val (.lst x))::a):=⟨by rw[<-h.e];rfl⟩
class sK (ix:List Nat) (τ:BD) (τ':outParam BD):Prop where
 e:(ix.map λi=>az (Tv τ i))=τ'
instance b_0 {τ:BD}:sK [] τ [] :=⟨rfl⟩
instance b_1 {τ r:BD}{i:Nat}{ix:kj Nat}{x:PV}[h:jf τ i (.val x)][h2:sK ix τ r] :sK (i::ix) τ (some (.val x)::r):=⟨by rw[ABJ,h.e,h2.e];rfl⟩
class sV (n:Nat) (τ:outParam BD):Prop where
 e:List.replicate n none=τ
instance r_0:sV 0 [] :=⟨rfl⟩
instance r_1 {n:Nat}{τ:BD}[h:sV n τ] :sV (n+1) (none::τ):=⟨by rw[List.replicate_succ,h.e]⟩
class dW (xs ys:BD) (zs:outParam BD):Prop where
 e:xs++ys=zs
instance c_0 {ys:BD}:dW [] ys ys:=⟨rfl⟩
instance c_1 {x:kc AV}{xs ys a:BD}[h:dW xs ys a] :dW (x::xs) ys (x::a):=⟨by rw[AEC,h.e]⟩
class jW (xs ys:List PV) (zs:outParam (List PV)):Prop where
 e:xs++ys=zs
instance ABk {ys:kj PV}:jW [] ys ys:=⟨rfl⟩
instance ABl {x:PV}{xs ys a:kj PV}[h:jW xs ys a] :jW (x::xs) ys (x::a):=⟨by rw[AEC,h.e]⟩
class ABi (xs:List PV) (n:outParam Nat):Prop where
 e:xs.length=n
class Ix (x:PV) (i:Int) (y:outParam PV):Prop where
 e:zw x i=some y
class AtN (xs:List PV) (n:Nat) (y:outParam PV):Prop where
 e:xs[n]? =some y
section
variable {a b:AS}{ta tb:AE}{tt tu:AT}{g:AG}{gs:W1}{nx bk ct:BD->Prop}{rt:PV->Prop}{τ τ' τ2:BD}{Q:PV->Prop}{QB:da->Prop}{QL:kj PV->Prop}{QT:BD->Prop}{r:AA}{ai:AI}{F:AF}{n i j:Nat}{x y z:PV}{xs ys zs:kj PV}
instance vp {c:PV}{q:kj PV}:Ix (.tup (c::q)) 0 c:=⟨DE (j:=0) rfl⟩
instance vk {c:PV}{q:kj PV}:Ix (.lst (c::q)) 0 c:=⟨DE (j:=0) rfl⟩
instance vq {c p1:PV}{q:kj PV}:Ix (.tup (c::p1::q)) 1 p1:=⟨DE (j:=1) rfl⟩
instance vm {c p1:PV}{q:kj PV}:Ix (.lst (c::p1::q)) 1 p1:=⟨DE (j:=1) rfl⟩
instance vt {c p1 p2:PV}{q:kj PV}:Ix (.tup (c::p1::p2::q)) 2 p2:=⟨DE (j:=2) rfl⟩
instance vo {c p1 p2:PV}{q:kj PV}:Ix (.lst (c::p1::p2::q)) 2 p2:=⟨DE (j:=2) rfl⟩
instance AAC {q:Rat}:Ix (fr q) 0 (.int q.num):=⟨rfl⟩
instance AAD {q:Rat}:Ix (fr q) 1 (.int q.den):=⟨rfl⟩
instance zx {c:C4}:Ix (cor c) 0 (fr c.1):=⟨rfl⟩
instance zy {c:C4}:Ix (cor c) 1 (fr c.2.1):=⟨rfl⟩
instance AAA {c:C4}:Ix (cor c) 2 (fr c.2.2.1):=⟨rfl⟩
instance AAB {c:C4}:Ix (cor c) 3 (fr c.2.2.2):=⟨rfl⟩
def wq {f:C4->PV}{c:C4}{cs:kj C4}:Je ((c::cs).map f) 0=some (f c):=DE (j:=0) rfl
instance AAE {c:C4}{cs:kj C4}:Ix (Aq (c::cs)) 0 (cor c):=⟨wq⟩
instance AAz:Wp (AY a b ⟨nx,rt,bk,ct⟩ τ) (a ⟨b ⟨nx,rt,bk,ct⟩,rt,bk,ct⟩ τ):=⟨id⟩
instance AAN:Wp (Am ta g ⟨nx,rt,bk,ct⟩ τ) (ta τ λx=>g x τ nx):=⟨id⟩
instance AAy [h:ap τ τ'] :Wp (Ak ta ⟨nx,rt,bk,ct⟩ τ) (ta τ' rt):=⟨λk=>by unfold Ak;rw[h.e];exact k⟩
instance w_next:Wp (Av ⟨nx,rt,bk,ct⟩ τ) (nx τ):=⟨id⟩
instance AAY:Wp (BE tt a b ⟨nx,rt,bk,ct⟩ τ) (tt τ λk=>if k=true then a ⟨nx,rt,bk,ct⟩ τ else b ⟨nx,rt,bk,ct⟩ τ):=⟨id⟩
def Wj (τ:BD)(i:Nat)(v:AV)(QT:BD->Prop):Prop:=QT (τ.set i (some v))
instance yu {v:AV}[h:au τ i v τ'] :Wp (Wj τ i v QT) (QT τ'):=⟨λk=>by unfold Wj;rw[h.e];exact k⟩
instance AAo:Wp (GN r i ⟨nx,rt,bk,ct⟩ τ) (r τ λxs=>Wj τ i (.own xs) nx):=⟨id⟩
instance ACh [h:au τ i (.val x) τ'] :Wp (An i x τ QT) (QT τ'):=⟨λk=>by unfold An;rw[h.e];exact k⟩
instance AAO {f:KF}[h:jf τ i (.val x)] :Wp (XH i f ta ⟨nx,rt,bk,ct⟩ τ) (ta τ λy=>f x y λz=>Wj τ i (.val z) nx):=⟨λk=>ut h.e k⟩
instance AAw [h:jf τ i (.own xs)] :Wp (MG i τ QL) (QL xs):=⟨λk=>u6 h.e k⟩
instance ye {f:mX}:Wp (Dv i f r ⟨nx,rt,bk,ct⟩ τ) (MG i τ λxs=>r τ λys=>f xs ys λzs=>Wj τ i (.own zs) nx):=⟨id⟩
instance AAM:Wp (Ip xs [y] QL) (xs.length<sizeLine/\QL (xs ++ [y])):=⟨id⟩
instance yE {k:Int}:Wp (gJ xs [.int k,y] QL) ((0<=k/\k<=(xs.length:Int)/\xs.length<sizeLine)/\QL (xs.take k.toNat++y::xs.drop k.toNat)):=⟨id⟩
instance AAU [h:jf τ i (.own xs)][h2:au τ i (.val (.lst xs)) τ'] :Wp (dy i a ⟨nx,rt,bk,ct⟩ τ) (a ⟨nx,rt,bk,ct⟩ τ'):=⟨λk=>by unfold dy frz1;rw[h.e];show a ⟨nx,rt,bk,ct⟩ (τ.set i (some (.val (.lst xs))));rw[h2.e];exact k⟩
instance AAT:Wp (Du ai g b ⟨nx,rt,bk,ct⟩ τ) (ai τ λxs=>Eh g b ⟨nx,rt,bk,ct⟩ xs τ):=⟨id⟩
instance yN:Wp (Eh g b ⟨nx,rt,bk,ct⟩ [] τ) (nx τ):=⟨id⟩
instance yO {q:kj PV}:zT (Eh g b ⟨nx,rt,bk,ct⟩ (x::q) τ) (g x τ λc=>b ⟨Eh g b ⟨nx,rt,bk,ct⟩ q,rt,nx,Eh g b ⟨nx,rt,bk,ct⟩ q⟩ c):=⟨id⟩
instance yP:Wp (BY [] τ QT) (QT τ):=⟨id⟩
instance v6 {t:kj PV}:Wp (AZ g gs (x::t) τ QT) (g x τ λτ'=>gs t τ' QT):=⟨id⟩
instance ACi:Wp (HD n gs x τ QT) (Uu x λxs=>xs.length=n/\gs xs τ QT):=⟨id⟩
instance w_V [h:jf τ i (.val x)] :Wp (aV i τ Q) (Q x):=⟨λk=>s_V h.e k⟩
instance w_C:Wp (aC x τ Q) (Q x):=⟨id⟩
instance ACt {f:KF}:Wp (AX f ta tb τ Q) (ta τ λx=>tb τ λy=>f x y Q):=⟨id⟩
instance ACw {f:PV->(PV->Prop)->Prop}:Wp (TL f ta τ Q) (ta τ λx=>f x Q):=⟨id⟩
instance w_and:Wp (Qt ta tb τ Q) (ta τ λx=>pp x λc=>if c=true then tb τ Q else Q (.bl false)):=⟨id⟩
instance ABA:Wp (Ah ta τ QB) (ta τ λx=>pp x QB):=⟨id⟩
def xm (x:PV)(QB:da->Prop):Prop:=match mR x with | some b=>QB b|none=>False
instance AA9:Wp (oJ ta τ QB) (ta τ λx=>xm x QB):=⟨id⟩
instance sF:Wp (xm (.tup (x::xs)) QB) (QB true):=⟨id⟩
instance sG {c:Type}[DecidableEq c]{f:c->PV}{cs:kj c}:Wp (xm (.tup (cs.map f)) QB) (QB (decide (cs≠ []))):=⟨λh=>by show QB (!(cs.map f).isEmpty);cases cs <;> exact h⟩
instance yj:Wp (Ca tt τ QB) (tt τ λc=>QB (!c)):=⟨id⟩
instance yD:Wp (Ff tt tu τ QB) (tt τ λc=>if c=true then tu τ QB else QB false):=⟨id⟩
instance AAv:Wp (Ew tt tu τ QB) (tt τ λc=>if c=true then QB true else tu τ QB):=⟨id⟩
instance ACo:Wp (mf tt ta tb τ Q) (tt τ λc=>if c=true then ta τ Q else tb τ Q):=⟨id⟩
instance ABC:Wp (FH τ QB) (QB true):=⟨id⟩
instance w_bor [h:ap τ τ'] :Wp (XI ta τ Q) (ta τ' λx=>cN x=true/\Q x):=⟨λk=>by unfold XI;rw[h.e];exact k⟩
instance yF [h:ap τ τ'] :Wp (RX tt τ QB) (tt τ' QB):=⟨λk=>by unfold RX;rw[h.e];exact k⟩
instance AAp:Wp (AM τ QL) (QL []):=⟨id⟩
instance yL:Wp (AB ta r τ QL) (ta τ λx=>r τ λxs=>QL (x::xs)):=⟨id⟩
def cG (xs:kj PV)(Q:PV->Prop):Prop:=xs.length<=sizeLine/\Q (.tup xs)
instance ABB:Wp (Ay r τ Q) (r τ λxs=>cG xs Q):=⟨id⟩
instance AAb:Wp (Ci r τ QL) (r τ λxs=>xs.length<=sizeLine/\QL xs):=⟨id⟩
instance ACg:Wp (FX r τ Q) (r τ λxs=>Q (.lst xs)):=⟨id⟩
instance w_call:Wp (AR n F r τ Q) (r τ λxs=>xs.length=n/\F xs Q):=⟨id⟩
instance ACe:Wp (FZ F r τ Q) (r τ λxs=>F xs Q):=⟨id⟩
instance yK {own:Nat}{ix:kj Nat}{te:AE}{c d:BD}[h1:sV own c][h2:sK ix τ d][f:dW c d τ'] :Wp (C1 ai own ix g tt te τ QL) (ai τ λxs=>xs.length<sizeLine/\DI g tt te τ' QL xs []):=⟨λk=>by unfold C1 K1;rw[h1.e,h2.e,f.e];exact k⟩
instance yI {te:AE}{c:kj PV}:Wp (DI g tt te τ QL [] c) (QL c):=⟨id⟩
instance yJ {te:AE}{c q:kj PV}:Wp (DI g tt te τ QL (x::q) c) (g x τ λd=>tt d λok=>if ok=true then te d λy=>DI g tt te τ QL q (c ++ [y]) else DI g tt te τ QL q c):=⟨id⟩
instance ACm:Wp (HM ta τ QL) (ta τ λx=>Uu x QL):=⟨id⟩
instance ACl:Wp (wo i τ QL) (MG i τ QL):=⟨id⟩
instance AAV:Wp (XO (AB ta AM) τ QL) (ta τ λx=>jM x λj=>(-(2^62)<=j/\j<2^62)/\QL (rng 0 j.toNat)):=⟨λh=>by have e:(λx=>jM x λj=>(-(2^62)<=j/\j<2^62)/\QL (rng 0 j.toNat))=(λx=>match [x] with | [.int j] =>(-(2^62)<=j/\j<2^62)/\QL (rng 0 j.toNat)|_=>False):=(funext λx=>by cases x <;> rfl);rw[e] at h;exact h⟩
instance AAW:Wp (jm (AB ta (AB tb AM)) τ QL) (ta τ λx=>tb τ λy=>cY x y λi j=>(-(2^62)<=i/\i<2^62/\ -(2^62)<=j/\j<2^62)/\QL (rng i (j-i).toNat)):=⟨λh=>by have e:(λx=>tb τ λy=>cY x y λi j=>(-(2^62)<=i/\i<2^62/\ -(2^62)<=j/\j<2^62)/\QL (rng i (j-i).toNat))=(λx=>tb τ λy=>match [x,y] with | [.int i, .int j] =>(-(2^62)<=i/\i<2^62/\ -(2^62)<=j/\j<2^62)/\QL (rng i (j-i).toNat)|_=>False):=(funext λx=>congrArg (tb τ) (funext λy=>by cases x <;> cases y <;> rfl));rw[e] at h;exact h⟩
instance ACn:Wp (sZ (AB ta (AB tb AM)) τ QL) (ta τ λx=>tb τ λy=>Uu x λxs=>Uu y λys=>QL (GA xs ys)):=⟨id⟩
instance AAx:Wp (TK i j (AB ta (AB tb AM)) ⟨nx,rt,bk,ct⟩ τ) (ta τ λx=>tb τ λy=>Wj τ i (.val x) λc=>Wj c j (.val y) nx):=⟨id⟩
instance AAu {R:Int->Prop}{k:Int}:Wp (jM (.int k) R) (R k):=⟨id⟩
instance yk {R:Int->Int->Prop}{k l:Int}:Wp (cY (.int k) (.int l) R) (R k l):=⟨id⟩
instance AAr {R:da->Prop}{c:da}:Wp (pp (.bl c) R) (R c):=⟨id⟩
instance yt:Wp (Uu (.tup xs) QL) (QL xs):=⟨id⟩
instance yq:Wp (Uu (.lst xs) QL) (QL xs):=⟨id⟩
instance yp {q:Rat}:Wp (Uu (fr q) QL) (QL [.int q.num, .int q.den]):=⟨id⟩
instance yr {cs:kj C4}:Wp (Uu (Aq cs) QL) (QL (cs.map cor)):=⟨id⟩
instance w_I {f:Int->Int->PV}{k l:Int}:Wp (fI f (.int k) (.int l) Q) (Q (f k l)):=⟨id⟩
instance ACd {C:Int->Int->Prop}{f:Int->Int->PV}{k l:Int}:Wp (tD C f (.int k) (.int l) Q) (C k l/\Q (f k l)):=⟨id⟩
instance rj:Wp (Nf .non .non Q) (Q (.bl true)):=⟨id⟩
instance sD:Wp (GR .non .non Q) (Q (.bl false)):=⟨id⟩
instance rk:Wp (Nf (.tup xs) .non Q) (Q (.bl false)):=⟨id⟩
instance sE:Wp (GR (.tup xs) .non Q) (Q (.bl true)):=⟨id⟩
instance vQ {k:Rat}:Wp (GR (fr k) .non Q) (Q (.bl true)):=⟨id⟩
instance nY {k:kj C4}:Wp (GR (Aq k) .non Q) (Q (.bl true)):=⟨id⟩
instance ACp {k:Int}[h:Ix x k z] :Wp (Ao x (.int k) Q) (Q z):=⟨λq=>xq h.e q⟩
instance AAn {k:Int}:Wp (Hl (.int k) Q) (Q (.int (-k))):=⟨id⟩
instance w_not {c:da}:Wp (oS (.bl c) Q) (Q (.bl (!c))):=⟨id⟩
instance yB {k l:Int}:Wp (BL (.int k) (.int l) Q) (Q (.int (k+l))):=⟨id⟩
instance yC:Wp (BL (.lst xs) (.lst ys) Q) (xs.length+ys.length<=sizeLine/\Q (.lst (xs++ys))):=⟨id⟩
instance AAR {k l:Int}:Wp (KG (.int k) (.int l) Q) (Q (.bl (decide (k=l)))):=⟨id⟩
instance AAl {k l:Int}:Wp (KH (.int k) (.int l) Q) (Q (.bl (!decide (k=l)))):=⟨id⟩
instance AAS {k l:Str}:Wp (KG (.str k) (.str l) Q) (Q (.bl (decide (k=l)))):=⟨id⟩
instance AAm {k l:Str}:Wp (KH (.str k) (.str l) Q) (Q (.bl (!decide (k=l)))):=⟨id⟩
instance AAQ {k l:Rat}:Wp (KG (fr k) (fr l) Q) (Q (.bl (decide (k=l)))):=⟨uv⟩
instance AAk {k l:Rat}:Wp (KH (fr k) (fr l) Q) (Q (.bl (!decide (k=l)))):=⟨u5⟩
instance yd:Wp (FN [.tup xs] Q) (Q (.int xs.length)):=⟨id⟩
instance yZ:Wp (FN [.lst xs] Q) (Q (.int xs.length)):=⟨id⟩
instance yc {c:kj Int}:Wp (FN [.scr c] Q) (Q (.int c.length)):=⟨id⟩
instance ya {cs:kj C4}:Wp (FN [Aq cs] Q) (Q (.int cs.length)):=⟨qb⟩
instance (priority:=high) rq {c:Type}{f:c->PV}{cs:kj c}:Wp (FN [.tup (cs.map f)] Q) (Q (.int cs.length)):=⟨λh=>by show Q (.int (cs.map f).length);rw[ABL];exact h⟩
instance (priority:=high) rm {c:Type}{f:c->PV}{cs:kj c}:Wp (FN [.lst (cs.map f)] Q) (Q (.int cs.length)):=⟨λh=>by show Q (.int (cs.map f).length);rw[ABL];exact h⟩
instance AAL {k:Int}:Wp (TW [.int k] Q) (Q (.int k.natAbs)):=⟨id⟩
instance ACj {f:Int->Int->Int}{k l:Int}:Wp (tG f [.int k, .int l] Q) (Q (.int (f k l))):=⟨id⟩
instance yR {c:da}:Wp (bO [.bl c] Q) (Q (.int (if c then 1 else 0))):=⟨id⟩
instance yy:Wp (Co [.lst xs] Q) (Q (.tup xs)):=⟨id⟩
instance AA0 {lo hi:kc Int}:Wp (ZX (.lst xs) lo hi Q) (Q (.lst (Il xs lo hi))):=⟨Ey⟩
instance ACv {l h:AO}:Wp (dG ta l h τ Q) (ta τ λx=>l τ λlo=>h τ λhi=>ZX x lo hi Q):=⟨id⟩
instance ACr {R:kc Int->Prop}:Wp (dH τ R) (R none):=⟨id⟩
instance ACs {R:kc Int->Prop}:Wp (dI ta τ R) (ta τ λx=>jM x λi=>R (some i)):=⟨id⟩
instance AAa {A B:Prop}:Wp (if true=true then A else B) (A):=⟨λh=>by rw[AAJ rfl];exact h⟩
instance AAZ {A B:Prop}:Wp (if false=true then A else B) (B):=⟨λh=>by rw[AAH ABO];exact h⟩
instance yQ {A B:Prop}:Wp (if (!true)=true then A else B) (B):=⟨λh=>h⟩
instance w_d {p A B:Prop}[Decidable p] :wj (if decide p=true then A else B) (p->A) (¬p->B):=⟨uz⟩
instance ACf {p A B:Prop}[Decidable p] :wj (if (!decide p)=true then A else B) (¬p->A) (p->B):=⟨u0⟩
instance AA2 {A:Prop}:Wp (([] :kj PV).length<=sizeLine/\A) (A):=⟨λh=>⟨lz,h⟩⟩
instance AA1 {A:Prop}:Wp (([] :kj PV).length<sizeLine/\A) (A):=⟨λh=>⟨lz,h⟩⟩
instance yT {c:PV}{A:Prop}:Wp ([c].length=1/\A) (A):=⟨λh=>⟨rfl,h⟩⟩
instance AA3 {c:PV}{A:Prop}:Wp ([c].length<=sizeLine/\A) (A):=⟨λh=>⟨lz,h⟩⟩
instance yU {c p1:PV}{A:Prop}:Wp ([c,p1].length=2/\A) (A):=⟨λh=>⟨rfl,h⟩⟩
instance AA4 {c p1:PV}{A:Prop}:Wp ([c,p1].length<=sizeLine/\A) (A):=⟨λh=>⟨lz,h⟩⟩
instance yV {c p1 p2:PV}{A:Prop}:Wp ([c,p1,p2].length=3/\A) (A):=⟨λh=>⟨rfl,h⟩⟩
instance AA5 {c p1 p2:PV}{A:Prop}:Wp ([c,p1,p2].length<=sizeLine/\A) (A):=⟨λh=>⟨lz,h⟩⟩
instance yW {c p1 p2 d:PV}{A:Prop}:Wp ([c,p1,p2,d].length=4/\A) (A):=⟨λh=>⟨rfl,h⟩⟩
instance AA6 {c p1 p2 d:PV}{A:Prop}:Wp ([c,p1,p2,d].length<=sizeLine/\A) (A):=⟨λh=>⟨lz,h⟩⟩
instance yX {c p1 p2 d e:PV}{A:Prop}:Wp ([c,p1,p2,d,e].length=5/\A) (A):=⟨λh=>⟨rfl,h⟩⟩
instance AA7 {c p1 p2 d e:PV}{A:Prop}:Wp ([c,p1,p2,d,e].length<=sizeLine/\A) (A):=⟨λh=>⟨lz,h⟩⟩
instance yY {c p1 p2 d e f:PV}{A:Prop}:Wp ([c,p1,p2,d,e,f].length=6/\A) (A):=⟨λh=>⟨rfl,h⟩⟩
instance AAc:Wp (cG [] Q) (Q (.tup [])):=⟨λh=>⟨lz,h⟩⟩
instance AAd {c:PV}:Wp (cG [c] Q) (Q (.tup [c])):=⟨λh=>⟨lz,h⟩⟩
instance AAe {c p1:PV}:Wp (cG [c,p1] Q) (Q (.tup [c,p1])):=⟨λh=>⟨lz,h⟩⟩
instance AAf {c p1 p2:PV}:Wp (cG [c,p1,p2] Q) (Q (.tup [c,p1,p2])):=⟨λh=>⟨lz,h⟩⟩
instance AAg {c p1 p2 d:PV}:Wp (cG [c,p1,p2,d] Q) (Q (.tup [c,p1,p2,d])):=⟨λh=>⟨lz,h⟩⟩
instance (priority:=high+10) yf:Wp (cG [.int 0, .int 1] Q) (Q (fr 0)):=⟨λh=>⟨lz,h⟩⟩
instance (priority:=high+10) yg:Wp (cG [.int 1, .int 1] Q) (Q (fr 1)):=⟨λh=>⟨lz,h⟩⟩
instance (priority:=high) yh {k:Int}:Wp (cG [.int k, .int 1] Q) (Q (fr (k:Rat))):=⟨λh=>⟨lz,Uq h⟩⟩
instance (priority:=high) AA8 {k:Rat}{p q r:Rat}:Wp (BL (.tup [fr k]) (.tup [fr p,fr q,fr r]) Q) (Q (cor (k,p,q,r))):=⟨λh=>⟨lz,h⟩⟩
def oT:PV.tup [.int 1, .int 2] =fr (1/2):=by unfold fr;rw[show ((1:Rat)/2).num=1 by decide +kernel,show ((1:Rat)/2).den=2 by decide +kernel];rfl
instance (priority:=high) r9:Wp (cG [.int 1, .int 2] Q) (Q (fr (1/2))):=⟨λh=>⟨lz,by rw[oT];exact h⟩⟩
def oU:PV.tup [.int 1, .int 3] =fr (1/3):=by unfold fr;rw[show ((1:Rat)/3).num=1 by decide +kernel,show ((1:Rat)/3).den=3 by decide +kernel];rfl
instance (priority:=high) sA:Wp (cG [.int 1, .int 3] Q) (Q (fr (1/3))):=⟨λh=>⟨lz,by rw[oU];exact h⟩⟩
def oW:PV.tup [.int 3, .int 2] =fr (3/2):=by unfold fr;rw[show ((3:Rat)/2).num=3 by decide +kernel,show ((3:Rat)/2).den=2 by decide +kernel];rfl
instance (priority:=high) sC:Wp (cG [.int 3, .int 2] Q) (Q (fr (3/2))):=⟨λh=>⟨lz,by rw[oW];exact h⟩⟩
def oV:PV.tup [.int 1, .int 5] =fr (1/5):=by unfold fr;rw[show ((1:Rat)/5).num=1 by decide +kernel,show ((1:Rat)/5).den=5 by decide +kernel];rfl
instance (priority:=high) sB:Wp (cG [.int 1, .int 5] Q) (Q (fr (1/5))):=⟨λh=>⟨lz,by rw[oV];exact h⟩⟩
instance AAi {q:Rat}{A:Prop}:Wp (cN (fr q)=true/\A) (A):=⟨λh=>⟨rfl,h⟩⟩
instance AAj {k:Int}{A:Prop}:Wp (cN (.int k)=true/\A) (A):=⟨λh=>⟨rfl,h⟩⟩
instance AAh {k:C4}{A:Prop}:Wp (cN (cor k)=true/\A) (A):=⟨λh=>⟨rfl,h⟩⟩
class Zp (xs ys:List PV) (zs:outParam (List PV)):Prop where
 e:GA xs ys=zs
instance ACx:Zp [] [] [] :=⟨rfl⟩
instance ACy [h:Zp xs ys zs] :Zp (x::xs) (y::ys) (.tup [x,y] :: zs):=⟨by rw[<-h.e];rfl⟩
instance yz [h:Zp xs ys zs] :Wp (Eh g b ⟨nx,rt,bk,ct⟩ (GA xs ys) τ) (Eh g b ⟨nx,rt,bk,ct⟩ zs τ):=⟨λk=>by rw[h.e];exact k⟩
instance (priority:=high) yG {te:AE}{c q zs:kj PV}[h:jW c [y] zs] :Wp (DI g tt te τ QL q (c ++ [y])) (DI g tt te τ QL q zs):=⟨λk=>by rw[h.e];exact k⟩
instance wF {m:Int}:N2 (BO [.tape, .int m] Q) (0<m/\m<4611686018427387904) (∀r,0<=r->r<m->Q (.int r)):=⟨λc h=>DF c.1 c.2 h⟩
instance wH {d:kj Int}{k:Int}:N2 (Ot [.scr d, .int k] Q) (0<=k/\k<=1000) (Q .tape):=⟨λc h=>⟨c,h⟩⟩
instance sI {a b:Rat}:N2 (Hf [fr a,fr b] Q) (Bd 4000 a/\Bd 4000 b) (Q (fr (a+b))):=⟨λc h=>RU c.1 c.2 h⟩
instance q5 {a b:Rat}:N2 (Ds [fr a,fr b] Q) (Bd 4000 a/\Bd 4000 b) (Q (fr (a-b))):=⟨λc h=>EH c.1 c.2 h⟩
instance q8 {a b:Rat}:N2 (Fe [fr a,fr b] Q) (Bd 4000 a/\Bd 4000 b) (Q (fr (a*b))):=⟨λc h=>Ou c.1 c.2 h⟩
instance jS {a b:Rat}:N2 (Br [fr a,fr b] Q) (Bd 4000 a/\Bd 4000 b) (Q (fr (a+b))):=⟨λc h=>JD c.1 c.2 h⟩
instance jR {a b:Rat}:N2 (EE [fr a,fr b] Q) (Bd 4000 a/\Bd 4000 b) (Q (fr (a-b))):=⟨λc h=>Qo c.1 c.2 h⟩
instance aZ {a b:Rat}:N2 (Bg [fr a,fr b] Q) (Bd 4000 a/\Bd 4000 b) (Q (fr (a*b))):=⟨λc h=>Kk c.1 c.2 h⟩
instance aY {a b:Rat}:N2 (BR [fr a,fr b] Q) (Bd 4000 a/\Bd 4000 b) (Q (fr (mx a b))):=⟨λc h=>Fd c.1 c.2 h⟩
instance nh {a b:Rat}:N2 (Eg [fr a,fr b] Q) (Bd 4000 a/\Bd 4000 b) (Q (fr (mn a b))):=⟨λc h=>NG c.1 c.2 h⟩
instance nZ {a b:Rat}:N2 (Aj [fr a,fr b] Q) (Bd 4000 a/\Bd 4000 b) (Q (.bl (decide (a<b)))):=⟨λc h=>CW c.1 c.2 h⟩
instance sH {a b:Rat}:N2 (Gb [fr a,fr b] Q) (b≠0/\Bd 4000 a/\Bd 4000 b) (Q (fr (a/b))):=⟨λc h=>MC c.1 c.2.1 c.2.2 h⟩
instance dP:N2 (A5 [.tape] Q) (True) (∀a,Bd 8 a->Q (fr a)):=⟨λ_ h=>BB λa m=>h a (m.bd (by decide) (by decide))⟩
instance ACu {lo:Int}{A:Prop}:Wp ((rng lo n).length<sizeLine/\A) (n<16777216/\A):=⟨λk=>⟨by rw[YX];exact k.1,k.2⟩⟩
instance ACq {c:Type}{f:c->PV}{cs:kj c}{A:Prop}:Wp ((cs.map f).length<sizeLine/\A) (cs.length<16777216/\A):=⟨λk=>⟨by rw[ABL];exact k.1,k.2⟩⟩
instance (priority:=high) v5 {c:Type}{k:c}[Decidable (k=k)]{A B:Prop}:Wp (if decide (k=k)=true then A else B) A:=⟨λh=>by rw[AAJ (ABQ rfl)];exact h⟩
instance (priority:=high) vP {c:Type}{k:c}[Decidable (k=k)]{A B:Prop}:Wp (if (!decide (k=k))=true then A else B) B:=⟨λh=>by rw[AAH (by simp)];exact h⟩
instance wG {cs:kj C4}{k:Int}:N2 (ZX (Aq cs) none (some k) Q) (0<=k/\k<=cs.length) (Q (Aq (cs.take k.toNat))):=⟨λc h=>u9 (k:=k.toNat) (by omega) (by omega) h⟩
instance sJ {cs:kj C4}{k:Int}:N2 (ZX (Aq cs) (some k) none Q) (0<=k/\k<=cs.length) (Q (Aq (cs.drop k.toNat))):=⟨λc h=>mH (k:=k.toNat) (by omega) (by omega) h⟩
instance wE {cs ds:kj C4}:N2 (BL (Aq cs) (Aq ds) Q) (cs.length+ds.length<=10000) (Q (Aq (cs++ds))):=⟨λc h=>VZ c h⟩
instance wD {cs:kj C4}{c:C4}:N2 (BL (Aq cs) (.tup [cor c]) Q) (cs.length<=9000) (Q (Aq (cs ++ [c]))):=⟨λk h=>VZ (ds:= [c]) (by simp;omega) h⟩
def nC {d:Type}{f:d->PV}{cs:kj d}{k:Int}{R:PV->Prop}(c:0<=k/\k<cs.length)(h:∀c,cs[k.toNat]? =some c->c∈cs->R (f c)):gZ (Je (cs.map f) k) R:=by
 have hk:k.toNat<cs.length:=by omega
 have e:Je (cs.map f) ((k.toNat:Nat):Int)=some (f cs[k.toNat]):=DE (by rw[ABw,ABf hk] <;> rfl);rw[show k=((k.toNat:Nat):Int) by omega,e];exact h _ (ABf hk) (List.getElem_mem hk)
instance y7 {cs:kj C4}{k:Int}:N2 (Ao (Aq cs) (.int k) Q) (0<=k/\k<cs.length) (∀c,cs[k.toNat]? =some c->c∈cs->Q (cor c)):=⟨λc h=>nC c h⟩
instance y6 {d:Type}{f:d->PV}{cs:kj d}{k:Int}:N2 (Ao (.lst (cs.map f)) (.int k) Q) (0<=k/\k<cs.length) (∀c,cs[k.toNat]? =some c->c∈cs->Q (f c)):=⟨λc h=>nC c h⟩
instance yx {c:C4}:Wp (ZX (cor c) (some 1) none Q) (Q (.tup [fr c.2.1,fr c.2.2.1,fr c.2.2.2])):=⟨λh=>Ie h⟩
class Lk (tb:List (Str×PV)) (s:Str) (v:outParam PV):Prop where
 e:tb.lookup s=some v
end
end PL
namespace L2
open PySem PySem.Spec PyProof.Rows
abbrev dg (h:Sr)(T:kd)(a b c:ki):Prop:=h.get? T=some {cls:= .type "tuple",data:= .seq #[a,b,c] }
structure Z3A (z TI TO i j k l m n:Addr):Prop where
 TIz:TI≠z
 TOz:TO≠z
 iz:i≠z
 jz:j≠z
 kz:k≠z
 TITO:TI≠TO
 TIi:TI≠i
 TIj:TI≠j
 TIk:TI≠k
 TOi:TO≠i
 TOj:TO≠j
 TOk:TO≠k
 ij:i≠j
 ik:i≠k
 jk:j≠k
 lo:∀x∈ [l,m,n],x≠z/\x≠TI/\x≠TO/\x≠i/\x≠j/\x≠k
structure Z3 (b c d:Bool) (z TI TO i j k l m n:Addr) (t:Nat) (f:Value) (h:Heap):Prop where
 zip:IsZip h z TI TO f
 its:dg h TI (.ref i) (.ref j) (.ref k)
 own:∃x y w,dg h TO x y w
 one:Qq b h i l t
 two:Qq c h j m t
 tre:Qq d h k n t
def Z3.mv {b c d:da}{z TI TO i j k l m n:kd}{t:Nat}{f:ki}{h h':Sr}(Z:Z3 b c d z TI TO i j k l m n t f h)(e:∀p∈ [z,TI,TO,i,j,k],∀o,h.get? p=some o->h'.get? p=some o):Z3 b c d z TI TO i j k l m n t f h':=by obtain⟨a,g,⟨x,y,w,r⟩,s,u,v⟩:=Z;exact⟨e z (by simp) _ a,e TI (by simp) _ g,⟨x,y,w,e TO (by simp) _ r⟩,s.mv (e i (by simp)),u.mv (e j (by simp)),v.mv (e k (by simp))⟩
abbrev y1 (b:da)(h:Sr)(l:kd):Sr:=h.push (cC b l)
abbrev y2 (b c:da)(h:Sr)(l m:kd):Sr:=(y1 b h l).push (cC c m)
abbrev y3 (b c d:da)(h:Sr)(l m n:kd):Sr:=(y2 b c h l m).push (cC d n)
abbrev y4 (b c d:da)(h:Sr)(l m n:kd):Sr:=(y3 b c d h l m n).push {cls:= .type "tuple",data:= .seq #[.ref h.objs.size, .ref (y1 b h l).objs.size, .ref (y2 b c h l m).objs.size] }
abbrev y5 (b c d:da)(h:Sr)(l m n:kd):Sr:=(y4 b c d h l m n).push {cls:= .type "tuple",data:= .seq #[.none, .none, .none] }
end L2
namespace L2
open PySem PySem.Spec PyProof.Rows
def WO:Manifest.owners.lookup (String.ofList ['d','e','s','r','e','v','e','r'].reverse)=some Manifest.sig_reversed:=by kernel_rfl
def G2:Slot "reversed" "__next__" "reversed.__next__" :=
 .of (owner:="reversed") (n:="__next__") (by rw[AEt,AEu];kernel_rfl) (by decide +kernel) (by decide +kernel) (by decide +kernel)
   (by first | exact .inl (by decide +kernel)|exact .inr (by decide +kernel)) (by rw[ABs];kernel_rfl)
def Qy:entryFor table "reversed.__next__" =some Builtin.«reversed.__next__»:=entryFor_of_tree (by kernel_rfl)
def O4 (a:ki):argsOk "reversed.__next__" ⟨[a], []⟩:=by unfold argsOk;rw[signature?_of (id:="reversed.__next__") (n:= ['_','_','t','x','e','n','_','_']) (o:= ['d','e','s','r','e','v','e','r']) (by kernel_rfl) WO];kernel_rfl
def Lc:Slot "reversed" "__iter__" "reversed.__iter__" :=
 .of (owner:="reversed") (n:="__iter__") (by rw[AEt,AEu];kernel_rfl) (by decide +kernel) (by decide +kernel) (by decide +kernel)
   (by first | exact .inl (by decide +kernel)|exact .inr (by decide +kernel)) (by rw[ABs];kernel_rfl)
def O3 (a:ki):argsOk "reversed.__iter__" ⟨[a], []⟩:=by unfold argsOk;rw[signature?_of (id:="reversed.__iter__") (n:= ['_','_','r','e','t','i','_','_']) (o:= ['d','e','s','r','e','v','e','r']) (by kernel_rfl) WO];kernel_rfl
def Qx:entryFor table "reversed.__iter__" =some Builtin.«dict_keyiterator.__iter__»:=
 entryFor_alias (id':="dict_keyiterator.__iter__") (by kernel_rfl) (by first | rfl|decide +kernel|(unfold String.splitOn;simp +decide [String.splitOnAux])) (by decide +kernel) (by kernel_rfl)
def c7:typeLookup (.type "tuple") "__reversed__" =pure none:=by rw[AEt,AEu];kernel_rfl
def Uo:isSubtype (.type "tuple") (.type "dict")=pure false:=by rw[ABs];kernel_rfl
def jO (m:kd)(i:Int):Obj:={cls:= .type "reversed",data:= .fields #[.ref m,rawInt i] }
def Jc (h:Sr)(q m:kd)(i:Int):Prop:=h.get? q=some (jO m i)
section
variable {prog:Wf}{w:Tb}{A:Sl}{E:ki->kf->Prop}{s:kf}
def Jc.typeIs {q m:kd}{i:Int}(x:Jc s.heap q m i):s.TypeIs (.ref q) "reversed" :=⟨_,x,rfl⟩
end
def iH (l:kd)(items:Array ki)(c:(items.size:Int)<2^63):Meets (Builtin.«reversed.__new__» ⟨[.type "reversed", .ref l], []⟩) (λ_ R s=>IsTup s.heap l items/\R (.ok (.ret (.ref s.heap.objs.size))) {s with heap:=s.heap.push (jO l ((items.size:Int)-1)),toks:=s.toks+1+1}):=
 .of_wp λprog w A R s h=>by
   obtain⟨hl,h⟩:=h;unfold Builtin.«reversed.__new__»;refine AAF (ADD (newClass_reversed _) ?_);try dsimp only
   refine AAF (ADD (a:=()) (by first | rfl|kernel_rfl) ?_);refine AAF (ADD (a:=()) (by first | rfl|kernel_rfl) ?_);try dsimp only
   refine AAF (ACY hl.typeIs c7 ?_);try dsimp only
   refine AAF ?_
   wp_delta
   refine AAF (AC9 (T:="tuple") (b:=false) hl.typeIs Uo ?_);rw[AAH (by decide)];refine AAF (ACY hl.typeIs ADC.lookup ?_);dsimp only;rw[AAJ (by decide +kernel)];refine AAI ?_;rw[AAH (by decide)];refine AAF (len_tuple hl c ?_);refine AAF (ADD (a:=some (items.size:Int)) rfl ?_);dsimp only;unfold Builtin.SmallTypes.newRecord;refine AAF (AB5 (AAI ?_));exact⟨_,rfl,h⟩
def ly:Slot "reversed" "__init__" "object.__init__" :=
 .of (owner:="object") (n:="__init__") (by rw[AEt,AEu];kernel_rfl) (by decide +kernel) (by decide +kernel) (by decide +kernel)
   (by first | exact .inl (by decide +kernel)|exact .inr (by decide +kernel)) (by rw[ABs];kernel_rfl)
def bC:TypeCalled "reversed" "reversed.__new__" "object.__init__" :=
 ⟨by decide +kernel,by decide +kernel,⟨_,_,F.mro_reversed⟩,F.made_reversed,by decide +kernel,by rw[ABs];kernel_rfl,ly⟩
section
variable {prog:Wf}{w:Tb}{A:Sl}{E:ki->kf->Prop}{s:kf}
def js {l:kd}{items:Array ki}{Q:ki->kf->Prop}(hl:IsTup s.heap l items)(a:(items.size:Int)<2^63)(h:Q (.ref s.heap.objs.size) {s with heap:=s.heap.push (jO l ((items.size:Int)-1)),toks:=s.toks+1+1}):wpAny (model prog w) A (call (.type "reversed") [.ref l]) Q E s:=by refine callType_new bC (by decide) (F.typeCall_reversed_1 _) (F.newCall_reversed_1 _) (λobj=>F.args_object_init_2 obj _) F.entry_reversed_new (iH l items a) ⟨hl, ?_⟩;exact⟨⟨_,ABM _ rfl,rfl⟩,h⟩
def kY {q m:kd}{i:Int}{Q:ki->kf->Prop}(hq:Jc s.heap q m i)(h:Q (.ref q) s):wpAny (model prog w) A (pyIter (.ref q)) Q E s:=by refine wpAny_pyIter_slot hq.typeIs Lc (ABz Lc hq.typeIs Qx ?_ (O3 _));show wpAny _ _ (ret (.ref q)) _ _ s;exact AAI ⟨_,rfl,"reversed",_,hq.typeIs,G2.lookup,h⟩
def lB {q m:kd}{k:Nat}{xs:Array ki}{x:ki}{Q:ki->kf->Prop}(hq:Jc s.heap q m ((xs.size:Int)-1-k))(hl:IsTup s.heap m xs)(g:(xs.size:Int)<2^63)(hk:k<xs.size)(hx:xs[xs.size-1-k]? =some x)(hQ:∀h' b,Jc h' q m ((xs.size:Int)-1-(k+1:Nat))->Heap.SameBut q s.heap h'->Q x {s with heap:=h',toks:=b}):wpAny (model prog w) A (Builtin.SmallTypes.nextOf (.ref q)) Q E s:=by
 unfold Builtin.SmallTypes.nextOf;refine AAF (ACS (name:=Str.ofString "__next__") hq.typeIs G2 (ABz G2 hq.typeIs Qy ?_ (O4 _)));unfold Builtin.«reversed.__next__»;refine AAF (ADD (a:=(Value.ref q, [])) rfl ?_);try dsimp only
 refine AAF (ABU hq rfl (x:= .ref m) rfl ?_);refine AAF (ABU hq rfl (x:=rawInt ((xs.size:Int)-1-k)) rfl ?_);show wpAny _ _ (if ((xs.size:Int)-1-k)<0 then _ else _) _ _ s;rw[AAH (by omega)];refine AAF (ACY hl.typeIs ADC.lookup ?_);rw[AAH (by decide)];refine AAF (wpAny_mkInt ?_);have c:seqIndex? ((xs.size:Int)-1-k) xs.size=some (xs.size-1-k):=by
  unfold seqIndex?;have d:¬((xs.size:Int)-1-k<0):=by omega
  have e:(0:Int)<=(xs.size:Int)-1-k:=by omega
  have f:(xs.size:Int)-1-k<xs.size:=by omega
  simp only[AAH d,e,f,decide_true,Bool.and_true,AB2];congr 1;omega
 refine AAF (ADU (getItem_tuple hl (by omega) (by omega) c hx ?_));refine AAF (ABU (s:={s with toks:=s.toks+1}) hq rfl (x:=rawInt ((xs.size:Int)-1-k)) rfl ?_);refine AAF (ADz (s:={s with toks:=s.toks+1}) hq rfl (by simp) (AAI ⟨x,rfl,AAI (hQ _ _ ?_ (AD0 ..))⟩));unfold Jc;rw[ADQ _ hq (AFG (AD1 rfl _))];rw[show (xs.size:Int)-1-(k+1:Nat)=(xs.size:Int)-1-k-1 by omega];rfl
end
structure ZR (z TI TO i j l m:Addr) (n:Nat) (k:Nat) (f:Value) (h:Heap):Prop where
 zip:IsZip h z TI TO f
 its:IsPair h TI (.ref i) (.ref j)
 own:∃x y,IsPair h TO x y
 one:Qq false h i l k
 two:Jc h j m ((n:Int)-1-k)
def ZR.mv {z TI TO i j l m:kd}{n k:Nat}{f:ki}{h h':Sr}(Z:ZR z TI TO i j l m n k f h)(e:∀p∈ [z,TI,TO,i,j],∀o,h.get? p=some o->h'.get? p=some o):ZR z TI TO i j l m n k f h':=by obtain⟨a,b,⟨x,y,c⟩,d,g⟩:=Z;exact⟨e z (by simp) _ a,e TI (by simp) _ b,⟨x,y,e TO (by simp) _ c⟩,d.mv (e i (by simp)),e j (by simp) _ g⟩
section
variable {prog:Wf}{w:Tb}{A:Sl}{E:ki->kf->Prop}{s:kf}
variable {z TI TO i j l m:kd}{k:Nat}{xs ys:Array ki}
def rH {x y:ki}{Q:ki->kf->Prop}(D:ZipApart z TI TO i j l m)(Z:ZR z TI TO i j l m ys.size k .none s.heap)(hl:N1 false s.heap l xs)(hm:IsTup s.heap m ys)(Vu:(ys.size:Int)<2^63)(hx:xs[k]? =some x)(hk:k<ys.size)(hy:ys[ys.size-1-k]? =some y)(hQ:∀h' J,IsZip h' z TI TO (rawInt s.heap.objs.size)->IsPair h' TI (.ref i) (.ref j)->IsPair h' TO x y->Qq false h' i l (k+1)->Jc h' j m ((ys.size:Int)-1-(k+1:Nat))->IsPair h' s.heap.objs.size x y-> (∀p o,p≠z->p≠TO->p≠i->p≠j->s.heap.get? p=some o->h'.get? p=some o)->Q (.ref s.heap.objs.size) {s with heap:=h',toks:=J}):wpAny (model prog w) A (Builtin.«zip.__next__» ⟨[.ref z], []⟩) (λK s'=>∃v,K= .done (.ret v)/\Q v s') E s:=by
 obtain⟨f,X,⟨x0,L,zo⟩,z1,z2⟩:=Z;show wpAny _ _ (field (.ref z) 2 >>= _) _ _ _;refine AAF (ABU f rfl (x:= .bool false) rfl ?_);show wpAny _ _ (field (.ref z) 3 >>= _) _ _ _;refine AAF (ABU f rfl (x:= .ref TI) rfl (AAF (ABt X rfl ?_)));refine AAF (m:=Builtin.SmallTypes.ownedTupleIsFree (.ref z)) ?_;unfold Builtin.SmallTypes.ownedTupleIsFree;refine AAF (ABU f rfl (x:= .none) rfl (AAI ?_));simp only[AB2];refine AAF (ACH (AAF (ABU f rfl (x:= .ref TO) rfl (AAF (ACT f (by simp) λg1 M b1=> ?_)))));have M:IsZip g1 z TI TO .ellipsis:=M;refine AAF ?_;simp only[AEi,AEj,ADf,AD2];refine AAF (AAF (ADT ?_));refine AAF (m:=Builtin.SmallTypes.nextOf (.ref i)) (K5 (z1.mv λo=>b1.extBut _ o D.i1z) (hl.mv λo=>b1.extBut _ o D.l1z) hx λg2 e2 b2=>AAI ?_);have Y:IsPair g2 TO x0 L:=b2.extBut _ _ D.TOi1 (b1.extBut _ _ D.TOz zo);refine AAF (ABt Y rfl (AAF (AD3 Y λN O d=>AAF (ADg (AAI ?_)))));have O:IsPair N TO x L:=O;refine AAF (AAF (ADT ?_));have P:∀h h':Sr,(∀o,h.get? m=some o->h'.get? m=some o)->IsTup h m ys->IsTup h' m ys:=λh h' e x=>(show N1 false h m ys from x).mv e;have R:IsTup N m ys:=P _ _ (λo=>d.extBut _ o D.l2TO) (P _ _ (λo=>b2.extBut _ o D.l2i1) (P _ _ (λo=>b1.extBut _ o D.l2z) hm));have S:Jc N j m ((ys.size:Int)-1-k):=d.extBut _ _ D.TOi2.symm (b2.extBut _ _ D.i12.symm (b1.extBut _ _ D.i2z z2));refine AAF (m:=Builtin.SmallTypes.nextOf (.ref j)) (lB S R Vu hk hy λg4 J e4 g=>AAI ?_);have o4:IsPair g4 TO x L:=g.extBut _ _ D.TOi2 O;refine AAF (ABt o4 rfl (AAF (AD3 o4 λa C n=>AAF (ADg (AAI (AAI ?_))))));have C:IsPair a TO x y:=C;refine AAF (ABt C rfl (AAF (wpAny_newTuple ?_)));have sz:a.objs.size=s.heap.objs.size:=by rw[n.1,g.1,d.1,b2.1,b1.1]
 have k5:IsZip a z TI TO .ellipsis:=n.extBut _ _ D.TOz.symm (g.extBut _ _ D.i2z.symm (d.extBut _ _ D.TOz.symm (b2.extBut _ _ D.i1z.symm M)));have b:∀p o,p≠z->p≠TO->p≠i->p≠j->s.heap.get? p=some o->a.get? p=some o:=λp o F G T U e=>
  n.extBut _ _ G (g.extBut _ _ U (d.extBut _ _ G (b2.extBut _ _ T (b1.extBut _ _ F e))))
 have r:Qq false a i l (k+1):=((e2.mv λo=>d.extBut _ o D.TOi1.symm).mv λo=>g.extBut _ o D.i12).mv λo=>n.extBut _ o D.TOi1.symm;have t:Jc a j m ((ys.size:Int)-1-(k+1:Nat)):=n.extBut _ _ D.TOi2.symm e4;have u:z<a.objs.size:=ABD k5;refine AAF (m:=Builtin.SmallTypes.ownedTupleHandOut (.ref z) (.ref a.objs.size)) ?_;unfold Builtin.SmallTypes.ownedTupleHandOut;have k6:IsZip (a.push {cls:= .type "tuple",data:= .seq #[x,y] }) z TI TO .ellipsis:=ABF _ k5;refine AAF (ACT k6 (by simp) λg7 W b7=> ?_);have W:IsZip g7 z TI TO (rawInt a.objs.size):=W;refine ACT W (by simp) λH I b8=> ?_;have I:IsZip H z TI TO (rawInt a.objs.size):=I;have B:∀p o,p≠z->a.get? p=some o->H.get? p=some o:=λp o q e=>b8.extBut _ _ q (b7.extBut _ _ q (ABF _ e));have c:IsPair H a.objs.size x y:=b8.extBut _ _ (ABu u) (b7.extBut _ _ (ABu u) (ABM _ rfl));rw[sz] at I c;refine AAI ⟨_,rfl, ?_⟩;show Q (.ref a.objs.size) _;rw[sz];exact hQ H J I (B _ _ D.TIz (b _ _ D.TIz D.TITO D.TIi1 D.TIi2 X)) (B _ _ D.TOz C) (r.mv λo=>B _ o D.i1z) (B _ _ D.i2z t) c λp o F G T U e=>B p o F (b p o F G T U e)
def vU {n:Nat}{Q:Fin->kf->Prop}(r:A.handled=none)(D:ZipApart z TI TO i j l m)(Z:ZR z TI TO i j l m n k .none s.heap)(hl:N1 false s.heap l xs)(hx:xs[k]? =none)(t:∀h' e,(∀p o,p≠z->p≠TO->p≠i->p≠j->s.heap.get? p=some o->h'.get? p=some o)->(∃o,h'.get? e=some o/\o.cls= .type "StopIteration")->E (.ref e) {s with heap:=h'}):wpAny (model prog w) A (Builtin.«zip.__next__» ⟨[.ref z], []⟩) Q E s:=by
 obtain⟨a,u,⟨I,J,K⟩,v,L⟩:=Z;show wpAny _ _ (field (.ref z) 2 >>= _) _ _ _;refine AAF (ABU a rfl (x:= .bool false) rfl ?_);show wpAny _ _ (field (.ref z) 3 >>= _) _ _ _;refine AAF (ABU a rfl (x:= .ref TI) rfl (AAF (ABt u rfl ?_)));refine AAF (m:=Builtin.SmallTypes.ownedTupleIsFree (.ref z)) ?_;unfold Builtin.SmallTypes.ownedTupleIsFree;refine AAF (ABU a rfl (x:= .none) rfl (AAI ?_));simp only[AB2];refine AAF (ACH (AAF (ABU a rfl (x:= .ref TO) rfl (AAF (ACT a (by simp) λy b b1=> ?_)))));have b:IsZip y z TI TO .ellipsis:=b;refine AAF ?_;simp only[AEi,AEj,ADf,AD2];refine AAF (AAF (ADT ?_));refine AAF (m:=Builtin.SmallTypes.nextOf (.ref i)) (MM r (v.mv λo=>b1.extBut _ o D.i1z) (hl.mv λo=>b1.extBut _ o D.l1z) hx λB e b2 he=> ?_);obtain⟨C,c,d⟩:=he;have f:IsZip B z TI TO .ellipsis:=b2 _ _ D.i1z.symm b;have F:e≠z:=λq=>by subst q;rw[f] at c;cases c;simp at d
 refine ACT f (by simp) λG _ g=>t G e (λp o h _ H _ q=>g.extBut _ _ h (b2 _ _ H (b1.extBut _ _ h q))) ⟨C,g.extBut _ _ F c,d⟩
end
def mW {n l m:Nat}(h1:l<n)(h2:m<n):ZipApart (n+4) (n+2) (n+3) (n+1) n l m where
 TIz:=(by omega:(n+2:Nat)≠n+4)
 TOz:=(by omega:(n+3:Nat)≠n+4)
 i1z:=(by omega:(n+1:Nat)≠n+4)
 i2z:=(by omega:(n:Nat)≠n+4)
 TITO:=(by omega:(n+2:Nat)≠n+3)
 TIi1:=(by omega:(n+2:Nat)≠n+1)
 TIi2:=(by omega:(n+2:Nat)≠n)
 TOi1:=(by omega:(n+3:Nat)≠n+1)
 TOi2:=(by omega:(n+3:Nat)≠n)
 i12:=(by omega:(n+1:Nat)≠n)
 l1z:=(by omega:(l:Nat)≠n+4)
 l1TO:=(by omega:(l:Nat)≠n+3)
 l1i1:=(by omega:(l:Nat)≠n+1)
 l1i2:=(by omega:(l:Nat)≠n)
 l2z:=(by omega:(m:Nat)≠n+4)
 l2TO:=(by omega:(m:Nat)≠n+3)
 l2i1:=(by omega:(m:Nat)≠n+1)
 l2i2:=(by omega:(m:Nat)≠n)
abbrev rA (h:Sr)(l:kd):Sr:=h.push (cC false l)
abbrev rC (h:Sr)(l r:kd):Sr:=(rA h l).push {cls:= .type "tuple",data:= .seq #[.ref h.objs.size, .ref r] }
abbrev rD (h:Sr)(l r:kd):Sr:=(rC h l r).push {cls:= .type "tuple",data:= .seq #[.none, .none] }
abbrev rF (h:Sr)(l r:kd):Sr:=(rD h l r).push {cls:= .type "zip",data:= .fields #[.none, .bool false, .bool false, .ref (rA h l).objs.size, .ref (rC h l r).objs.size] }
def fu {prog:Wf}{w:Tb}{A:Sl}{E:ki->kf->Prop}{h:Sr}{g:Array GenState}{d:Drawn}{a:Nat}{os:OsState}{q m:kd}{i:Int}{Q:ki->kf->Prop}(hq:Jc h q m i)(k:Q (.ref q) ⟨h,g,d,a,os⟩):wpAny (model prog w) A (pyIter (.ref q)) Q E ⟨h,g,d,a,os⟩:=kY (s:=⟨h,g,d,a,os⟩) hq k
def Y5 (l r m:kd)(i:Int)(xs:Array ki):Meets (Builtin.«zip.__new__» ⟨[.type "zip", .ref l, .ref r], []⟩) (λ_ R s=>N1 false s.heap l xs/\Jc s.heap r m i/\R (.ok (.ret (.ref (rD s.heap l r).objs.size))) {s with heap:=rF s.heap l r}):=
 .of_wp λprog w A R s h=>by
   obtain⟨hp,g,d,e,os⟩:=s;obtain⟨hl,a,h⟩:=h;have f:=sub_zip;have b:N1 false hp l xs:=hl;have c:Jc (hp.push (cC false l)) r m i:=ABF _ a
   wp_walk using Xr b,fu c
   exact⟨_,rfl,h⟩
section
variable {prog:Wf}{w:Tb}{A:Sl}{E:ki->kf->Prop}{s:kf}{l m r:kd}{xs:Array ki}{n:Nat}
def mU (hl:N1 false s.heap l xs)(f:Jc s.heap r m ((n:Int)-1)){Q:ki->kf->Prop}(h:∀h',ZR (s.heap.objs.size+3) (s.heap.objs.size+1) (s.heap.objs.size+2) s.heap.objs.size r l m n 0 .none h'->(∀p o,s.heap.get? p=some o->h'.get? p=some o)->Q (.ref (s.heap.objs.size+3)) {s with heap:=h'}):wpAny (model prog w) A (call (.type "zip") [.ref l, .ref r]) Q E s:=by
 refine callType_new F.called_zip (by decide) (F.typeCall_zip_2 _ _) (F.newCall_zip_2 _ _) (λobj=>F.args_object_init_3 obj _ _) F.entry_zip_new (Y5 l r m _ xs) ⟨hl,f, ?_⟩;have b:(rA s.heap l).objs.size=s.heap.objs.size+1:=ACI ..;have c:(rC s.heap l r).objs.size=s.heap.objs.size+2:=by rw[ACI,b]
 have i:(rD s.heap l r).objs.size=s.heap.objs.size+3:=by rw[ACI,c]
 have a:∀(g:Sr) (x:Obj) (p:kd) (o:Obj),g.get? p=some o->(g.push x).get? p=some o:=λg x p o e=>ABF _ e;have d:(rF s.heap l r).get? (rD s.heap l r).objs.size=some _:=ABM _ rfl;have j:(rF s.heap l r).get? (rC s.heap l r).objs.size=some _:=a _ _ _ _ (ABM _ rfl);have k:(rF s.heap l r).get? (rA s.heap l).objs.size=some _:=a _ _ _ _ (a _ _ _ _ (ABM _ rfl));have p1:(rF s.heap l r).get? s.heap.objs.size=some (cC false l):=a _ _ _ _ (a _ _ _ _ (a _ _ _ _ (ABM _ rfl)));have all:∀p o,s.heap.get? p=some o->(rF s.heap l r).get? p=some o:=λp o e=>a _ _ _ _ (a _ _ _ _ (a _ _ _ _ (a _ _ _ _ e)));rw[b,c,i] at d;rw[b] at k;rw[c] at j;show _/\_;rw[i];exact⟨⟨_,d,rfl⟩,h _ ⟨d,k,⟨_,_,j⟩,ft p1,by rw[show (n:Int)-1-(0:Nat)=(n:Int)-1 by omega];exact all _ _ f⟩ all⟩
end
def wa (K:AAG)(l m:kd)(n:Nat):It:=
 ⟨λi H=>∃xs ys x y,Sq K false H l xs/\Sq K false H m ys/\ys.length=n/\xs[i]? =some x/\i<n/\ys[n-1-i]? =some y,
  λi H v a=>∃T x y,v= .ref T/\H T=none/\a=upd H T (.tup [x,y])/\(∀xs,Sq K false H l xs->xs[i]? =some x)/\∀ys,Sq K false H m ys->ys[n-1-i]? =some y,
  λi H=>∃xs,Sq K false H l xs/\xs.length<=i⟩
def dC {P:Wf}{w:Tb}{K:AAG}{es:kj fe}{O:Nat}{r:Pos}{z TI TO i j l m:kd}{n:Nat}(D:ZipApart z TI TO i j l m):Kz P w K (.Tuple es O r) (wa K l m n) [z,TI,TO,i,j] z (λk h=>ZR z TI TO i j l m n k .none h) where
 mem:=by simp
 obj:=λk h Z p hp=>by
  have a:p=z\/p=TI\/p=TO\/p=i\/p=j:=by simpa using hp
  rcases a with e|e|e|e|e
  .subst e;exact⟨_,Z.zip,λv q=>nomatch q⟩
  .subst e;exact⟨_,Z.its,λv q=>nomatch q⟩
  .subst e;obtain⟨x,y,q⟩:=Z.own;exact⟨_,q,λv q=>nomatch q⟩
  .subst e;exact Z.one.obj
  .subst e;exact⟨_,Z.two,λv q=>nomatch q⟩
 keep:=λk h h' Z e=>Z.mv e
 item:=by
  intro X t hw A hc k Sb s J H E I g Z B;subst t hw A;obtain⟨xs,ys,x,y,hl,L,hn,hx,hk,hy⟩:=B;obtain⟨Q,C,F,_⟩:=I.sq hl;obtain⟨vs,rv,sv,hz⟩:=I.sq L;obtain⟨u,hu,R⟩:=C.get hx;obtain⟨v,hv,S⟩:=rv.get hy;have d:vs.toArray.size=n:=by rw[ABP,<-rv.length];exact hn
  have f:s.TypeIs (.ref z) "zip" :=⟨_,Z.zip,rfl⟩;rw[<-d] at Z;unfold pyNext;refine AAF (ADU (ACS (name:=Str.ofString "__next__") f ADE (ABz ADE f AEk
   (rH D Z F sv (by rw[d,<-hn];exact Int.lt_of_le_of_lt (Int.ofNat_le.mpr hz) (by decide)) (x:=u) (y:=v) (by simpa using hu) (by rw[d];exact hk) (by rw[d];simpa using hv) λh1 M U W Y a4 N a6 a7=>AAI ?_) (AEl _))))
  refine⟨_,rfl,wpAny_letOwnedTupleGo_zip (s:={s with heap:=h1,toks:=M}) U λh2 c1 c2=> ?_⟩;have G:∀p∈ [z,TI,TO,i,j],p<s.heap.objs.size:=λp hp=>by
   have a:p=z\/p=TI\/p=TO\/p=i\/p=j:=by simpa using hp
   rcases a with e|e|e|e|e
   .subst e;exact ABD Z.zip
   .subst e;exact ABD Z.its
   .subst e;obtain⟨x,y,q⟩:=Z.own;exact ABD q
   .subst e;obtain⟨o,q,_⟩:=Z.one.obj;exact ABD q
   .subst e;exact ABD Z.two
  have c:∀p o,p≠z->h1.get? p=some o->h2.get? p=some o:=λp o q e=>c2.extBut _ _ q e;have kp:∀p o,p ∉ [z,TI,TO,i,j] ->s.heap.get? p=some o->h2.get? p=some o:=λp o hp e=>by
   have a:p≠z/\p≠TI/\p≠TO/\p≠i/\p≠j:=by simpa using hp
   exact c p o a.1 (a7 p o a.1 a.2.2.1 a.2.2.2.1 a.2.2.2.2 e)
  have xY:s.heap.objs.size≠z:=ABu (G z (by simp));have I2:Inv X Sb J (upd H s.heap.objs.size (.tup [x,y])) {s with heap:=h2,toks:=M}:=I.turnedN g G kp (ABH _)
   ⟨(by show 2<=sizeLine;decide), [u,v], .cons R (.cons S .nil),⟨_,c _ _ xY a6,rfl,_,rfl⟩⟩
  have Vv:H s.heap.objs.size=none:=I.fresh;refine⟨.ref s.heap.objs.size,upd H s.heap.objs.size (.tup [x,y]),I2,rfl,⟨_,x,y,rfl,Vv,rfl,λxs' h'=> ?_,λys' h'=> ?_⟩, ?_,λp hp=> ?_⟩
  .rw [I.sq_inj h' hl];exact hx
  .rw [I.sq_inj h' L];exact hy
  .rw [d] at N;exact⟨c1,c _ _ D.TIz W,⟨_,_,c _ _ D.TOz Y⟩,a4.mv λo=>c _ o D.i1z,c _ _ D.i2z N⟩
  .rw [Ai (ABK (G p hp))];exact(g p hp).1
 done:=by
  intro X t hw A hc k Sb s J H E I g Z B;subst t hw A;obtain⟨xs,hl,he⟩:=B;obtain⟨Q,C,F,_⟩:=I.sq hl;have e1:=C.length;have f:s.TypeIs (.ref z) "zip" :=⟨_,Z.zip,rfl⟩;unfold pyNext;refine AAF (ADU (ACS (name:=Str.ofString "__next__") f ADE (ABz ADE f AEk
   (vU (I.ok.hd hc) D Z F (by simp;omega) λh1 e hk he=> ?_) (AEl _))))
  obtain⟨o,ho,oj⟩:=he;refine AAF (AC9 (T:="StopIteration") (b:=true) ⟨o,ho,oj⟩ isSubtype_stop (AAI ⟨rfl, ?_⟩));exact I.turnedL (t':=s.toks) g λp o hp e=>by
   have a:p≠z/\p≠TI/\p≠TO/\p≠i/\p≠j:=by simpa using hp
   exact hk p o a.1 a.2.2.1 a.2.2.2.1 a.2.2.2.2 e
 self:=λ_ _ _ _ _ Z h=>AEm Z.zip h
section
variable {X:Cx}
def lZ {e f:fe}{te z:TE}{p p2 n c i:Pos}{es:kj fe}{L:Nat}(M:Gl X "zip")(N:X.mg "zip" =none)(O:Gl X "reversed")(P:X.mg "reversed" =none)(he:PE X e te)(Q:PE X f z)(hs:starEach [e, .Call (.Name "reversed" p2) [f] [] c] X.env= [(false,eval e X.env),(false,eval (.Call (.Name "reversed" p2) [f] [] c) X.env)] :=by rfl)(A:starEach [f] X.env= [(false,eval f X.env)] :=by rfl):PI X (.Tuple es L i) (.Call (.Name "zip" p) [e, .Call (.Name "reversed" p2) [f] [] c] [] n) (λd H R=>te d H λu r=>z d r λv g=>∃l m ys,u= .ref l/\v= .ref m/\(∃xs,Sq X.K false g l xs)/\Sq X.K false g m ys/\R (wa X.K l m ys.length) g):=by
 intro Sb s d H R I h;refine Call_ (F1 I M N boot_zip (ADO ?_ (by rw[hs];rfl) rfl));rw[hs];show wpAny _ _ (spliced ((false,eval e X.env) :: [(false,eval (.Call (.Name "reversed" p2) [f] [] c) X.env)])) _ _ s;refine ADA (Be (he Sb s d H _ I h) λv B ⟨x,r,C,r1,S⟩=> ?_);refine ADA ?_;refine Call_ (F1 C O P boot_reversed (ADO ?_ (by rw[A];rfl) rfl));rw[A];show wpAny _ _ (spliced ((false,eval f X.env) :: [])) _ _ B;refine ADA (Be (Q Sb B d r _ C S) λv2 a ⟨x2,g,j,r2,T⟩=>ADu ?_);obtain⟨l,m,ys,rfl,rfl,⟨xs,hl⟩,U,q⟩:=T;cases r1;cases r2;obtain⟨W,ru,D,_⟩:=j.sq hl;obtain⟨vs,rv,sv,hz⟩:=j.sq U;have E:vs.toArray.size=ys.length:=by rw[ABP,<-rv.length]
 have t:l<a.heap.objs.size:=by obtain⟨o,e,_⟩:=D;exact ABD e
 have w:m<a.heap.objs.size:=by obtain⟨o,e,_⟩:=sv;exact ABD e
 refine js sv (by rw[E];exact Int.lt_of_le_of_lt (Int.ofNat_le.mpr hz) (by decide)) (ADu ?_);have F:∀b o,a.heap.get? b=some o->(a.heap.push (jO m ((vs.toArray.size:Int)-1))).get? b=some o:=λb o e=>ABF _ e;have k:(a.heap.push (jO m ((vs.toArray.size:Int)-1))).objs.size=a.heap.objs.size+1:=ACI ..;have y:N1 false (a.heap.push (jO m ((vs.toArray.size:Int)-1))) l W.toArray:=D.mv λo e=>F _ o e;have Y:Jc (a.heap.push (jO m ((vs.toArray.size:Int)-1))) a.heap.objs.size m ((ys.length:Int)-1):=by rw[<-E];exact ABM _ rfl
 refine mU (s:={a with heap:=a.heap.push (jO m ((vs.toArray.size:Int)-1)),toks:=a.toks+1+1}) y Y λh1 Z kp=>AEm Z.zip ?_;have I3:Inv X Sb d g {a with heap:=h1,toks:=a.toks+1+1}:=j.kept (t':=a.toks+1+1) λb G q=>kp b G (F b G q);have Z':ZR (a.heap.objs.size+4) (a.heap.objs.size+2) (a.heap.objs.size+3) (a.heap.objs.size+1) a.heap.objs.size l m ys.length 0 .none h1:=by have Z2:=Z;rw[show ({a with heap:=a.heap.push (jO m ((vs.toArray.size:Int)-1)),toks:=a.toks+1+1}:kf).heap.objs.size=a.heap.objs.size+1 from k] at Z2;exact Z2
 refine⟨_,_,_,_,g, ?_,I3,dC (mW t w),Z',λp hp=> ?_,q⟩
 .exact congrArg Value.ref (by show (a.heap.push (jO m ((vs.toArray.size:Int)-1))).objs.size+3=_;rw[k])
 have J:a.heap.objs.size<=p:=by
  have o8:p=a.heap.objs.size+4\/p=a.heap.objs.size+2\/p=a.heap.objs.size+3\/p=a.heap.objs.size+1\/p=a.heap.objs.size:=by simpa using hp
  rcases o8 with e|e|e|e|e <;> (rw[e];first | exact ABH _|exact Nat.le_add_right _ _)
 exact j.fpOk J (j.hok.fresh J)
end
end L2
namespace PL
open PySem PySem.Spec PyProof.Rows L2
def Wy {xs ys:kj PV}{i:Nat}{u:PV}(h:(GA xs ys)[i]? =some u):∃x y,xs[i]? =some x/\ys[i]? =some y/\u= .tup [x,y] :=by
 unfold GA at h;rw[AFb] at h;cases hx:xs[i]? with
 | none=>rw[hx] at h;simp at h
 | some x=>
   cases hy:ys[i]? with
   | none=>rw[hx,hy] at h;simp at h
   | some y=>rw[hx,hy] at h;simp at h;exact⟨x,y,rfl,rfl,h.symm⟩
def cB {K:AAG}{T M:kd->Prop}{H:Hp}{l m:kd}{xs ys:kj PV}{n:Nat}(va:HK T M H)(y:xs.length=ys.length)(t:ys.length=n)(r:CZ K T M H (.ref l) (.tup xs))(r2:CZ K T M H (.ref m) (.tup ys)):VV K M (wa K l m n) (GA xs ys.reverse) T H:=by
 obtain⟨_,vs,e,hq,rs⟩:=DM r;cases e;obtain⟨_,ws,e,g,c⟩:=DM r2;cases e;have z:=c.length;have j:∀i b,ys.reverse[i]? =some b->i<n/\ys[n-1-i]? =some b:=λi b h=>by have hi:i<ys.reverse.length:=(ABc.mp h).1;rw[List.length_reverse] at hi;rw[List.getElem?_reverse hi,t] at h;exact⟨by omega,h⟩
 refine⟨λi w h=> ?_,λi w v A h u=> ?_,λi h=>⟨vs,hq, ?_⟩⟩
 .obtain ⟨a,b,ha,hb,_⟩:=Wy h;obtain⟨hi,hb⟩:=j i b hb;obtain⟨d,h1,_⟩:=rs.get ha;obtain⟨f,h2,_⟩:=c.get hb;exact⟨vs,ws,d,f,hq,g,by omega,h1,hi,h2⟩
 .obtain ⟨a,b,ha,hb,rfl⟩:=Wy h;obtain⟨hi,hb⟩:=j i b hb;obtain⟨p,d,f,rfl,hn,rfl,h1,h2⟩:=u;obtain⟨B,k,ra⟩:=rs.get' (h1 vs hq);obtain⟨C,s,x⟩:=c.get' (h2 ws g);rw[ha] at k;cases k;rw[hb] at s;cases s;have st:=Dj.lay (o:= .tup [d,f]) va.tp hn;exact⟨st, .tup (.inl Al) (.cons (ra.stp st va) (.cons (x.stp st va) .nil))⟩
 .have:(GA xs ys.reverse).length=xs.length:=by unfold GA;rw[List.length_zipWith,List.length_reverse];omega
  rw[this] at h;rw[rs.length];exact h
section
variable {X:Cx}
def oM (a b:AE):AI:=λτ Q=>a τ λx=>b τ λy=>match x,y with | .tup xs, .tup ys=>xs.length=ys.length/\Q (GA xs ys.reverse)|_,_=>False
def u8 {e f:fe}{n o:AE}{p p2 d a b:Pos}{es:kj fe}{A:Nat}(C:Gl X "zip")(D:X.mg "zip" =none)(E:Gl X "reversed")(F:X.mg "reversed" =none)(ha:SE X e n)(hb:SE X f o)(hs:starEach [e, .Call (.Name "reversed" p2) [f] [] a] X.env= [(false,eval e X.env),(false,eval (.Call (.Name "reversed" p2) [f] [] a) X.env)] :=by rfl)(G:starEach [f] X.env= [(false,eval f X.env)] :=by rfl):SI X (.Tuple es A b) (.Call (.Name "zip" p) [e, .Call (.Name "reversed" p2) [f] [] a] [] d) true (oM n o):=by
 obtain⟨t,I,s⟩:=ha;obtain⟨t',J,K⟩:=hb;refine⟨_,lZ C D E F I J hs G,λB T r τ H R U g h k=>s B T r τ H _ _ g h λu x L M i r1 h1=>K B L r τ M _ _ (g.stp i) h1 λv y N O w r2 h2=> ?_⟩;split at h2 <;> first | exact h2.elim|skip
 obtain⟨P,h2⟩:=h2;have c:=r1.stp w (g.stp i).va;obtain⟨l,Q,rfl,hq,rs⟩:=DM c;obtain⟨m,ws,rfl,S,j⟩:=DM r2;exact⟨l,m,ws,rfl,rfl,⟨Q,hq⟩,S,k _ _ N O (i.trans w) (λM2 T3 W z va _=>cB va P (by rw[j.length]) (c.mv z) (r2.mv z)) h2⟩
end
end PL
namespace L2
open PySem PySem.Spec PyProof.Rows
def Gq (h:Sr):Sr:=(h.push {cls:= .type "dict",data:= .dict #[] }).push {cls:= .type "cell",data:= .cell none}
def RD {h:Sr}{b:kd}{o:Obj}(e:h.get? b=some o):(Gq h).get? b=some o:=ABF _ (ABF _ e)
def YO {h:Sr}:(Gq h).Ns h.objs.size (λ_=>none):=(Heap.Ns.new h (.type "dict")).keeps λb o e=>ABF _ e
def UG {h:Sr}:(Gq h).IsCell (h.objs.size+1) none:=by have e:(h.push {cls:= .type "dict",data:= .dict #[] }).objs.size=h.objs.size+1:=ACI ..;rw[<-e];exact⟨_,ABM _ rfl,rfl⟩
def gO {M:Model}{A:Sl}{E:ki->kf->Prop}{s:kf}{scope:Scope}{c:Str}{globals:kd}{cl:kj (Str×kd)}{qual:Str}{env:Env}{Q:Env->kf->Prop}(d:∀n a,cellsFrom n scope.names a=(c,n)::a)(e:∀h,pushCells h scope.names=h.push {cls:= .type "cell",data:= .cell none})(hQ:Q (newEnv scope s.heap.objs.size globals ((c,s.heap.objs.size+1)::cl) qual none .none (some env) builtinsNs) {s with heap:=Gq s.heap}):wpAny M A (newFunctionEnv scope globals cl [] qual none .none (some env)) Q E s:=by simp only[newFunctionEnv,Option.isSome_some,AB2];refine AAF (wpAny_alloc ?_);refine AAF (wpAny_layCells _ (λname kind cells=>by cases b:kind==NameKind.cell <;> simp[b]) _ _ _ _ ?_);rw[d,e];rw[show ({s with heap:=s.heap.push {cls:= .type "dict",data:= .dict #[] }}:kf).heap.objs.size=s.heap.objs.size+1 from ACI ..];rw[AD2];exact AAF (AAI (AAI hQ))
def Jf (X:Cx)(sc:Scope)(N:kj Str)(a:Str)(cl:kj (Str×kd))(C:kd)(s:kf)(H:Hp)(ex:kj kd)(pn:kj (kd×Obj)):Cx:=
 {blk X sc N ((a,C+1)::cl) C s H ex pn with fn:=λx=>x==a}
section
variable {X:Cx}{Sb:kj (kd×Obj)}{σ:St}{H:Hp}{s:kf}{fp:kj kd}{sc:Scope}{N:kj Str}{cl:kj (Str×kd)}{y0:Str}
def nE {C:kd}{y:Str}{c:kd}(e:((y0,C+1)::cl).lookup y=some c):(y=y0/\c=C+1)\/cl.lookup y=some c:=by
 rw[ADe] at e;cases hb:y==y0 with
 | true=>rw[hb] at e;cases e;exact .inl ⟨beq_iff_eq.mp hb,rfl⟩
 | false=>rw[hb] at e;exact .inr e
def jr (I:Inv X Sb σ H s)(d:∀b∈fp,EM X Sb H b)(h:∀b∈fp,b<s.heap.objs.size)(hk:sc.kind= .function)(h1:∀y c,cl.lookup y=some c->X.env.cells.lookup y=some c)(h2:∀y,(sc.names.lookup y=some .cell\/sc.names.lookup y=some .free)->∃c,((y0,s.heap.objs.size+1)::cl).lookup y=some c):(Jf X sc N y0 cl s.heap.objs.size s H fp (X.pn++Sb)).Ok where
 mod:=I.ok.mod
 kind:=hk
 glob:=I.ok.glob
 blt:=I.ok.blt
 above:=ABH _
 inj:=λx y c a b=>by
  have lo:∀y c,cl.lookup y=some c->c<s.heap.objs.size:=λy c e=>I.szLt (h1 y c e);rcases nE a with⟨k,l⟩|g
  .rcases nE b with⟨i,j⟩|f
   .rw [k,i]
   .rw [l] at f;exact absurd (lo _ _ f) (Nat.not_lt.mpr (AED _))
  .rcases nE b with⟨i,j⟩|f
   .rw [j] at g;exact absurd (lo _ _ g) (Nat.not_lt.mpr (AED _))
   .exact I.ok.inj x y c (h1 x c g) (h1 y c f)
 has:=λx hx=>h2 x hx
 cab:=λx c z e=>by
  have z:(x==y0)=true:=z;rcases nE e with⟨_,rfl⟩|e
  .exact AED _
  .have e':((y0,s.heap.objs.size+1)::cl).lookup x=some c:= ‹_›;rw[ADe,z] at e';cases e';exact AED _
 hd:=I.ok.hd
 frames:=I.ok.frames
 stk:= .inl rfl
 exf:=λb hb=>⟨ABK (h b hb),λx c e=>by
  rcases nE e with⟨_,rfl⟩|e
  .exact ABu (Nat.lt_succ_of_lt (h b hb))
  .exact (d b hb).2.2.2.2.1 x c (h1 x c e)⟩
 bs:=I.bs
 bsz:=ABT I.ok.bsz I.sz
 noex:=λb o e hb=>by
  rcases (d b hb).2.2.2.1 with z|z
  .exact I.ok.noex b o e z
  .exact absurd (ABb (ABD (I.ok.bs b o e).1) z) (ACZ _)
 exfs:=λb hb=>I.notStk (d b hb).2.1 (d b hb).2.2.1
 funs:=I.stack
 frf:=I.stkFree
def jq {own:Nat}{ix:kj Nat}{h':Sr}{m:Str->kc ki}{t':Nat}(I:Inv X Sb σ H s)(K:∀b∈fp,EM X Sb H b)(L:∀b∈fp,b<s.heap.objs.size)(hk:sc.kind= .function)(h1:∀y c,cl.lookup y=some c->X.env.cells.lookup y=some c)(h2:∀y,(sc.names.lookup y=some .cell\/sc.names.lookup y=some .free)->∃c,((y0,s.heap.objs.size+1)::cl).lookup y=some c)(F:RV X sc own ix N)(h:∀(j i:Nat) (x:Str),ix[j]? =some i->N[own+j]? =some x->x≠y0)(hn:h'.Ns s.heap.objs.size m)(M:h'.IsCell (s.heap.objs.size+1) none)(k:∀b o,s.heap.get? b=some o->h'.get? b=some o):Inv (Jf X sc N y0 cl s.heap.objs.size s H fp (X.pn++Sb)) [] (B5 own ix σ) H {s with heap:=h',toks:=t'} where
 ok:=jr I K L hk h1 h2
 os:=rfl
 bare:=I.bare
 base:=Un.kept k
 loc:=by
  refine⟨m,hn,λi x v O P Z=> ?_⟩;obtain⟨bY,Q,B,es⟩:=FI P;obtain⟨y,C,R,D,E⟩:=F.out _ _ B;have n:x=y:=by have t:N[i]? =some x:=O;have f:=C;rw[show own+(i-own)=i by omega,t] at f;exact ABW f
  subst n;have S:=h _ _ _ B C;obtain⟨m0,T,U⟩:=I.loc;obtain⟨u,r,l⟩:=U Q x v R es (.inr (.inl D));refine⟨u,r, ?_⟩;rcases l with⟨z,_⟩|⟨_,c,W,z⟩
  .have G:X.env.scope.names.lookup x=some .local:=z;rw[D] at G;cases G
  .obtain ⟨J,g⟩:=h2 x (.inl E);have w:cl.lookup x=some J:=by
    rcases nE g with⟨e,_⟩|e
    .exact absurd e S
    .exact e
   have:=h1 x J w;rw[W] at this;cases this;obtain⟨o,A,hd⟩:=z;exact .inr ⟨.inl E,c,g,o,k c o A,hd⟩
 cell:=λx c e=>by
  rcases nE e with⟨_,rfl⟩|e
  .exact ⟨none,M⟩
  .obtain ⟨v,o,A,hd⟩:=I.cell x c (h1 x c e);exact⟨v,o,k c o A,hd⟩
 free:=I.hok.fresh (ABH _)
 freeC:=λx c e=>by
  rcases nE e with⟨_,rfl⟩|e
  .exact I.hok.fresh (AED _)
  .exact I.freeC x c (h1 x c e)
 pin:=λp hp=>by
  have Y:p∈X.pn++Sb:=by simpa[Jf,blk] using hp
  obtain⟨a,b,c,d,e⟩:=I.pin p Y;exact⟨k _ _ a,b,ABK (ABD a),I.notStk c d,e⟩
 hok:=I.hok.kept k
 len:=by rw[MI];exact F.len.symm
def eG {own:Nat}{ix:kj Nat}{d:St}{e:Hp}{f:kf}{a:kj (kd×Obj)}(I:Inv X Sb σ H s)(c:∀b∈fp,EM X Sb H b)(g:∀b∈fp,b<s.heap.objs.size)(B:Inv (Jf X sc N y0 cl s.heap.objs.size s H fp (X.pn++Sb)) a d e f):Inv X Sb σ e f:=
 I.call' (ch:=fp) B.os B.base B.hok B.bare λb hb=>⟨(c b hb).2.2.2.1,(c b hb).2.1,(c b hb).2.2.2.2.1,(c b hb).2.2.2.2.2⟩
end
section
variable {X:Cx}{tg elt iter:fe}{ifs:kj fe}{scope:Scope}{pos:Pos}{wi:TI}{own:Nat}{ix:kj Nat}{N:kj Str}{y0:Str}{g:TG}{tt:TT}{te:TE}
structure Nz (X:Cx) (tg elt:Expr) (ifs:List Expr) (scope:Scope) (own:Nat) (ix:List Nat) (N:List Str) (y0:Str) (g:TG) (tt:TT) (te:TE):Prop where
 kind:scope.kind= .function
 cells:∀y∈scope.names,y.2= .cell->y.1=y0
 cf:∀n acc,cellsFrom n scope.names acc=(y0,n)::acc
 pc:∀h,pushCells h scope.names=h.push {cls:= .type "cell",data:= .cell none}
 far:∀(j i:Nat) (x:Str),ix[j]? =some i->N[own+j]? =some x->x≠y0
 names:∀y∈scope.names,y.2= .local->scope.names.lookup y.1=some .local
 frees:∀y∈scope.names,y.2= .free->X.env.scope.names.lookup y.1=some .cell
 ins:RV X (relabel scope X.env) own ix N
 keep:Hg own g
 tgt:∀cl C s H ex pn,PG (Jf X (relabel scope X.env) N y0 cl C s H ex pn) tg g
 tst:∀cl C s H ex pn,ZE (Jf X (relabel scope X.env) N y0 cl C s H ex pn) ifs tt
 val:∀cl C s H ex pn,PE (Jf X (relabel scope X.env) N y0 cl C s H ex pn) elt te
def LO {env:Env}{y:Str}{k:NameKind}(c:∀y∈scope.names,y.2= .cell->y.1=y0)(h:(y,k)∈(relabel scope env).names)(hk:k= .cell\/k= .free):(y,NameKind.free)∈scope.names\/y=y0:=by
 obtain⟨⟨n,b⟩,a,e⟩:=ABG.mp (show (y,k)∈scope.names.map _ from h);dsimp only at e;split at e
 .rename_i hc;cases e;have:b= .free:=by cases b <;> simp_all
  subst this;exact .inl a
 .cases e;rcases hk with z|z
  .subst z;exact .inr (c _ a rfl)
  .subst z;exact .inl a
def XW {Sb:kj (kd×Obj)}{M:St}{H:Hp}{s:kf}{k:kj kd}{cl:kj (Str×kd)}{it:kd}{tn:Nat->Sr->Prop}{J:It}{D:kd}{R:Result->kf->Prop}{Qh:Hp->Prop}{W:Nat->Nat->Hp->Prop}(hc:X.calm=true)(O:Nz X tg elt ifs scope own ix N y0 g tt te)(T:Kz X.prog X.w X.K tg J k it tn)(I:Inv X Sb M H s)(hf:∀b∈k,EM X Sb H b)(Ea:∀b∈k,b<s.heap.objs.size)(hW:Jg J D (B5 own ix M) g tt te Qh W)(hR:∀σ' a P,Inv (Jf X (relabel scope X.env) N y0 cl s.heap.objs.size s H k (X.pn++Sb)) [] σ' a P->Qh a->R (.ok .next) P)(n:Nat)(s0:kf)(h0:∃i a,Inv (Jf X (relabel scope X.env) N y0 cl s.heap.objs.size s H k (X.pn++Sb)) [] (B5 own ix M) a s0/\tn i s0.heap/\(∀b∈k,a b=none)/\W i n a):codeAny (model X.prog X.w) X.A (.compLoop (.ListComp elt [⟨tg,iter,ifs,0⟩] scope pos) 0 (.ref it) (.ref D) (Fv X.env (relabel scope X.env) ((y0,s.heap.objs.size+1)::cl) s.heap.objs.size)) R s0:=by
 refine AEd rfl (λn P=>∃i a,Inv (Jf X (relabel scope X.env) N y0 cl s.heap.objs.size s H k (X.pn++Sb)) [] (B5 own ix M) a P/\tn i P.heap/\(∀b∈k,a b=none)/\W i n a) (λn s1 h1=> ?_) n h0;obtain⟨i,H1,B1,S,U,w1⟩:=h1;generalize f:Jf X (relabel scope X.env) N y0 cl s.heap.objs.size s H k (X.pn++Sb)=Y at *;have eA:Y.A=X.A:=by rw[<-f];rfl
 have Z:Y.prog=X.prog:=by rw[<-f];rfl
 have eW:Y.w=X.w:=by rw[<-f];rfl
 have eK:Y.K=X.K:=by rw[<-f];rfl
 have eE:Fv X.env (relabel scope X.env) ((y0,s.heap.objs.size+1)::cl) s.heap.objs.size=Y.env:=by rw[<-f];rfl
 have eX:Y.xe=λ_ _=>False:=by rw[<-f];rfl
 have eC:Y.calm=true:=by rw[<-f];exact hc
 have hg:PG Y tg g:=by rw[<-f];exact O.tgt _ _ _ _ _ _
 have ht:ZE Y ifs tt:=by rw[<-f];exact O.tst _ _ _ _ _ _
 have hv:PE Y elt te:=by rw[<-f];exact O.val _ _ _ _ _ _
 have l:∀{a:Hp},(∀b∈k,a b=none)->∀b∈k,EM Y [] a b:=λ{a} hn b hb=>by
  obtain⟨_,a1,a2,a3,a4,a5⟩:=hf b hb;refine⟨hn b hb, ?_, ?_, ?_, ?_, ?_⟩
  .rw [<-f];exact ABK (Ea b hb)
  .rw [<-f];exact I.notStk a1 a2
  .rw [<-f];exact .inl hb
  .intro x c e;exact(B1.ok.exf b (by rw[<-f];exact hb)).2 x c e
  .intro p hp;have:p∈X.pn++Sb:=by rw[<-f] at hp;simpa[Jf,blk] using hp
   exact a5 p this
 rw[eE,<-eA,<-Z,<-eW];show wpAny _ _ ((compTurn (.ListComp elt [⟨tg,iter,ifs,0⟩] scope pos) 0 (.ref it) (.ref D) Y.env).onRaise (λx=>do noteFrame x Y.env;theTreesLotGoes x)) _ _ s1;refine AEe ?_;rw[compTurn_list];have ff:∀{α:Type} {t:Sem α} {Q:α->kf->Prop} {E:ki->kf->Prop} {s:kf},wpAny (model Y.prog Y.w) Y.A t Q Y.xe s->wpAny (model Y.prog Y.w) Y.A t Q E s:=λh=>AB4 h (λ_ _ q=>q) λ_ _ z=>by rw[eX] at z;exact z.elim
 refine AAF (ACP (AAF ?_));rcases hW i n H1 w1 with⟨stop,qn⟩|⟨go,step⟩
 .have zd:=λE=>T.done Y Z eW eK eC i [] s1 _ H1 E B1 (l U) S stop;rw[<-Z,<-eW] at zd;refine Be (zd _) λr s4 ⟨hr,I4⟩=> ?_;subst hr;exact AAI (hR _ _ _ I4 qn)
 .have zi:=λE=>T.item Y Z eW eK eC i [] s1 _ H1 E B1 (l U) S go;rw[<-Z,<-eW] at zi;refine Be (zi _) λr s4 ⟨u,hr,h4⟩=> ?_;subst hr;refine AAF (Be h4 λ_ s5 ⟨x,H5,I5,r5,y5,C,fr5⟩=> ?_);have I5':=I5.pinned (l fr5) (T.obj _ _ C);refine AAF (Be (ff (hg _ s5 _ H5 x u _ I5' r5 (O.keep _ _ _ _ (step x H5 y5)))) λ_ s6 ⟨B,H6,I6,q6,l6,k6⟩=> ?_);refine AAF (Be (ff (ht _ s6 B H6 _ I6 q6)) λok s7 ⟨H7,I7,q7⟩=> ?_);have back:∀{F:Hp} {G:kf} {L:Nat},Inv Y ([] ++ F2 k s5.heap) B F G->L<n->W (i+1) L F->
   ∃m,m<n/\∃i a,Inv Y [] (B5 own ix M) a G/\tn i G.heap/\(∀b∈k,a b=none)/\W i m a:=λ{F G L} I8 hm w8=>by
   refine⟨L,hm,i+1,F,I8.unpinned.weak l6.symm (λj v hj=> ?_),T.keep _ _ _ C λb hb o e=>(I8.pin (b,o) (ABY _ (ABY _ (CG hb e)))).1,λb hb=> ?_,w8⟩
   .rw [k6 j (FI hj).1];exact hj
   .obtain ⟨o,e,d⟩:=T.obj _ _ C b hb;exact(I8.pin (b,o) (ABY _ (ABY _ (CG hb e)))).2.1
  cases ok with
  | false=> obtain⟨L,hm,w8⟩:=q7;exact AAI ⟨rfl,back I7 hm w8⟩
  | true=> refine AAF (AAF (Be (ff (hv _ s7 B H7 _ I7 q7)) λyv G ⟨y,F,I8,r8,ys,hD,hz,L,hm,w8⟩=> ?_));refine AAF (Be (ff (IX _ G B F (.ref D) [y] (.ref D) [yv] (λ_ H9=>H9=upd F D (.lst (ys ++ [y]))) I8 rfl (.cons r8 .nil) ⟨D,ys,y,rfl,rfl,hD,hz,rfl⟩)) λ_ s9 ⟨_,H9,I9,_,e9⟩=> ?_);subst e9;exact AAI (AAI ⟨rfl,back I9 hm w8⟩)
def bI {Sb:kj (kd×Obj)}{u:St}{H:Hp}{s:kf}{use:kc (ki->Sem Unit)}{Q:ki->kf->Prop}{it:kd}{j:kj kd}{cl:kj (Str×kd)}{tn:Nat->Sr->Prop}{J:It}{Qd:kd->Hp->Prop}(hc:X.calm=true)(O:Nz X tg elt ifs scope own ix N y0 g tt te)(T:Kz X.prog X.w X.K tg J j it tn)(I:Inv X Sb u H s)(P:∀b∈j,EM X Sb H b)(st:tn 0 s.heap)(h1:∀y c,cl.lookup y=some c->X.env.cells.lookup y=some c)(h2:∀y,(y,NameKind.free)∈scope.names->∃c,cl.lookup y=some c)(hq:∀D,H D=none->∃W:Nat->Nat->Hp->Prop,(∃m,W 0 m (upd H D (.lst [])))/\Jg J D (B5 own ix u) g tt te (Qd D) W)(R:∀D C i k,(∃m,k.heap.Ns C m)->Inv X Sb u i k->(∀d v,Inv X Sb d i v->∀h',Heap.SameBut C v.heap h'->Inv X Sb d i {v with heap:=h'})->C≠X.env.locals->(∀x c,X.env.cells.lookup x=some c->C≠c)->Qd D i-> compPost (model X.prog X.w) X.A X.xe use Q (.ref D) C (.ok .next) k):wpAny (model X.prog X.w) X.A (newList []) (λl n=>wpAny (model X.prog X.w) X.A (newFunctionEnv scope X.env.globals cl [] X.env.qual none .none (some X.env)) (λa p=> codeAny (model X.prog X.w) X.A (.compStart (.ListComp elt [⟨tg,iter,ifs,0⟩] scope pos) 0 (.ref it) l {a with scope:=relabel scope X.env}) (compPost (model X.prog X.w) X.A X.xe use Q l a.locals) p) X.xe n) X.xe s:=by
 refine AB5 ?_ (by simp[sizeOk]);have f:Inv X Sb u (upd H s.heap.objs.size (.lst [])) {s with heap:=s.heap.push {cls:= .type "list",data:= .seq ([] :kj ki).toArray}}:=I.lnew (t':=s.toks) .nil (AB7 _);have S:=I.fresh;obtain⟨W,⟨m0,U⟩,hW⟩:=hq _ S;have Y:∀b∈j,b<s.heap.objs.size:=λb hb=>by obtain⟨o,e,_⟩:=T.obj _ _ st b hb;exact ABD e
 have E:∀b∈j,EM X Sb (upd H s.heap.objs.size (.lst [])) b:=λb hb=>by obtain⟨Z,ar⟩:=P b hb;exact⟨by rw[Ai (ABK (Y b hb))];exact Z,ar⟩
 generalize kT:({s with heap:=s.heap.push {cls:= .type "list",data:= .seq ([] :kj ki).toArray}}:kf)=s3 at f;have r:tn 0 s3.heap:=T.keep _ _ _ st λb hb o e=>by rw[<-kT];exact ABF _ e
 have F:∀b∈j,b<s3.heap.objs.size:=λb hb=>by obtain⟨o,e,_⟩:=T.obj _ _ r b hb;exact ABD e
 refine gO O.cf O.pc ?_;have M:∀b o,s3.heap.get? b=some o->(Gq s3.heap).get? b=some o:=λb o e=>RD e;have m7:=YO (h:=s3.heap);have oj:=UG (h:=s3.heap);have tT:∀y,((relabel scope X.env).names.lookup y=some .cell\/(relabel scope X.env).names.lookup y=some .free)->∃c,((y0,s3.heap.objs.size+1)::cl).lookup y=some c:=λy hy=>by
  have go:(y,NameKind.free)∈scope.names\/y=y0:=by
   rcases hy with z|z
   .exact LO O.cells (Hu z) (.inl rfl)
   .exact LO O.cells (Hu z) (.inr rfl)
  rw[ADe];cases hb:y==y0 with
  | true=>exact⟨_,rfl⟩
  | false=>
    rcases go with z|z
    .exact h2 y z
    .rw [z] at hb;simp at hb
 have B:=jq (N:=N) (t':=s3.toks) f E F (sc:=relabel scope X.env) O.kind h1 tT O.ins O.far m7 oj M;have t:tn 0 (Gq s3.heap):=T.keep _ _ _ r λb hb o e=>M b o e;have loop:∀G:kf,G={s3 with heap:=Gq s3.heap}->
  codeAny (model X.prog X.w) X.A (.compLoop (.ListComp elt [⟨tg,iter,ifs,0⟩] scope pos) 0 (.ref it) (.ref s.heap.objs.size) (Fv X.env (relabel scope X.env) ((y0,s3.heap.objs.size+1)::cl) s3.heap.objs.size)) (compPost (model X.prog X.w) X.A X.xe use Q (.ref s.heap.objs.size) s3.heap.objs.size) G:=by rintro G rfl;refine XW (cl:=cl) (Qh:=Qd s.heap.objs.size) hc O T f E F hW (λσ' i k L q'=> ?_) m0 _ ⟨0,_,B,t,λb hb=>(E b hb).1,U⟩;refine R _ _ i k (let ⟨m,hm,_⟩:=L.loc;⟨m,hm⟩) (eG (own:=own) (ix:=ix) f E F L) (λd v I2 h' hs=>O7 f rfl I2 L.free hs) (ABu f.lt) (λx c e=>ABu (f.szLt e)) q'
 exact AFF (loop _ rfl) (T.self _ 0 _ _ _ t (loop _ rfl))
def gv (hc:X.calm=true)(hi:PI X tg iter wi)(O:Nz X tg elt ifs scope own ix N y0 g tt te)(hs:∀x,foldedSetIterable iter X.env x=pure x:=by intro _;rfl):PE X (.ListComp elt [⟨tg,iter,ifs,0⟩] scope pos) (aS wi own ix g tt te):=by intro Sb s c H Q I h;obtain⟨cl,d,h1,h2⟩:=Gg (env:=X.env) (scope:=scope) λy hy e=>I.ok.has y.1 (.inl (O.frees y hy e));rw[eval_ListComp];refine AEf (use:=none) rfl hs d O.kind O.names (Be (hi Sb s c H _ I h) λv p hv=>Be hv λf r i=> ?_);obtain⟨it,t,tn,J,u,rfl,j,T,a,f2,q⟩:=i;exact bI (Qd:=λD b=>Q (.ref D) b) hc O T j f2 a h1 h2 q λD C b k hn l gone w z n=>by obtain⟨m,o⟩:=hn;exact⟨m,o,λh' hs=>⟨.ref D,b,gone c k l h' hs,rfl,n⟩⟩
end
end L2
namespace PL
open PySem PySem.Spec PyProof.Rows L2
section
variable {X:Cx}{ta:AE}{pos:Pos}
structure dZ (X:Cx) (tg elt:Expr) (ifs:List Expr) (scope:Scope) (own:Nat) (ix:List Nat) (N:List Str) (y0:Str) (g:AG) (t:AT) (te:AE):Prop where
 ex:∃g' t' te',Nz X tg elt ifs scope own ix N y0 g' t' te'/\Kx X.K g' g/\Nc X.K t' t/\Gf X.K te' te
def iN {c a iter:fe}{b:kj fe}{scope:Scope}{own:Nat}{ix:kj Nat}{N:kj Str}{e:Str}{g:AG}{t:AT}{s:da}{d:AI}(hc:X.calm=true)(hi:SI X c iter s d)(O:dZ X c a b scope own ix N e g t ta)(hs:∀x,foldedSetIterable iter X.env x=pure x:=by intro _;rfl):SF X (.ListComp a [⟨c,iter,b,0⟩] scope pos) (C1 d own ix g t ta):=by obtain⟨l,f,h⟩:=hi;obtain⟨g',t',i,O,j,st,k⟩:=O.ex;exact⟨_,gv hc f O hs,La h j st k⟩
def ju {l b:fe}{c:kj fe}{scope:Scope}{own:Nat}{ix:kj Nat}{N:kj Str}(a:Str){g:AG}{t:AT}{te:AE}(h1:scope.kind= .function)(h2:(scope.names.all λy=> !decide (y.2= .cell)||decide (y.1=a))=true)(m:∀n d,cellsFrom n scope.names d=(a,n)::d)(o:∀h,pushCells h scope.names=h.push {cls:= .type "cell",data:= .cell none})(p:(scope.names.all λy=> !decide (y.2= .local)||decide (scope.names.lookup y.1=some .local))=true)(r:(scope.names.all λy=> !decide (y.2= .free)||decide (X.env.scope.names.lookup y.1=some .cell))=true)(u:N.length=own+ix.length)(v:PJ X (relabel scope X.env) own ix N=true)(w:((N.drop own).all λx=> !decide (x=a))=true)(f:∀cl C s H ex pn,SK own (Jf X (relabel scope X.env) N a cl C s H ex pn) l g)(k:∀cl C s H ex pn,mZ (Jf X (relabel scope X.env) N a cl C s H ex pn) c t)(val:∀cl C s H ex pn,SE (Jf X (relabel scope X.env) N a cl C s H ex pn) b te):dZ X l b c scope own ix N a g t te:=by
 refine⟨oX X.K own g,rh X.K t,rR X.K te,⟨h1,λy hy e=> ?_,m,o,λj i x hj hx=> ?_,λy hy e=> ?_,λy hy e=> ?_,Vi u v,LD,λcl C s H ex pn=>(f cl C s H ex pn).of,λcl C s H ex pn=>(k cl C s H ex pn).of,λcl C s H ex pn=>(val cl C s H ex pn).of⟩,OJ,OK,Ue⟩
 .have:=ADF.mp h2 y hy;simpa[e] using this
 .have z:x∈N.drop own:=AB8 (i:=j) (by rw[ADm];exact hx);have:=ADF.mp w x z;simpa using this
 .have:=ADF.mp p y hy;simpa[e] using this
 .have:=ADF.mp r y hy;simpa[e] using this
end
end PL
namespace L2
open PySem PySem.Spec PyProof.Rows
def vO {T:String}(h:JG T):typeOf (.type T)=pure (.type "type"):=by rcases h with rfl|rfl|rfl|rfl <;> rfl
def vw:Kd->String
 | .int=>"int" | .bl=>"bool" | .non=>"NoneType" | .str=>"str" | .lst=>"list" | .tup=>"tuple"
section
variable {X:Cx}
def ka {K:AAG}{Sb:kj (kd×Obj)}{s:kf}{d:St}{H:Hp}{x:V}{u:ki}{k:Kd}(I:Inv X Sb d H s)(r:RelV x u)(h:sQ X.K x H k):s.TypeIs u (vw k):=by
 cases k with
 | int=>obtain⟨i,rfl⟩:=h;obtain⟨t,rfl⟩:=r;exact rfl
 | bl=>obtain⟨i,rfl⟩:=h;cases r;exact rfl
 | non=>have e:x= .non:=h;subst e;cases r;exact rfl
 | str=>obtain⟨i,rfl⟩:=h;obtain⟨t,rfl⟩:=r;exact rfl
 | lst=> obtain⟨a,ys,rfl,hq⟩:=h;cases r;obtain⟨b,f,g,hz⟩:=I.list hq;obtain⟨o,e,c,_⟩:=g.isList;exact⟨o,e,c⟩
 | tup=> obtain⟨a,ys,rfl,hq⟩:=h;cases r;obtain⟨b,f,⟨o,e,c,_⟩,hz⟩:=I.tuple hq;exact⟨o,e,c⟩
def oN {H:Hp}{x:V}{u:ki}{k:Kd}{T:String}(r:RelV x u)(h:sQ X.K x H k)(c:JG T):Answers (λs=>s.TypeIs u (vw k)) u (.type T) (Io k T):=by
 have b:=vO c;cases k with
 | int=>
   obtain⟨i,rfl⟩:=h;obtain⟨t,rfl⟩:=r;rcases c with rfl|rfl|rfl|rfl
   .exact .of_true b (by rw[ABs];kernel_rfl)
   all_goals exact .of_false_int (by rfl) b (by rw[ABs];kernel_rfl)
 | bl=>
   obtain⟨i,rfl⟩:=h;cases r;rcases c with rfl|rfl|rfl|rfl
   .exact .of_true b (by rw[ABs];kernel_rfl)
   .exact .of_true b (by rw[ABs];kernel_rfl)
   all_goals exact .of_false_bool (by rfl) b (by rw[ABs];kernel_rfl)
 | non=> have e:x= .non:=h;subst e;cases r;rcases c with rfl|rfl|rfl|rfl;all_goals exact .of_false_none (by rfl) b (by rw[ABs];kernel_rfl)
 | str=> obtain⟨i,rfl⟩:=h;obtain⟨t,rfl⟩:=r;rcases c with rfl|rfl|rfl|rfl;all_goals exact .of_false_str (by rfl) b (by rw[ABs];kernel_rfl)
 | lst=>
   obtain⟨a,ys,rfl,hq⟩:=h;cases r;rcases c with rfl|rfl|rfl|rfl
   case inr.inr.inr=>exact .of_true b (by rw[ABs];kernel_rfl)
   all_goals exact .of_false_list (by rfl) b (by rw[ABs];kernel_rfl)
 | tup=>
   obtain⟨a,ys,rfl,hq⟩:=h;cases r;rcases c with rfl|rfl|rfl|rfl
   case inr.inr.inl=>exact .of_true b (by rw[ABs];kernel_rfl)
   all_goals exact .of_false_tuple (by rfl) b (by rw[ABs];kernel_rfl)
theorem ZG {H:Hp}{x:V}{u:ki}{k:Kd}(r:RelV x u)(h:sQ X.K x H k):∀{a:kj String},(∀T∈a,JG T)->AnswersAll (λs=>s.TypeIs u (vw k)) u (a.map Value.type) (a.map (Io k))
 | [],_=>True.intro
 | T::a,hT=>⟨oN r h (hT T (by simp)),ZG r h λT h=>hT T (by simp[h])⟩
def vG (K:AAG)(c:TE)(b:kj String):TE:=λd H Q=>c d H λx a=>∀q,a q=none->∃k,sQ K x a k/\Q (.bl (b.any (Io k))) (upd a q (.tup (b.map V.ty)))
def vL (a:kj String):TA:=λ_ H Q=>Q (a.map V.ty) H
theorem Wv:∀{a:kj String} {b:kj ki},A3 (a.map V.ty) b->b=a.map Value.type
 | [],_,h=>by cases h;rfl
 | T::a,_,h=>by
   rw[ABJ] at h;cases h with
   | cons h t=>cases h;rw[Wv t,ABJ]
def lU {x:Str}{p p2 f:Pos}{e:fe}{es:kj fe}{g:Nat}{m:TE}{d:kj String}(A:Gl X x)(B:X.mg x=none)(hv:bootBuiltins x=some (.builtin "isinstance"))(ha:PE X e m)(C:PA X es (vL d))(D:∀T∈d,JG T)(hl:d.length<=sizeLine)(hn:x≠"__name__" :=by decide)(hdb:(x==("__debug__" :Str))=false:=by decide)(he:starEach (e :: [.Tuple es g p2]) X.env=(false,eval e X.env)::starEach [.Tuple es g p2] X.env:=by rfl)(hpl:(backTo f (starEach [.Tuple es g p2] X.env)).any (·.1)=false:=by rfl)(E:starEach [.Tuple es g p2] X.env=(false,eval (.Tuple es g p2) X.env)::starEach [] X.env:=by rfl):PE X (.Call (.Name x p) [e, .Tuple es g p2] [] f) (vG X.K m d):=by
 intro Sb s n H Q I h;refine AEa (F1 I A B hv ?_ hn hdb);refine AFW ?_ he hpl;rw[he];show wpAny _ _ (spliced ((false,eval e X.env)::backTo f (starEach [.Tuple es g p2] X.env))) _ _ s;refine ADA (Be (ha Sb s n H _ I h) λu r ⟨v,t,F,r1,G⟩=> ?_);rw[E];show wpAny _ _ (spliced ((false,eval (.Tuple es g p2) X.env)::backTo f (starEach [] X.env))) _ _ r;refine ADA (wpAny_Tuple_spliced (Be (C p2 Sb r n t (λvs J=>vs=d.map V.ty/\J=t) F ⟨rfl,rfl⟩) λj i ⟨vs,L,l,r2,M,N⟩=> ?_));subst M N;have O:L i.heap.objs.size=none:=l.hok.fresh (ABH _);obtain⟨k,hk,P⟩:=G _ O;have y:=Wv r2;have R:j.length<=sizeLine:=by rw[y,ABL];exact hl
 have S:=l.laid (t':=i.toks) (a:=i.heap.objs.size) (o:= .tup (d.map V.ty)) (h':=i.heap.push {cls:= .type "tuple",data:= .seq j.toArray}) (λb u e=>ABF _ e) (ABH _) (show DT X.prog X.w _ _ _ (.tup (d.map V.ty)) from⟨by rw[ABL];exact hl,j,r2,⟨_,ABM _ rfl,rfl,_,rfl⟩⟩);have U:Shared.TypeIs {i with heap:=i.heap.push {cls:= .type "tuple",data:= .seq j.toArray}} u (vw k):=by
  have z:=ka (K:=X.K) l r1 hk;cases u with
  | ref a=>obtain⟨o,e,c⟩:=z;exact⟨o,ABF _ e,c⟩
  | _=>exact z
 refine⟨R,ADu ?_⟩;refine IsiPair.tupleOfB (cs:=d.map Value.type) (vs:=d.map (Io k)) (b:=d.any (Io k)) (ZG r1 hk D) U ?_ ?_ λW=>⟨.bl _,_,S.tok _,rfl,P⟩
 .rw [<-y];exact ABM _ rfl
 .rw [List.any_map];rfl
end
end L2
namespace PL
open PySem PySem.Spec PyProof.Rows L2
section
variable {X:Cx}
def RY (a:AE)(b:kj String):AE:=λτ Q=>a τ λx=>match kdOf x with | some k=>Q (.bl (b.any (Io k)))|none=>False
def l9 {x:Str}{p p2 f:Pos}{e:fe}{es:kj fe}{c:Nat}{o:AE}(d:kj String)(u:Gl X x)(w:X.mg x=none)(hv:bootBuiltins x=some (.builtin "isinstance"))(ha:SE X e o)(y:PA X es (vL d))(z:∀T∈d,JG T)(hl:d.length<=sizeLine)(hn:x≠"__name__" :=by decide)(hdb:(x==("__debug__" :Str))=false:=by decide)(he:starEach (e :: [.Tuple es c p2]) X.env=(false,eval e X.env)::starEach [.Tuple es c p2] X.env:=by rfl)(hpl:(backTo f (starEach [.Tuple es c p2] X.env)).any (·.1)=false:=by rfl)(A:starEach [.Tuple es c p2] X.env=(false,eval (.Tuple es c p2) X.env)::starEach [] X.env:=by rfl):SE X (.Call (.Name x p) [e, .Tuple es c p2] [] f) (RY o d):=by
 obtain⟨t,C,s⟩:=ha;refine⟨_,lU u w hv C y z hl hn hdb he hpl A,λB T D τ H Q E r h k=> ?_⟩;refine s B T D τ H _ _ r h λv x i j g r1 h1=> ?_;intro q hq;have l:=r.stp g;have m:Dj i j i (upd j q (.tup (d.map V.ty))):=Dj.lay l.tp hq;have a:∀b,E (.bl b)->Q (.bl b) (upd j q (.tup (d.map V.ty))):=λb hb=>k _ _ i _ (g.trans m) (.bl _) hb;cases r1 with
 | non=>exact⟨.non,rfl,a _ h1⟩
 | bl b=>exact⟨.bl,⟨_,rfl⟩,a _ h1⟩
 | int b=>exact⟨.int,⟨_,rfl⟩,a _ h1⟩
 | str b=>exact⟨.str,⟨_,rfl⟩,a _ h1⟩
 | ty b=>exact h1.elim
 | tup n _=>exact⟨.tup,⟨_,_,rfl,n.sq⟩,a _ h1⟩
 | lst n _ _ _=>exact⟨.lst,⟨_,_,rfl, .inl (.inl n)⟩,a _ h1⟩
 | tape _=>exact h1.elim
 | scr _=>exact h1.elim
 | dct _ _ _=>exact h1.elim
def QF {x:Str}{p p2 b:Pos}{e:fe}{es:kj fe}{a:Nat}{c:AE}(A B:String)(d:Gl X x)(f:X.mg x=none)(hv:bootBuiltins x=some (.builtin "isinstance"))(ha:SE X e c)(g:PA X es (Lg (tC (.ty A)) (Lg (tC (.ty B)) ir)))(h:∀T∈ [A,B],JG T)(hn:x≠"__name__" :=by decide)(hdb:(x==("__debug__" :Str))=false:=by decide)(he:starEach (e :: [.Tuple es a p2]) X.env=(false,eval e X.env)::starEach [.Tuple es a p2] X.env:=by rfl)(hpl:(backTo b (starEach [.Tuple es a p2] X.env)).any (·.1)=false:=by rfl)(i:starEach [.Tuple es a p2] X.env=(false,eval (.Tuple es a p2) X.env)::starEach [] X.env:=by rfl):SE X (.Call (.Name x p) [e, .Tuple es a p2] [] b) (RY c [A,B]):=
 l9 [A,B] d f hv ha g h (ACc rfl) hn hdb he hpl i
def Pd:∀T∈ ["tuple","list"],JG T:=λT h=>by
 simp only[AAK,ABR,ABS] at h;rcases h with rfl|rfl
 .exact .inr (.inr (.inl rfl))
 .exact .inr (.inr (.inr rfl))
end
end PL
namespace PL
open PySem L2 PyProof.Rows
def xl (a:kj String)(x:PV)(Q:PV->Prop):Prop:=match kdOf x with | some k=>Q (.bl (a.any (Io k)))|none=>False
instance yS {a:AE}{b:kj String}{τ:BD}{Q:PV->Prop}:Wp (RY a b τ Q) (a τ λx=>xl b x Q):=⟨id⟩
class dj (Ts:List String):Prop where
 q:Ts.any (Io .tup)=true/\Ts.any (Io .lst)=true/\Ts.any (Io .int)=false/\Ts.any (Io .bl)=false/\Ts.any (Io .non)=false/\Ts.any (Io .str)=false
instance:dj ["tuple","list"] :=⟨by decide⟩
instance:dj ["list","tuple"] :=⟨by decide⟩
section
variable {Ts:kj String}[h:dj Ts]{Q:PV->Prop}{xs:kj PV}
instance yn:Wp (xl Ts (.tup xs) Q) (Q (.bl true)):=⟨λk=>by show Q _;rw[h.q.1];exact k⟩
instance ym:Wp (xl Ts (.lst xs) Q) (Q (.bl true)):=⟨λk=>by show Q _;rw[h.q.2.1];exact k⟩
end
end PL
namespace L2
open PySem PySem.Spec PyProof.Rows
section
variable {κ:Type}[DecidableEq κ]
def FV (a:kj (κ×V))(k:κ):kc V:=(a.find? λb=>decide (b.1=k)).map (·.2)
def Hz (a:kj (κ×V))(k:κ)(v:V):kj (κ×V):=
 if (a.any λb=>decide (b.1=k))=true then a.map (λb=>if b.1=k then (b.1,v) else b) else a ++ [(k,v)]
def mj (a:kj (κ×V))(k:κ):kj (κ×V):=a.filter λb=>decide (b.1≠k)
def Lj {p:κ×V}{r:kj (κ×V)}{k:κ}(e:p.1=k):FV (p::r) k=some p.2:=by simp[FV,ADH,e]
def Li {p:κ×V}{r:kj (κ×V)}{k:κ}(e:¬p.1=k):FV (p::r) k=FV r k:=by simp[FV,ADH,e]
theorem QS (k:κ):∀a:kj (κ×V),(a.any λb=>decide (b.1=k))=(FV a k).isSome
 | [] =>rfl
 | p::r=>by
   rw[ABr];by_cases e:p.1=k
   .simp only[Lj e,ABQ e,Bool.true_or,Option.isSome_some]
   .rw [Li e,ABa e,Bool.false_or];exact QS k r
def V7 (a:kj (κ×V))(k:κ)(v:V):(Hz a k v).length<=a.length+1:=by
 unfold Hz;split
 .rw [ABL];omega
 .rw [AB9,ABd,ADn];omega
def Nb.isSome_eq {o:kc V}{u:kc ki}(r:Nb o u):o.isSome=u.isSome:=by
 cases o with
 | none=>cases u with
   | none=>rfl
   | some _=>exact(show False from r).elim
 | some _=>cases u with
   | none=>exact(show False from r).elim
   | some _=>rfl
def Nb.getD {o:kc V}{u:kc ki}{d:V}{d':ki}(r:Nb o u)(a:RelV d d'):RelV (o.getD d) (u.getD d'):=by
 cases o with
 | none=>cases u with
   | none=>exact a
   | some _=>exact(show False from r).elim
 | some _=>cases u with
   | none=>exact(show False from r).elim
   | some _=>exact r
def KV.val {a:kj (κ×V)}{vs:kj (κ×ki)}(r:KV a vs)(k:κ):Nb (FV a k) (valueAt vs k):=by
 unfold KV at r;induction r with
 | nil=>exact True.intro
 | @cons p q ps qs h t ih=>
   obtain⟨h1,h2⟩:=h;by_cases e:p.1=k
   .have e':q.1=k:=h1.symm.trans e;have b:valueAt (q::qs) k=some q.2:=by simp[valueAt,ADH,e']
    rw[Lj e,b];exact h2
   .have e':¬q.1=k:=λz=>e (h1.trans z);have b:valueAt (q::qs) k=valueAt qs k:=by simp[valueAt,ADH,e']
    rw[Li e,b];exact ih
def KV.any {a:kj (κ×V)}{vs:kj (κ×ki)}(r:KV a vs)(k:κ):(a.any λb=>decide (b.1=k))=vs.any λb=>decide (b.1=k):=by
 unfold KV at r;induction r with
 | nil=>rfl
 | cons h t ih=>rw[ABr,ABr,ih,h.1]
def KV.repl {b:kj (κ×V)}{vs:kj (κ×ki)}(r:KV b vs)(k:κ){y:V}{u:ki}(c:RelV y u):KV (b.map λa=>if a.1=k then (a.1,y) else a) (vs.map λa=>if a.1=k then (a.1,u) else a):=by
 unfold KV at r ⊢;induction r with
 | nil=>exact .nil
 | @cons p q ps qs h t ih=>
   rw[ABJ,ABJ];refine .cons ?_ ih;obtain⟨h1,h2⟩:=h;by_cases e:p.1=k
   .rw [AAJ e,AAJ (h1.symm.trans e)];exact⟨h1,c⟩
   .rw [AAH e,AAH (λz=>e (h1.trans z))];exact⟨h1,h2⟩
def KV.put {a:kj (κ×V)}{vs:kj (κ×ki)}(r:KV a vs)(k:κ){y:V}{u:ki}(b:RelV y u):KV (Hz a k y) (stored vs k u):=by
 unfold Hz stored;rw[r.any k];by_cases e:(vs.any λc=>decide (c.1=k))=true
 .rw [AAJ e,AAJ e];exact r.repl k b
 .rw [AAH e,AAH e];exact Paired.snoc r ⟨rfl,b⟩
def KV.drop {c:kj (κ×V)}{vs:kj (κ×ki)}(r:KV c vs)(k:κ):KV (mj c k) (without vs k):=by
 unfold KV at r ⊢;unfold mj without;induction r with
 | nil=>exact .nil
 | @cons p q ps qs h t ih=>
   obtain⟨h1,h2⟩:=h;rw[ABg,ABg];by_cases e:p.1=k
   .have a:¬decide (p.1≠k)=true:=by simp[e]
    have b:¬decide (q.1≠k)=true:=by simp[h1.symm.trans e]
    rw[AAH a,AAH b];exact ih
   .have e':¬q.1=k:=λz=>e (h1.trans z);have a:decide (p.1≠k)=true:=by simp[e]
    have b:decide (q.1≠k)=true:=by simp[e']
    rw[AAJ a,AAJ b];exact .cons ⟨h1,h2⟩ ih
def KV.keys {a:kj (κ×V)}{vs:kj (κ×ki)}(r:KV a vs):a.map (·.1)=vs.map (·.1):=by
 unfold KV at r;induction r with
 | nil=>rfl
 | cons h t ih=>rw[ABJ,ABJ,ih,h.1]
def KV.length {a:kj (κ×V)}{vs:kj (κ×ki)}(r:KV a vs):a.length=vs.length:=ADt r
end
abbrev KT (H:Hp):kj (kj GB×V)->kj (kj GB×kd×ki)->Prop:=Paired λp q=>p.1=q.1/\H q.2.1=some (.tup (p.1.map kV))/\RelV p.2 q.2.2
def KT.val {H:Hp}{a:kj (kj GB×V)}{xs:kj (kj GB×kd×ki)}(r:KT H a xs)(k:kj GB):Nb (FV a k) ((atKey xs k).map (·.2)):=by
 induction r with
 | nil=>exact True.intro
 | @cons p q ps qs h t ih=>
   obtain⟨h1,_,h2⟩:=h;by_cases e:p.1=k
   .have e':q.1=k:=h1.symm.trans e;have b:atKey (q::qs) k=some q.2:=by simp[atKey,ADH,e']
    rw[Lj e,b];exact h2
   .have e':¬q.1=k:=λz=>e (h1.trans z);have b:atKey (q::qs) k=atKey qs k:=by simp[atKey,ADH,e']
    rw[Li e,b];exact ih
def KT.repl {H:Hp}{a:kj (kj GB×V)}{xs:kj (kj GB×kd×ki)}(r:KT H a xs)(k:kj GB){y:V}{u:ki}(c:RelV y u):KT H (a.map λb=>if b.1=k then (b.1,y) else b) (xs.map (putAt k u)):=by
 induction r with
 | nil=>exact .nil
 | @cons p q ps qs h t ih=>
   rw[ABJ,ABJ];refine .cons ?_ ih;obtain⟨h1,h2,d⟩:=h;unfold putAt;by_cases e:p.1=k
   .rw [AAJ e,AAJ (h1.symm.trans e)];exact⟨h1,h2,c⟩
   .rw [AAH e,AAH (λz=>e (h1.trans z))];exact⟨h1,h2,d⟩
def KT.put {H:Hp}{a:kj (kj GB×V)}{xs:kj (kj GB×kd×ki)}(r:KT H a xs)(k:kj GB){b:kd}{y:V}{u:ki}(hb:H b=some (.tup (k.map kV)))(c:RelV y u):KT H (Hz a k y) (storedH xs k b u):=by
 have e:(a.any λd=>decide (d.1=k))=(atKey xs k).isSome:=by rw[QS,(r.val k).isSome_eq,AEE]
 unfold Hz storedH;rw[e];by_cases q:(atKey xs k).isSome=true
 .rw [AAJ q,AAJ q];exact r.repl k c
 .rw [AAH q,AAH q];exact Paired.snoc r ⟨rfl,hb,c⟩
def KT.keeps {H c:Hp}{a:kj (kj GB×V)}{xs:kj (kj GB×kd×ki)}(r:KT H a xs)(d:∀b ys,H b=some (.tup ys)->c b=some (.tup ys)):KT c a xs:=
 Paired.mapP r λ_ _ z=>⟨z.1,d _ _ z.2.1,z.2.2⟩
def jY (H:Hp)(a:kd)(y:V)(r:kc V):Prop:=
 (∃c k,Rd H a (.dK c)/\y=kV k/\r=FV c k)\/∃c k b,Rd H a (.dT c)/\y= .ref b/\H b=some (.tup (k.map kV))/\r=FV c k
def jZ (H:Hp)(a:kd)(y v:V)(d:Hp):Prop:=
 (∃c k,H a=some (.dK c)/\y=kV k/\c.length<sizeLine/\d=upd H a (.dK (Hz c k v)))\/
 ∃c k b,H a=some (.dT c)/\y= .ref b/\H b=some (.tup (k.map kV))/\c.length<sizeLine/\d=upd H a (.dT (Hz c k v))
def jY.k {H:Hp}{a:kd}{b:kj (GB×V)}{k:GB}(e:H a=some (.dK b)):jY H a (kV k) (FV b k):= .inl ⟨b,k, .inl e,rfl,rfl⟩
def jY.t {H:Hp}{a b:kd}{c:kj (kj GB×V)}{k:kj GB}(e:H a=some (.dT c))(d:H b=some (.tup (k.map kV))):jY H a (.ref b) (FV c k):= .inr ⟨c,k,b, .inl e,rfl,d,rfl⟩
def jZ.k {H:Hp}{a:kd}{b:kj (GB×V)}{k:GB}{v:V}(e:H a=some (.dK b))(hl:b.length<sizeLine):jZ H a (kV k) v (upd H a (.dK (Hz b k v))):= .inl ⟨b,k,e,rfl,hl,rfl⟩
def jZ.t {H:Hp}{a b:kd}{c:kj (kj GB×V)}{k:kj GB}{v:V}(e:H a=some (.dT c))(d:H b=some (.tup (k.map kV)))(hl:c.length<sizeLine):jZ H a (.ref b) v (upd H a (.dT (Hz c k v))):= .inr ⟨c,k,b,e,rfl,d,hl,rfl⟩
section
variable {X:Cx}{Sb:kj (kd×Obj)}{σ:St}{H:Hp}{s:kf}{a:kd}{y v:V}{u r:ki}{o:kc V}{A:Sl}{E:ki->kf->Prop}
def Inv.big (I:Inv X Sb σ H s):sysModules<s.heap.objs.size:=by have h:mainGlobals<s.heap.objs.size:=(I.mod.glob.keeps I.bk).lt;exact ADR (by decide) h
def jv {h':Sr}{t':Nat}{c:HO}(I:Inv X Sb σ H s)(d:sS (H a))(hs:Heap.SameBut a s.heap h')(he:∃q,h'.get? a=some q)(new:DT X.prog X.w (upd H a c) h' a c):Inv X Sb σ (upd H a c) {s with heap:=h',toks:=t'}:=
 I.write (x:=a) (e:=a) d (.inl rfl) (λb q hb z=>(hs.2 b hb).trans z) he new
end
def oC (i:fe):Prop:=∀a b,subscripted i false a b=operate [a,b] (getItem a b)
def mL {prog:Wf}{w:Tb}{A:Sl}{E:ki->kf->Prop}{s:kf}{env:Env}{value slice:fe}{j:Pos}{T id:String}{Q:ki->kf->Prop}(hl:typeLookup (.type T) "__getitem__" =pure (some (.builtin id)))(hs:oC slice)(h:wpAny (model prog w) A (eval value env) (λo c=>wpAny (model prog w) A (eval slice env) (λi a=>a.TypeIs o T/\wpAny (model prog w) A (getItem o i) Q E a) E c) E s):wpAny (model prog w) A (eval (.Subscript value slice j) env) Q E s:=by
 refine Subscript_ (AB4 h (λo c f=>AB4 f (λi a b=> ?_) λ_ _ x=>x) λ_ _ x=>x);obtain⟨k,b⟩:=b;unfold subscriptTail;refine AAF ?_;rw[getitemInPython_of_ne k.not_modules];refine AAF (ACY k hl ?_);have e:wpAny (model prog w) A (subscripted slice false o i) (λr d=>wpAny (model prog w) A (letTemporaryGo value o r >>= λ_=>pure r) Q E d) E a:=by rw[hs o i];exact wpAny_operating (AB4 b (λr d g=>AAF (wpAny_letTemporaryGo (AAI g))) λ_ _ x=>x)
 first
  | exact AAI (AAF e)
  | exact AAF (AAI (AAF e))
  | exact AAF e
structure M1 (X:Cx) (o:Expr) (m:Str) (apos:Pos) (e:Expr) (cpos:Pos):Prop where
 base:attributeBase o m X.env (eval o X.env)=eval o X.env
 few:((backTo cpos (starEach [e] X.env)).all (λx=> !x.1)&&(backToKw cpos (keywordEach [] X.env)).all (λx=>x.1.isSome)
  && decide (([e] :List Expr).length+([] :List Keyword).length+(if ([] :List Keyword).isEmpty then 0 else 1)<30))=true
 line:(apos.endLine==cpos.line)=true
 trees:backTo cpos (starEach [e] X.env)= [(false,eval e X.env)]
structure M2 (X:Cx) (o:Expr) (m:Str) (apos:Pos) (e f:Expr) (cpos:Pos):Prop where
 base:attributeBase o m X.env (eval o X.env)=eval o X.env
 few:((backTo cpos (starEach [e,f] X.env)).all (λx=> !x.1)&&(backToKw cpos (keywordEach [] X.env)).all (λx=>x.1.isSome)
  && decide (([e,f] :List Expr).length+([] :List Keyword).length+(if ([] :List Keyword).isEmpty then 0 else 1)<30))=true
 line:(apos.endLine==cpos.line)=true
 trees:backTo cpos (starEach [e,f] X.env)= [(false,eval e X.env),(false,eval f X.env)]
abbrev KN (K:AAG)(H:Hp):kj (FK×V)->kj (FK×kd×ki)->Prop:=Paired λp q=>p.1=q.1/\Gd K H q.2.1 p.1/\RelV p.2 q.2.2
def KN.val {K:AAG}{H:Hp}{a:kj (FK×V)}{xs:kj (FK×kd×ki)}(r:KN K H a xs)(k:FK):Nb (FV a k) ((atKey xs k).map (·.2)):=by
 induction r with
 | nil=>exact True.intro
 | @cons p q ps qs h t ih=>
   obtain⟨h1,_,h2⟩:=h;by_cases e:p.1=k
   .have e':q.1=k:=h1.symm.trans e;have b:atKey (q::qs) k=some q.2:=by simp[atKey,ADH,e']
    rw[Lj e,b];exact h2
   .have e':¬q.1=k:=λz=>e (h1.trans z);have b:atKey (q::qs) k=atKey qs k:=by simp[atKey,ADH,e']
    rw[Li e,b];exact ih
def KN.repl {K:AAG}{H:Hp}{a:kj (FK×V)}{xs:kj (FK×kd×ki)}(r:KN K H a xs)(k:FK){y:V}{u:ki}(c:RelV y u):KN K H (a.map λb=>if b.1=k then (b.1,y) else b) (xs.map (putAt k u)):=by
 induction r with
 | nil=>exact .nil
 | @cons p q ps qs h t ih=>
   rw[ABJ,ABJ];refine .cons ?_ ih;obtain⟨h1,h2,d⟩:=h;unfold putAt;by_cases e:p.1=k
   .rw [AAJ e,AAJ (h1.symm.trans e)];exact⟨h1,h2,c⟩
   .rw [AAH e,AAH (λz=>e (h1.trans z))];exact⟨h1,h2,d⟩
def KN.put {K:AAG}{H:Hp}{a:kj (FK×V)}{xs:kj (FK×kd×ki)}(r:KN K H a xs)(k:FK){b:kd}{y:V}{u:ki}(hb:Gd K H b k)(c:RelV y u):KN K H (Hz a k y) (storedH xs k b u):=by
 have e:(a.any λd=>decide (d.1=k))=(atKey xs k).isSome:=by rw[QS,(r.val k).isSome_eq,AEE]
 unfold Hz storedH;rw[e];by_cases q:(atKey xs k).isSome=true
 .rw [AAJ q,AAJ q];exact r.repl k c
 .rw [AAH q,AAH q];exact Paired.snoc r ⟨rfl,hb,c⟩
def KN.keeps {K:AAG}{H c:Hp}{a:kj (FK×V)}{xs:kj (FK×kd×ki)}(r:KN K H a xs)(d:∀b ys,H b=some (.tup ys)->c b=some (.tup ys)):KN K c a xs:=
 Paired.mapP r λ_ _ z=>⟨z.1,z.2.1.stay d,z.2.2⟩
section
variable {P:Wf}{w:Tb}{H:Hp}{h:Sr}{a:kd}{K:AAG}
def LF {k:FK}(ok:Na P w H h)(d:K.In h)(e:Gd K H a k):(fkKind P w).is h k a:=by
 obtain⟨b,h1,h2⟩:=e;obtain⟨_,j,r,o,l,m,n,p⟩:=(show DT P w H h a (.tup [.ref b, .int k.2]) from ok a _ h1);cases r with
 | cons r1 r=>
 cases r with
 | cons r2 r=>
 cases r;cases r1;obtain⟨u,rfl⟩:=r2;have two:∀{g:kj ki},A3 [.int k.1.1, .int k.1.2] g->ItemsAre (intKind P w) [k.1.1,k.1.2] g:=λhv=>by
  cases hv with
  | cons s hv=>
  cases hv with
  | cons t hv=> cases hv;obtain⟨C,rfl⟩:=s;obtain⟨D,rfl⟩:=t;exact .cons (by simp[intKind,Value.isInt]) (.cons (by simp[intKind,Value.isInt]) .nil)
 refine⟨o,_,n,b,u,l,m,p,by simp, ?_⟩;rcases h2 with h2|⟨i,c,f,v,x,y,z⟩
 .obtain ⟨_,c,r2,A,f1,f2,f,B⟩:=(show DT P w H h b (.tup [.int k.1.1, .int k.1.2]) from ok b _ h2);exact⟨A,c.toArray,f,f1,f2,B,by simpa using two r2⟩
 .exact ⟨i,c,f,d b i v,x,y,two z⟩
def Ri {b:kj (FK×V)}(ok:Na P w H h)(c:K.In h)(e:H a=some (.dN K b)):b.length<=sizeLine/\(a==sysModules)=false/\∃xs,KN K H b xs/\h.DictOfH (fkKind P w) a xs:=by
 obtain⟨z,y,xs,r,o,es,ep,h1,h2,d,f,g⟩:=(show DT P w H h a (.dN K b) from ok a _ e);refine⟨z,y,xs,r,o,es,ep,h1,h2,d,f,λx hx=> ?_,g⟩;have all:∀{l:kj (FK×V)} {m:kj (FK×kd×ki)},KN K H l m->∀x∈m,(fkKind P w).is h x.1 x.2.1:=by
  intro l m q;induction q with
  | nil=>intro x hx;exact nomatch hx
  | @cons p q ps qs hq t ih=>
    intro x hx;rcases AAK.mp hx with e|hx
    .subst e;exact LF ok c (by rw[<-hq.1];exact hq.2.1)
    .exact ih x hx
 exact all r x hx
end
section
variable {X:Cx}{Sb:kj (kd×Obj)}{σ:St}{H:Hp}{s:kf}{a b:kd}{v d:V}{r:ki}{kvs:kj (FK×V)}{k:FK}{A:Sl}{E:ki->kf->Prop}
def cJ {Q:ki->kf->Prop}(hu:A.units+2<cLine)(I:Inv X Sb σ H s)(e:H a=some (.dN X.K kvs))(hb:Gd X.K H b k)(l:FV kvs k=some v)(h:∀c i,Inv X Sb σ H i->RelV v c->Q c i):wpAny (model X.prog X.w) A (getItem (.ref a) (.ref b)) Q E s:=by obtain⟨z,hd,xs,f,j⟩:=Ri I.hok I.kIn e;obtain⟨c,hw,g⟩:=Nb.some_of (v:=v) (o:=(atKey xs k).map (·.2)) (by rw[<-l];exact f.val k);obtain⟨p,hp,m⟩:=ADY.mp hw;refine wpAny_getItem_heap (DX hu) (LF I.hok I.kIn hb) j hp ?_;rw[m];exact h c _ (I.tok _) g
def xj {Q:ki->kf->Prop}(hu:A.units+2<cLine)(I:Inv X Sb σ H s)(e:H a=some (.dN X.K kvs))(hb:Gd X.K H b k)(h:∀f,Inv X Sb σ H f->Q (.bool (FV kvs k).isSome) f):wpAny (model X.prog X.w) A (compareOp .In (.ref b) (.ref a)) Q E s:=by obtain⟨z,hd,xs,c,g⟩:=Ri I.hok I.kIn e;refine wpAny_in_heap (DX hu) (LF I.hok I.kIn hb) hd g ?_;have q:=(c.val k).isSome_eq;rw[AEE] at q;rw[<-q];exact h _ (I.tok _)
def cK {Q:Unit->kf->Prop}(hu:A.units+2<cLine)(I:Inv X Sb σ H s)(e:H a=some (.dN X.K kvs))(hb:Gd X.K H b k)(hl:kvs.length<sizeLine)(rv:RelV v r)(h:∀i,Inv X Sb σ (upd H a (.dN X.K (Hz kvs k v))) i->Q () i):wpAny (model X.prog X.w) A (setItem (.ref a) (.ref b) r) Q E s:=by
 obtain⟨z,hd,xs,f,l⟩:=Ri I.hok I.kIn e;have hz:xs.length<=sizeLine:=by rw[<-ADt f];exact z
 have hl:(Hz kvs k v).length<=sizeLine:=by have:=V7 kvs k v;omega
 refine wpAny_setItem_heap (hsz:=hz) (DX hu) (LF I.hok I.kIn hb) l λh' g hs=>h _ ?_;obtain⟨q,es,ep,hq,h2,m,n,_,o⟩:=g;refine jv I (by rw[e];exact True.intro) hs ⟨q,hq⟩ ⟨hl,hd,_,(f.put k hb rv).keeps λc ys j=> ?_,q,es,ep,hq,h2,m,n,o⟩;rw[Ai (uP j e (λz=>nomatch z))];exact j
def pW {Q:ki->kf->Prop}(hu:A.units+2<cLine)(I:Inv X Sb σ H s)(e:H a=some (.dN X.K kvs))(hb:Gd X.K H b k)(j:RelV d r)(h:∀f g,Inv X Sb σ H g->RelV ((FV kvs k).getD d) f->Q f g):wpAny (model X.prog X.w) A (call (.builtin "dict.get") [.ref a, .ref b,r]) Q E s:=by obtain⟨z,hd,xs,c,i⟩:=Ri I.hok I.kIn e;refine call_meetsIn AFj i.typeIs PySem.F.entry_dict_get (PySem.F.args_dict_get_3 _ _ _) (meetsH_dict_get_default (fkKind X.prog X.w) a b hd r) ⟨DX hu,k,xs,LF I.hok I.kIn hb,i,h _ _ (I.tok _) ?_⟩;exact(c.val k).getD j
end
def nW (K:AAG):TE:=λ_ H Q=>∀p,H p=none->Q (.ref p) (upd H p (.dN K []))
def vH (K:AAG)(f g:TE):TE:=λe H Q=>f e H λx h=>g e h λy d=>∃a b c k v,x= .ref a/\y= .ref b/\d a=some (.dN K c)/\Gd K d b k/\FV c k=some v/\Q v d
def vI (K:AAG)(f g:TE):TE:=λe H Q=>f e H λy h=>g e h λx d=>∃a b c k,x= .ref a/\y= .ref b/\d a=some (.dN K c)/\Gd K d b k/\Q (.bl (FV c k).isSome) d
def iI (K:AAG)(f g h:TE):TS:=λD d H=>h d H λv i=>f d i λx j=>g d j λy e=>∃a b c k,x= .ref a/\y= .ref b/\e a=some (.dN K c)/\Gd K e b k/\c.length<sizeLine/\D.nx d (upd e a (.dN K (Hz c k v)))
def Yy (K:AAG)(g h i:TE):TE:=λd H Q=>g d H λx f=>∃a c,x= .ref a/\f a=some (.dN K c)/\h d f λy j=>i d j λz e=>∃b c k,y= .ref b/\e a=some (.dN K c)/\Gd K e b k/\Q ((FV c k).getD z) e
section
variable {X:Cx}{o i e f value:fe}{pos pos' apos cpos:Pos}{td ty tv tx:TE}
def e8 {P:Wf}{w:Tb}{H:Hp}{K:AAG}(h:Sr)(hb:sysModules<h.objs.size):DT P w H (h.push {cls:= .type "dict",data:= .dict #[] }) h.objs.size (.dN K []):=
 ⟨AB7 _,AE8.mpr (ACD (ABK hb)), [], .nil,_, #[],0,ABM _ rfl,⟨rfl,rfl,rfl⟩,rfl,rfl,List.nodup_nil⟩
def lW:PE X (.Dict [] [] pos) (nW X.K):=λSb s b H Q I h=>
 wpAny_Dict_empty ⟨.ref s.heap.objs.size,_,I.laid (a:=s.heap.objs.size) (o:= .dN X.K []) (t':=s.toks) (λ_ _ q=>ABF _ q) (ABH _) (e8 s.heap I.big),rfl,h _ (I.hok.fresh (ABH _))⟩
def mh {Sb:kj (kd×Obj)}{h:St}{H:Hp}{s:kf}{a:kd}{d:kj (FK×V)}(I:Inv X Sb h H s)(e:H a=some (.dN X.K d)):s.TypeIs (.ref a) "dict" /\(∀b,Value.ref a= .ref b->∃c,s.heap.get? b=some c/\c.dict=none):=by obtain⟨_,hd,xs,_,g⟩:=Ri I.hok I.kIn e;refine⟨g.typeIs,λb q=> ?_⟩;cases q;obtain⟨c,_,_,h1,h2,_⟩:=g;exact⟨c,h1,h2.2.1⟩
def lV (hu:X.A.units+2<cLine)(j:PE X o td)(hi:PE X i ty)(hs:oC i):PE X (.Subscript o i pos) (vH X.K td ty):=by intro Sb s d H Q I h;refine mL PySem.F.slot_dict_getitem.lookup hs (Be (j Sb s d H _ I h) λu m ⟨x,n,p,r,t⟩=>Be (hi Sb m d n _ p t) λw J ⟨y,z,g,B,a,b,C,k,v,ex,D,e,hb,l,E⟩=> ?_);subst ex D;obtain rfl:u=Value.ref a:=r;obtain rfl:w=Value.ref b:=B;exact⟨(mh g e).1,cJ hu g e hb l λL M G c=>⟨v,z,G,c,E⟩⟩
def qE (hu:X.A.units+2<cLine)(hi:PE X i ty)(d:PE X o td):PC X .In i o (vI X.K ty td):=by intro Sb s c H Q I h;refine Be (hi Sb s c H _ I h) λg j ⟨y,l,m,n,p⟩=>Be (d Sb j c l _ m p) λu D ⟨x,r,t,v,a,b,w,k,ex,z,e,hb,B⟩=> ?_;subst ex z;obtain rfl:u=Value.ref a:=v;obtain rfl:g=Value.ref b:=n;exact xj hu t e hb λE C=>⟨.bl _,r,C,rfl,B⟩
def aA (hu:X.A.units+2<cLine)(d:PE X o td)(hi:PE X i ty)(hv:PE X value tv)(hs:swapsWith value (some (.Subscript o i pos')) pos.line X.env=pure false):PS X (.Assign [.Subscript o i pos'] value pos) (iI X.K td ty tv):=by intro Sb s c H D I h;refine wpAny_Assign_Subscript (Be (hv Sb s c H _ I h) λr g ⟨v,j,l,rv,m⟩=>Be (d Sb g c j _ l m) λu n ⟨x,p,t,w,z⟩=>Be (hi Sb n c p _ t z) λB M ⟨y,N,C,E,a,b,F,k,ex,G,e,hb,hl,J⟩=> ?_) hs;subst ex G;obtain rfl:u=Value.ref a:=w;obtain rfl:B=Value.ref b:=E;exact cK hu C e hb hl rv λO L=>⟨c,_,L,J⟩
def WR (hu:X.A.units+2<cLine)(l:PE X o td)(he:PE X e ty)(n:PE X f tx)(m:M2 X o "get" apos e f cpos):PE X (.Call (.Attribute o "get" apos) [e,f] [] cpos) (Yy X.K td ty tx):=by
 intro Sb s c H Q I h;refine wpAny_Call_method m.base m.few m.line PySem.F.plainAttrs_dict AFj PySem.F.type_dict_get (Be (l Sb s c H _ I h) λu p ⟨x,r,g,t,a,j,ex,v,w⟩=> ?_);subst ex;obtain rfl:u=Value.ref a:=t;obtain⟨t1,t2⟩:=mh g v;refine⟨t1,t2, ?_⟩;rw[m.trees];refine Calls.callWith_builtin rfl (Calls.evalArgs_plain (ADA (Be (he Sb p c r _ g w) λB C ⟨y,D,E,G,J⟩=>
  ADA (Be (n Sb C c D _ E J) λT U ⟨z,L,M,N,b,O,k,P,e,hb,R⟩=>ADu ?_))))
 subst P;obtain rfl:B=Value.ref b:=G;exact pW hu M e hb N λW Y S d=>⟨_,L,S,d,R⟩
end
end L2
namespace PySem
open Sem (wp)
def ME (h:Sr)(d:kd)(es:Array DictEntry)(ep:Nat):Prop:=∃o,h.get? d=some o/\o.ExactDict/\o.data= .dict es ep
section
variable {prog:Wf}{w:Tb}{A:Sl}{E:ki->kf->Prop}{s:kf}{d it:kd}{es:Array DictEntry}{ep i:Nat}
def ME.typeIs (x:ME s.heap d es ep):s.TypeIs (.ref d) "dict" :=let ⟨o,a,hc,_⟩:=x;⟨o,a,hc.1⟩
def ME.at {h h':Sr}(x:ME h d es ep)(e:∀o,h.get? d=some o->h'.get? d=some o):ME h' d es ep:=let ⟨o,a,r⟩:=x;⟨o,e _ a,r⟩
def iC {Q:ki->kf->Prop}(hd:(d==sysModules)=false)(b:ME s.heap d es ep)(hQ:Q (.ref s.heap.objs.size) {s with heap:=s.heap.push {cls:= .type "dict_keyiterator",data:= .fields #[.ref d, .int 0 0, .int es.size 0, .int ep 0] }}):wpAny (model prog w) A (pyIter (.ref d)) Q E s:=by have a:=b.typeIs;obtain⟨o,c,hc,e⟩:=b;refine wpAny_pyIter_slot a F.slot_dict_iter (ABz F.slot_dict_iter a F.entry_dict_iter ?_ (F.args_dict_iter_1 _));unfold Builtin.«dict.__iter__»;refine AAF ?_;unfold Builtin.Dict.dictSlotNone;refine AAF (wpAny_notOrdered_dict a (AAI ?_));show wpAny _ _ (Builtin.Dict.showsAll d >>= _) _ _ s;unfold Builtin.Dict.showsAll;rw[AAH (by rw[hd];exact ABO)];refine AAF (AAI (AAF (AFN c e (AAF (AFO c e ?_)))));exact AAF (AB5 (AAI ⟨_,rfl,"dict_keyiterator",_,⟨_,ABM _ rfl,rfl⟩,AEF.lookup,by simpa[rawInt] using hQ⟩))
def iD {Q:kc ki->kf->Prop}(a:s.heap.IsKeyIter it d i es.size ep)(h:ME s.heap d es ep)(j:i<es.size)(hQ:∀h',h'.IsKeyIter it d (i+1) es.size ep->Heap.SameBut it s.heap h'->Q (some es[i].key) {s with heap:=h'}):wpAny (model prog w) A (pyNext (.ref it)) Q E s:=by
 have b:=a.typeIs;obtain⟨o,c,hc,hd⟩:=a;obtain⟨k,e,l,f⟩:=h;unfold pyNext;refine AAF (ADU (ACS (name:=Str.ofString "__next__") b AEF (ABz AEF b AFk ?_ (AFl _))));refine AAF (AAI (AAF (AAF ?_)));refine AAF (AEv b (AAI (AAF (wpAny_fieldsOf c hd ?_))));simp only[show Builtin.Dict_items.ownsTuple "dict_keyiterator" =false by decide,AB0,ABe];show wpAny _ _ (if (Value.ref d==Value.none)=true then _ else _) _ _ s;rw[AAH (show ¬((Value.ref d==Value.none)=true) from ABO)];refine AAF (AAI (AAF (AFN e f ?_)));rw[AAH (by simp)];refine AAF (AAI (AAF (AFO e f ?_)));rw[AAH (by simp)];refine AAI ?_;simp only[show ¬((i:Int)<0) from by omega,ABe,ADc,AFm j];refine AAF ?_;refine AAF (AEv b (AAI (AAF (wpAny_isOneOf_keyiter b ?_))));show wpAny _ _ (setField (.ref it) 1 (rawInt ((i:Int)+1)) >>= _) _ _ s;refine AAF (ADz c hd (by simp) ?_);have g:(s.heap.update it (Obj.mapFields (·.setIfInBounds 1 (rawInt ((i:Int)+1))))).IsKeyIter it d (i+1) es.size ep:=
  ⟨_,ADQ _ c (AFG (AD1 hd _)),(Obj.cls_mapFields ..).trans hc,by rw[AD1 hd];simp[rawInt]⟩
 refine AAF (AB3 (AAF (wpAny_isOneOf_keyiter (s:={s with heap:=s.heap.update it (Obj.mapFields (·.setIfInBounds 1 (rawInt ((i:Int)+1))))}) g.typeIs ?_)));show wpAny _ _ (pure es[i].key) _ _ _;exact AAI (AAI ⟨_,rfl,AAI (hQ _ g (AD0 ..))⟩)
def lp {Q:kc ki->kf->Prop}(j:A.handled=none)(c:s.heap.IsKeyIter it d es.size es.size ep)(k:ME s.heap d es ep)(hQ:∀h',Heap.ExtBut it s.heap h'->Q none {s with heap:=h'}):wpAny (model prog w) A (pyNext (.ref it)) Q E s:=by have e:=c.typeIs;obtain⟨o,f,hc,hd⟩:=c;obtain⟨l,g,n,h⟩:=k;unfold pyNext;refine AAF (ADU (ACS (name:=Str.ofString "__next__") e AEF (ABz AEF e AFk ?_ (AFl _))));refine AAF (AAI (AAF (AAF ?_)));refine AAF (AEv e (AAI (AAF (wpAny_fieldsOf f hd ?_))));simp only[show Builtin.Dict_items.ownsTuple "dict_keyiterator" =false by decide,AB0,ABe];show wpAny _ _ (if (Value.ref d==Value.none)=true then _ else _) _ _ s;rw[AAH (show ¬((Value.ref d==Value.none)=true) from ABO)];refine AAF (AAI (AAF (AFN g h ?_)));rw[AAH (by simp)];refine AAF (AAI (AAF (AFO g h ?_)));rw[AAH (by simp)];refine AAI ?_;simp only[show ¬((es.size:Int)<0) from by omega,ABe,ADc,Array.getElem?_eq_none (ABH es.size)];refine AAF ?_;refine AAF (AEv e (AAI ?_));show wpAny _ _ (setField (.ref it) 0 .none >>= _) _ _ s;refine AAF (ADz f hd (by simp) ?_);show wpAny _ _ (newExc (.type "StopIteration") [] >>= _) _ _ _;refine AAF ?_;simp only[newExc,newTuple];refine AAF (AB5 ?_ (by size_fits));refine AAF (m:=firstArgMember _ _) (ADD (a:=Value.none) (by first | rfl|(simp only[firstArgMember];rfl)) (AB5 ?_ (by size_fits)));simp only[raiseNew];refine AAF (wpAny_handled ?_);rw[show A.in1.handled=none from j];refine AAF (AAI (wpAny_throw ?_));refine AAF (AC9 (T:="StopIteration") (b:=true) ⟨_,ABM _ rfl,rfl⟩ isSubtype_stop ?_);exact AAI (hQ _ (((AD0 ..).extBut.push _).push _))
def dE (f:A.handled=none)(g:d≠it):Walks prog w A it [it,d] [it] es.size (λi v=>∃e,es[i]? =some e/\v=e.key) (λi h=>h.IsKeyIter it d i es.size ep/\ME h d es ep) where
 sub:=λb hb=>by simp at hb;simp[hb]
 frame:=λ_ _ _ st hk=>⟨st.1.at λo e=>hk it (by simp) o e,st.2.at λo e=>hk d (by simp) o e⟩
 item:=λi s Q E hi st hQ=>iD st.1 st.2 hi λh' j c=>
  hQ _ h' s.toks ⟨es[i],by simp[hi],rfl⟩ ⟨j,st.2.at λo e=>c.extBut d o g e⟩ λb o hb e=>c.extBut b o (λh=>hb (by simp[h])) e
 done:=λs Q E st hQ=>lp f st.1 st.2 λh' a=>hQ h' s.toks λb o hb e=>a b o (λh=>hb (by simp[h])) e
 self:=λ_ _ _ _ st hQ=>wpAny_pyIter_keyiter st.1 hQ
end
def iB {prog:Wf}{w:Tb}{A:Sl}{E:ki->kf->Prop}{s:kf}{d:kd}{es:Array DictEntry}{ep:Nat}{Q:da->kf->Prop}(b:ME s.heap d es ep)(h:Q false s):wpAny (model prog w) A (Builtin.List.listLengthHint (.ref d)) Q E s:=by
 have a:=b.typeIs;unfold Builtin.List.listLengthHint;refine AAF (ACY a F.slot_dict_len.lookup ?_);have hs:splitId "dict.__len__" =some ("dict","__len__"):=by decide +kernel
 simp only[hs];refine AAF (AC9 a (by rw[ABs];kernel_rfl:isSubtype (.type "dict") (.type "dict")=pure true) ?_);simp only[AC2,AB0,ABe];rw[AAJ (by decide +kernel)];refine AAF (ADx a ?_);exact AAI h
section
variable {prog:Wf}{w:Tb}{A:Sl}{s:kf}{R:Result->kf->Prop}{d:kd}{es:Array DictEntry}{ep:Nat}
def YW (J:A.handled=none)(S:kd)(res:ki)(h:Nat)(hd:(d==sysModules)=false)(n:ME s.heap d es ep)(hn:es.size<=sizeLine)(p:d≠S)(B:s.heap.get? S=some {cls:= .type "list",data:= .seq #[] h})(K:∀h' L a l,(∀b o,b≠S->s.heap.get? b=some o->h'.get? b=some o)->h'.get? S=some {cls:= .type "list",dict:=none,data:= .seq a l,slots:= #[] }->ItemsOf (λi v=>∃e,es[i]? =some e/\v=e.key) a es.size->R (.ok (.ret res)) {s with heap:=h',toks:=L}):wpAny (model prog w) A.in1 (Builtin.List.listExtendWith (.ref S) (.ref d) res) (λr c=>match r with | .done f=>R (.ok f) c | .again l=>l.quiet=true/\codeAny (model prog w) A l R c) (λe c=>R (.error e) c) s:=by
 have M:=n.typeIs;unfold Builtin.List.listExtendWith;refine AAF (ADx M ?_);have h1:Builtin.List.listSameRef (.ref S) (.ref d)=false:=by simp[Builtin.List.listSameRef,ACD p]
 have h2:(Value.type "dict" == Value.type "list")=false:=by decide
 have N:(Value.type "dict" == Value.type "tuple")=false:=by decide
 simp only[h1,h2,N,AEG,AB0,ABe];refine AAF (iC hd n ?_);have O:d<s.heap.objs.size:=let ⟨o,P,_⟩:=n;ABD P;have t:S<s.heap.objs.size:=ABD B;have u:ME (s.heap.push {cls:= .type "dict_keyiterator",data:= .fields #[.ref d, .int 0 0, .int es.size 0, .int ep 0] }) d es ep:=n.at λo e=>ABF _ e;refine AAF (AB3 (iB (s:={s with heap:=s.heap.push {cls:= .type "dict_keyiterator",data:= .fields #[.ref d, .int 0 0, .int es.size 0, .int ep 0] }}) u ?_));generalize x:({cls:= .type "dict_keyiterator",data:= .fields #[.ref d, .int 0 0, .int es.size 0, .int ep 0] }:Obj)=io at u ⊢;have C:(s.heap.push io).get? S=some {cls:= .type "list",data:= .seq #[] h}:=ABF _ B;have y:(s.heap.push io).get? s.heap.objs.size=some io:=ABM _ (by rw[<-x];rfl);have D:S≠s.heap.objs.size:=ABK t;rw[AAJ (by decide +kernel)];refine AAF (ACH (AAF ?_));show wpAny _ A.in1 (updateSeq S (·.push .none) >>= λ_=>updateSeq S (·.pop)) _ _ _;refine AAF (AEw (s:={s with heap:=s.heap.push io}) C rfl ?_);have g:=ADQ (Obj.mapSeq (·.push Value.none)) C rfl;refine AEw (hz:=by seq_fits) g rfl ?_;have j:=ADQ (Obj.mapSeq (·.pop)) g rfl;have k:∀b o,b≠S->(s.heap.push io).get? b=some o->(((s.heap.push io).update S (Obj.mapSeq (·.push Value.none))).update S (Obj.mapSeq (·.pop))).get? b=some o:=
  λb o hb e=>(ADy _ _ (ACD hb)).trans ((ADy _ _ (ACD hb)).trans e)
 have W:=(dE (prog:=prog) (w:=w) (A:=A.in1) (d:=d) (it:=s.heap.objs.size) (es:=es) (ep:=ep) J (ABK O)).toS;refine AAI ⟨plainId_quiet F.plain_extend_loop _,codeAny_extend_loopS W hn S ?_ res es.size 0 _ _ _ rfl (AB7 _) ⟨⟨io,k _ _ (ACD D) y,by rw[<-x],by rw[<-x];rfl⟩,u.at λo e=>k _ _ p e⟩ j (ItemsOf.nil _) λc a l z Q T=> ?_⟩
 .intro m;simp only[AAK,ABR,ABS] at m;rcases m with e|e
  .exact D e
  .exact p e.symm
 .obtain ⟨U,E,G,H,X⟩:=z;have e:c={s with heap:=c.heap,toks:=c.toks}:=by obtain⟨Y,Z,a3,a4,a5⟩:=c;simp only at E G H;subst E;subst G;subst H;rfl
  rw[e];refine K c.heap c.toks a l (λb o hb I=>U b o ?_ (k b o hb (ABF _ I))) Q T;intro m;simp only[AAK,ABR,ABS] at m;rcases m with e|e
  .exact hb e
  .exact ABK (ABD I) e
end
section
variable {prog:Wf}{w:Tb}{A:Sl}{E:ki->kf->Prop}{s:kf}{d:kd}{es:Array DictEntry}{ep:Nat}
def Qu {Q:ki->kf->Prop}(t:A.handled=none)(hd:(d==sysModules)=false)(p:ME s.heap d es ep)(hn:es.size<=sizeLine)(hQ:∀h' k l,(∀b o,s.heap.get? b=some o->h'.get? b=some o)->h'.get? s.heap.objs.size=some {cls:= .type "list",dict:=none,data:= .seq (es.map (·.key)) l,slots:= #[] }->Q (.ref s.heap.objs.size) {s with heap:=h',toks:=k}):wpAny (model prog w) A (call (.type "list") [.ref d]) Q E s:=by
 have u:d<s.heap.objs.size:=let ⟨o,v,_⟩:=p;ABD v;refine callType_codes (Q₁:=λobj c=>obj= .ref s.heap.objs.size/\c={s with heap:=s.heap.push {cls:= .type "list",data:= .seq #[] }}) F.called_list (F.typeCall_list_1 _) F.entry_list_init (code_list_new _ ⟨rfl,rfl⟩) λobj c g=> ?_;obtain⟨rfl,rfl⟩:=g;have j:(s.heap.push {cls:= .type "list",data:= .seq #[] }).get? s.heap.objs.size=some {cls:= .type "list",data:= .seq #[] }:=ABM _ rfl;refine⟨⟨_,j,rfl⟩,F.args_list_init_2 _ _, ?_⟩;show wpAny _ A.in1.in1 (do let m <-Builtin.List.listItems (.ref s.heap.objs.size);Builtin.List.listUpdate (.ref s.heap.objs.size) (λ_=> #[]);letGo m.toList.reverse;Builtin.List.listExtendWith (.ref s.heap.objs.size) (.ref d) .none) _ _ _;refine AAF ?_;unfold Builtin.List.listItems;refine AAF (ABt j rfl (AAI ?_));refine AAF (AEw j rfl ?_);have f:=ADQ (Obj.mapSeq (λ_=>(#[] :Array ki))) j rfl;refine AAF (ADg ?_);have h:∀b o,s.heap.get? b=some o->((s.heap.push {cls:= .type "list",data:= .seq #[] }).update s.heap.objs.size (Obj.mapSeq (λ_=>(#[] :Array ki)))).get? b=some o:=λb o e=>by have hb:b≠s.heap.objs.size:=λz=>ACZ _ (z ▸ ABD e);exact(ADy _ _ (ACD hb)).trans (ABF _ e)
 refine YW (s:={s with heap:=(s.heap.push {cls:= .type "list",data:= .seq #[] }).update s.heap.objs.size (Obj.mapSeq (λ_=>(#[] :Array ki)))}) (d:=d) (es:=es) (ep:=ep) (A:=A.in1) t s.heap.objs.size .none _ hd (p.at λo e=>h d o e) hn (ABK u) f ?_;intro h' k a l x y B;refine⟨rfl,hQ h' k l (λb o e=>x b o (λz=>ACZ _ (z ▸ ABD e)) (h b o e)) ?_⟩;have C:a=es.map (·.key):=by
  obtain⟨h1,h2⟩:=B;refine Array.ext (by simp[h1]) λi hi hj=> ?_;obtain⟨e,r,D⟩:=h2 i _ (by simp[hi] :a[i]? =some a[i]);have n:i<es.size:=by simpa using hj
  rw[AFm n] at r;cases r;rw[D];simp
 rw[<-C];exact y
end
end PySem
namespace L2
open PySem PySem.Spec PyProof.Rows
section
variable {X:Cx}
def qT (K:AAG):kj V->Hp->VK->Prop:=λxs H Q=>∃p a,xs= [.ref p] /\H p=some (.dN K a)/\∀l cs,H l=none->Paired (λ(q:FK×V) (c:kd)=>Gd K H c q.1) a cs->Q (.ref l) (upd H l (.lst (cs.map V.ref)))
def XS {k:Nat}(i:Room k X.A):Cv X (.type "list") (qT X.K):=by
 intro Sb s C H xs D Q I r h;obtain⟨p,c,rfl,hp,q⟩:=h;obtain⟨u,rfl,j⟩:=vals1 r;cases j;obtain⟨z,hd,ys,b,o,es,ep,h1,h2,m,d,n,v⟩:=Ri I.hok I.kIn hp;have hl:ys.length=c.length:=(ADt b).symm;have f:es.size=ys.length:=by rw[<-AC8,d,ABL]
 refine Qu (es:=es) (ep:=ep) i.hd hd ⟨o,h1,h2,m⟩ (by rw[f,hl];exact z) λh' x y B e=> ?_;have g:es.map (·.key)=((ys.map (·.2.1)).map Value.ref).toArray:=by apply Array.ext';rw[Array.toList_map,d];simp[entryOfKey]
 rw[g] at e;have hv:∀l:kj kd,A3 (l.map V.ref) (l.map Value.ref):=λl=>by
  induction l with
  | nil=>exact .nil
  | cons a l ih=>exact .cons rfl ih
 refine⟨.ref s.heap.objs.size,_,I.laid (t':=x) B (ABH _) (show DT X.prog X.w _ h' _ (.lst ((ys.map (·.2.1)).map V.ref)) from⟨by simp only[ABL];rw[hl];exact z,_,y,hv _,e⟩),rfl,q _ _ (I.hok.fresh (ABH _)) ?_⟩;clear q e g d v n f hl z hp;induction b with
 | nil=>exact .nil
 | cons h t ih=>exact .cons h.2.1 ih
end
end L2
namespace PL
open PySem PySem.Spec PyProof.Rows L2
def Xs (k:FK):PV:= .tup [.tup [.int k.1.1, .int k.1.2], .int k.2]
def BQ (a:kj (FK×Int))(k:FK):kc Int:=(a.find? λp=>decide (p.1=k)).map (·.2)
def Y2 (a:kj (FK×Int))(k:FK):FV (CH a) k=(BQ a k).map V.int:=by
 induction a with
 | nil=>rfl
 | cons p r ih=>
   by_cases e:p.1=k
   .simp [BQ,CH,FV,e]
   .simpa [BQ,CH,FV,e] using ih
section
variable {K:AAG}{T M:kd->Prop}{H:Hp}
def OM {v:V}{t d:Int}(r:CZ K T M H v (.tup [.int t, .int d])):∃b,v= .ref b/\dw K H b t d:=by
 obtain⟨a,vs,rfl,hq,rs⟩:=iZ r;cases rs with
 | cons r1 rs=>
 cases rs with
 | cons r2 rs=>
 cases rs;cases r1;cases r2;refine⟨a,rfl, ?_⟩;rcases hq with h|⟨o,c,n,h1,h2,e,_,f⟩
 .exact .inl h
 .exact .inr ⟨o,c,n,h1,h2,e,f⟩
def iF {b:kd}{t d:Int}(h:dw K H b t d):CZ K T M H (.ref b) (.tup [.int t, .int d]):=by
 refine .tup (vs:= [.int t, .int d]) ?_ (.cons (.int _) (.cons (.int _) .nil));rcases h with h|⟨o,a,n,h1,h2,e,c⟩
 .exact .inl h
 .refine .inr ⟨o,a,n,h1,h2,e, ?_,c⟩;have:=c.length;simp only[ABd,ADn,AC8] at this;rw[<-this];exact ACc rfl
def iE {c:kd}{k:FK}(h:Gd K H c k):CZ K T M H (.ref c) (Xs k):=by obtain⟨b,h1,h2⟩:=h;exact .tup (.inl h1) (.cons (iF h2) (.cons (.int _) .nil))
end
section
variable {X:Cx}{a b d:fe}{pos p1:Pos}{ta tb td:AE}
def Pq (x y:PV)(R:FK->Prop):Prop:=match x,y with | .tup [.int t, .int e], .int s=>R ((t,e),s)|_,_=>False
def WM {x y:PV}{R:FK->Prop}(h:Pq x y R):∃t e s,x= .tup [.int t, .int e] /\y= .int s/\R ((t,e),s):=by
 unfold Pq at h;split at h
 .exact ⟨_,_,_,rfl,rfl,h⟩
 .exact h.elim
def rf (m:PV)(R:kj (FK×Int)->Prop):Prop:=match m with | .dct kvs=>R kvs|_=>False
def gY {m:PV}{R:kj (FK×Int)->Prop}(h:rf m R):∃c,m= .dct c/\R c:=by cases m <;> first | exact⟨_,rfl,h⟩|exact h.elim
def jj (ta tb td:AE):AE:=λτ Q=>ta τ λx=>tb τ λy=>td τ λm=>rf m λc=>Pq x y λk=>Q (.bl (BQ c k).isSome)
def dz (td ta tb:AE):AE:=λτ Q=>td τ λm=>ta τ λx=>tb τ λy=>rf m λc=>Pq x y λk=>match BQ c k with | some i=>Q (.int i)|none=>False
def V4 {K:AAG}{B:DB}{T:kd->Prop}{H:Hp}{f:L2.St}{τ:BD}{q:kd}{vs:kj V}(c:SR K B T H f τ)(hq:H q=none):Dj T H T (upd H q (.tup vs))/\¬T q:=by refine⟨Dj.lay c.tp hq,λz=> ?_⟩;obtain⟨o,e,_⟩:=(c.tp q z).mut;rw[hq] at e;cases e
def mE {t1 t2 r:TE}(A:Gf X.K t1 ta)(C:Gf X.K t2 tb)(D:Gf X.K r td):Gf X.K (vI X.K (mO (Lg t1 (Lg t2 ir))) r) (jj ta tb td):=by
 intro B T p τ H Q U z h k;refine A B T p τ H _ _ z h λv x E F n r1 h1=> ?_;have f:=z.stp n;refine C B E p τ F _ _ f h1 λw y G W g r2 h2=> ?_;have i:=f.stp g;refine⟨ACc rfl,λq hq=> ?_⟩;obtain⟨j,I⟩:=V4 (vs:= [v,w]) i hq;have o:=i.stp j;refine D B G p τ _ _ _ o h2 λu m J L l M N=> ?_;obtain⟨O,rfl,P⟩:=gY N;obtain⟨t,e,s,rfl,rfl,R⟩:=WM P;have rv:=((r1.stp g f.va).stp j i.va).stp l o.va;obtain⟨c,rfl,tn⟩:=OM rv;cases r2;cases M with
 | dct S _ _=> refine⟨_,q,_,((t,e),s),rfl,rfl,S,⟨c,l.keep _ _ I Al,tn⟩, ?_⟩;rw[Y2,AEE];exact k _ _ J L (((n.trans g).trans j).trans l) (.bl _) R
def qm {c:Nat}{k:Nat}(e:Room k X.A)(ha:SE X a ta)(hb:SE X b tb)(hd:SE X d td)(f:behindInMarks .In d=false:=by rfl)(g:starEach (a :: [b]) X.env=(false,eval a X.env)::starEach [b] X.env:=by rfl)(h:starEach [b] X.env=(false,eval b X.env)::starEach [] X.env:=by rfl):Us X (.Compare (.Tuple [a,b] c p1) [.In] [d] pos) (Ah (jj ta tb td)):=by obtain⟨t1,i,j⟩:=ha;obtain⟨t2,l,m⟩:=hb;obtain⟨p,n,o⟩:=hd;exact⟨_,qN (qE (by have:=e.un;omega) (Pu (Bf i (Bf l EU h) g)) n) f,Uh (mE j m o)⟩
def mB {D:Nat}{k:Nat}(F:Room k X.A)(hd:SE X d td)(ha:SE X a ta)(hb:SE X b tb)(hs:oC (.Tuple [a,b] D p1))(G:starEach (a :: [b]) X.env=(false,eval a X.env)::starEach [b] X.env:=by rfl)(I:starEach [b] X.env=(false,eval b X.env)::starEach [] X.env:=by rfl):SE X (.Subscript d (.Tuple [a,b] D p1) pos) (dz td ta tb):=by
 obtain⟨t1,J,K⟩:=ha;obtain⟨t2,L,M⟩:=hb;obtain⟨t3,N,O⟩:=hd;refine⟨_,lV (by have:=F.un;omega) N (Pu (Bf J (Bf L EU I) G)) hs,λB T z τ H Q AQ E h k=> ?_⟩;refine O B T z τ H _ _ E h λu m P R p S U=> ?_;have j:=E.stp p;refine K B P z τ R _ _ j U λv x W Y l r1 h1=> ?_;have f:=j.stp l;refine M B W z τ Y _ _ f h1 λw y Z H2 g r2 h2=> ?_;have n:=f.stp g;refine⟨ACc rfl,λq hq=> ?_⟩;obtain⟨o,nt⟩:=V4 (vs:= [v,w]) n hq;obtain⟨C,rfl,h5⟩:=gY h2;obtain⟨t,e,s,rfl,rfl,r⟩:=WM h5;have rv:=(r1.stp g f.va).stp o n.va;have r3:=((S.stp l j.va).stp g f.va).stp o n.va;obtain⟨c,rfl,tn⟩:=OM rv;cases r2;cases ev:BQ C ((t,e),s) with
 | none=>rw[ev] at r;exact r.elim
 | some i=>
   rw[ev] at r;cases r3 with
   | dct hh _ _=> exact⟨_,q,_,((t,e),s), .int i,rfl,rfl,hh,⟨c,Al,tn⟩,by rw[Y2,ev];rfl,k _ _ Z _ (((p.trans l).trans g).trans o) (.int _) r⟩
def XJ (r:AA):AA:=λτ Q=>r τ λxs=>match xs with | [.dct kvs] =>Q (kvs.map λp=>Xs p.1)|_=>False
def iO {x:Str}{p pos:Pos}{e:fe}{es:kj fe}{r:AA}{k:Nat}(w:Room k X.A)(y:Gl X x)(z:X.mg x=none)(hv:bootBuiltins x=some (.type "list"))(ha:SA X (e::es) r)(hn:x≠"__name__" :=by decide)(hdb:(x==("__debug__" :Str))=false:=by decide)(he:starEach (e::es) X.env=(false,eval e X.env)::starEach es X.env:=by rfl)(hpl:(backTo pos (starEach es X.env)).any (·.1)=false:=by rfl):SF X (.Call (.Name x p) (e::es) [] pos) (XJ r):=by
 obtain⟨t,C,s⟩:=ha;refine⟨_,Mj (XS w) y z hv C hn hdb he hpl,λB T m τ H Q G n h k=>s B T m τ H _ _ n h λvs xs o D f r1 h1=> ?_⟩;have g:=n.stp f;split at h1 <;> first | exact h1.elim|skip
 rename_i c;cases r1 with
 | cons r t=>
   cases t;cases r with
   | dct u I J=>
     refine⟨_,_,rfl,u,λl cs hl v=> ?_⟩;have E:A6 X.K o (mt B m τ) D (cs.map V.ref) (c.map λp=>Xs p.1):=by
      clear h1 u;induction c generalizing cs with
      | nil=>cases v;exact .nil
      | cons q r ih=>
        cases v with
        | cons h t=>exact .cons (iE h) (ih _ t)
     obtain⟨F,i,j,r2⟩:=Tk g hl E;exact k l _ _ o _ (f.trans F) i (f.none hl) Al j r2 h1
end
def RE (m:kj (FK×Int))(k:FK)(v:Int):kj (FK×Int):=if (m.any λp=>decide (p.1=k)) then m.map λp=>if p.1=k then (p.1,v) else p else m ++ [(k,v)]
def bump (m:kj (FK×Int))(k:FK)(d:Int):kj (FK×Int):=RE m k ((BQ m k).getD 0+d)
def hJ (m:kj (FK×Int))(k:FK)(v:Int):Hz (CH m) k (.int v)=CH (RE m k v):=by
 unfold Hz RE;have e:((CH m).any λa=>decide (a.1=k))=(m.any λp=>decide (p.1=k)):=by unfold CH;rw[List.any_map];rfl
 rw[e];split
 .unfold CH;rw[ACa,ACa];apply ADG;intro p _;by_cases h:p.1=k <;> simp[h]
 .simp [CH]
def LN (m:kj (FK×Int))(k:FK)(v:Int):(RE m k v).length<=m.length+1:=by unfold RE;split <;> simp
def fN (m:kj (FK×Int))(k:FK):(FV (CH m) k).getD (.int 0)= .int ((BQ m k).getD 0):=by rw[Y2];cases BQ m k <;> rfl
def ZV:PV->kc (kc (Int×Int))
 | .non=>some none
 | .tup [.int t, .int d] =>some (some (t,d))
 | _=>none
def WW (x:PV):kc ((Int×Int)×Int×kc (Int×Int)):=
 match x with
 | .tup [.tup [.int t, .int d], .int h,e] =>(ZV e).map λe=>((t,d),h,e)
 | .lst [.tup [.int t, .int d], .int h,e] =>(ZV e).map λe=>((t,d),h,e)
 | _=>none
def G4 (m:kj (FK×Int))(b:Int×Int)(h:Int)(e:kc (Int×Int)):kj (FK×Int):=
 match e with
 | none=>bump m (b,1-h) 1
 | some e=>bump (bump m (b,1-h) 1) (e,0) (-1)
def F9:kj PV->kj (FK×Int)->kc (kj (FK×Int))
 | [],m=>some m
 | x::r,m=>match WW x with | some (b,h,e)=>F9 r (G4 m b h e)|none=>none
def hZ:R2:=λx y H Q=>y= .non/\Q (.bl (!decide (x= .non))) H
def Yu (K:AAG):TS:=
 c5 (Wt (mO (Lg (GX 2) (Lg (mN (Ry λi j=> .int (i-j)) (tC (.int 1)) (GX 3)) ir))) (DU 5))
  (c5 (iI K (GX 1) (GX 5) (mN (Ry λi j=> .int (i+j)) (Yy K (GX 1) (GX 5) (tC (.int 0))) (tC (.int 1))))
    (vF (iw (mN hZ (GX 4) (tC .non)))
      (c5 (Wt (mO (Lg (GX 4) (Lg (tC (.int 0)) ir))) (DU 6))
        (iI K (GX 1) (GX 6) (mN (Ry λi j=> .int (i-j)) (Yy K (GX 1) (GX 6) (tC (.int 0))) (tC (.int 1))))) nX))
def qq (K:AAG):TS:=
 c5 (Wt (nW K) (DU 1)) (c5 (vE (t7 K (GX 0)) (bP K 3 (Fh (DU 2) (Fh (DU 3) (Fh (DU 4) Vj)))) (Yu K)) (iu (GX 1)))
section
variable {K:AAG}{T M:kd->Prop}{H H':Hp}
def HK.ext (va:HK T M H)(ex:∀b o,H b=some o->H' b=some o):Mv K T M H T M H':=⟨va,λb o _ _ e=>ex b o e,λ_ t=>t,λ_ _ t=>t,λ_ _ m=>m⟩
def qV {v:V}{x:PV}{b:Int×Int}{h:Int}{e:kc (Int×Int)}(r:CZ K T M H v x)(f:WW x=some (b,h,e)):∃a i c,v= .ref a/\(Ky K H a [i, .int h,c] \/FY K H a [i, .int h,c])/\CZ K T M H i (.tup [.int b.1, .int b.2])/\((e=none/\c= .non)\/∃t d,e=some (t,d)/\CZ K T M H c (.tup [.int t, .int d])):=by
 have g:∀{c:V} {ep:PV},CZ K T M H c ep->ZV ep=some e->((e=none/\c= .non)\/∃t d,e=some (t,d)/\CZ K T M H c (.tup [.int t, .int d])):=by
  intro c ep l he;unfold ZV at he;split at he
  .cases he;cases l;exact .inl ⟨rfl,rfl⟩
  .cases he;exact .inr ⟨_,_,rfl,l⟩
  .cases he
 unfold WW at f;split at f
 .rename_i t d h' ep;obtain⟨m,he,j⟩:=ADY.mp f;cases j;obtain⟨a,vs,rfl,hq,rs⟩:=DM r;cases rs with
  | cons r1 rs=>
  cases rs with
  | cons r2 rs=>
  cases rs with
  | cons k rs=> cases rs;cases r2;exact⟨a,_,_,rfl, .inl hq,r1,g k he⟩
 .rename_i t d h' ep;obtain⟨m,he,j⟩:=ADY.mp f;cases j;obtain⟨a,vs,rfl,hq,_,_,rs⟩:=C6 r;cases rs with
  | cons r1 rs=>
  cases rs with
  | cons r2 rs=>
  cases rs with
  | cons k rs=> cases rs;cases r2;exact⟨a,_,_,rfl, .inr (.inl (.inl hq)),r1,g k he⟩
 .cases f
def Yw {D:Os}{p:kd}{O n s u w A:kc V}{f:Hp}{m:kj (FK×Int)}{v:V}{b:Int×Int}{h:Int}{e:kc (Int×Int)}{x:PV}(va:HK T M H)(ex:∀b o,H b=some o->f b=some o)(P:H p=none)(hp:f p=some (.dN K (CH m)))(hl:m.length+2<sizeLine)(r:CZ K T M f v x)(S:WW x=some (b,h,e))(nx:∀n s u w A k,(∀b o,H b=some o->k b=some o)->k p=some (.dN K (CH (G4 m b h e)))->D.nx [O,some (.ref p),n,s,u,w,A] k):bP K 3 (Fh (DU 2) (Fh (DU 3) (Fh (DU 4) Vj))) v [O,some (.ref p),n,s,u,w,A] f λB k=>Yu K D B k:=by
 obtain⟨a,C,ve,rfl,hq,U,E⟩:=qV r S;refine⟨a,_,rfl,hq,rfl,_,_,rfl,_,_,rfl,_,_,rfl,rfl, ?_⟩;have W:HK T M H:=va;refine⟨C,rfl,_,rfl,_,_,rfl,rfl,ACc rfl,λq Q=> ?_⟩;have g:∀b o,f b=some o->upd f q (.tup [C, .int (1-h)]) b=some o:=λb o e=>by rw[Ai (Az e Q)];exact e
 have F:upd f q (.tup [C, .int (1-h)]) p=some (.dN K (CH m)):=g _ _ hp;have qp:q≠p:=λz=>by subst z;rw[Q] at hp;cases hp
 obtain⟨c,rfl,tn⟩:=OM U;have G:dw K (upd f q (.tup [.ref c, .int (1-h)])) c b.1 b.2:=tn.elim (λz=> .inl (g _ _ z)) .inr;have R:Gd K (upd f q (.tup [.ref c, .int (1-h)])) q (b,1-h):=⟨c,Al,G⟩;refine⟨_,rfl,p,_,rfl,F,_,rfl,q,_,(b,1-h),rfl,F,R,_,_,fN m (b,1-h),rfl,_,rfl,_,rfl,p,q,_,(b,1-h),rfl,rfl,F,R,by rw[CH,ABL];omega, ?_⟩;rw[hJ];have Y:CH (RE m (b,1-h) ((BQ m (b,1-h)).getD 0+1))=CH (bump m (b,1-h) 1):=rfl;rw[Y];have hb:∀o,f p=some o->True:=λ_ _=>trivial;have ext2:∀(X:HO) b o,H b=some o->upd (upd f q (.tup [.ref c, .int (1-h)])) p X b=some o:=λX b o e=>by rw[Ai (Az e P)];exact g _ _ (ex _ _ e)
 have bl:(bump m (b,1-h) 1).length<=m.length+1:=LN _ _ _;rcases E with⟨rfl,rfl⟩|⟨t,d,rfl,E⟩
 .refine ⟨_,rfl,rfl,false,rfl, ?_⟩;exact nx _ _ _ _ _ _ (ext2 _) Al
 .obtain ⟨c2,rfl,I⟩:=OM E;refine⟨_,rfl,rfl,true,rfl, ?_⟩;refine⟨_,rfl,ACc rfl,λi J=> ?_⟩;have Z:p≠i:=λz=>by subst z;rw[Al] at J;cases J
  have j:∀(a:kd) o,upd (upd f q (.tup [.ref c, .int (1-h)])) p (.dN K (CH (bump m (b,1-h) 1))) a=some o->upd (upd (upd f q (.tup [.ref c, .int (1-h)])) p (.dN K (CH (bump m (b,1-h) 1)))) i (.tup [.ref c2, .int 0]) a=some o:=λa o e=>by rw[Ai (Az e J)];exact e
  have L:=j p _ Al;have N:dw K (upd (upd (upd f q (.tup [.ref c, .int (1-h)])) p (.dN K (CH (bump m (b,1-h) 1)))) i (.tup [.ref c2, .int 0])) c2 t d:=I.elim (λz=> .inl (j _ _ (by
   rw[Ai (λy=>by subst y;rw[hp] at z;cases z)];exact g _ _ z))) .inr
  have l:Gd K (upd (upd (upd f q (.tup [.ref c, .int (1-h)])) p (.dN K (CH (bump m (b,1-h) 1)))) i (.tup [.ref c2, .int 0])) i ((t,d),0):=⟨c2,Al,N⟩;refine⟨_,rfl,p,_,rfl,L,_,rfl,i,_,((t,d),0),rfl,L,l,_,_,fN _ ((t,d),0),rfl,_,rfl,_,rfl,p,i,_,((t,d),0),rfl,rfl,L,l,by rw[CH,ABL];omega, ?_⟩;rw[hJ];refine nx _ _ _ _ _ _ (λa o e=> ?_) Al;rw[Ai (Az e P)];exact j _ _ (ext2 _ _ _ e)
def NR {m:kj (FK×Int)}{b:Int×Int}{h:Int}{e:kc (Int×Int)}:(G4 m b h e).length<=m.length+2:=by
 unfold G4;cases e with
 | none=>have:=LN m (b,1-h) ((BQ m (b,1-h)).getD 0+1);unfold bump;simp only;omega
 | some e=> have h1:=LN m (b,1-h) ((BQ m (b,1-h)).getD 0+1);have h2:=LN (bump m (b,1-h) 1) (e,0) ((BQ (bump m (b,1-h) 1) (e,0)).getD 0 + -1);unfold bump at *;simp only;omega
theorem aF:∀{vs:kj V} {ys:kj PV},A6 K T M H vs ys->∀{i:Nat} {x:V},vs[i]? =some x->∃y,ys[i]? =some y/\CZ K T M H x y
 | _,_, .nil,i,x,ev=>by simp at ev
 | _,_, .cons h t,0,x,ev=>by simp at ev;subst ev;exact⟨_,rfl,h⟩
 | _,_, .cons h t,i+1,x,ev=>by simpa using aF t (i:=i) (by simpa using ev)
def QR {D:Os}{J:It}{t:V}{p:kd}{ys:kj PV}{a:kj (FK×Int)}{u:Hp}(va:HK T M H)(G:H p=none)(go:∀H',(∀b o,H b=some o->H' b=some o)->∃vs,A6 K T M H' vs ys/\(∀i,i<ys.length->J.go i H')/\(∀i,ys.length<=i->J.stop i H')/\∀i x f,J.yld i H' x f->f=H'/\vs[i]? =some x)(I:∀b o,H b=some o->u b=some o)(hp:u p=some (.dN K (CH [])))(hl:2*ys.length+2<sizeLine)(hs:F9 ys [] =some a)(v:∀g j k l n H',(∀b o,H b=some o->H' b=some o)->H' p=some (.dN K (CH a))->D.nx [some t,some (.ref p),g,j,k,l,n] H'):∃W:Nat->Nat->L2.St->Hp->Prop,(∃m,W 0 m [some t,some (.ref p),none,none,none,none,none] u)/\∀i m r H,W i m r H-> (J.stop i H/\D.nx r H)\/(J.go i H/\∃N:L2.St->Hp->Prop,(∀c H',N c H'->∃C,C<m/\W (i+1) C c H')/\∀x H',J.yld i H x H'->bP K 3 (Fh (DU 2) (Fh (DU 3) (Fh (DU 4) Vj))) x r H' λw f=>Yu K {D with nx:=N,ct:=N,bk:=D.nx} w f):=by
 let W:Nat->Nat->L2.St->Hp->Prop:=λi m r H'=>i+m=ys.length/\∃g j k l n s,r= [some t,some (.ref p),g,j,k,l,n] /\(∀b o,H b=some o->H' b=some o)/\H' p=some (.dN K (CH s))/\F9 (ys.drop i) s=some a/\s.length<=2*i;refine⟨W,⟨ys.length,Nat.zero_add _,_,_,_,_,_, [],rfl,I,hp,hs,AB7 _⟩, ?_⟩;rintro i m r H' ⟨hi,g,j,k,l,n,s,rfl,ex,E,d,L⟩;obtain⟨vs,rs,O,P,Q⟩:=go H' ex;cases m with
 | zero=> left;refine⟨P i (by omega),v _ _ _ _ _ _ ex ?_⟩;rw[AD5 (by omega)] at d;cases d;exact E
 | succ m=>
   right;refine⟨O i (by omega),λc H'=>W (i+1) m c H',λc H' h=>⟨m,by omega,h⟩,λx f R=> ?_⟩;obtain⟨rfl,ev⟩:=Q i x f R;have hy:ys[i]? =some ys[i] :=ABf (by omega);obtain⟨y,F,S⟩:=aF rs ev;rw[ADV (by omega:i<ys.length)] at d;have z:ys[i] =y:=by rw[hy] at F;exact ABW F
   rw[z] at d;unfold F9 at d;split at d
   .rename_i b h e U;refine Yw (H:=H) (m:=s) (b:=b) (h:=h) (e:=e) (x:=y) va ex G E (by omega) S U λg j k l n X A B=>⟨by omega,g,j,k,l,n,_,rfl,A,B,d, ?_⟩
    .have:=NR (m:=s) (b:=b) (h:=h) (e:=e);omega
   .cases d
def Yv {D:Os}{l:V}{x:PV}{ys:kj PV}{f:kj (FK×Int)}(va:HK T M H)(r:CZ K T M H l x)(hx:x= .tup ys\/x= .lst ys)(hl:2*ys.length+2<sizeLine)(hs:F9 ys [] =some f)(m:∀p H',(∀b o,H b=some o->H' b=some o)->H p=none->H' p=some (.dN K (CH f))->D.rt (.ref p) H'):qq K D [some l,none,none,none,none,none,none] H:=by
 intro p hp;have k:∀b o,H b=some o->upd H p (.dN K []) b=some o:=λb o e=>by rw[Ai (Az e hp)];exact e
 have last:∀n s t u v H',(∀b o,H b=some o->H' b=some o)->H' p=some (.dN K (CH f))->(iu (GX 1)) D [some l,some (.ref p),n,s,t,u,v] H':=λn s t u v H' ex h=>⟨_,rfl,m p H' ex hp h⟩;rcases hx with rfl|rfl
 .obtain ⟨a,vs,rfl,hq,rs⟩:=DM (r.mv (va.ext k));refine⟨_,rfl,a,rfl, .inr ⟨⟨vs,hq⟩, ?_⟩⟩;refine QR (D:={D with nx:=(iu (GX 1)) D}) va hp (λH' ex=> ?_) k Al hl hs last;obtain⟨w,c,e,g,d⟩:=DM (r.mv (va.ext ex));cases e;refine⟨c,d,λi hi=>⟨c,c[i]'(by rw[d.length];exact hi),g,ABf _⟩,λi hi=>⟨c,g,by rw[d.length];exact hi⟩,λi x y j=>⟨j.1,j.2 c g⟩⟩
 .obtain ⟨a,vs,rfl,hq,_,_,rs⟩:=C6 (r.mv (va.ext k));refine⟨_,rfl,a,rfl, .inl ⟨⟨vs, .inl (.inl hq)⟩, ?_⟩⟩;refine QR (D:={D with nx:=(iu (GX 1)) D}) va hp (λH' ex=> ?_) k Al hl hs last;obtain⟨w,c,e,g,_,_,d⟩:=C6 (r.mv (va.ext ex));cases e;refine⟨c,d,λi hi=>⟨c,c[i]'(by rw[d.length];exact hi), .inl (.inl g),ABf _⟩,λi hi=>⟨c, .inl (.inl g),by rw[d.length];exact hi⟩,λi x y j=>⟨j.1,j.2 c (.inl (.inl g))⟩⟩
end
def IQ:AF:=λxs Q=>match xs with | [x] =>Uu x λys=>2*ys.length+2<sizeLine/\∃m,F9 ys [] =some m/\Q (.dct m)|_=>False
def XC {xs:kj PV}{Q:PV->Prop}(h:IQ xs Q):∃x ys m,xs= [x] /\(x= .tup ys\/x= .lst ys)/\2*ys.length+2<sizeLine/\F9 ys [] =some m/\Q (.dct m):=by
 unfold IQ at h;split at h
 .obtain ⟨ys,hx,hz,m,a,q⟩:=Js h;exact⟨_,ys,m,rfl,hx,hz,a,q⟩
 .exact h.elim
section
variable {K:AAG}{T M:kd->Prop}{H H':Hp}
def lw {k:Nat}{A:Sl}(a:Room k A):A.units+2<cLine:=by have:=a.un;omega
def mK (va:HK T M H)(ex:∀b o,H b=some o->H' b=some o):Dj T H T H' where
 keep:=λb u _ e=>ex b u e
 sub:=λ_ t=>t
 new:=λ_ t=> .inl t
 tp:=λa t=>let ⟨d,x,e,q⟩:=va.tp a t;⟨d,x,ex _ _ e,q⟩
def lq {p:kd}{m:kj (FK×Int)}(va:HK T M H)(a:H p=none)(hp:H' p=some (.dN K (CH m))):CZ K T M H' (.ref p) (.dct m):=by
 refine .dct hp (λz=> ?_) (λz=> ?_)
 .obtain ⟨o,e,_⟩:=(va.tp p z).mut;rw[a] at e;cases e
 .obtain ⟨o,e,_⟩:=va.mu p z;rw[a] at e;cases e
end
end PL
namespace L2
open PySem PySem.Spec PyProof.Rows
section
variable {elt tg iter tg2 iter2:fe}{ifs ifs2:kj fe}{scope:Scope}{pos:Pos}{it acc:ki}{env:Env}
def dA:compTurn (.ListComp elt [⟨tg,iter,ifs,0⟩,⟨tg2,iter2,ifs2,0⟩] scope pos) 0 it acc env=(do
 standAt iter.pos
 match <-pyNext it with
 | none=>pure (.done .next)
 | some v=>
   letOwnedTupleGo tg it v
   assign tg env v
   let mut ok:=true
   for c in ifs do
    if ok then ok <-isTrue c env (eval c env)
   if ok then
    let x <-eval iter2 env
    standAt iter2.pos
    let x <-foldedSetIterable iter2 env x;let _ <-runOwn (.compStart (.ListComp elt [⟨tg,iter,ifs,0⟩,⟨tg2,iter2,ifs2,0⟩] scope pos) 1 (<-holding [x] (pyIter x)) acc env) env
   again (.compLoop (.ListComp elt [⟨tg,iter,ifs,0⟩,⟨tg2,iter2,ifs2,0⟩] scope pos) 0 it acc env)):=by rfl
def dB:compTurn (.ListComp elt [⟨tg,iter,ifs,0⟩,⟨tg2,iter2,ifs2,0⟩] scope pos) 1 it acc env=(do
 standAt iter2.pos
 match <-pyNext it with
 | none=>pure (.done .next)
 | some v=>
   letOwnedTupleGo tg2 it v
   assign tg2 env v
   let mut ok:=true
   for c in ifs2 do
    if ok then ok <-isTrue c env (eval c env)
   if ok then
    (do let _ <-call (.builtin "list.append") [acc,<-eval elt env])
   again (.compLoop (.ListComp elt [⟨tg,iter,ifs,0⟩,⟨tg2,iter2,ifs2,0⟩] scope pos) 1 it acc env)):=by rfl
variable {prog:Wf}{w:Tb}{A:Sl}{R:Result->kf->Prop}{s:kf}
def Yr (c:codeAny (model prog w) A (.compLoop (.ListComp elt [⟨tg,iter,ifs,0⟩,⟨tg2,iter2,ifs2,0⟩] scope pos) 1 it acc env) R s)(h:wpAny (model prog w) A (pyIter it) (λa b=>codeAny (model prog w) A (.compLoop (.ListComp elt [⟨tg,iter,ifs,0⟩,⟨tg2,iter2,ifs2,0⟩] scope pos) 1 a acc env) R b) (notedBy (model prog w) A env λx b=>R (.error x) b) s):codeAny (model prog w) A (.compStart (.ListComp elt [⟨tg,iter,ifs,0⟩,⟨tg2,iter2,ifs2,0⟩] scope pos) 1 it acc env) R s:=by
 refine codeAny_of_tree ?_;show wpAny _ _ ((compStart (.ListComp elt [⟨tg,iter,ifs,0⟩,⟨tg2,iter2,ifs2,0⟩] scope pos) 1 it acc env).onRaise (λx=>do noteFrame x env;standAt theWindowsPlace)) _ _ s;refine wpAny_notedAt ?_;unfold compStart;show wpAny _ _ (ask >>= _) _ _ s;refine AAF (wpAny_askSetting (wpAny_ite ?_));split
 .first
   | exact AAF (AAI (AAI (And.intro rfl c)))
   | exact AAI (And.intro rfl c)
 .first
   | exact AAF (ACH (AAF (ACP (AAF (AB4 h (λa b h'=>AAI (And.intro rfl h')) λ_ _ x=>x)))))
   | (refine AAF (ACH ?_);show wpAny _ _ (standAt iter2.pos >>= _) _ _ s;exact AAF (ACP (AAF (AB4 h (λa b h'=>AAI (And.intro rfl h')) λ_ _ x=>x))))
end
def Nd (own:Nat)(a:St):St:=List.replicate own none++a.drop own
def ML {own:Nat}{a:St}{j:Nat}{v:V}(h:(Nd own a)[j]? =some (some v)):own<=j/\a[j]? =some (some v):=by
 unfold Nd at h;by_cases hj:j<own
 .rw [ABv (by simpa using hj),ADB,AAJ hj] at h;cases h
 .have bY:own<=j:=by omega
  rw[ACR (by simpa using bY),AC4,ADm] at h;rw[show own+(j-own)=j by omega] at h;exact⟨bY,h⟩
def Ve {own:Nat}{a:St}(h:own<=a.length):(Nd own a).length=a.length:=by simp[Nd];omega
def TR (J:It)(D:kd)(c:St)(g:TG)(k:TT)(d:TI)(own2:Nat)(l:TG)(e:TT)(te:TE)(Q:Hp->Prop)(W:Nat->Nat->Hp->Prop):Prop:=
 ∀i m H,W i m H->(J.stop i H/\Q H)\/(J.go i H/\∀x f,J.yld i H x f->g x c f λa n=>k a n λok h=>
  if ok=true then d a h λo p=>∃j:Nat->Nat->Hp->Prop,(∃m2,j 0 m2 p)/\Jg o D (Nd own2 a) l e te (λr=>∃b,b<m/\W (i+1) b r) j else ∃b,b<m/\W (i+1) b h)
def iq (e:TI)(own:Nat)(ix:kj Nat)(g:TG)(f:TT)(a:TI)(own2:Nat)(h:TG)(b:TT)(te:TE):TE:=λc H Q=>e c H λJ d=>∀D,d D=none->
 ∃W:Nat->Nat->Hp->Prop,(∃m,W 0 m (upd d D (.lst [])))/\TR J D (B5 own ix c) g f a own2 h b te (Q (.ref D)) W
section
variable {X:Cx}{tg elt iter tg2 iter2:fe}{ifs ifs2:kj fe}{scope:Scope}{pos:Pos}{wi wi2:TI}{own own2:Nat}{ix:kj Nat}{N:kj Str}{g g2:TG}{tt tt2:TT}{te:TE}
structure Ny (X:Cx) (tg elt:Expr) (ifs:List Expr) (tg2 iter2:Expr) (ifs2:List Expr) (scope:Scope) (own:Nat) (ix:List Nat) (N:List Str) (g:TG) (tt:TT) (wi2:TI) (own2:Nat) (g2:TG) (tt2:TT) (te:TE):Prop where
 kind:scope.kind= .function
 nocell:∀y∈scope.names,y.2≠ .cell
 names:∀y∈scope.names,y.2= .local->scope.names.lookup y.1=some .local
 frees:∀y∈scope.names,y.2= .free->X.env.scope.names.lookup y.1=some .cell
 ins:RV X (relabel scope X.env) own ix N
 keep:Hg own g
 keep2:Hg own2 g2
 le2:own2<=own
 tgt:∀cl C s H ex pn,PG (blk X (relabel scope X.env) N cl C s H ex pn) tg g
 tst:∀cl C s H ex pn,ZE (blk X (relabel scope X.env) N cl C s H ex pn) ifs tt
 itr2:∀cl C s H ex pn,PI (blk X (relabel scope X.env) N cl C s H ex pn) tg2 iter2 wi2
 set2:∀cl C s H ex pn x,foldedSetIterable iter2 (blk X (relabel scope X.env) N cl C s H ex pn).env x=pure x
 tgt2:∀cl C s H ex pn,PG (blk X (relabel scope X.env) N cl C s H ex pn) tg2 g2
 tst2:∀cl C s H ex pn,ZE (blk X (relabel scope X.env) N cl C s H ex pn) ifs2 tt2
 val:∀cl C s H ex pn,PE (blk X (relabel scope X.env) N cl C s H ex pn) elt te
def jt {Y:Cx}{c0:Comprehension}{Sb:kj (kd×Obj)}{f:St}{p:kj kd}{it:kd}{tn:Nat->Sr->Prop}{J:It}{D:kd}{R:Result->kf->Prop}{Qh:Hp->Prop}{W:Nat->Nat->Hp->Prop}(Z:∀it B,compTurn (.ListComp elt [c0,⟨tg2,iter2,ifs2,0⟩] scope pos) 1 it B Y.env=(do
   standAt iter2.pos
   match <-pyNext it with
   | none=>pure (.done .next)
   | some v=>
     letOwnedTupleGo tg2 it v
     assign tg2 Y.env v
     let mut ok:=true
     for c in ifs2 do
      if ok then ok <-isTrue c Y.env (eval c Y.env)
     if ok then
      (do let _ <-call (.builtin "list.append") [B,<-eval elt Y.env])
     again (.compLoop (.ListComp elt [c0,⟨tg2,iter2,ifs2,0⟩] scope pos) 1 it B Y.env)))(eX:Y.xe=λ_ _=>False)(eC:Y.calm=true)(hg:PG Y tg2 g2)(hk:Hg own2 g2)(ht:ZE Y ifs2 tt2)(hv:PE Y elt te)(T:Kz Y.prog Y.w Y.K tg2 J p it tn)(h0s:∀j v,f[j]? =some (some v)->own2<=j)(k:∀{a:Hp},(∀b∈p,a b=none)->∀b∈p,EM Y Sb a b)(hW:Jg J D f g2 tt2 te Qh W)(hR:∀a I,Inv Y Sb f a I->Qh a->R (.ok .next) I)(n:Nat)(s0:kf)(h0:∃i a,Inv Y Sb f a s0/\tn i s0.heap/\(∀b∈p,a b=none)/\W i n a):
 codeAny (model Y.prog Y.w) Y.A (.compLoop (.ListComp elt [c0,⟨tg2,iter2,ifs2,0⟩] scope pos) 1 (.ref it) (.ref D) Y.env) R s0:=by
 refine AEd rfl (λn I=>∃i a,Inv Y Sb f a I/\tn i I.heap/\(∀b∈p,a b=none)/\W i n a) (λn s1 h1=> ?_) n h0;obtain⟨i,H1,B1,L,M,w1⟩:=h1;show wpAny _ _ ((compTurn (.ListComp elt [c0,⟨tg2,iter2,ifs2,0⟩] scope pos) 1 (.ref it) (.ref D) Y.env).onRaise (λx=>do noteFrame x Y.env;theTreesLotGoes x)) _ _ s1;refine AEe ?_;rw[Z];have U:∀{α:Type} {t:Sem α} {Q:α->kf->Prop} {E:ki->kf->Prop} {s:kf},wpAny (model Y.prog Y.w) Y.A t Q Y.xe s->wpAny (model Y.prog Y.w) Y.A t Q E s:=λh=>AB4 h (λ_ _ q=>q) λ_ _ z=>by rw[eX] at z;exact z.elim
 refine AAF (ACP (AAF ?_));rcases hW i n H1 w1 with⟨stop,qn⟩|⟨go,step⟩
 .refine Be (T.done Y rfl rfl rfl eC i Sb s1 _ H1 _ B1 (k M) L stop) λr s4 ⟨hr,I4⟩=> ?_;subst hr;exact AAI (hR _ _ I4 qn)
 .refine Be (T.item Y rfl rfl rfl eC i Sb s1 _ H1 _ B1 (k M) L go) λr s4 ⟨u,hr,h4⟩=> ?_;subst hr;refine AAF (Be h4 λ_ s5 ⟨x,H5,I5,r5,y5,C,fr5⟩=> ?_);have I5':=I5.pinned (k fr5) (T.obj _ _ C);refine AAF (Be (U (hg _ s5 _ H5 x u _ I5' r5 (hk _ _ _ _ (step x H5 y5)))) λ_ s6 ⟨l,H6,I6,q6,l6,k6⟩=> ?_);refine AAF (Be (U (ht _ s6 l H6 _ I6 q6)) λok s7 ⟨H7,I7,q7⟩=> ?_);have back:∀{F:Hp} {G:kf} {H:Nat},Inv Y (Sb++F2 p s5.heap) l F G->H<n->W (i+1) H F->
   ∃m,m<n/\∃i a,Inv Y Sb f a G/\tn i G.heap/\(∀b∈p,a b=none)/\W i m a:=λ{F G H} O P S=>by
   refine⟨H,P,i+1,F,O.unpinned.weak l6.symm (λj v hj=> ?_),T.keep _ _ _ C λb hb o e=>(O.pin (b,o) (ABY _ (ABY _ (CG hb e)))).1,λb hb=> ?_,S⟩
   .rw [k6 j (h0s j v hj)];exact hj
   .obtain ⟨o,e,d⟩:=T.obj _ _ C b hb;exact(O.pin (b,o) (ABY _ (ABY _ (CG hb e)))).2.1
  cases ok with
  | false=> obtain⟨H,P,S⟩:=q7;exact AAI ⟨rfl,back I7 P S⟩
  | true=> refine AAF (AAF (Be (U (hv _ s7 l H7 _ I7 q7)) λyv G ⟨y,F,O,r8,ys,hD,hz,H,P,S⟩=> ?_));refine AAF (Be (U (IX _ G l F (.ref D) [y] (.ref D) [yv] (λ_ H9=>H9=upd F D (.lst (ys ++ [y]))) O rfl (.cons r8 .nil) ⟨D,ys,y,rfl,rfl,hD,hz,rfl⟩)) λ_ s9 ⟨_,H9,I9,_,e9⟩=> ?_);subst e9;exact AAI (AAI ⟨rfl,back I9 P S⟩)
def XV {Sb:kj (kd×Obj)}{L:St}{H:Hp}{s:kf}{l:kj kd}{cl:kj (Str×kd)}{it:kd}{tn:Nat->Sr->Prop}{J:It}{D:kd}{R:Result->kf->Prop}{Qh:Hp->Prop}{W:Nat->Nat->Hp->Prop}(hc:X.calm=true)(O:Ny X tg elt ifs tg2 iter2 ifs2 scope own ix N g tt wi2 own2 g2 tt2 te)(T:Kz X.prog X.w X.K tg J l it tn)(I:Inv X Sb L H s)(hf:∀b∈l,EM X Sb H b)(Ea:∀b∈l,b<s.heap.objs.size)(hW:TR J D (B5 own ix L) g tt wi2 own2 g2 tt2 te Qh W)(hR:∀σ' a y,Inv (blk X (relabel scope X.env) N cl s.heap.objs.size s H l (X.pn++Sb)) [] σ' a y->Qh a->R (.ok .next) y)(n:Nat)(s0:kf)(h0:∃i a,Inv (blk X (relabel scope X.env) N cl s.heap.objs.size s H l (X.pn++Sb)) [] (B5 own ix L) a s0/\tn i s0.heap/\(∀b∈l,a b=none)/\W i n a):codeAny (model X.prog X.w) X.A (.compLoop (.ListComp elt [⟨tg,iter,ifs,0⟩,⟨tg2,iter2,ifs2,0⟩] scope pos) 0 (.ref it) (.ref D) (Fv X.env (relabel scope X.env) cl s.heap.objs.size)) R s0:=by
 refine AEd rfl (λn y=>∃i a,Inv (blk X (relabel scope X.env) N cl s.heap.objs.size s H l (X.pn++Sb)) [] (B5 own ix L) a y/\tn i y.heap/\(∀b∈l,a b=none)/\W i n a) (λn s1 h1=> ?_) n h0;obtain⟨i,H1,B1,S,U,w1⟩:=h1;have G:own2<=(B5 own ix L).length:=by rw[MI];exact ABT O.le2 (Nat.le_add_right _ _)
 generalize k:blk X (relabel scope X.env) N cl s.heap.objs.size s H l (X.pn++Sb)=Y at *;have eA:Y.A=X.A:=by rw[<-k];rfl
 have Z:Y.prog=X.prog:=by rw[<-k];rfl
 have eW:Y.w=X.w:=by rw[<-k];rfl
 have eK:Y.K=X.K:=by rw[<-k];rfl
 have eE:Fv X.env (relabel scope X.env) cl s.heap.objs.size=Y.env:=by rw[<-k];rfl
 have eX:Y.xe=λ_ _=>False:=by rw[<-k];rfl
 have eC:Y.calm=true:=by rw[<-k];exact hc
 have hg:PG Y tg g:=by rw[<-k];exact O.tgt _ _ _ _ _ _
 have ht:ZE Y ifs tt:=by rw[<-k];exact O.tst _ _ _ _ _ _
 have xF:PI Y tg2 iter2 wi2:=by rw[<-k];exact O.itr2 _ _ _ _ _ _
 have Ut:∀x,foldedSetIterable iter2 Y.env x=pure x:=by rw[<-k];exact O.set2 _ _ _ _ _ _
 have kP:PG Y tg2 g2:=by rw[<-k];exact O.tgt2 _ _ _ _ _ _
 have xT:ZE Y ifs2 tt2:=by rw[<-k];exact O.tst2 _ _ _ _ _ _
 have hv:PE Y elt te:=by rw[<-k];exact O.val _ _ _ _ _ _
 have B:∀{a:Hp},(∀b∈l,a b=none)->∀b∈l,EM Y [] a b:=λ{a} hn b hb=>by
  obtain⟨_,a1,a2,a3,a4,a5⟩:=hf b hb;refine⟨hn b hb, ?_, ?_, ?_, ?_, ?_⟩
  .rw [<-k];exact ABK (Ea b hb)
  .rw [<-k];exact I.notStk a1 a2
  .rw [<-k];exact .inl hb
  .intro x c e;exact(B1.ok.exf b (by rw[<-k];exact hb)).2 x c e
  .intro p hp;have:p∈X.pn++Sb:=by rw[<-k] at hp;simpa[blk] using hp
   exact a5 p this
 rw[eE,<-eA,<-Z,<-eW];show wpAny _ _ ((compTurn (.ListComp elt [⟨tg,iter,ifs,0⟩,⟨tg2,iter2,ifs2,0⟩] scope pos) 0 (.ref it) (.ref D) Y.env).onRaise (λx=>do noteFrame x Y.env;theTreesLotGoes x)) _ _ s1;refine AEe ?_;rw[dA];have ff:∀{α:Type} {t:Sem α} {Q:α->kf->Prop} {E:ki->kf->Prop} {s:kf},wpAny (model Y.prog Y.w) Y.A t Q Y.xe s->wpAny (model Y.prog Y.w) Y.A t Q E s:=λh=>AB4 h (λ_ _ q=>q) λ_ _ z=>by rw[eX] at z;exact z.elim
 refine AAF (ACP (AAF ?_));rcases hW i n H1 w1 with⟨stop,qn⟩|⟨go,step⟩
 .have zd:=λE=>T.done Y Z eW eK eC i [] s1 _ H1 E B1 (B U) S stop;rw[<-Z,<-eW] at zd;refine Be (zd _) λr s4 ⟨hr,I4⟩=> ?_;subst hr;exact AAI (hR _ _ _ I4 qn)
 .have zi:=λE=>T.item Y Z eW eK eC i [] s1 _ H1 E B1 (B U) S go;rw[<-Z,<-eW] at zi;refine Be (zi _) λr s4 ⟨u,hr,h4⟩=> ?_;subst hr;refine AAF (Be h4 λ_ s5 ⟨x,H5,I5,r5,y5,M,fr5⟩=> ?_);have I5':=I5.pinned (B fr5) (T.obj _ _ M);refine AAF (Be (ff (hg _ s5 _ H5 x u _ I5' r5 (O.keep _ _ _ _ (step x H5 y5)))) λ_ s6 ⟨C,H6,I6,q6,l6,k6⟩=> ?_);refine AAF (Be (ff (ht _ s6 C H6 _ I6 q6)) λok s7 ⟨H7,I7,q7⟩=> ?_);have back:∀{F:St} {H8:Hp} {s8:kf} {P:Nat},Inv Y ([] ++ F2 l s5.heap) F H8 s8->F.length=C.length->(∀j v,own<=j->C[j]? =some (some v)->F[j]? =some (some v))->P<n->W (i+1) P H8->
   ∃m,m<n/\∃i a,Inv Y [] (B5 own ix L) a s8/\tn i s8.heap/\(∀b∈l,a b=none)/\W i m a:=λ{F H8 s8 P} I8 hl hsm hm w8=>by
   refine⟨P,hm,i+1,H8,I8.unpinned.weak (hl.trans l6).symm (λj v hj=> ?_),T.keep _ _ _ M λb hb o e=>(I8.pin (b,o) (ABY _ (ABY _ (CG hb e)))).1,λb hb=> ?_,w8⟩
   .have zq:=(FI hj).1;exact hsm j v zq (by rw[k6 j zq];exact hj)
   .obtain ⟨o,e,d⟩:=T.obj _ _ M b hb;exact(I8.pin (b,o) (ABY _ (ABY _ (CG hb e)))).2.1
  cases ok with
  | false=> obtain⟨P,hm,w8⟩:=q7;exact AAI ⟨rfl,back I7 rfl (λ_ _ _ z=>z) hm w8⟩
  | true=>
    rw[AAJ rfl] at q7;refine AAF (Be (ff (xF _ s7 C H7 _ I7 q7)) λv2 s8 kU=> ?_);refine AAF (ACP (AAF (ADD (Ut v2) (AAF (AB3 (Be (ff kU) λitv s9 hv9=> ?_))))));obtain⟨it2,fp2,tn2,J2,H9,rfl,I9,T2,st9,f9,W2,⟨m2,w2⟩,hW2⟩:=hv9;have I9':Inv Y ([] ++ F2 l s5.heap) (Nd own2 C) H9 s9:=I9.weak (Ve (by rw[l6];exact G)) (λj v hj=>(ML hj).2);have loop:codeAny (model Y.prog Y.w) Y.A (.compLoop (.ListComp elt [⟨tg,iter,ifs,0⟩,⟨tg2,iter2,ifs2,0⟩] scope pos) 1 (.ref it2) (.ref D) Y.env) (λr y=>match r with | .ok f=>∃m,m<n/\∃i a,Inv Y [] (B5 own ix L) a y/\tn i y.heap/\(∀b∈l,a b=none)/\W i m a | .error e=>cameBackBy (model Y.prog Y.w) Y.A Y.env (notedBy (model Y.prog Y.w) Y.A Y.env λx y=>R (.error x) y) e y) s9:=by refine jt (own2:=own2) (Sb:= [] ++ F2 l s5.heap) (λ_ _=>dB) eX eC kP O.keep2 xT hv T2 (λj v hj=>(ML hj).1) (λhn b hb=>⟨hn b hb,(f9 b hb).2⟩) hW2 (λa y I' q'=> ?_) m2 s9 ⟨0,H9,I9',st9,λb hb=>(f9 b hb).1,w2⟩;obtain⟨P,hm,w8⟩:=q';refine back I' (Ve (by rw[l6];exact G)) (λj v hj e=> ?_) hm w8;have h2j:own2<=j:=ABT O.le2 hj;unfold Nd;rw[ACR (by simpa using h2j),AC4,ADm,show own2+(j-own2)=j by omega];exact e
    refine AAF (wpAny_runOwn (h:=none) (Yr ?_ ?_))
    .exact ADv loop (λr y h'=>by
      cases r with
      | ok f=>exact AAI ⟨rfl,h'⟩
      | error e=>exact h')
    .exact T2.self _ 0 _ _ _ st9 (ADv loop (λr y h'=>by
      cases r with
      | ok f=>exact AAI ⟨rfl,h'⟩
      | error e=>exact h'))
def bH {Sb:kj (kd×Obj)}{u:St}{H:Hp}{s:kf}{use:kc (ki->Sem Unit)}{Q:ki->kf->Prop}{it:kd}{j:kj kd}{cl:kj (Str×kd)}{tn:Nat->Sr->Prop}{J:It}{Qd:kd->Hp->Prop}(hc:X.calm=true)(O:Ny X tg elt ifs tg2 iter2 ifs2 scope own ix N g tt wi2 own2 g2 tt2 te)(T:Kz X.prog X.w X.K tg J j it tn)(I:Inv X Sb u H s)(P:∀b∈j,EM X Sb H b)(st:tn 0 s.heap)(h1:∀y c,cl.lookup y=some c->X.env.cells.lookup y=some c)(h2:∀y,(y,NameKind.free)∈scope.names->∃c,cl.lookup y=some c)(hq:∀D,H D=none->∃W:Nat->Nat->Hp->Prop,(∃m,W 0 m (upd H D (.lst [])))/\TR J D (B5 own ix u) g tt wi2 own2 g2 tt2 te (Qd D) W)(R:∀D C i k,(∃m,k.heap.Ns C m)->Inv X Sb u i k->(∀f v,Inv X Sb f i v->∀h',Heap.SameBut C v.heap h'->Inv X Sb f i {v with heap:=h'})->C≠X.env.locals->(∀x c,X.env.cells.lookup x=some c->C≠c)->Qd D i-> compPost (model X.prog X.w) X.A X.xe use Q (.ref D) C (.ok .next) k):wpAny (model X.prog X.w) X.A (newList []) (λl n=>wpAny (model X.prog X.w) X.A (newFunctionEnv scope X.env.globals cl [] X.env.qual none .none (some X.env)) (λd p=> codeAny (model X.prog X.w) X.A (.compStart (.ListComp elt [⟨tg,iter,ifs,0⟩,⟨tg2,iter2,ifs2,0⟩] scope pos) 0 (.ref it) l {d with scope:=relabel scope X.env}) (compPost (model X.prog X.w) X.A X.xe use Q l d.locals) p) X.xe n) X.xe s:=by
 refine AB5 ?_ (by simp[sizeOk]);have h:Inv X Sb u (upd H s.heap.objs.size (.lst [])) {s with heap:=s.heap.push {cls:= .type "list",data:= .seq ([] :kj ki).toArray}}:=I.lnew (t':=s.toks) .nil (AB7 _);have S:=I.fresh;obtain⟨W,⟨m0,U⟩,hW⟩:=hq _ S;have Y:∀b∈j,b<s.heap.objs.size:=λb hb=>by obtain⟨o,e,_⟩:=T.obj _ _ st b hb;exact ABD e
 have E:∀b∈j,EM X Sb (upd H s.heap.objs.size (.lst [])) b:=λb hb=>by obtain⟨Z,ar⟩:=P b hb;exact⟨by rw[Ai (ABK (Y b hb))];exact Z,ar⟩
 generalize kT:({s with heap:=s.heap.push {cls:= .type "list",data:= .seq ([] :kj ki).toArray}}:kf)=s3 at h;have r:tn 0 s3.heap:=T.keep _ _ _ st λb hb o e=>by rw[<-kT];exact ABF _ e
 have F:∀b∈j,b<s3.heap.objs.size:=λb hb=>by obtain⟨o,e,_⟩:=T.obj _ _ r b hb;exact ABD e
 refine wpAny_newFunctionEnv O.nocell (by intro y hy;simp at hy) (λa m7 xQ=> ?_) O.kind;have M:∀b o,s3.heap.get? b=some o->a.get? b=some o:=λb o e=>xQ.extBut b o (ABK (ABD e)) (ABF _ e);have tT:∀y,((relabel scope X.env).names.lookup y=some .cell\/(relabel scope X.env).names.lookup y=some .free)->∃c,cl.lookup y=some c:=λy hy=>by
  rcases hy with z|z
  .exact h2 y (Fn O.nocell (Hu z) (.inl rfl))
  .exact h2 y (Fn O.nocell (Hu z) (.inr rfl))
 have B:=eH (N:=N) (t':=s3.toks+([] :kj (Str×ki)).length) h E F (sc:=relabel scope X.env) O.kind h1 tT O.ins m7 M;have t:tn 0 a:=T.keep _ _ _ r λb hb o e=>M b o e;have loop:∀G:kf,G={s3 with heap:=a,toks:=s3.toks+([] :kj (Str×ki)).length}->
  codeAny (model X.prog X.w) X.A (.compLoop (.ListComp elt [⟨tg,iter,ifs,0⟩,⟨tg2,iter2,ifs2,0⟩] scope pos) 0 (.ref it) (.ref s.heap.objs.size) (Fv X.env (relabel scope X.env) cl s3.heap.objs.size)) (compPost (model X.prog X.w) X.A X.xe use Q (.ref s.heap.objs.size) s3.heap.objs.size) G:=by rintro G rfl;refine XV (cl:=cl) (Qh:=Qd s.heap.objs.size) hc O T h E F hW (λσ' i k L q'=> ?_) m0 _ ⟨0,_,B,t,λb hb=>(E b hb).1,U⟩;refine R _ _ i k (let ⟨m,hm,_⟩:=L.loc;⟨m,hm⟩) (ZJ (own:=own) (ix:=ix) h E F L) (λf v I2 h' hs=>O7 h rfl I2 L.free hs) (ABu h.lt) (λx c e=>ABu (h.szLt e)) q'
 exact AFF (loop _ rfl) (T.self _ 0 _ _ _ t (loop _ rfl))
def gu (hc:X.calm=true)(hi:PI X tg iter wi)(O:Ny X tg elt ifs tg2 iter2 ifs2 scope own ix N g tt wi2 own2 g2 tt2 te)(hs:∀x,foldedSetIterable iter X.env x=pure x:=by intro _;rfl):PE X (.ListComp elt [⟨tg,iter,ifs,0⟩,⟨tg2,iter2,ifs2,0⟩] scope pos) (iq wi own ix g tt wi2 own2 g2 tt2 te):=by intro Sb s c H Q I h;obtain⟨cl,d,h1,h2⟩:=Gg (env:=X.env) (scope:=scope) λy hy e=>I.ok.has y.1 (.inl (O.frees y hy e));rw[eval_ListComp];refine AEf (use:=none) rfl hs d O.kind O.names (Be (hi Sb s c H _ I h) λv p hv=>Be hv λf r i=> ?_);obtain⟨it,t,tn,J,u,rfl,j,T,a,f2,q⟩:=i;exact bH (Qd:=λD b=>Q (.ref D) b) hc O T j f2 a h1 h2 q λD C b k hn l gone w z n=>by obtain⟨m,o⟩:=hn;exact⟨m,o,λh' hs=>⟨.ref D,b,gone c k l h' hs,rfl,n⟩⟩
end
end L2
namespace PL
open PySem PySem.Spec PyProof.Rows L2
def PD (own:Nat)(τ:BD):BD:=List.replicate own none++τ.drop own
def Ji (g:AG)(t:AT)(a:AI)(own2:Nat)(d:AG)(t2:AT)(te:AE)(b:BD)(Q:kj PV->Prop):kj PV->kj PV->Prop
 | [],acc=>Q acc
 | x::r,acc=>g x b λc=>t c λok=>if ok=true then a c λys=>acc.length+ys.length<sizeLine/\DI d t2 te (PD own2 c) (Ji g t a own2 d t2 te b Q r) ys acc else Ji g t a own2 d t2 te b Q r acc
def MF (b:AI)(own:Nat)(ix:kj Nat)(g:AG)(t:AT)(a:AI)(own2:Nat)(c:AG)(t2:AT)(te:AE):AA:=λτ Q=>b τ λxs=>Ji g t a own2 c t2 te (K1 own ix τ) Q xs []
def SR.noOwn {K:AAG}{B:DB}{T:kd->Prop}{H:Hp}{a:L2.St}{τ:BD}(s:SR K B T H a τ)(c:∀b,¬Ct a τ b){i:Nat}{xs:kj PV}:τ[i]? ≠some (some (.own xs)):=λe=>by obtain⟨p,vs,d,_⟩:=s.own i xs e;exact c p ⟨i,xs,e,d⟩
def SR.swap {K:AAG}{B:DB}{m f:kd->Prop}{n g:Hp}{a k:L2.St}{τ l:BD}(c:SR K B m n a τ)(o:∀b,¬Ct a τ b)(d:SR K B f g k l)(s:Mv K m (mt B a τ) n f (mt B a τ) g):SR K B f g a τ:=
 ⟨c.len,λi x e=>let ⟨v,h,r⟩:=c.val i x e;⟨v,h,r.mv s⟩,λi xs e=>absurd e (c.noOwn o),λi j xs ys p e=>absurd e (c.noOwn o),d.tp,d.bm,d.bt,d.st⟩
def K4 {own:Nat}{τ:BD}{j:Nat}{x:AV}(h:(PD own τ)[j]? =some (some x)):own<=j/\τ[j]? =some (some x):=by
 unfold PD at h;by_cases hj:j<own
 .rw [ABv (by simpa using hj),ADB,AAJ hj] at h;cases h
 .have bY:own<=j:=by omega
  rw[ACR (by simpa using bY),AC4,ADm] at h;rw[show own+(j-own)=j by omega] at h;exact⟨bY,h⟩
def SR.cut {K:AAG}{B:DB}{T:kd->Prop}{H:Hp}{c:L2.St}{τ:BD}{own:Nat}(s:SR K B T H c τ)(d:∀b,¬Ct c τ b):SR K B T H (Nd own c) (PD own τ)/\∀b,¬Ct (Nd own c) (PD own τ) b:=by have g:∀b,¬Ct (Nd own c) (PD own τ) b:=λb ⟨i,xs,h,f⟩=>d b ⟨i,xs,(K4 h).2,(ML f).2⟩;refine⟨⟨by simp[Nd,PD,s.len],λi x e=> ?_,λi xs e=>absurd (K4 e).2 (s.noOwn d),λi j xs ys p e=>absurd (K4 e).2 (s.noOwn d),s.tp,s.bm,s.bt,s.st⟩,g⟩;obtain⟨bY,f⟩:=K4 e;obtain⟨v,hv,r⟩:=s.val i x f;refine⟨v, ?_,r.mv (.anti s.va λa z=>z.elim .inl λz=>absurd z (g a))⟩;unfold Nd;rw[ACR (by simpa using bY),AC4,ADm,show own+(i-own)=i by omega];exact hv
structure Qs (D:Addr) (T:Addr->Prop) (H:Hp) (T':Addr->Prop) (H':Hp):Prop where
 keep:∀b o,¬T b->b≠D->H b=some o->H' b=some o
 sub:∀b,T b->T' b
 new:∀b,T' b->T b\/H b=none
 tp:∀b,H b≠none->H' b≠none
def Qs.refl {D:kd}{T:kd->Prop}{H:Hp}:Qs D T H T H:=⟨λ_ _ _ _ e=>e,λ_ e=>e,λ_ e=> .inl e,λ_ e=>e⟩
def Dj.atD {D:kd}{T a:kd->Prop}{H c:Hp}(s:Dj T H a c):Qs D T H a c:=⟨λb o t _ e=>s.keep b o t e,s.sub,s.new,λb e=>s.some e⟩
def Qs.upd {D:kd}{T:kd->Prop}{H:Hp}{o:HO}:Qs D T H T (upd H D o):=⟨λb a _ n e=>by rw[Ai n];exact e,λ_ e=>e,λ_ e=> .inl e,λb e=>by
 by_cases h:b=D
 .subst h;rw[Al];exact λz=>nomatch z
 .rw [Ai h];exact e⟩
def Qs.trans {D:kd}{T c d:kd->Prop}{H f g:Hp}(a:Qs D T H c f)(b:Qs D c f d g):Qs D T H d g where
 keep:=λx o t n e=>b.keep x o (λz=>(a.new x z).elim t λz=>by rw[e] at z;cases z) n (a.keep x o t n e)
 sub:=λx t=>b.sub x (a.sub x t)
 new:=λx t=>(b.new x t).elim (λz=>a.new x z) λz=> .inr (by
  cases e:H x with
  | none=>rfl
  | some o=>exact absurd z (a.tp x (by rw[e];exact λz=>nomatch z)))
 tp:=λx e=>b.tp x (a.tp x e)
def cx {K:AAG}{s:da}{wi wi2:TI}{ai Y:AI}{own own2:Nat}{ix:kj Nat}{g g2:TG}{ag N:AG}{tt tt2:TT}{Z O:AT}{te:TE}{ta:AE}(hi:av K s wi ai)(hg:Kx K g ag)(ht:Nc K tt Z)(xF:av K true wi2 Y)(kP:Kx K g2 N)(xT:Nc K tt2 O)(he:Gf K te ta):dk K (iq wi own ix g tt wi2 own2 g2 tt2 te) (MF ai own ix ag Z Y own2 N O ta):=by
 intro B T j τ H Q AQ sr h k;refine hi B T j τ H _ _ sr h λJ xs T1 H1 s1 walk h1 D hD=> ?_;have E:=sr.stp s1;have nt1:¬T1 D:=λz=>by obtain⟨o,e,_⟩:=(E.tp D z).mut;rw[hD] at e;cases e
 have lay:=Dj.lay (o:= .lst []) E.tp hD;refine⟨λi m H2=>m=xs.length-i/\∃T2 vs r,Dj T1 H1 T2 H2/\H2 D=some (.lst vs)/\¬T2 D/\A6 K T2 (λa=>mt B j τ a\/a=D) H2 vs r/\Ji ag Z Y own2 N O ta (K1 own ix τ) AQ (xs.drop i) r,
  ⟨_,rfl,T1, [], [],lay,Al,nt1, .nil,h1⟩, ?_⟩
 rintro i m H2 ⟨rfl,T2,vs,r,s2,kH,F,r2,h2⟩;have srb:=E.blk (own:=own) (ix:=ix) s2 hD kH F;have va2:HK T2 (λa=>mt B j τ a\/a=D) H2:=⟨srb.tp,srb.bm⟩;have w:=walk (λa=>mt B j τ a\/a=D) T2 H2 ⟨E.va,λb o t _ e=>s2.keep b o t e,s2.sub,λb n t=>(s2.new b t).elim id λz=>absurd z n,λb n z=>z.elim id λz=>by subst z;exact absurd hD n⟩ va2 (.inr s2.keep);by_cases Ea:i<xs.length
 .have Vw:xs[i]? =some xs[i] :=ABf Ea;rw[ADV Ea] at h2;refine .inr ⟨w.go i _ Vw,λv H3 yl=> ?_⟩;obtain⟨s3,r3⟩:=w.yld i _ v H3 Vw yl;have P:=srb.stp s3;refine hg _ T2 _ _ H3 v _ _ _ P (r3.mv (.anti ⟨P.tp,P.bm⟩ λa z=>z.elim id λ⟨_,_,z,_⟩=>absurd z GQ)) h2 λu l sr4 o4 h4=> ?_;have no4:∀b,¬Ct u l b:=λb z=>by obtain⟨_,_,z,_⟩:=o4 b z;exact absurd z GQ
  refine ht _ T2 u l H3 _ _ sr4 h4 λok T5 H5 s5 h5=> ?_;have sr5:=sr4.stp s5;have oh:=s3.keep D _ F kH;have kI:=s5.keep D _ F oh;have nt5:¬T5 D:=λz=>(s5.new D z).elim F λn=>by rw[n] at oh;cases oh
  have r5:=(r2.stp s3 va2).stp s5 ⟨P.tp,P.bm⟩;cases ok with
  | false=> rw[AAH ABO] at h5 ⊢;exact⟨_,by omega,rfl,T5,vs,r,(s2.trans s3).trans s5,kI,nt5,r5,h5⟩
  | true=>
    rw[AAJ rfl] at h5 ⊢;refine xF _ T5 u l H5 _ _ sr5 h5 λJ2 ys T6 H6 s6 walk2 h6=> ?_;obtain⟨hl,h6⟩:=h6;have R:=sr5.stp s6;have wz:=s6.keep D _ nt5 kI;have nt6:¬T6 D:=λz=>(s6.new D z).elim nt5 λn=>by rw[n] at kI;cases kI
    have va6:HK T6 (λa=>mt B j τ a\/a=D) H6:=⟨R.tp,R.bm⟩;have r6:=r5.stp s6 ⟨sr5.tp,sr5.bm⟩;have s06:=((s2.trans s3).trans s5).trans s6;refine⟨λG m2 H7=>m2=ys.length-G/\∃M f c,Dj T1 H1 M H7/\Qs D T6 H6 M H7/\H7 D=some (.lst f)/\¬M D/\A6 K M (λa=>mt B j τ a\/a=D) H7 f c/\c.length<=r.length+G/\
     DI N O ta (PD own2 l) (Ji ag Z Y own2 N O ta (K1 own ix τ) AQ (xs.drop (i+1))) (ys.drop G) c,
     ⟨_,rfl,T6,vs,r,s06, .refl,wz,nt6,r6,ABH _,h6⟩, ?_⟩
    rintro G m2 H7 ⟨rfl,M,f,c,s7,d7,w4,S,r7,ha7,h7⟩;have U:=E.blk (own:=own) (ix:=ix) s7 hD w4 S;have mEq:∀a,mt (B.blk j τ D) u l a->mt B j τ a\/a=D:=λa z=>z.elim id λz=>absurd z (no4 a);have mv7:Mv K T6 (mt (B.blk j τ D) u l) H6 M (mt (B.blk j τ D) u l) H7:=⟨R.va,λb o t m e=>d7.keep b o t (λz=>m (.inl (.inr z))) e,d7.sub,λb n t=>(d7.new b t).elim id λz=>absurd z n,λ_ _ z=>z⟩;have mv7':Mv K T6 (mt (B.blk j τ D) u l) H6 M (λa=>mt B j τ a\/a=D) H7:=⟨R.va,λb o t m e=>d7.keep b o t (λz=>m (.inl (.inr z))) e,d7.sub,λb n t=>(d7.new b t).elim id λz=>absurd z n,λ_ _ z=> .inl z⟩;have sr7:=R.swap no4 U mv7;have va7:HK M (λa=>mt B j τ a\/a=D) H7:=⟨U.tp,U.bm⟩;obtain⟨sc7,no7⟩:=sr7.cut (own:=own2) no4;have w2:=walk2 (λa=>mt B j τ a\/a=D) M H7 mv7' va7 (.inl rfl);by_cases tV:G<ys.length
    .have m6:ys[G]? =some ys[G] :=ABf tV;rw[ADV tV] at h7;refine .inr ⟨w2.go G _ m6,λv8 H8 yl8=> ?_⟩;obtain⟨s8,r8⟩:=w2.yld G _ v8 H8 m6 yl8;have W:=sc7.stp s8;refine kP _ M _ _ H8 v8 _ _ _ W (r8.mv (.anti ⟨W.tp,W.bm⟩ λa z=>z.elim id λz=>absurd z (no7 a))) h7 λσ9 τ9 sr9 o9 h9=> ?_;refine xT _ M σ9 τ9 H8 _ _ sr9 h9 λok T10 rJ p vf=> ?_;have A:=sr9.stp p;have w5:=s8.keep D _ S w4;have kF:=p.keep D _ S w5;have X:¬T10 D:=λz=>(p.new D z).elim S λn=>by rw[n] at w5;cases w5
     have r10:=(r7.stp s8 va7).stp p ⟨W.tp,W.bm⟩;cases ok with
     | false=> rw[AAH ABO] at vf ⊢;exact⟨_,by omega,rfl,T10,f,c,(s7.trans s8).trans p,(d7.trans s8.atD).trans p.atD,kF,X,r10,by omega,vf⟩
     | true=>
       rw[AAJ rfl] at vf ⊢;refine he _ T10 σ9 τ9 rJ _ _ A vf λvy y I rK L r11 h11=> ?_;have C:=A.stp L;have wy:=L.keep D _ X kF;have nt11:¬I D:=λz=>(L.new D z).elim X λn=>by rw[n] at kF;cases kF
       have va11:HK I (λa=>mt B j τ a\/a=D) rK:=⟨C.tp,C.bm⟩;have r12:=r10.stp L ⟨A.tp,A.bm⟩;have s12:=((s7.trans s8).trans p).trans L;have tp13:∀a,I a->FG (upd rK D (.lst (f ++ [vy]))) a:=λa t=>by obtain⟨d,x,e,z⟩:=C.tp a t;exact⟨d,x,by rw[Ai (λw=>by subst w;exact nt11 t)];exact e,z⟩
       have mv13:Mv K I (λa=>mt B j τ a\/a=D) rK I (λa=>mt B j τ a\/a=D) (upd rK D (.lst (f ++ [vy]))):=⟨va11,λb o _ m e=>by rw[Ai (λw=>m (.inr w))];exact e,λ_ t=>t,λ_ _ t=>t,λ_ _ z=>z⟩;refine⟨f,wy,by rw[r7.length];omega,_,(by omega:ys.length-(G+1)<ys.length-G),rfl,I,f ++ [vy],c ++ [y],⟨λb o t e=> ?_,s12.sub,s12.new,tp13⟩,((((d7.trans s8.atD).trans p.atD).trans L.atD).trans .upd),Al,nt11,(r12.append (.cons (r11.mv (.anti C.va λa z=> .inl z)) .nil)).mv mv13,by simp;omega,h11⟩;rw[Ai (Az e hD)];exact s12.keep b o t e
    .rw [AD5 (as:=ys) (i:=G) (by omega)] at h7;exact .inl ⟨w2.stop G (by omega),_,(by omega:xs.length-(i+1)<xs.length-i),rfl,M,f,c,s7,w4,S,r7,h7⟩
 .rw [AD5 (by omega)] at h2;refine .inl ⟨w.stop i (by omega), ?_⟩;exact k D vs r T2 H2 (s1.trans s2) (E.add s2 hD kH MD.lst F) (s1.none hD) kH F (r2.mv (.anti va2 λa z=>by
   rcases z with(z|z)|z
   .exact .inl (.inl z)
   .exact .inr z
   .exact .inl (.inr z))) h2
def xZ (K:AAG)(s:da)(a:AI):TI:=λf H R=>∃(B:DB) (T:kd->Prop) (τ:BD) (g:kj PV->Prop),SR K B T H f τ/\a τ g/\
 ∀J xs d b,Dj T H d b->(∀M2 e c,Mv K d (mt B f τ) b e M2 c->HK e M2 c->(s=true\/ZB d b c)->VV K M2 J xs e c)->g xs->R J b
def mD {K:AAG}{s:da}{a:AI}:av K s (xZ K s a) a:=λB T d τ H R b c h k=>⟨B,T,τ,b,c,h,k⟩
section
variable {X:Cx}
def SI.of {b iter:fe}{s:da}{a:AI}(h:SI X b iter s a):PI X b iter (xZ X.K s a):=by obtain⟨t,p,e⟩:=h;intro Sb f d H R I hw;obtain⟨B,T,τ,g,i,h,c⟩:=hw;exact p Sb f d H R I (e B T d τ H R g i h c)
structure dY (X:Cx) (tg elt:Expr) (ifs:List Expr) (tg2 iter2:Expr) (ifs2:List Expr) (scope:Scope) (own:Nat) (ix:List Nat) (N:List Str) (g:AG) (t:AT) (ai2:AI) (own2:Nat) (g2:AG) (t2:AT) (te:AE):Prop where
 ex:∃g' t' wi2 g2' t2' te',Ny X tg elt ifs tg2 iter2 ifs2 scope own ix N g' t' wi2 own2 g2' t2' te'/\Kx X.K g' g/\Nc X.K t' t/\av X.K true wi2 ai2/\Kx X.K g2' g2/\Nc X.K t2' t2/\Gf X.K te' te
def Wk {h c iter d a:fe}{e b:kj fe}{scope:Scope}{i:Pos}{own own2:Nat}{ix:kj Nat}{N:kj Str}{g m:AG}{t t2:AT}{s:da}{n f:AI}{o:AE}(hc:X.calm=true)(hi:SI X h iter s n)(O:dY X h c e d a b scope own ix N g t f own2 m t2 o)(hs:∀x,foldedSetIterable iter X.env x=pure x:=by intro _;rfl):SF X (.ListComp c [⟨h,iter,e,0⟩,⟨d,a,b,0⟩] scope i) (MF n own ix g t f own2 m t2 o):=by obtain⟨B,p,r⟩:=hi;obtain⟨g',t',u,v,w,y,O,z,st,j,k,l,A⟩:=O.ex;exact⟨_,gu hc p O hs,cx r z st j k l A⟩
def ZN {n e c a:fe}{f b:kj fe}{scope:Scope}{own own2:Nat}{ix:kj Nat}{N:kj Str}{g k:AG}{t t2:AT}{d:AI}{te:AE}(h1:scope.kind= .function)(h2:(scope.names.all λy=> !decide (y.2= .cell))=true)(o:(scope.names.all λy=> !decide (y.2= .local)||decide (scope.names.lookup y.1=some .local))=true)(p:(scope.names.all λy=> !decide (y.2= .free)||decide (X.env.scope.names.lookup y.1=some .cell))=true)(r:N.length=own+ix.length)(u:PJ X (relabel scope X.env) own ix N=true)(v:own2<=own)(l:∀cl C s H ex pn,SK own (blk X (relabel scope X.env) N cl C s H ex pn) n g)(m:∀cl C s H ex pn,mZ (blk X (relabel scope X.env) N cl C s H ex pn) f t)(h:∀cl C s H ex pn,SI (blk X (relabel scope X.env) N cl C s H ex pn) c a true d)(i:∀cl C s H ex pn,SK own2 (blk X (relabel scope X.env) N cl C s H ex pn) c k)(j:∀cl C s H ex pn,mZ (blk X (relabel scope X.env) N cl C s H ex pn) b t2)(val:∀cl C s H ex pn,SE (blk X (relabel scope X.env) N cl C s H ex pn) e te)(w:∀cl C s H ex pn x,foldedSetIterable a (blk X (relabel scope X.env) N cl C s H ex pn).env x=pure x:=by intro _ _ _ _ _ _ _;rfl):dY X n e f c a b scope own ix N g t d own2 k t2 te:=
 have O:=ZM (te:=rR X.K te) h1 h2 o p r u (LD (K:=X.K) (ag:=g)) (λcl C s H ex pn=>(l cl C s H ex pn).of) (λcl C s H ex pn=>(m cl C s H ex pn).of) (λcl C s H ex pn=>(val cl C s H ex pn).of)
 ⟨oX X.K own g,rh X.K t,xZ X.K true d,oX X.K own2 k,rh X.K t2,rR X.K te,⟨O.kind,O.nocell,O.names,O.frees,O.ins,O.keep,LD,v,O.tgt,O.tst,λcl C s H ex pn=>(h cl C s H ex pn).of,w,λcl C s H ex pn=>(i cl C s H ex pn).of,λcl C s H ex pn=>(j cl C s H ex pn).of,O.val⟩,OJ,OK,mD,OJ,OK,Ue⟩
end
end PL
namespace PL
open PySem L2 PyProof.Rows
class jX (n:Nat) (τ:BD) (τ':outParam BD):Prop where
 e:PD n τ=τ'
instance zW {τ:BD}:jX 0 τ τ:=⟨rfl⟩
instance zX {n:Nat}{x:kc AV}{r a:BD}[h:jX n r a] :jX (n+1) (x::r) (none::a):=⟨by rw[<-h.e];rfl⟩
section
variable {ai ai2:AI}{g g2:AG}{tt t2:AT}{te:AE}{τ τ':BD}{QL:kj PV->Prop}{own own2:Nat}{ix:kj Nat}
instance v4 {a b:BD}[h1:sV own a][h2:sK ix τ b][c:dW a b τ'] :Wp (MF ai own ix g tt ai2 own2 g2 t2 te τ QL) (ai τ λxs=>Ji g tt ai2 own2 g2 t2 te τ' QL xs []):=⟨λk=>by unfold MF K1;rw[h1.e,h2.e,c.e];exact k⟩
instance AAP {a ys:kj PV}[h:jX own2 τ τ'] :Wp (DI g2 t2 te (PD own2 τ) QL ys a) (DI g2 t2 te τ' QL ys a):=⟨λk=>by rw[h.e];exact k⟩
theorem PB (d:kj PV->kj PV->Prop)(hd:∀a,d [] a->QL a)(hs:∀x r a (R:kj PV->Prop),(∀b,d r b->R b)->d (x::r) a->g x τ λc=>tt c λok=>if ok=true then ai2 c λys=>a.length+ys.length<sizeLine/\DI g2 t2 te (PD own2 c) R ys a else R a):∀xs a,d xs a->Ji g tt ai2 own2 g2 t2 te τ QL xs a
 | [],a,h=>hd a h
 | x::r,a,h=>hs x r a _ (λb h2=>PB d hd hs r b h2) h
theorem XU {r:BD}:∀(ys a:kj PV),QL (a++ys)->DI (An 0) FH (aV 0) (none::r) QL ys a
 | [],a,h=>by rw[ACQ] at h;exact h
 | y::ys,a,h=>XU ys (a ++ [y]) (by rw[ADo];exact h)
end
end PL
namespace L2
open PySem PySem.Spec PyProof.Rows
def wX (K:AAG)(l:kd):It:=
 ⟨λi H=>∃xs x,FY K H l xs/\xs[i]? =some x,
  λi H v a=>∃T x,v= .ref T/\H T=none/\a=upd H T (.tup [.int i,x])/\∀xs,FY K H l xs->xs[i]? =some x,
  λi H=>∃xs,FY K H l xs/\xs.length<=i⟩
def c8 {P:Wf}{w:Tb}{K:AAG}{es:kj fe}{G:Nat}{n:Pos}{e it l:kd}(C:e≠it):Kz P w K (.Tuple es G n) (wX K l) [e,it] e (λk h=>(∃b,IsEnum h e it (k:Nat) b)/\h.IsListIter it l k) where
 mem:=by simp
 obj:=λk h st p hp=>by
  obtain⟨⟨b,he⟩,hi⟩:=st;have f:p=e\/p=it:=by simpa using hp
  rcases f with q|q
  .subst q;exact⟨_,he,λv z=>nomatch z⟩
  .subst q;obtain⟨o,a,c,d⟩:=hi;exact⟨o,a,λv z=>by rw[d] at z;cases z⟩
 keep:=λk h h' st j=>by obtain⟨⟨b,he⟩,hi⟩:=st;exact⟨⟨b,j e (by simp) _ he⟩,hi.at λo a=>j it (by simp) o a⟩
 item:=by
  intro X r hw t hc k Sb s D H E I m st y;subst r hw t;obtain⟨⟨b,he⟩,hi⟩:=st;obtain⟨xs,x,hq,hx⟩:=y;obtain⟨A,rv,p,hz⟩:=I.list hq;obtain⟨u,hu,J⟩:=rv.get hx;have i:e<s.heap.objs.size:=ABD he;have B:it<s.heap.objs.size:=by obtain⟨o,a,_⟩:=id hi;exact ABD a
  refine wpAny_pyNext_enum_item he hi p.isList (x:=u) (by simpa using hu) C λh1 L M N U O=> ?_;refine⟨_,rfl,wpAny_letOwnedTupleGo_enum (s:={s with heap:=h1,toks:=s.toks+1}) L λh2 c1 c2=> ?_⟩;have g:∀p o,p≠e->h1.get? p=some o->h2.get? p=some o:=λp o q z=>c2.extBut _ _ q z;have F:∀p∈ [e,it],p<s.heap.objs.size:=λp hp=>by
   have f:p=e\/p=it:=by simpa using hp
   rcases f with q|q
   .rw [q];exact i
   .rw [q];exact B
  have j:∀p o,p ∉ [e,it] ->s.heap.get? p=some o->h2.get? p=some o:=λp o hp z=>by
   have f:p≠e/\p≠it:=by simpa using hp
   exact g p o f.1 (O p o f.1 f.2 z)
  have Q:Inv X Sb D (upd H s.heap.objs.size (.tup [.int k,x])) {s with heap:=h2,toks:=s.toks+1}:=I.turnedN m F j (ABH _)
   ⟨(by show 2<=sizeLine;decide), [.int k s.toks,u], .cons ⟨_,rfl⟩ (.cons J .nil),⟨_,g _ _ (ABu i) N,rfl,_,rfl⟩⟩
  have R:H s.heap.objs.size=none:=I.fresh;refine⟨.ref s.heap.objs.size,upd H s.heap.objs.size (.tup [.int k,x]),Q,rfl,⟨_,x,rfl,R,rfl,λS h'=> ?_⟩,⟨⟨u, ?_⟩, ?_⟩,λp hp=> ?_⟩
  .rw [I.list_inj h' hq];exact hx
  .have:((k+1:Nat):Int)=(k:Int)+1:=by push_cast;rfl
   rw[this];exact c1
  .exact M.at λo z=>g it o C.symm z
  .rw [Ai (ABK (F p hp))];exact(m p hp).1
 done:=by
  intro X r hw t hc k Sb s D H E I m st y;subst r hw t;obtain⟨⟨b,he⟩,hi⟩:=st;obtain⟨xs,hq,hx⟩:=y;obtain⟨A,rv,p,hz⟩:=I.list hq;have hl:=rv.length;refine wpAny_pyNext_enum_end (I.ok.hd hc) he hi p.isList (by simp;omega) λh' T=>⟨rfl, ?_⟩;exact I.turnedL (t':=s.toks) m λp o hp z=>by
   have f:p≠e/\p≠it:=by simpa using hp
   exact T p o f.2 z
 self:=λ_ _ _ _ _ st h=>by obtain⟨⟨b,he⟩,_⟩:=st;exact wpAny_pyIter_enum he h
section
variable {X:Cx}
def t0 (K:AAG)(b:TA):TI:=λc H R=>b c H λvs a=>∃l,vs= [.ref l] /\(∃xs,FY K a l xs)/\R (wX K l) a
def lX {e:fe}{f:TA}{p b c:Pos}{es:kj fe}{i:Nat}(j:Gl X "enumerate")(k:X.mg "enumerate" =none)(ha:PA X [e] f)(hs:starEach [e] X.env= [(false,eval e X.env)] :=by rfl):PI X (.Tuple es i c) (.Call (.Name "enumerate" p) [e] [] b) (t0 X.K f):=by
 intro Sb s m H R I h;refine Call_ (F1 I j k boot_enumerate (ADO (Be (ha b Sb s m H _ I h) λw a ⟨vs,n,d,r1,o⟩=> ?_) (by rw[hs];rfl) rfl));obtain⟨l,rfl,⟨xs,hl⟩,q⟩:=o;cases r1 with
 | cons r t=>
 cases t;cases r;obtain⟨u,rv,p,hz⟩:=d.list hl;refine call_enumerate_list p.isList λh' b1 b2 x v=> ?_;refine wpAny_pyIter_enum b1 ?_;have g:∀p∈ [a.heap.objs.size+1,a.heap.objs.size],a.heap.objs.size<=p:=λp hp=>by
  have y:p=a.heap.objs.size+1\/p=a.heap.objs.size:=by simpa using hp
  omega
 exact⟨_,_,_,_,n,rfl,d.kept (t':=a.toks) v,c8 (Nat.succ_ne_self _),⟨⟨.none,b1⟩,b2⟩,λp hp=>d.fpOk (g p hp) (d.hok.fresh (g p hp)),q⟩
end
end L2
namespace PL
open PySem PySem.Spec PyProof.Rows L2
def FM (k:Nat):kj PV->kj PV
 | [] => []
 | x::r=> .tup [.int k,x] :: FM (k+1) r
theorem Rk:∀(xs:kj PV) (k:Nat),(FM k xs).length=xs.length
 | [],_=>rfl
 | _::r,k=>by rw[FM,ABd,Rk r,ABd]
theorem MN:∀(xs:kj PV) (k i:Nat) (z:PV),(FM k xs)[i]? =some z->∃x,xs[i]? =some x/\z= .tup [.int ((k+i:Nat):Int),x]
 | [],_,_,_,h=>by simp[FM] at h
 | x::r,k,0,z,h=>⟨x,rfl,by simp[FM] at h;rw[<-h];rfl⟩
 | x::r,k,i+1,z,h=>by obtain⟨y,h1,h2⟩:=MN r (k+1) i z (by simpa[FM] using h);refine⟨y,by simpa using h1, ?_⟩;rw[h2,show k+1+i=k+(i+1) by omega]
def cA {K:AAG}{T M:kd->Prop}{H:Hp}{l:kd}{xs:kj PV}(va:HK T M H)(r:CZ K T M H (.ref l) (.lst xs)):VV K M (wX K l) (FM 0 xs) T H:=by
 obtain⟨a,vs,e,hq,g,j,rs⟩:=C6 r;cases e;have b:FY K H l vs:= .inl (.inl hq);refine⟨λi z h=> ?_,λi z v k h d=> ?_,λi h=>⟨vs,b, ?_⟩⟩
 .obtain ⟨x,hx,_⟩:=MN xs 0 i z h;obtain⟨u,hu,_⟩:=rs.get hx;exact⟨vs,u,b,hu⟩
 .obtain ⟨x,hx,rfl⟩:=MN xs 0 i z h;obtain⟨p,u,rfl,hn,rfl,hu⟩:=d;obtain⟨m,c,f⟩:=rs.get' (hu vs b);rw[hx] at c;cases c;have st:=Dj.lay (o:= .tup [.int (i:Nat),u]) va.tp hn;rw[Nat.zero_add];exact⟨st, .tup (.inl Al) (.cons (.int _) (.cons (f.stp st va) .nil))⟩
 .rw [rs.length];rw[Rk] at h;exact h
section
variable {X:Cx}
def wn (r:AA):AI:=λτ Q=>r τ λa=>match a with | [.lst xs] =>Q (FM 0 xs)|_=>False
def xr {e:fe}{r:AA}{p c b:Pos}{es:kj fe}{d:Nat}(f:Gl X "enumerate")(g:X.mg "enumerate" =none)(ha:SA X [e] r)(hs:starEach [e] X.env= [(false,eval e X.env)] :=by rfl):SI X (.Tuple es d b) (.Call (.Name "enumerate" p) [e] [] c) true (wn r):=by
 obtain⟨t,i,s⟩:=ha;refine⟨_,lX f g i hs,λB T j τ H R w l h k=>s B T j τ H _ _ l h λvs xs m n o r1 h1=> ?_⟩;split at h1 <;> first | exact h1.elim|skip
 cases r1 with
 | cons ra t=> cases t;obtain⟨a,u,rfl,hq,_,_,rs⟩:=C6 ra;exact⟨a,rfl,⟨u, .inl (.inl hq)⟩,k _ _ m n o (λM2 x y v va _=>cA va (ra.mv v)) h1⟩
end
end PL
namespace L2
open PySem PySem.Spec PyProof.Rows
section
variable {X:Cx}{Sb:kj (kd×Obj)}{σ:St}{H:Hp}
theorem ints_of:∀{b:kj Int} {a:kj ki},A3 (b.map V.int) a->∃xs:Array (Int×Tok),a.toArray=intItems xs/\xs.toList.map (·.1)=b
 | [],_,h=>by cases h;exact⟨#[],by simp[intItems],rfl⟩
 | n::b,_,h=>by
   cases h with
   | cons r t=> obtain⟨c,rfl⟩:=r;obtain⟨xs,e,f⟩:=ints_of t;refine⟨((n,c)::xs.toList).toArray, ?_,by simp[f]⟩;have e':=congrArg Array.toList e;apply Array.ext';simp only[intItems,List.map_toArray,ABJ] at e' ⊢;simp only[Array.toList_map] at e';rw[<-e']
def TQ {xs:Array (Int×Tok)}{c:kj Int}{v:ki}(hx:xs.toList.map (·.1)=c)(hp:0<xs.size)(h:(intItems xs)[argBest (λi j=>decide (numAt xs i>numAt xs j)) (xs.size-1)]? =some v):∃M t,v= .int M t/\M∈c/\∀a∈c,a<=M:=by
 obtain⟨t,rfl⟩:=intItems_at h;obtain⟨h1,h2⟩:=argBest_gt (numAt xs) (xs.size-1);have b:∀i (hi:i<xs.size),numAt xs i=(xs[i]).1:=λi hi=>by simp[numAt,hi]
 refine⟨_,t,rfl, ?_,λa ha=> ?_⟩
 .rw [b _ (by omega),<-hx];exact ABG.mpr ⟨_,by simp,rfl⟩
 .rw [<-hx] at ha;obtain⟨p,d,rfl⟩:=ABG.mp ha;obtain⟨i,hi,e⟩:=List.getElem_of_mem d;have f:i<xs.size:=by simpa using hi
  have:=h2 i (by omega);rw[b i f] at this;have g:xs[i] =p:=by simpa using e
  rw[g] at this;exact this
def bA (hc:X.calm=true):Cv X (.builtin "max") (λvs H Q=>∃p b,vs= [.ref p] /\FY X.K H p (b.map V.int)/\b≠ [] /\∀M,M∈b->(∀a∈b,a<=M)->Q (.int M) H):=by
 intro Sb s σ H xs m Q I r h;obtain⟨p,b,rfl,hq,d,q⟩:=h;obtain⟨u,rfl,g⟩:=vals1 r;cases g;obtain⟨i,j,k,hz⟩:=I.list hq;obtain⟨xs,e,f⟩:=ints_of j;have hl:=k.isList;rw[e] at hl;have c:0<xs.size:=by have:=congrArg List.length f;simp only[ABL,AC8] at this;have:=List.length_pos_iff.mpr d;omega
 refine max_intList (I.ok.hd hc) hl c λv h' l hv hk=> ?_;obtain⟨M,t,rfl,m1,m2⟩:=TQ f c hv;exact⟨.int M,H,I.kept (t':=l) hk,⟨t,rfl⟩,q M m1 m2⟩
end
end L2
namespace PL
open PySem PySem.Spec PyProof.Rows L2
def Hs:kj PV->kc (kj Int)
 | [] =>some []
 | .int i::r=>(Hs r).map (i :: ·)
 | _=>none
theorem Vz {K:AAG}{T M:kd->Prop}{H:Hp}:∀{vs:kj V} {xs:kj PV} {a:kj Int},A6 K T M H vs xs->Hs xs=some a->vs=a.map V.int
 | _,_,_, .nil,e=>by simp[Hs] at e;subst e;rfl
 | _,_,a, .cons h t,e=>by cases h <;> simp[Hs] at e;obtain⟨c,b,d⟩:=e;subst d;simp[Vz t b]
def ints_map (c:kj Int):Hs (c.map PV.int)=some c:=by
 induction c with
 | nil=>rfl
 | cons a b ih=>show (Hs (b.map PV.int)).map (a :: ·)=_;rw[ih];rfl
section
variable {X:Cx}
def nP (K:AAG):kj V->Hp->VK->Prop:=λvs H Q=>∃p b,vs= [.ref p] /\FY K H p (b.map V.int)/\b≠ [] /\∀M,M∈b->(∀a∈b,a<=M)->Q (.int M) H
def Zc:AF:=λxs Q=>match xs with | [.lst ys] =>(match Hs ys with | some b=>b≠ [] /\∀M,M∈b->(∀a∈b,a<=M)->Q (.int M)|none=>False)|_=>False
def l7 (hc:X.calm=true):Cv X (.builtin "max") (nP X.K)/\Hi X.K (nP X.K) Zc:=by
 refine⟨bA hc,λT M H d xs Q f va r h k=> ?_⟩;unfold Zc at h;split at h <;> first | exact h.elim|skip
 split at h <;> first | exact h.elim|skip
 rename_i b e;cases r with
 | cons r t=> cases t;obtain⟨a,ws,rfl,hq,_,_,c⟩:=C6 r;have:=Vz c e;subst this;exact⟨a,b,rfl, .inl (.inl hq),h.1,λM m1 m2=>k _ _ T H (.refl va.tp) (.int _) (h.2 M m1 m2)⟩
def VW (a b:AE):AA:=λτ Q=>a (frz τ) λx=>b (frz τ) λy=>match x,y with
 | .lst xs, .lst ys=>xs.length+ys.length<=sizeLine/\WA (xs++ys)=true/\Q (xs++ys)
 | _,_=>False
def iM {a b:fe}{g:Pos}{r w:AE}(ha:SE X a r)(hb:SE X b w):SF X (.BinOp a .Add b g) (VW r w):=by
 obtain⟨t,p,s⟩:=ha;obtain⟨t',C,D⟩:=hb;refine⟨_,CN ga p C,λB T z τ H Q N e h k=>s B T z (frz τ) H _ _ e.frz h λu x E F c r1 h1=>D B E z (frz τ) F _ _ (e.frz.stp c) h1 λv y G O f r2 h2=> ?_⟩;split at h2 <;> first | exact h2.elim|skip
 obtain⟨hl,hn,h2⟩:=h2;have m:=e.stp c;have n:=m.stp f;obtain⟨i,vs,rfl,hq,P,R,rs⟩:=C6 (r1.stp f (e.frz.stp c).va);obtain⟨j,ws,rfl,I,J,K,d⟩:=C6 r2;refine⟨i,j,vs,ws,rfl,rfl,hq,I,by rw[rs.length,d.length];exact hl,λq A=> ?_⟩;obtain⟨l,o,L,M⟩:=Tk n A (A6.free hn (rs.append d));exact k q _ _ G _ ((c.trans f).trans l) o ((c.trans f).none A) Al L M h2
end
end PL
namespace PL
open PySem PySem.Spec PyProof.Rows L2 PyProof AutoSeq1
def j0 (p q:kd)(xs ys:Array ki)(n m:Nat){a:kc kd}{b:Array (kc ki)}(g:¬(!xs.isEmpty&&Builtin.List.listTooLong (xs.size+ys.size))=true)(c:xs.size<=sizeLine)(d:xs.size+ys.size<=sizeLine+1):Meets (Builtin.«list.extend» ⟨[.ref p, .ref q], []⟩) (λ_ R s=>(s.heap.get? p=some {cls:= .type "list",data:= .seq xs n}/\s.heap.get? q=some ⟨.type "tuple",a, .seq ys m,b⟩)/\R (.ok (.ret Value.none)) {s with heap:=s.heap.update p (Obj.mapSeq λx=>x++ys)}):=by
 refine .of_wp λprog w A R s e=> ?_;obtain⟨h,i,j,k,l⟩:=s;obtain⟨⟨hl,hb⟩,he⟩:=e;have f:(xs++ys).size<=sizeLine+1:=by rw[Array.size_append];exact d
 have o:=idx_int;have r:=AutoSeq1.sub_tuple_tuple;have t:=AutoSeq1.sub_list_list;have u:=AutoSeq1.sub_tuple_list;have v:=AutoSeq1.sub_list_tuple
 wp_walk using(AEw hl rfl (hz:=c) (_hz':=f)),wpAny_loadPart' hl,wpAny_loadPart' hb
 exact⟨_,rfl,he⟩
section
variable {X:Cx}
def hV (K:AAG):V->kj V->Hp->VK->Prop:=λx vs H Q=>∃l b xs a,x= .ref l/\vs= [.ref b] /\H l=some (.lst xs)/\Ky K H b a/\xs.length+a.length<=sizeLine/\Q .non (upd H l (.lst (xs++a)))
def ku:oB X "list.extend" (hV X.K):=by
 intro Sb s o H x vs v p Q I f rv h;obtain⟨l,b,xs,r,rfl,rfl,e,g,hz,q⟩:=h;cases f;obtain⟨u,rfl,i⟩:=rv.one;cases i;obtain⟨z,a,j,r1,y1,c⟩:=I.lstM e;obtain⟨d,r2,⟨⟨cl,t,w,y⟩,k,hc,m,hd⟩,_⟩:=I.tuple g;cases hc;cases hd;have y2:=r2.length;have n:a.toArray.size+d.toArray.size<=sizeLine:=by rw[ABP,ABP];omega
 refine call_meets F.slot_list_extend ⟨_,c,rfl⟩ F.entry_list_extend (F.args_list_extend_2 _ _)
  (j0 l b a.toArray d.toArray j m (by rw[gQ n,Bool.and_false];exact ABO) (by rw[ABP];omega) (by omega)) ⟨⟨c,k⟩, ?_⟩
 refine⟨.non,_,I.lset (its':=a++d) e c (by simp) (r1.append r2) ?_,rfl,q⟩;rw[AB9];omega
def Zu:mX:=λxs ys Q=>match ys with | [.tup zs] =>xs.length+zs.length<=sizeLine/\Q (xs++zs)|_=>False
def Yo:oB X "list.extend" (hV X.K)/\dm X.K (hV X.K) Zu:=by
 refine⟨ku,λT M H l ws vs xs ys Q d hl r1 r2 h k=> ?_⟩;unfold Zu at h;split at h <;> first | exact h.elim|skip
 cases r2 with
 | cons b t=> cases t;obtain⟨a,c,rfl,hq,rs⟩:=DM b;exact⟨l,a,ws,c,rfl,rfl,hl,hq,by rw[r1.length,rs.length];exact h.1,k _ _ (r1.append rs) h.2⟩
end
end PL
namespace PL
open PySem PySem.Spec PyProof.Rows L2
section
variable {X:Cx}{a b c d e:fe}{ta tb tc td:AE}{pos:Pos}
def BZ (ha:SE X a ta)(h:starEach [a] X.env=(false,eval a X.env)::starEach [] X.env:=by rfl):SA X [a] (AB ta AM):=Aw ha CQ h
def Ar (ha:SE X a ta)(hb:SE X b tb)(h:starEach [a,b] X.env=(false,eval a X.env)::starEach [b] X.env:=by rfl)(h2:starEach [b] X.env=(false,eval b X.env)::starEach [] X.env:=by rfl):SA X [a,b] (AB ta (AB tb AM)):=Aw ha (BZ hb h2) h
def DA (ha:SE X a ta)(hb:SE X b tb)(hc:SE X c tc)(h:starEach [a,b,c] X.env=(false,eval a X.env)::starEach [b,c] X.env:=by rfl)(h2:starEach [b,c] X.env=(false,eval b X.env)::starEach [c] X.env:=by rfl)(f:starEach [c] X.env=(false,eval c X.env)::starEach [] X.env:=by rfl):SA X [a,b,c] (AB ta (AB tb (AB tc AM))):=Aw ha (Ar hb hc h2 f) h
def Aa (ha:SE X a ta)(hb:SE X b tb)(hs:TH b:=by exact λ_ _=>rfl):SE X (.Subscript a b pos) (AX Ao ta tb):=u7 vA ha hb hs
def DN {op:CmpOp}{r:R2}{f:KF}(g:Em X (compareOp op) r/\CM X.K r f)(ha:SE X a ta)(hb:SE X b tb)(h:behindInMarks op b=false:=by exact Bx _):Us X (.Compare a [op] [b] pos) (Ah (AX f ta tb)):=ig g ha hb h
def CC (i:Nat){x:Str}{pos':Pos}(hN:X.N.Nodup)(he:SE X e ta)(hi:X.N[i]? =some x:=by rfl)(hx:Loc X.env.scope x:=by exact Or.inl rfl)(hs:swapsWith e (some (.Name x pos')) pos.line X.env=pure false:=by rfl)(f:X.fn x=true\/X.env.scope.names.lookup x=some .local:=by first | exact .inl rfl|exact .inr rfl|assumption):SS X (.Assign [.Name x pos'] e pos) (Am ta (An i)):=Ul hN hi hx he hs f
def Cp (i:Nat){x:Str}(hN:X.N.Nodup)(hi:X.N[i]? =some x:=by rfl)(hx:Loc X.env.scope x:=by exact Or.inl rfl)(f:X.fn x=true\/X.env.scope.names.lookup x=some .local:=by first | exact .inl rfl|exact .inr rfl|assumption):SG X (.Name x pos) (An i):=LZ hN hi hx f
def Nv (i:Nat){own:Nat}{x:Str}(hN:X.N.Nodup)(hi:X.N[i]? =some x:=by rfl)(hx:Loc X.env.scope x:=by exact Or.inl rfl)(hk:i<own:=by decide)(f:X.fn x=true\/X.env.scope.names.lookup x=some .local:=by first | exact .inl rfl|exact .inr rfl|assumption):SK own X (.Name x pos) (An i):=aO hN hi hx hk f
end
def map_pair {a b c:Type}{o:kc a}{f:a->b}{g:a->c}{x:b}{y:c}(h1:o.map f=some x)(h2:o.map g=some y):o.map (λs=>(f s,g s))=some (x,y):=by
 cases o with
 | none=>cases h1
 | some s=>cases h1;cases h2;rfl
def map5 {a A B C D E:Type}{o:kc a}{F:a->A×B×C×D×E}{X:A×B×C×D×E}(h1:o.map (λs=>(F s).1)=some X.1)(h2:o.map (λs=>(F s).2.1)=some X.2.1)(b:o.map (λs=>(F s).2.2.1)=some X.2.2.1)(c:o.map (λs=>(F s).2.2.2.1)=some X.2.2.2.1)(d:o.map (λs=>(F s).2.2.2.2)=some X.2.2.2.2):o.map F=some X:=by
 cases o with
 | none=>cases h1
 | some s=>exact congrArg some (ADP (ABW h1) (ADP (ABW h2) (ADP (ABW b) (ADP (ABW c) (ABW d)))))
def A7 {P:Wf}{w:Tb}{K:AAG}{mg:Str->kc ki}{base:Sr}{k a:Nat}{x:Str}{ps:kj Str}{sp:Sp}(H:Has P w K mg base k x ps sp)(h:k<=a:=by decide):Has P w K mg base a x ps sp:=H.mono h
end PL
open PySem L2 PL PyProof.Rows
local macro_rules | `(tactic| decreasing_trivial_pre_omega)=> `(tactic| first | assumption|omega|((apply Bd.mono);(focus (repeat' (first | assumption|exact Dp.m (by assumption)|exact Dp.x (by assumption)|exact Dp.y (by assumption)|exact Dp.z (by assumption)|exact jJ|exact rQ|with_reducible apply Bd.add|with_reducible apply Bd.sub|with_reducible apply Bd.mul|with_reducible apply Bd.neg|with_reducible apply Bd.mx|with_reducible apply Bd.mn)));first | omega|decide)|decide|(simp only [List.length_map,List.length_append,List.length_cons,List.length_nil,List.length_take,List.length_drop,List.length_zip,List.length_reverse];omega)|(show _<=16777216;simp only [List.length_map,List.length_append,List.length_cons,List.length_nil,List.length_take,List.length_drop,List.length_zip,List.length_reverse];omega)|(show _<16777216;simp only [List.length_map,List.length_append,List.length_cons,List.length_nil,List.length_take,List.length_drop,List.length_zip,List.length_reverse];omega)|(refine And.intro ?_ ?_ <;> decreasing_trivial_pre_omega)|exact rfl)
local macro_rules | `(tactic| array_mem_dec)=> `(tactic| first
 | refine Wp.go ?_
 | ((refine N2.go ?_ ?_);focus (first | exact True.intro|decreasing_trivial_pre_omega))
 | ((with_reducible apply And.intro);focus decreasing_trivial_pre_omega)
 | ((with_reducible apply s_ifdT);focus decide)
 | ((with_reducible apply qY);focus decide)
 | ((with_reducible apply s_ifnT);focus decide)
 | ((with_reducible apply s_ifnF);focus decide)
 | refine wj.go (λ_=> ?_) (λ_=> ?_)
 | ((with_reducible apply qZ);focus assumption)
 | ((with_reducible apply s_all);focus exact rfl)
 | ((with_reducible apply u4);(focus (first | exact .inl rfl|exact .inr (.inl rfl)|exact .inr (.inr (.inl rfl))|exact .inr (.inr (.inr rfl))));(focus exact rfl))
 | ((with_reducible apply ux);focus exact rfl)
 | ((with_reducible apply uw);focus exact rfl)
 | intro _
 | with_reducible rfl)
local macro_rules | `(tactic| array_get_dec)=> `(tactic| first | array_mem_dec|refine zT.go ?_|fail)
local macro_rules | `(tactic| ac_rfl)=> `(tactic| repeat' array_mem_dec)
namespace PL
open PySem L2 PyProof.Rows
def bM (cs:kj C4)(n:Rat):kj C4:=cs.filter λc=>decide (c.1<n)
def zU (cs:kj C4)(n:Rat):kj C4:=cs.filter λc=>decide (n<c.1)
abbrev Y8:AS:=
 (Ak (Ay (AB (aV 0) (AB (aC (.int 1)) AM))))
def IS:AF:=Ap 1 Y8
def cu {a:PV}{Q:PV->Prop}(h:Y8 ⟨λ_=>Q .non,Q,λ_=>False,λ_=>False⟩ [some (.val a)]):IS [a] Q:=h
instance q9 {k:Int}{Q:PV->Prop}:Wp (IS [.int k] Q) (Q (fr (k:Rat))):=⟨λh=>by
 apply cu;repeat' array_get_dec
 exact h⟩
def Ge.open {n B:Nat}{cs:kj C4}(p:Ge n B cs):∃a r l,cs=a::r/\r≠ [] /\(a::r).getLast?=some l/\a.1<l.1:=by
 obtain⟨two,c,d,b⟩:=p;match cs,two,b with
 | a::b0::r,_,b=>exact⟨a,b0::r,_,rfl,by simp,AEx (by simp),(ABE.mp b).1 _ (ACB (E8 (AEx (by simp))))⟩
abbrev RT:AS:=
 (Ak (mf (Ah (AX KG (aV 1) (aC (.int 2)))) (AX Ao (aV 0) (aC (.int 1))) (AX Ao (aV 0) (aC (.int 0)))))
def EK:AF:=Ap 2 RT
def Wh {a b:PV}{Q:PV->Prop}(h:RT ⟨λ_=>Q .non,Q,λ_=>False,λ_=>False⟩ [some (.val a),some (.val b)]):EK [a,b] Q:=h
def n5 (b:T3)(v:PV):Prop:=v=vC b\/v= .lst [fr b.1,fr b.2.1,fr b.2.2]
def sN (cs:kj C4)(b:T3)(v:PV):Prop:=∃p w,BI cs p/\n5 b w/\(v= .tup [p,w] \/v= .lst [p,w])
def ON (d:Rat×Rat)(v:PV):Prop:=v= .tup [fr d.1,fr d.2] \/v= .lst [fr d.1,fr d.2]
def pv0 {a:C4}{r:kj C4}{v:PV}{R:PV->Prop}(hv:BI (a::r) v)(h:∀x,(x=cor a\/x=corL a)->R x):Ao v (.int 0) R:=by
 obtain⟨f,b,hv⟩:=hv;have hx:f a=cor a\/f a=corL a:=by rcases b with rfl|rfl <;> simp
 rcases hv with rfl|rfl
 .show gZ (Je (f a::r.map f) 0) R;rw[show Je (f a::r.map f) 0=some (f a) from DE (j:=0) rfl];exact h _ hx
 .show gZ (Je (f a::r.map f) 0) R;rw[show Je (f a::r.map f) 0=some (f a) from DE (j:=0) rfl];exact h _ hx
def pvL {cs:kj C4}{l:C4}{v:PV}{R:PV->Prop}(hv:BI cs v)(a:cs.getLast?=some l)(h:∀x,(x=cor l\/x=corL l)->R x):Ao v (.int (-1)) R:=by
 obtain⟨f,b,hv⟩:=hv;have hx:f l=cor l\/f l=corL l:=by rcases b with rfl|rfl <;> simp
 rcases hv with rfl|rfl
 .exact K7 a (h _ hx)
 .exact K7 a (h _ hx)
def c0 {x:PV}{c:C4}{R:PV->Prop}(hx:x=cor c\/x=corL c)(h:R (fr c.1)):Ao x (.int 0) R:=by rcases hx with rfl|rfl <;> exact h
def f0 {cs:kj C4}{b:T3}{v:PV}{R:PV->Prop}(hv:sN cs b v)(h:∀p,BI cs p->R p):Ao v (.int 0) R:=by obtain⟨p,w,hp,hw,hv⟩:=hv;rcases hv with rfl|rfl <;> exact h p hp
def f1 {cs:kj C4}{b:T3}{v:PV}{R:PV->Prop}(hv:sN cs b v)(h:∀w,n5 b w->R w):Ao v (.int 1) R:=by obtain⟨p,w,hp,hw,hv⟩:=hv;rcases hv with rfl|rfl <;> exact h w hw
def b2 {b:T3}{w:PV}{R:PV->Prop}(hw:n5 b w)(h:R (fr b.2.2)):Ao w (.int 2) R:=by rcases hw with rfl|rfl <;> exact h
def uI {k n:Nat}(h:k<=n)(hn:n<1000000):k<sizeLine:=ACJ h (ABb hn (ACc rfl))
def aN {w:PV}{x y:Rat}{k:Int}(a:∀{R:PV->Prop},R (fr x)->Ao w (.int 0) R)(h1:∀{R:PV->Prop},R (fr y)->Ao w (.int 1) R){Q:PV->Prop}(q:Q (fr (if k=2 then y else x))):EK [w, .int k] Q:=by
 apply Wh;ac_rfl
 .rename_i h;rw[AAJ h] at q;exact h1 q
 .rename_i h;rw[AAH h] at q;exact a q
def GO {d:Rat×Rat}{w:PV}{k:Int}(hw:ON d w){Q:PV->Prop}(q:Q (fr (if k=2 then d.2 else d.1))):EK [w, .int k] Q:=
 aN (λh=>by rcases hw with rfl|rfl <;> exact h) (λh=>by rcases hw with rfl|rfl <;> exact h) q
def near (x y z:Rat):da:=decide (x-y<z)&&decide (-(x-y)<z)
def oK (r:Rat):PV.tup [.int (r.num.natAbs:Int), .int r.den] =fr (if r<0 then -r else r):=by
 unfold fr;by_cases h:r<0
 .rw [AAJ h,Rat.neg_num,Rat.neg_den];have:¬0<=r.num:=λz=>by have:=Rat.num_nonneg.mp z;grind
  rw[show ((r.num.natAbs:Nat):Int)= -r.num by omega]
 .rw [AAH h];have:0<=r.num:=Rat.num_nonneg.mpr (by grind);rw[show ((r.num.natAbs:Nat):Int)=r.num by omega]
def HU:AS:=
 (AY (BE (Ah (AX mq (aV 5) (aC (.int 3)))) (Am (FX (Ci (AB (AR 1 A5 (AB (aV 0) AM)) (AB (AR 1 A5 (AB (aV 0) AM)) (AB (AR 1 A5 (AB (aV 0) AM)) AM))))) (An 3)) (BE (Ah (AX mq (aV 5) (aC (.int 0)))) (Am (AX BL (AX BL (dG (aV 3) dH (dI (AX Ex (aV 5) (aC (.int 1))))) (FX (Ci (AB (AR 1 A5 (AB (aV 0) AM)) AM)))) (dG (aV 3) (dI (aV 5)) dH)) (An 3)) Av))
   (Dv 4 Ip (AB (Ay (AB (aV 2) (AB (AX Ao (aV 3) (aC (.int 0))) (AB (AX Ao (aV 3) (aC (.int 1))) (AB (AX Ao (aV 3) (aC (.int 2))) AM))))) AM)))
def HS:AS:=
 (AY (Am (AR 2 BO (AB (aV 0) (AB (aC (.int 6)) AM))) (An 5))
   HU)
def KO:AS:=
 (AY (Am (AR 2 Br (AB (aV 2) (AB (AR 1 CV (AB (aV 0) AM)) AM))) (An 2))
   HS)
def KU:AS:=
 (AY (MH (Ah (AX ZW (FZ FN (AB (aV 4) AM)) (aV 1))) KO)
   (Ak (FZ Co (AB (aV 4) AM))))
def KS:AS:=
 (AY (GN (Ci (AB (Ay (AB (aV 2) (AB (AX Ao (aV 3) (aC (.int 0))) (AB (AX Ao (aV 3) (aC (.int 1))) (AB (AX Ao (aV 3) (aC (.int 2))) AM))))) AM)) 4)
   KU)
def KQ:AS:=
 (AY (Am (FX (Ci (AB (AR 1 A5 (AB (aV 0) AM)) (AB (AR 1 A5 (AB (aV 0) AM)) (AB (AR 1 A5 (AB (aV 0) AM)) AM))))) (An 3))
   KS)
def Fb:AS:=
 (AY (Am (Ay (AB (AR 2 BO (AB (aV 0) (AB (aC (.int 12)) AM))) (AB (aC (.int 1)) AM))) (An 2))
   KQ)
def KP:AS:=
 (AY (BE (Ah (AX KG (AR 2 BO (AB (aV 0) (AB (aC (.int 8)) AM))) (aC (.int 0)))) (Am (AX Ao (FX (Ci (AB (aC (.int 7)) (AB (aC (.int 8)) (AB (aC (.int 9)) (AB (aC (.int 12)) AM)))))) (AR 2 BO (AB (aV 0) (AB (aC (.int 4)) AM)))) (An 1)) Av)
   Fb)
def OY:AS:=
 (AY (Am (AX BL (aC (.int 2)) (AR 2 BO (AB (aV 0) (AB (aC (.int 4)) AM)))) (An 1))
   KP)
def CJ:AF:=Ap 6 OY
def GV (many:Int)(B k f:kc AV)(j:kc AV)(H:2<=many)(h1:many<=12){Q:PV->Prop}(h:∀cs,Oy 12 6 600 cs->Q (Aq cs)):Fb {nx:=λ_=>Q .non,rt:=Q,bk:=λ_=>False,ct:=λ_=>False} [some (.val .tape),some (.val (.int many)),B,k,j,f] :=by
 refine⟨rfl,DF (by decide) (by decide) λm m0 m1=>⟨lz, ?_⟩⟩;refine⟨rfl,BB λx hx=>⟨rfl,BB λy hy=>⟨rfl,BB λz hz=>⟨lz, ?_⟩⟩⟩⟩;refine⟨lz,lz, ?_⟩;refine⟨(many-1).toNat+1,Y3 (λn τ=>∃(cs:kj C4) (c:C4) (f:kc AV),n+(cs.length+1)=many.toNat+1/\1<=n/\(∀d∈cs ++ [c],Oi 6 (66+48*cs.length) d)/\(Mul 6 60 c.2.1/\Mul 6 60 c.2.2.1/\Mul 6 60 c.2.2.2)/\Et (cs ++ [c])/\
  τ= [some (.val .tape),some (.val (.int many)),some (.val (fr c.1)),some (.val (.lst [fr c.2.1,fr c.2.2.1,fr c.2.2.2])),some (.own ((cs ++ [c]).map cor)),f]) ?_ ?_ _ _ ⟨[],((m:Rat),x,y,z),f, ?_, ?_, ?_, ?_, ?_, ?_⟩⟩
 .rintro τ ⟨cs,c,f,_,hn,_⟩;omega
 .rintro n τ R C ⟨cs,c,f,hn,I,hb,g,r,rfl⟩;have t:(((cs ++ [c]).map cor).length:Int)=(cs.length:Int)+1:=by simp
  refine Fz (b:=decide ((((cs ++ [c]).map cor).length:Int)<many)) (λz=> ?_) (λz=> ?_)
  .have l:(((cs ++ [c]).map cor).length:Int)<many:=ABx z;rw[t] at l;have u:=hb c (by simp);refine⟨rfl,HB λs D J E=>⟨rfl,JD ((u.m.bd (n:=12) (by omega) (by decide)).mono (by omega)) (D.mono (by omega)) ?_⟩⟩;refine⟨rfl,DF (by decide) (by decide) λw K L=> ?_⟩;have a:∀(o:G6) (x y z:Rat) (f:kc AV),o.nx=R->Mul 6 60 x->Mul 6 60 y->Mul 6 60 z->Dv 4 Ip (AB (Ay (AB (aV 2) (AB (AX Ao (aV 3) (aC (.int 0))) (AB (AX Ao (aV 3) (aC (.int 1))) (AB (AX Ao (aV 3) (aC (.int 2))) AM))))) AM)
    o [some (.val .tape),some (.val (.int many)),some (.val (fr (c.1+s))),some (.val (.lst [fr x,fr y,fr z])),some (.own ((cs ++ [c]).map cor)),f] :=by
    intro o x y z f F v i A;refine⟨lz, ?_, ?_⟩
    .show _<16777216;omega
    .rw [F];have G:Mul 6 (66+48*(cs.length+1)) (c.1+s):=(u.m.add E).mono (by omega);refine C _ ⟨cs ++ [c],(c.1+s,x,y,z),f,by simp;omega,by omega, ?_,⟨v,i,A⟩,iG r ?_, ?_⟩
     .intro d hd;rcases ABI.mp hd with hd|hd
      .exact (hb d hd).mono (by simp;omega)
      .simp at hd;subst hd;have e:(cs ++ [c]).length=cs.length+1:=by simp
       rw[e];exact⟨G,v.mono (by omega),i.mono (by omega),A.mono (by omega)⟩
     .show c.1<c.1+s;grind
     .rw [ABV (l₁:=cs ++ [c])];rfl
   refine Fz (b:=decide (3<w)) (λ_=> ?_) (λk=> ?_)
   .exact ⟨rfl,BB λx hx=>⟨rfl,BB λy hy=>⟨rfl,BB λz hz=>⟨lz,a _ x y z _ rfl hx hy hz⟩⟩⟩⟩
   refine Fz (b:=decide (0<w)) (λj=> ?_) (λj=> ?_)
   .have M:¬3<w:=ACb k;have N:0<w:=ABx j;have hw:w=1\/w=2\/w=3:=by omega
    rcases hw with rfl|rfl|rfl
    .exact Ey ⟨rfl,BB λp hp=>⟨lz,lz,Ey ⟨lz,a _ p _ _ _ rfl hp g.2.1 g.2.2⟩⟩⟩
    .exact Ey ⟨rfl,BB λp hp=>⟨lz,lz,Ey ⟨lz,a _ _ p _ _ rfl g.1 hp g.2.2⟩⟩⟩
    .exact Ey ⟨rfl,BB λp hp=>⟨lz,lz,Ey ⟨lz,a _ _ _ p _ rfl g.1 g.2.1 hp⟩⟩⟩
   .exact a _ _ _ _ _ rfl g.1 g.2.1 g.2.2
  .have l:¬(((cs ++ [c]).map cor).length:Int)<many:=ACb z;rw[t] at l;refine h (cs ++ [c]) ⟨by simp;omega,by simp;omega,λd hd=>(hb d hd).mono (by omega),r⟩
 .simp;omega
 .omega
 .intro d hd;simp at hd;subst hd;exact⟨.int (by decide) (by simp;omega),hx.mono (by decide),hy.mono (by decide),hz.mono (by decide)⟩
 .exact ⟨hx,hy,hz⟩
 .exact AFP _ _
 .simp only[cor,fE,ACE,ABJ,ADd];rfl
def Mm {Q:PV->Prop}(h:∀cs,Oy 12 6 600 cs->Q (Aq cs)):CJ [.tape] Q:=by
 refine⟨rfl,DF (by decide) (by decide) λa d e=>⟨rfl,DF (by decide) (by decide) λb f b1=> ?_⟩⟩;refine Fz (b:=decide (b=0)) (λ_=> ?_) (λ_=> ?_)
 .refine ⟨lz,rfl,DF (by decide) (by decide) λc c0 c1=> ?_⟩;have hc:c=0\/c=1\/c=2\/c=3:=by omega
  rcases hc with rfl|rfl|rfl|rfl
  .exact GV 7 _ _ _ _ (by omega) (by omega) h
  .exact GV 8 _ _ _ _ (by omega) (by omega) h
  .exact GV 9 _ _ _ _ (by omega) (by omega) h
  .exact GV 12 _ _ _ _ (by omega) (by omega) h
 .exact GV (2+a) _ _ _ _ (by omega) (by omega) h
abbrev G7:AS:=
 (Ak (FZ Co (AB (FX (C1 (HM (aV 0)) 1 [1,2] (An 0) FH (AX BL (Ay (AB (AR 2 Br (AB (AX Ao (aV 0) (aC (.int 0))) (AB (aV 1) AM))) AM)) (FZ Co (AB (FX (C1 (XO (AB (aC (.int 3)) AM)) 1 [0,2] (An 0) FH (AR 2 Br (AB (AX Ao (aV 1) (AX BL (aV 0) (aC (.int 1)))) (AB (AX Ao (aV 2) (aV 0)) AM))))) AM))))) AM)))
def Bk:AF:=Ap 3 G7
def LR {a b c:PV}{Q:PV->Prop}(h:G7 ⟨λ_=>Q .non,Q,λ_=>False,λ_=>False⟩ [some (.val a),some (.val b),some (.val c)]):Bk [a,b,c] Q:=h
abbrev KI:AS:=
 (AY (Am (FX (Ci (AB (Ay (AB (aC (.int 1)) (AB (aC (.int 1)) AM))) (AB (Ay (AB (aC (.int 2)) (AB (aC (.int 1)) AM))) (AB (Ay (AB (aC (.int 3)) (AB (aC (.int 2)) AM))) (AB (Ay (AB (aC (.int 1)) (AB (aC (.int 3)) AM))) (AB (Ay (AB (aC (.int 5)) (AB (aC (.int 1)) AM))) AM))))))) (An 1))
   (Ak (Ay (AB (AX Ao (aV 1) (AR 2 BO (AB (aV 0) (AB (aC (.int 5)) AM)))) (AB (AX Ao (aV 1) (AR 2 BO (AB (aV 0) (AB (aC (.int 5)) AM)))) AM)))))
def DD:AF:=Ap 2 KI
def IB {a:PV}{Q:PV->Prop}(h:KI ⟨λ_=>Q .non,Q,λ_=>False,λ_=>False⟩ [some (.val a),none]):DD [a] Q:=h
def kZ {xs:kj PV}{k:Int}{R:PV->Prop}(a:0<=k)(h1:k<xs.length)(h:∀x∈xs,R x):Ao (.lst xs) (.int k) R:=by show gZ (Je xs k) R;have hk:xs[k.toNat]? =some (xs[k.toNat]'(by omega)):=ABf (by omega);have e:=DE hk;rw[show ((k.toNat:Nat):Int)=k by omega] at e;rw[e];exact h _ (List.getElem_mem _)
def F0 {xs:kj Rat}{k:Int}{R:PV->Prop}(a:0<=k)(h1:k<xs.length)(h:∀x∈xs,R (fr x)):Ao (.lst (xs.map fr)) (.int k) R:=by refine kZ a (by simpa using h1) λx hx=> ?_;obtain⟨y,hy,rfl⟩:=ABG.mp hx;exact h y hy
def xu {r:Rat}(h:r.num.natAbs<2^8:=by decide +kernel)(h2:r.den<2^8:=by decide +kernel):Bd 8 r:=⟨h,h2⟩
def O2 {Q:PV->Prop}(q:∀d:Rat×Rat,Bd 8 d.1->Bd 8 d.2->1/3<=d.1->1/3<=d.2->Q (.tup [fr d.1,fr d.2])):DD [.tape] Q:=by
 apply IB;have all:∀x∈ [(1:Rat),2,3/2,1/3,5],Bd 8 x/\1/3<=x:=by intro x hx;simp only[AAK,ABR,ABS] at hx;rcases hx with rfl|rfl|rfl|rfl|rfl <;> exact⟨xu,by decide +kernel⟩
 ac_rfl;refine F0 (xs:= [(1:Rat),2,3/2,1/3,5]) (by omega) (by show _<(5:Int);omega) λx hx=> ?_;ac_rfl;refine F0 (xs:= [(1:Rat),2,3/2,1/3,5]) (by omega) (by show _<(5:Int);omega) λy hy=> ?_;ac_rfl;exact q (x,y) (all x hx).1 (all y hy).1 (all x hx).2 (all y hy).2
abbrev kr (t:Rat)(o:T3)(c:C4):C4:=(c.1+t,c.2.1+o.1,c.2.2.1+o.2.1,c.2.2.2+o.2.2)
def Jn {cs:kj C4}{t:Rat}{o:T3}{v:PV}{B m:Nat}(hv:v= .lst [fr o.1,fr o.2.1,fr o.2.2])(hl:cs.length<=100)(hc:∀c∈cs,Dp B c)(bt:Bd m t)(a:EN m o)(e:B<=4000)(f:m<=4000){Q:PV->Prop}(q:Q (Aq (cs.map (kr t o)))):Bk [Aq cs,fr t,v] Q:=by
 subst hv;have g:=a.x;have b:=a.y;have h:=a.z;apply LR;ac_rfl;refine Dx cor cor (kr t o) (Dp B) (λc i R d=> ?_) cs [] hc ?_
 .ac_rfl;rw[show rng 0 (Int.toNat 3)= [.int 0, .int 1, .int 2] from rfl];repeat' array_get_dec
  rw[show (0:Int)+1=1 from rfl];repeat' array_get_dec
  rw[show (1:Int)+1=2 from rfl];repeat' array_get_dec
  rw[show (2:Int)+1=3 from rfl];repeat' array_get_dec
  exact d
 ac_rfl;exact q
instance AAX {a b:AE}{τ:BD}{c:kj PV->Prop}:Wp (oM a b τ c) (a τ λx=>b τ λy=>match x,y with | .tup xs, .tup ys=>xs.length=ys.length/\c (GA xs ys.reverse)|_,_=>False):=⟨id⟩
section
variable {τ:BD}
instance wB {i:Nat}{a b:AE}{nx bk ct:BD->Prop}{rt:PV->Prop}:Wp (jl i a b ⟨nx,rt,bk,ct⟩ τ) (b τ λy=>MG i τ λxs=>a τ λk=>jM k λk=>lN (V3 xs.length k) λj=>Wj τ i (.own (xs.set j y)) nx):=⟨id⟩
instance wA {i:Nat}{xs:kj PV}{P:kj PV->Prop}[h:jf τ i (.own xs)] :Wp (MG i τ P) (P xs):=⟨λk=>by unfold MG;rw[h.e];exact k⟩
end
instance yw {c:C4}{Q:PV->Prop}:Wp (ZX (cor c) none (some 1) Q) (Q (.tup [fr c.1])):=⟨λh=>Ie h⟩
abbrev Ll:AS:=
 (AY (Am (AR 1 CJ (AB (aV 0) AM)) (An 6))
   (Ak (AR 3 Bk (AB (aV 6) (AB (AR 2 EE (AB (AX Ao (AX Ao (aV 1) (TL Hl (aC (.int 1)))) (aC (.int 0))) (AB (AX Ao (AX Ao (aV 6) (aC (.int 0))) (aC (.int 0))) AM))) (AB (FX (Ci (AB (Ay (AB (aC (.int 0)) (AB (aC (.int 1)) AM))) (AB (Ay (AB (aC (.int 0)) (AB (aC (.int 1)) AM))) (AB (Ay (AB (aC (.int 0)) (AB (aC (.int 1)) AM))) AM))))) AM))))))
abbrev Ig:AS:=
 (AY (Am (Ay (AB (AR 1 A5 (AB (aV 0) AM)) (AB (AR 1 A5 (AB (aV 0) AM)) (AB (AR 1 A5 (AB (aV 0) AM)) AM)))) (An 8))
   (Ak (AX BL (AX BL (dG (aV 1) dH (dI (aV 7))) (Ay (AB (AX BL (dG (AX Ao (aV 1) (aV 7)) dH (dI (aC (.int 1)))) (aV 8)) AM))) (dG (aV 1) (dI (AX BL (aV 7) (aC (.int 1)))) dH))))
abbrev Lm:AS:=
 (AY (Am (AR 2 BO (AB (aV 0) (AB (FZ FN (AB (aV 1) AM)) AM))) (An 7))
   Ig)
abbrev Ln:AS:=
 (AY (Am (dG (AX Ao (aV 1) (AR 2 BO (AB (aV 0) (AB (FZ FN (AB (aV 1) AM)) AM)))) (dI (aC (.int 1))) dH) (An 8))
   (Ak (Ay (AB (AX BL (Ay (AB (AX Ao (AX Ao (aV 1) (aC (.int 0))) (aC (.int 0))) AM)) (aV 8)) (AB (AX BL (Ay (AB (AR 2 Br (AB (AX Ao (AX Ao (aV 1) (TL Hl (aC (.int 1)))) (aC (.int 0))) (AB (AR 1 CV (AB (aV 0) AM)) AM))) AM)) (aV 8)) AM)))))
abbrev KJ:AS:=
 (AY (BE (Ah (AX KG (aV 3) (aC (.int 6)))) Ln Av)
   (Ak (AR 1 CJ (AB (aV 0) AM))))
abbrev Lx:AS:=
 (AY (BE (Ah (AX KG (aV 3) (aC (.int 5)))) Lm Av)
   KJ)
abbrev Lw:AS:=
 (AY (BE (Ah (AX KG (aV 3) (aC (.int 4)))) Ll Av)
   Lx)
abbrev Lv:AS:=
 (AY (BE (Ah (AX KG (aV 3) (aC (.int 3)))) (Ak (FZ Co (AB (FX (C1 (oM (aV 1) (aV 1)) 2 [] (HD 2 (AZ (An 0) (AZ (An 1) BY))) FH (AX BL (Ay (AB (AX Ao (aV 0) (aC (.int 0))) AM)) (dG (aV 1) (dI (aC (.int 1))) dH)))) AM))) Av)
   Lw)
abbrev Lu:AS:=
 (AY (BE (Ah (AX KG (aV 3) (aC (.int 2)))) (Ak (AR 3 Bk (AB (aV 1) (AB (AX Ao (FX (Ci (AB (AR 1 CV (AB (aV 0) AM)) (AB (Ay (AB (aC (.int 0)) (AB (aC (.int 1)) AM))) AM)))) (AR 2 BO (AB (aV 0) (AB (aC (.int 2)) AM)))) (AB (aV 4) AM))))) Av)
   Lv)
abbrev GC:AS:=
 (AY (BE (Ah (AX ZW (aV 3) (aC (.int 2)))) (Ak (AR 3 Bk (AB (aV 1) (AB (Ay (AB (aC (.int 0)) (AB (aC (.int 1)) AM))) (AB (aV 4) AM))))) Av)
   Lu)
abbrev Lr:AS:=
 (AY (BE (Ah (AX KG (aV 3) (aC (.int 0)))) (jl 4 (aV 5) (XI (AR 2 Bg (AB (AX Ao (aV 4) (aV 5)) (AB (AX Ao (FX (Ci (AB (Ay (AB (aC (.int 1)) (AB (aC (.int 2)) AM))) (AB (Ay (AB (TL Hl (aC (.int 1))) (AB (aC (.int 1)) AM))) (AB (Ay (AB (TL Hl (aC (.int 1))) (AB (aC (.int 3)) AM))) AM))))) (AR 2 BO (AB (aV 0) (AB (aC (.int 3)) AM)))) AM))))) Av)
   GC)
abbrev Lq:AS:=
 (AY (jl 4 (aV 5) (AX Ao (aV 2) (FZ bO (AB (AX KG (aV 5) (aC (.int 2))) AM))))
   Lr)
abbrev Lp:AS:=
 (AY (Am (AR 2 BO (AB (aV 0) (AB (aC (.int 3)) AM))) (An 5))
   Lq)
abbrev Lo:AS:=
 (AY (GN (Ci (AB (Ay (AB (aC (.int 0)) (AB (aC (.int 1)) AM))) (AB (Ay (AB (aC (.int 0)) (AB (aC (.int 1)) AM))) (AB (Ay (AB (aC (.int 0)) (AB (aC (.int 1)) AM))) AM)))) 4)
   Lp)
abbrev Iu:AS:=
 (AY (Am (AR 2 BO (AB (aV 0) (AB (aC (.int 9)) AM))) (An 3))
   Lo)
def DO:AF:=Ap 9 Iu
def Nn {a b c:PV}{Q:PV->Prop}(h:Iu ⟨λ_=>Q .non,Q,λ_=>False,λ_=>False⟩ [some (.val a),some (.val b),some (.val c),none,none,none,none,none,none]):DO [a,b,c] Q:=h
def aG {cs ds:kj C4}(h:Et cs)(e:ds.map (·.1)=cs.map (·.1)):Et ds:=by have h1:(cs.map (·.1)).Pairwise (· < ·):=ADp.mpr h;rw[<-e] at h1;exact ADp.mp h1
def mV (a b:kj C4):GA (a.map cor) (b.map cor)=(a.zip b).map λp:C4×C4=> .tup [cor p.1,cor p.2] :=by unfold GA;rw[List.zipWith_map,List.zip,List.map_zipWith]
def Mul.negQ {D N:Nat}{a:Rat}(h:Mul D N a):Mul D N (-a):=by obtain⟨b,k,rfl,hk⟩:=h;exact⟨b, -k,by rw[Rat.neg_divInt],by omega⟩
def Mul.subQ {D N M:Nat}{a b:Rat}(ha:Mul D N a)(hb:Mul D M b):Mul D (N+M) (a-b):=by rw[Rat.sub_eq_add_neg];exact ha.add (Mul.negQ hb)
def m9 {a b c:PV}:V3 [a,b,c].length 0=some 0:=by show V3 3 0=_;decide
def nA {a b c:PV}:V3 [a,b,c].length 1=some 1:=by show V3 3 1=_;decide
def nB {a b c:PV}:V3 [a,b,c].length 2=some 2:=by show V3 3 2=_;decide
def vM:PV.tup [.int (-1), .int 3] =fr (-1/3):=by unfold fr;rw[show (-1/3:Rat).num= -1 by decide +kernel,show (-1/3:Rat).den=3 by decide +kernel];rfl
abbrev OR:AS:=
 (AY (BE (Ah (AX KG (AR 2 BO (AB (aV 2) (AB (aC (.int 2)) AM))) (aC (.int 0)))) (TK 4 5 (AB (aV 5) (AB (aV 4) AM))) Av)
   (Ak (Ay (AB (aV 2) (AB (aV 4) (AB (aV 5) (AB (aV 3) AM)))))))
abbrev OQ:AS:=
 (AY (Am (AR 3 DO (AB (aV 2) (AB (aV 4) (AB (aV 3) AM)))) (An 5))
   OR)
abbrev OP:AS:=
 (AY (Am (AR 1 CJ (AB (aV 2) AM)) (An 4))
   OQ)
abbrev OO:AS:=
 (AY (Am (AR 1 DD (AB (aV 2) AM)) (An 3))
   OP)
abbrev NC:AS:=
 (AY (Am (AR 2 Ot (AB (aV 0) (AB (aV 1) AM))) (An 2))
   OO)
def Ec:AF:=Ap 6 NC
def RF {a b:PV}{Q:PV->Prop}(h:NC ⟨λ_=>Q .non,Q,λ_=>False,λ_=>False⟩ [some (.val a),some (.val b),none,none,none,none]):Ec [a,b] Q:=h
abbrev Qj:AS:=
 (AY (Am (AR 2 Eg (AB (AX Ao (AX Ao (aV 0) (TL Hl (aC (.int 1)))) (aC (.int 0))) (AB (AX Ao (AX Ao (aV 1) (TL Hl (aC (.int 1)))) (aC (.int 0))) AM))) (An 3))
   (Ak (mf (Ah (AR 2 Aj (AB (aV 2) (AB (aV 3) AM)))) (Ay (AB (aV 2) (AB (aV 3) AM))) (aC .non))))
abbrev Of:AS:=
 (AY (Am (AR 2 BR (AB (AX Ao (AX Ao (aV 0) (aC (.int 0))) (aC (.int 0))) (AB (AX Ao (AX Ao (aV 1) (aC (.int 0))) (aC (.int 0))) AM))) (An 2))
   Qj)
def Cz:AF:=Ap 4 Of
def UQ {a b:PV}{Q:PV->Prop}(h:Of ⟨λ_=>Q .non,Q,λ_=>False,λ_=>False⟩ [some (.val a),some (.val b),none,none]):Cz [a,b] Q:=h
abbrev Sv:AS:=
 (AY (Am (AR 2 Di (AB (aV 1) (AB (aV 3) AM))) (An 5))
   (Ak (FX (C1 (XO (AB (aC (.int 3)) AM)) 1 [2,4,5] (An 0) FH (AR 2 Gb (AB (AR 2 Ds (AB (AX Ao (aV 2) (aV 0)) (AB (AX Ao (aV 3) (aV 0)) AM))) (AB (AR 2 EK (AB (aV 1) (AB (aV 0) AM))) AM)))))))
abbrev RQ:AS:=
 (AY (Am (AR 2 Di (AB (aV 0) (AB (aV 3) AM))) (An 4))
   Sv)
def EI:AF:=Ap 6 RQ
def NP {a b c d:PV}{Q:PV->Prop}(h:RQ ⟨λ_=>Q .non,Q,λ_=>False,λ_=>False⟩ [some (.val a),some (.val b),some (.val c),some (.val d),none,none]):EI [a,b,c,d] Q:=h
abbrev U1:AS:=
 (AY (Du (HM (AR 4 EI (AB (aV 0) (AB (aV 1) (AB (aV 2) (AB (aV 3) AM)))))) (HD 2 (AZ (An 6) (AZ (An 7) BY))) (Am (AR 2 BR (AB (aV 5) (AB (Ay (AB (FZ TW (AB (aV 6) AM)) (AB (aV 7) AM))) AM))) (An 5)))
   (Ak (aV 5)))
abbrev U0:AS:=
 (AY (Am (Ay (AB (aC (.int 0)) (AB (aC (.int 1)) AM))) (An 5))
   U1)
abbrev Uz:AS:=
 (AY (BE (Ew (Ah (AX Nf (aV 4) (aC .non))) (Ew (Ah (AR 2 Aj (AB (aV 3) (AB (AX Ao (aV 4) (aC (.int 0))) AM)))) (Ca (Ah (AR 2 Aj (AB (aV 3) (AB (AX Ao (aV 4) (aC (.int 1))) AM))))))) (Ak (aC .non)) Av)
   U0)
abbrev Uy:AS:=
 (AY (Am (AR 2 Cz (AB (aV 0) (AB (aV 1) AM))) (An 4))
   Uz)
def Ef:AF:=Ap 8 Uy
def Ya {a b c d:PV}{Q:PV->Prop}(h:Uy ⟨λ_=>Q .non,Q,λ_=>False,λ_=>False⟩ [some (.val a),some (.val b),some (.val c),some (.val d),none,none,none,none]):Ef [a,b,c,d] Q:=h
def absR (r:Rat):Rat:=if r<0 then -r else r
def Bd.absR {n:Nat}{r:Rat}(h:Bd n r):Bd n (absR r):=by unfold PL.absR;split;exact h.neg;exact h
def Ej (p q:T3)(d:Rat×Rat):T3:=((p.1-q.1)/d.1,(p.2.1-q.2.1)/d.1,(p.2.2-q.2.2)/d.2)
def Dn (o:T3):Rat:=mx (mx (mx 0 (absR o.1)) (absR o.2.1)) (absR o.2.2)
def D7 (a l b c:C4)(m:Rat):Prop:=(¬m<a.1/\¬m<b.1)/\m<l.1/\m<c.1
instance {a l b c:C4}{m:Rat}:Decidable (D7 a l b c m):=by unfold D7;infer_instance
def fK:kc Rat->PV
 | none=> .non
 | some r=>fr r
def fH (a l b c:C4)(cs ds:kj C4)(d:Rat×Rat)(m:Rat):kc Rat:=if D7 a l b c m then some (Dn (Ej ((spotC cs m).getD (0,0,0)) ((spotC ds m).getD (0,0,0)) d)) else none
def lG {cs ds:kj C4}{v w u:PV}{d:Rat×Rat}{m:Rat}{p a:T3}(hv:BI cs v)(hw:BI ds w)(hu:ON d u)(hc:∀c∈cs,Dp 150 c)(b:∀c∈ds,Dp 150 c)(e:Et cs)(f:Et ds)(i:cs≠ [])(j:ds≠ [])(hl:cs.length<=100)(o:ds.length<=100)(bm:Bd 200 m)(b1:Bd 100 d.1)(b2:Bd 100 d.2)(p1:d.1≠0)(p2:d.2≠0)(g:spotC cs m=some p)(h:spotC ds m=some a){Q:PV->Prop}(q:Q (.lst [fr (Ej p a d).1,fr (Ej p a d).2.1,fr (Ej p a d).2.2])):EI [v,w,u,fr m] Q:=by
 have t1:=EN.spotC bm e hc p g;have t2:=EN.spotC bm f b a h;have k:=t1.x;have l:=t1.y;have n:=t1.z;have y1:=t2.x;have y2:=t2.y;have y3:=t2.z;have r:=k.sub y1;have s:=l.sub y2;have t:=n.sub y3;apply NP;ac_rfl;refine Ch hv hc e i (by omega) bm (by decide) ?_;rw[g,show SH (some p)= .tup [fr p.1,fr p.2.1,fr p.2.2] from rfl];ac_rfl;refine Ch hw b f j (by omega) bm (by decide) ?_;rw[h,show SH (some a)= .tup [fr a.1,fr a.2.1,fr a.2.2] from rfl];ac_rfl;rw[show rng 0 (Int.toNat 3)= [.int 0, .int 1, .int 2] from rfl];repeat' array_get_dec
 refine GO hu ?_;rw[AAH (by decide)];repeat' array_get_dec
 refine GO hu ?_;rw[AAH (by decide)];repeat' array_get_dec
 refine GO hu ?_;rw[AAJ (by decide)];repeat' array_get_dec
 exact q
def XM (r:Rat):PV.tup [.int (r.num.natAbs:Int), .int r.den] =fr (absR r):=oK r
def NT {a l b c:C4}{r r2:kj C4}{v w:PV}(hv:BI (a::r) v)(hw:BI (b::r2) w)(e:(a::r).getLast?=some l)(d:(b::r2).getLast?=some c)(j:Bd 3000 a.1)(k:Bd 3000 l.1)(f:Bd 3000 b.1)(g:Bd 3000 c.1){Q:PV->Prop}(h:mx a.1 b.1<mn l.1 c.1->Q (.tup [fr (mx a.1 b.1),fr (mn l.1 c.1)]))(i:¬mx a.1 b.1<mn l.1 c.1->Q .non):Cz [v,w] Q:=by
 apply UQ;ac_rfl;refine pv0 hv λx hx=> ?_;ac_rfl;refine c0 hx ?_;ac_rfl;refine pv0 hw λx hx=> ?_;ac_rfl;refine c0 hx ?_;ac_rfl;refine pvL hv e λx hx=> ?_;ac_rfl;refine c0 hx ?_;ac_rfl;refine pvL hw d λx hx=> ?_;ac_rfl;refine c0 hx ?_;ac_rfl
 .exact h ‹_›
 .exact i ‹_›
abbrev L3:AS:=
 (AY (Am (AX Qz (AX BL (aV 2) (aV 3)) (aC (.int 2))) (An 4))
   (BE (Ah (AR 2 Aj (AB (AX Ao (aV 0) (aV 4)) (AB (aV 1) AM)))) (Am (AX BL (aV 4) (aC (.int 1))) (An 2)) (Am (aV 4) (An 3))))
abbrev L5:AS:=
 (AY (MH (Ah (AX ZW (aV 2) (aV 3))) L3)
   (Ak (aV 2)))
abbrev L4:AS:=
 (AY (Am (FZ FN (AB (aV 0) AM)) (An 3))
   L5)
abbrev JB:AS:=
 (AY (Am (aC (.int 0)) (An 2))
   L4)
def DS:AF:=Ap 5 JB
def Nt {a b:PV}{Q:PV->Prop}(h:JB ⟨λ_=>Q .non,Q,λ_=>False,λ_=>False⟩ [some (.val a),some (.val b),none,none,none]):DS [a,b] Q:=h
abbrev NF:AS:=
 (AY (Am (XI (AR 2 DS (AB (aV 1) (AB (aV 2) AM)))) (An 3))
   (BE (RX (Ew (Ah (AX KG (aV 3) (FZ FN (AB (aV 1) AM)))) (Ah (AX KH (AX Ao (aV 1) (aV 3)) (aV 2))))) (Dv 1 gJ (AB (aV 3) (AB (aV 2) AM))) Av))
abbrev VI:AS:=
 (AY (Du (HM (aV 0)) (An 2) NF)
   (Ak (aV 1)))
abbrev VH:AS:=
 (AY (GN (Ci AM) 1)
   VI)
def GL:AF:=Ap 4 VH
def Ye {a:PV}{Q:PV->Prop}(h:VH ⟨λ_=>Q .non,Q,λ_=>False,λ_=>False⟩ [some (.val a),none,none,none]):GL [a] Q:=h
abbrev U6:AS:=
 (AY (XH 3 so (dz (aV 1) (aV 4) (aV 5)))
   (Dv 2 Ip (AB (Ay (AB (aV 4) (AB (aV 5) (AB (aV 3) AM)))) AM)))
abbrev U9:AS:=
 (AY (Du (HM (AR 1 GL (AB (FX (C1 (HM (FX (XJ (AB (aV 1) AM)))) 2 [] (HD 2 (AZ (An 0) (AZ (An 1) BY))) FH (aV 0))) AM))) (An 4) (Du (HM (Ay (AB (aC (.int 0)) (AB (aC (.int 1)) AM)))) (An 5) (BE (Ah (jj (aV 4) (aV 5) (aV 1))) U6 Av)))
   (Ak (aV 2)))
abbrev U8:AS:=
 (AY (Am (aC (.int 0)) (An 3))
   U9)
abbrev U7:AS:=
 (AY (GN (Ci AM) 2)
   U8)
abbrev U5:AS:=
 (AY (Am (AR 1 IQ (AB (aV 0) AM)) (An 1))
   U7)
def He:AF:=Ap 6 U5
def Yc {a:PV}{Q:PV->Prop}(h:U5 ⟨λ_=>Q .non,Q,λ_=>False,λ_=>False⟩ [some (.val a),none,none,none,none,none]):He [a] Q:=h
abbrev SX:AS:=
 (AY (Dv 2 Ip (AB (Ay (AB (AX Ao (aV 3) (aC (.int 0))) (AB (AX Ao (aV 3) (aC (.int 1))) (AB (aV 4) AM)))) AM))
   (Am (aC .non) (An 3)))
abbrev GY:AS:=
 (AY (BE (Ah (AX GR (aV 3) (aC .non))) (Dv 2 Ip (AB (Ay (AB (AX Ao (aV 3) (aC (.int 0))) (AB (AX Ao (aV 3) (aC (.int 1))) (AB (aC .non) AM)))) AM)) Av)
   (Ak (FZ Co (AB (aV 2) AM))))
abbrev SZ:AS:=
 (AY (Du (HM (AR 1 He (AB (aV 0) AM))) (HD 3 (AZ (An 4) (AZ (An 5) (AZ (An 6) BY)))) (BE (Ff (Ah (AX Nf (aV 3) (aC .non))) (Ah (AX mo (aV 6) (aV 1)))) (Am (Ay (AB (aV 4) (AB (AX Ex (aC (.int 1)) (aV 5)) AM))) (An 3)) (BE (Ff (Ah (AX GR (aV 3) (aC .non))) (Ah (AX ZW (aV 6) (aV 1)))) SX Av)))
   GY)
abbrev SY:AS:=
 (AY (Am (aC .non) (An 3))
   SZ)
abbrev RK:AS:=
 (AY (GN (Ci AM) 2)
   SY)
def E3:AF:=Ap 7 RK
def WY {a b:PV}{Q:PV->Prop}(h:RK ⟨λ_=>Q .non,Q,λ_=>False,λ_=>False⟩ [some (.val a),some (.val b),none,none,none,none,none]):E3 [a,b] Q:=h
abbrev Og:AS:=
 (Ak (AR 2 E3 (AB (aV 0) (AB (aC (.int 1)) AM))))
def EL:AF:=Ap 1 Og
def UR {a:PV}{Q:PV->Prop}(h:Og ⟨λ_=>Q .non,Q,λ_=>False,λ_=>False⟩ [some (.val a)]):EL [a] Q:=h
def ins:kj Rat->Rat->kj Rat
 | [],x=> [x]
 | q::r,x=>if q<x then q::ins r x else if q=x then q::r else x::q::r
abbrev Qr (qs:kj Rat):Prop:=qs.Pairwise (· < ·)
theorem Tp {x y:Rat}:∀{qs:kj Rat},y∈ins qs x↔y=x\/y∈qs
 | [] =>by simp[ins]
 | q::r=>by
   unfold ins;split
   .rw [AAK,Tp,AAK];grind
   .split
    .rename_i h;subst h;simp
    .simp
theorem aQ {x:Rat}:∀{qs:kj Rat},Qr qs->Qr (ins qs x)
 | [],_=>by simp[ins]
 | q::r,h=>by
   obtain⟨h1,h2⟩:=ABE.mp h;unfold ins;split
   .rename_i hq;refine ABE.mpr ⟨λy hy=> ?_,aQ h2⟩;rcases Tp.mp hy with rfl|hy
    .exact hq
    .exact h1 y hy
   .split
    .exact h
    .refine ABE.mpr ⟨λy hy=> ?_,h⟩;rcases AAK.mp hy with rfl|hy
     .grind
     .have:=h1 y hy;grind
theorem Zn {x:Rat}:∀{qs:kj Rat},(ins qs x).length<=qs.length+1
 | [] =>by simp[ins]
 | q::r=>by
   have:=Zn (x:=x) (qs:=r);unfold ins;split
   .simp;omega
   .split <;> simp
structure At (qs:List Rat) (x:Rat) (k:Nat):Prop where
 le:k<=qs.length
 lo:∀q∈qs.take k,q<x
 hi:∀q∈qs.drop k,¬q<x
theorem XQ:∀{qs:kj Rat} {x:Rat} {k:Nat},Qr qs->At qs x k->ins qs x=if qs[k]? =some x then qs else qs.take k++x::qs.drop k
 | [],x,k,_,h=>by have:=h.le;simp at this;subst this;simp[ins]
 | q::r,x,0,_,h=>by
   have:=h.hi q (by simp);unfold ins;rw[AAH this];by_cases e:q=x
   .rw [AAJ e,AAJ (by simp[e])]
   .rw [AAH e,AAH (by simp[e])];rfl
 | q::r,x,k+1,hs,h=>by have hq:=h.lo q (by simp);have ih:=XQ (qs:=r) (x:=x) (k:=k) (ABE.mp hs).2 ⟨by have:=h.le;simp at this;exact this,λy hy=>h.lo y (by simp[hy]),λy hy=>h.hi y (by simpa using hy)⟩;unfold ins;rw[AAJ hq,ih];simp only[List.getElem?_cons_succ,AEn,List.drop_succ_cons];split <;> rfl
theorem OL:∀{a b:kj Rat},Qr a->Qr b->(∀x,x∈a↔x∈b)->a=b
 | [], [],_,_,_=>rfl
 | [],y::b,_,_,h=>by have:=(h y).mpr (by simp);simp at this
 | x::a, [],_,_,h=>by have:=(h x).mp (by simp);simp at this
 | x::a,y::b,ha,hb,h=>by
   obtain⟨f,g⟩:=ABE.mp ha;obtain⟨b1,b2⟩:=ABE.mp hb;have c:x=y:=by
    rcases AAK.mp ((h x).mp (by simp)) with e|e
    .exact e
    .rcases AAK.mp ((h y).mpr (by simp)) with d|d
     .exact d.symm
     .have:=b1 x e;have:=f y d;grind
   subst c;congr 1;refine OL g b2 λz=>⟨λhz=> ?_,λhz=> ?_⟩
   .rcases AAK.mp ((h z).mp (by simp[hz])) with e|e
    .subst e;have:=f z hz;grind
    .exact e
   .rcases AAK.mp ((h z).mpr (by simp[hz])) with e|e
    .subst e;have:=b1 z hz;grind
    .exact e
def CO (xs:kj Rat):kj Rat:=xs.foldl ins []
theorem OI:∀(xs qs:kj Rat),Qr qs->Qr (xs.foldl ins qs)/\(∀y,y∈xs.foldl ins qs↔y∈xs\/y∈qs)/\(xs.foldl ins qs).length<=qs.length+xs.length
 | [],qs,h=>⟨h,by simp,by simp⟩
 | x::xs,qs,h=>by
   obtain⟨h1,h2,a⟩:=OI xs (ins qs x) (aQ h);refine⟨h1,λy=> ?_, ?_⟩
   .rw [AC0,h2,Tp,AAK];grind
   .have:=Zn (x:=x) (qs:=qs);rw[AC0,ABd];omega
def CP {xs:kj Rat}:Qr (CO xs):=(OI xs [] .nil).1
def B9 {xs:kj Rat}{y:Rat}:y∈CO xs↔y∈xs:=by rw[CO,(OI xs [] .nil).2.1];simp
def FP {xs:kj Rat}:(CO xs).length<=xs.length:=by have:=(OI xs [] .nil).2.2;unfold CO;simpa using this
def WV {a b:kj Rat}(h:∀x,x∈a↔x∈b):CO a=CO b:=OL CP CP λx=>by rw[B9,B9,h]
theorem aT:∀{qs:kj Rat} {m:Nat} {c x:Rat},Qr qs->qs[m]? =some c->c<x->∀q∈qs.take (m+1),q<x
 | [],m,c,x,_,e,_=>by simp at e
 | a::r,0,c,x,_,e,h=>by simp at e;subst e;simp[h]
 | a::r,m+1,c,x,hs,e,h=>by
   obtain⟨h1,h2⟩:=ABE.mp hs;have e':r[m]? =some c:=by simpa using e
   intro q hq;rw[AEn] at hq;rcases AAK.mp hq with rfl|hq
   .have:=h1 c (AB8 e');grind
   .exact aT h2 e' h q hq
theorem ZU:∀{qs:kj Rat} {m:Nat} {c x:Rat},Qr qs->qs[m]? =some c->¬c<x->∀q∈qs.drop m,¬q<x
 | [],m,c,x,_,e,_=>by simp at e
 | a::r,0,c,x,hs,e,h=>by
   simp at e;subst e;intro q hq;rcases AAK.mp hq with rfl|hq
   .exact h
   .have:=(ABE.mp hs).1 q hq;grind
 | a::r,m+1,c,x,hs,e,h=>by intro q hq;exact ZU (ABE.mp hs).2 (by simpa using e) h q (by simpa using hq)
def eZ {qs:kj Rat}{x:Rat}{B M:Nat}(hs:Qr qs)(hl:qs.length<=1000000)(hq:∀q∈qs,Bd B q)(hx:Bd M x)(r:B<=4000)(hM:M<=4000){Q:PV->Prop}(q:∀k:Nat,At qs x k->Q (.int k)):DS [.lst (qs.map fr),fr x] Q:=by
 apply Nt;repeat' array_get_dec
 refine vS (λn τ=>∃(lo hi:Nat) (z:kc AV),hi-lo<n/\lo<=hi/\hi<=qs.length/\(∀q∈qs.take lo,q<x)/\(∀q∈qs.drop hi,¬q<x)/\τ= [some (.val (.lst (qs.map fr))),some (.val (fr x)),some (.val (.int lo)),some (.val (.int hi)),z]) ?_ ?_ (n:=qs.length+1) ⟨0,qs.length,none,by omega,by omega,by omega,by simp,by simp,rfl⟩
 .rintro n τ R d ⟨lo,hi,z,h1,h2,i,f,g,rfl⟩;have j:frz [some (.val (.lst (qs.map fr))),some (.val (fr x)),some (.val (.int lo)),some (.val (.int hi)),z] = [some (.val (.lst (qs.map fr))),some (.val (fr x)),some (.val (.int lo)),some (.val (.int hi)),j5 z] :=rfl;rw[j];repeat' array_get_dec
  .rename_i l;refine⟨⟨by decide,by decide⟩, ?_⟩;have o:((lo:Int)+hi).fdiv 2=((lo+hi)/2:Nat):=by rw[ADS _ (by decide)];omega
   rw[o];have m1:(lo+hi)/2<hi:=by omega
   have m2:lo<=(lo+hi)/2:=by omega
   generalize (lo+hi)/2=m at *;repeat' array_get_dec
   rename_i c p hc;have a:qs[m]? =some c:=p;have s:=hq c hc;repeat' array_get_dec
   .rename_i b;refine d _ ⟨m+1,hi,_,by omega,by omega,i,aT hs a b,g,rfl⟩
   .rename_i b;refine d _ ⟨lo,m,_,by omega,m2,by omega,f,ZU hs a b,rfl⟩
  .rename_i l;have e:lo=hi:=by omega
   subst e;exact q lo ⟨by omega,f,g⟩
 .rintro τ ⟨lo,hi,z,h,_⟩;omega
def R0 {v:PV}{xs:kj Rat}{B:Nat}(hv:v= .lst (xs.map fr)\/v= .tup (xs.map fr))(hl:xs.length<=1000)(hx:∀x∈xs,Bd B x)(m:B<=4000){Q:PV->Prop}(q:Q (.lst ((CO xs).map fr))):GL [v] Q:=by
 apply Ye;have key:∀{b f:kc AV},Eh (An 2) NF ⟨Ak (aV 1) ⟨λ_=>Q .non,Q,λ_=>False,λ_=>False⟩,Q,λ_=>False,λ_=>False⟩ (xs.map fr) [some (.val v),some (.own []),b,f] :=by
  intro b f;refine B6 fr (λa vs τ=>∃b f,τ= [some (.val v),some (.own ((CO a).map fr)),b,f]) ?_ ?_ ⟨_,_,rfl⟩
  .rintro τ ⟨b,f,rfl⟩;repeat' array_get_dec
   exact q
  .rintro a c vs e τ R n ⟨b,f,rfl⟩;have ul:a.length<=1000:=by have:=congrArg List.length e;simp at this;omega
   have r:=FP (xs:=a);have o:∀y∈CO a,Bd B y:=λy hy=>hx y (by rw[<-e];simp[B9.mp hy]);have p:Bd B c:=hx c (by rw[<-e];simp);have g:∀(ws:kj Rat) b f,ws=ins (CO a) c->R [some (.val v),some (.own (ws.map fr)),b,f] :=λws b f h=>n _ ⟨b,f,by rw[h,show CO (a ++ [c])=ins (CO a) c by unfold CO;rw[AEH];rfl]⟩;repeat' array_get_dec
   refine eZ CP (by omega) o p m m λk hk=> ?_;have s:=hk.le;have j:=XQ CP hk;repeat' array_get_dec
   .rename_i h1;have l:(CO a)[k]? =none:=AFn (by omega);rw[l,AAH (by simp)] at j;have:=g _ (some (.val (fr c))) (some (.val (.int k))) j.symm;rw[ABV,ABJ,AEA,ADl] at this;exact this
   .rename_i h1 d l _ h2;have i:(CO a)[k]? =some d:=l;rw[i,AAH (by simpa using h2)] at j;have:=g _ (some (.val (fr c))) (some (.val (.int k))) j.symm;rw[ABV,ABJ,AEA,ADl] at this;exact this
   .rename_i h1 d l _ h2;have i:(CO a)[k]? =some d:=l;rw[i,AAJ (by rw[h2])] at j;exact g _ _ _ j.symm
 rcases hv with rfl|rfl;all_goals
  ac_rfl;exact key
abbrev Pl:=Rat×Int
abbrev BX:=Rat×Int×kc Rat
def bp (s:BX):Pl:=(s.1,1-s.2.1)
def ep (s:BX):kc Pl:=s.2.2.map λe=>(e,0)
def Fl (p:Pl):FK:=((p.1.num,p.1.den),p.2)
def Ti {p q:Pl}(h:Fl p=Fl q):p=q:=by obtain⟨a,i⟩:=p;obtain⟨b,j⟩:=q;unfold Fl at h;simp only[AEy,Int.ofNat_inj] at h;obtain⟨⟨h1,h2⟩,c⟩:=h;have:a=b:=Rat.ext h1 h2;rw[this,c]
def TU:kc Rat->PV|none=> .non|some e=>fr e
def BW (s:BX):PV:= .tup [fr s.1, .int s.2.1,TU s.2.2]
def ur (s:BX):PV:= .lst [fr s.1, .int s.2.1,TU s.2.2]
def qU {s:BX}{x:PV}(h:x=BW s\/x=ur s):WW x=some ((s.1.num,(s.1.den:Int)),s.2.1,s.2.2.map λe=>(e.num,(e.den:Int))):=by obtain⟨b,i,e⟩:=s;rcases h with rfl|rfl <;> cases e <;> rfl
def jD {m:kj (FK×Int)}{k a:FK}{v:Int}:BQ (RE m k v) a=if a=k then some v else BQ m a:=by
 unfold RE;by_cases hk:(m.any λp=>decide (p.1=k))=true
 .rw [AAJ hk];induction m with
  | nil=>simp at hk
  | cons p r ih=>
    by_cases e:p.1=k
    .by_cases e':a=k
     .subst e';simp[BQ,e]
     .have:¬k=a:=λz=>e' z.symm;by_cases c:(r.any λp=>decide (p.1=k))=true
      .have:=ih c;simpa[BQ,e,e',this, ‹¬k=a›] using this
      .have d:r.map (λp=>if p.1=k then (p.1,v) else p)=r:=by
        conv=>rhs;rw[<-List.map_id r]
        apply ADG;intro q hq;have:¬q.1=k:=λz=>c (AEI.mpr ⟨q,hq,by simpa using z⟩);rw[AAH this];rfl
       simp only[ABJ,e,AB2,d];simp[BQ,e,e',this]
    .have c:(r.any λp=>decide (p.1=k))=true:=by simpa[e] using hk
     have:=ih c;by_cases b:p.1=a
     .have:¬a=k:=λz=>e (b.trans z);simp[BQ,e,b,this]
     .simpa [BQ,e,b] using this
 .rw [AAH hk];induction m with
  | nil=>
    by_cases e':a=k
    .subst e';simp[BQ]
    .have:¬k=a:=λz=>e' z.symm;simp[BQ,e',this]
  | cons p r ih=>
    have e:¬p.1=k:=λz=>hk (by simp[z]);have c:¬(r.any λp=>decide (p.1=k))=true:=λz=>hk (by simp only[ABr,z,Bool.or_true]);have:=ih c;by_cases b:p.1=a
    .have:¬a=k:=λz=>e (b.trans z);simp[BQ,b,this]
    .simpa [BQ,b] using this
def kb {m:kj (FK×Int)}{k a:FK}{v:Int}:a∈(RE m k v).map (·.1)↔a=k\/a∈m.map (·.1):=by
 unfold RE;split
 .rename_i hk;obtain⟨q,hq,e⟩:=AEI.mp hk;have e:q.1=k:=by simpa using e
  have:(m.map λp=>if p.1=k then (p.1,v) else p).map (·.1)=m.map (·.1):=by rw[ACa];apply ADG;intro p _;by_cases z:p.1=k <;> simp[z]
  rw[this];refine⟨.inr,λh=>h.elim (λz=> ?_) id⟩;rw[z,<-e];exact ABG.mpr ⟨q,hq,rfl⟩
 .rw [ABV,ABI];simp only[ABJ,ADd,ACU];exact Or.comm
def mT {m:kj (FK×Int)}{k:FK}:(BQ m k).isSome=true↔k∈m.map (·.1):=by
 unfold BQ;rw[AEE,List.find?_isSome,ABG];constructor
 .rintro ⟨p,hp,e⟩;exact⟨p,hp,by simpa using e⟩
 .rintro ⟨p,hp,e⟩;exact⟨p,hp,by simpa using e⟩
def Pr (s:BX)(p:Pl):Int:=(if bp s=p then 1 else 0)-(if ep s=some p then 1 else 0)
def cnt (ss:kj BX)(p:Pl):Int:=(ss.map λs=>Pr s p).sum
def LC (ss:kj BX)(p:Pl):Prop:=∃s∈ss,bp s=p\/ep s=some p
def MQ {m:kj (FK×Int)}{k a:FK}{d:Int}:(BQ (bump m k d) a).getD 0=(BQ m a).getD 0+if a=k then d else 0:=by
 unfold bump;rw[jD];by_cases e:a=k
 .subst e;simp
 .simp [e]
def Pe {m:kj (FK×Int)}{k a:FK}{d:Int}:a∈(bump m k d).map (·.1)↔a=k\/a∈m.map (·.1):=kb
inductive HC:List PV->List BX->Prop where
 | nil:HC [] []
 | cons {x:PV} {s:BX} {xs:List PV} {ss:List BX} (h:x=BW s\/x=ur s) (t:HC xs ss):HC (x::xs) (s::ss)
def HC.length:∀{xs:kj PV} {ss:kj BX},HC xs ss->xs.length=ss.length
 | _,_, .nil=>rfl
 | _,_, .cons _ t=>by simp[t.length]
def R3 (ss:kj BX):HC (ss.map BW) ss:=by
 induction ss with
 | nil=>exact .nil
 | cons s ss ih=>exact .cons (.inl rfl) ih
def Wr {m:kj (FK×Int)}{s:BX}:(∀p,(BQ (G4 m (s.1.num,(s.1.den:Int)) s.2.1 (s.2.2.map λe=>(e.num,(e.den:Int)))) (Fl p)).getD 0=(BQ m (Fl p)).getD 0+Pr s p)/\ ∀k,k∈(G4 m (s.1.num,(s.1.den:Int)) s.2.1 (s.2.2.map λe=>(e.num,(e.den:Int)))).map (·.1)↔k∈m.map (·.1)\/∃p,(bp s=p\/ep s=some p)/\k=Fl p:=by
 obtain⟨b,h,e⟩:=s;have a:∀p:Pl,(Fl p=((b.num,(b.den:Int)),1-h))↔bp (b,h,e)=p:=λp=>⟨λz=>(Ti (p:=p) (q:=(b,1-h)) z).symm,λz=>by rw[<-z];rfl⟩;cases e with
 | none=>
   refine⟨λp=> ?_,λk=> ?_⟩
   .show (BQ (bump m ((b.num,(b.den:Int)),1-h) 1) (Fl p)).getD 0=_;rw[MQ];simp only[a,Pr,ep];simp
   .show k∈(bump m ((b.num,(b.den:Int)),1-h) 1).map (·.1)↔_;rw[Pe];constructor
    .rintro (z|z)
     .exact .inr ⟨_, .inl rfl,z⟩
     .exact .inl z
    .rintro (z|⟨p,z|z,hk⟩)
     .exact .inr z
     .exact .inl (by rw[hk,<-z];rfl)
     .cases z
 | some e=>
   have c:∀p:Pl,(Fl p=((e.num,(e.den:Int)),0))↔ep (b,h,some e)=some p:=λp=>⟨λz=>by rw[<-Ti (p:=(e,0)) (q:=p) z.symm];rfl,λz=>by cases z;rfl⟩;refine⟨λp=> ?_,λk=> ?_⟩
   .show (BQ (bump (bump m ((b.num,(b.den:Int)),1-h) 1) ((e.num,(e.den:Int)),0) (-1)) (Fl p)).getD 0=_;rw[MQ,MQ];simp only[a,c,Pr];split <;> split <;> omega
   .show k∈(bump (bump m ((b.num,(b.den:Int)),1-h) 1) ((e.num,(e.den:Int)),0) (-1)).map (·.1)↔_;rw[Pe,Pe];constructor
    .rintro (z|z|z)
     .exact .inr ⟨(e,0), .inr rfl,z⟩
     .exact .inr ⟨_, .inl rfl,z⟩
     .exact .inl z
    .rintro (z|⟨p,z|z,hk⟩)
     .exact .inr (.inr z)
     .exact .inr (.inl (by rw[hk,<-z];rfl))
     .exact .inl (by rw[hk];exact(c p).mpr z)
theorem SL:∀{xs:kj PV} {ss:kj BX} (m0:kj (FK×Int)),HC xs ss->∃m,F9 xs m0=some m/\(∀p,(BQ m (Fl p)).getD 0=(BQ m0 (Fl p)).getD 0+cnt ss p)/\(∀k,k∈m.map (·.1)↔k∈m0.map (·.1)\/∃p,LC ss p/\k=Fl p)/\m.length<=m0.length+2*ss.length
 | _,_,m0, .nil=>⟨m0,rfl,λp=>by simp[cnt],λk=>by simp[LC],by simp⟩
 | x::xs,s::ss,m0, .cons h t=>by
   obtain⟨m,h1,h2,d,f⟩:=SL (G4 m0 (s.1.num,(s.1.den:Int)) s.2.1 (s.2.2.map λe=>(e.num,(e.den:Int)))) t;obtain⟨t1,t2⟩:=Wr (m:=m0) (s:=s);refine⟨m, ?_,λp=> ?_,λk=> ?_, ?_⟩
   .unfold F9;rw[qU h];exact h1
   .rw [h2,t1];simp[cnt];omega
   .rw [d,t2];constructor
    .rintro ((z|⟨p,z,e⟩)|⟨p,⟨c,a,z⟩,e⟩)
     .exact .inl z
     .exact .inr ⟨p,⟨s,by simp,z⟩,e⟩
     .exact .inr ⟨p,⟨c,by simp[a],z⟩,e⟩
    .rintro (z|⟨p,⟨c,a,z⟩,e⟩)
     .exact .inl (.inl z)
     .rcases AAK.mp a with rfl|a
      .exact .inl (.inr ⟨p,z,e⟩)
      .exact .inr ⟨p,⟨c,a,z⟩,e⟩
   .have:=NR (m:=m0) (b:=(s.1.num,(s.1.den:Int))) (h:=s.2.1) (e:=s.2.2.map λe=>(e.num,(e.den:Int)));simp only[ABd];omega
def QV (x p:Pl):da:=decide (x.1<p.1)||(decide (x.1=p.1)&&decide (x.2<=p.2))
def A9 (s:BX)(p:Pl):da:=(decide (s.1<p.1)||(decide (s.1=p.1)&&decide (0<s.2.1+p.2)))&&(match s.2.2 with | none=>true|some e=>decide (p.1<e))
structure B4 (B:Nat) (s:BX):Prop where
 b:Bd B s.1
 h:s.2.1=0\/s.2.1=1
 e:∀e,s.2.2=some e->s.1<e/\Bd B e
def tm (s:BX)(p:Pl):Int:=(if QV (bp s) p=true then 1 else 0)-(if (ep s).any (QV · p)=true then 1 else 0)
def vN {B:Nat}{s:BX}{p:Pl}(ok:B4 B s)(hp:0<=p.2):tm s p=if A9 s p=true then 1 else 0:=by
 obtain⟨b,h,e⟩:=s;obtain⟨q,i⟩:=p;have g:h=0\/h=1:=ok.h;have hp:0<=i:=hp;have d:QV (bp (b,h,e)) (q,i)=(decide (b<q)||(decide (b=q)&&decide (0<h+i))):=by unfold QV bp;congr 2;exact AC6.mpr (by show 1-h<=i↔0<h+i;omega)
 cases e with
 | none=> unfold tm A9;rw[d];simp[ep]
 | some e=>
   have j:b<e:=(ok.e e rfl).1;have f:(ep (b,h,some e)).any (QV · (q,i))= !decide (q<e):=by
    show QV (e,0) (q,i)=_;unfold QV;by_cases z:q<e
    .have a:¬e<q:=by grind
     have c:¬e=q:=by grind
     simp[z,a,c]
    .by_cases a:e<q
     .simp [z,a]
     .have c:e=q:=by grind
      simp[c,hp]
   unfold tm A9;rw[d,f];by_cases z:q<e
   .simp [z]
   .have a:b<q:=by grind
    simp[z,a]
def Hn (ss:kj BX)(p:Pl):Nat:=(ss.filter (A9 · p)).length
theorem Xk {B:Nat}{p:Pl}(hp:0<=p.2):∀{ss:kj BX},(∀s∈ss,B4 B s)->(Hn ss p:Int)=(ss.map λs=>tm s p).sum
 | [],_=>rfl
 | s::ss,h=>by
   have ih:=Xk hp (ss:=ss) λx hx=>h x (by simp[hx]);have e:=vN (p:=p) (h s (by simp)) hp;rw[ABJ,AD9,<-ih,e];unfold Hn;rw[ABg];split
   .simp;omega
   .simp
def N9 (x p:Pl):Prop:=x.1<p.1\/(x.1=p.1/\x.2<p.2)
def MZ {a b c:Pl}(h:N9 a b)(h2:N9 b c):N9 a c:=by
 unfold N9 at *;rcases h with h|⟨h,h'⟩ <;> rcases h2 with h2|⟨h2,d⟩
 .left;grind
 .left;grind
 .left;grind
 .right;exact⟨by grind,by omega⟩
def Ht {x p:Pl}:QV x p=true↔N9 x p\/x=p:=by
 obtain⟨a,i⟩:=x;obtain⟨b,j⟩:=p;unfold QV N9;simp only[ADI,ACA,AEJ,AEy];constructor
 .rintro (h|⟨h,h2⟩)
  .exact .inl (.inl h)
  .by_cases e:i=j
   .exact .inr ⟨h,e⟩
   .exact .inl (.inr ⟨h,by omega⟩)
 .rintro ((h|⟨h,h2⟩)|⟨h,h2⟩)
  .exact .inl h
  .exact .inr ⟨h,by omega⟩
  .exact .inr ⟨h,by omega⟩
def OA {p:Pl}:¬N9 p p:=by
 unfold N9;rintro(h|⟨_,h⟩)
 .grind
 .omega
def V5 (x:Pl):kc Pl->da|none=>false|some p=>QV x p
def mP (s:BX)(o:kc Pl):Int:=(if V5 (bp s) o=true then 1 else 0)-(if (ep s).any (V5 · o)=true then 1 else 0)
def xh:kc Pl->Pl->Prop|none,_=>True|some q,p=>N9 q p
def Lf {x p:Pl}{o:kc Pl}(hx:V5 x o=true\/x=p\/N9 p x)(a:xh o p):QV x p=(V5 x o||decide (x=p))/\¬(V5 x o=true/\x=p):=by
 have h1:V5 x o=true->N9 x p:=λh=>by
  cases o with
  | none=>cases h
  | some q=>rcases Ht.mp h with h|h
            .exact MZ h a
            .rw [h];exact a
 refine⟨?_,λh=>by rw[h.2] at h1;exact OA (h1 (h.2 ▸ h.1))⟩;rw[AB6,ADI,AEJ,Ht];constructor
 .rintro (h|h)
  .rcases hx with z|z|z
   .exact .inl z
   .exact .inr z
   .exact absurd (MZ h z) OA
  .exact .inr h
 .rintro (h|h)
  .exact .inl (h1 h)
  .exact .inr h
def fi {A:da}{E:Prop}[Decidable E](h:¬(A=true/\E)):(if (A||decide E)=true then (1:Int) else 0)=(if A=true then 1 else 0)+if E then 1 else 0:=by cases A <;> by_cases e:E <;> simp_all
def mQ {s:BX}{p:Pl}{o:kc Pl}(hb:V5 (bp s) o=true\/bp s=p\/N9 p (bp s))(he:∀x,ep s=some x->V5 x o=true\/x=p\/N9 p x)(a:xh o p):tm s p=mP s o+Pr s p:=by
 obtain⟨b1,b2⟩:=Lf hb a;unfold tm mP Pr;rw[b1,fi b2];cases e:ep s with
 | none=>simp
 | some x=>
   obtain⟨b,c⟩:=Lf (he x e) a;have h1:(if (some x).any (QV · p)=true then (1:Int) else 0)=(if V5 x o=true then 1 else 0)+if x=p then 1 else 0:=by show (if QV x p=true then (1:Int) else 0)=_;rw[b,fi c]
   rw[h1];show _=(_-(if V5 x o=true then (1:Int) else 0))+(_-(if some x=some p then (1:Int) else 0));have h2:(if some x=some p then (1:Int) else 0)=if x=p then 1 else 0:=by by_cases z:x=p <;> simp[z]
   rw[h2];omega
def aq (X:kj Pl):Prop:=X.Pairwise N9
def JZ (ss:kj BX):Int->kj Pl->Prop
 | _, [] =>True
 | c,p::r=>(Hn ss p:Int)=c+cnt ss p/\JZ ss (Hn ss p) r
theorem aR {a:Type}(f g:a->Int):∀xs:kj a,(xs.map λx=>f x+g x).sum=(xs.map f).sum+(xs.map g).sum
 | [] =>rfl
 | x::xs=>by simp only[ABJ,AD9,aR f g xs];omega
theorem O9 {B:Nat}{ss:kj BX}(ok:∀s∈ss,B4 B s):∀(X:kj Pl) (o:kc Pl),aq X->(∀p∈X,xh o p/\0<=p.2)->(∀s∈ss,(V5 (bp s) o=true\/bp s∈X)/\∀x,ep s=some x->V5 x o=true\/x∈X)->JZ ss ((ss.map λs=>mP s o).sum) X
 | [],_,_,_,_=>True.intro
 | p::r,o,hs,ho,hk=>by
   obtain⟨h1,h2⟩:=ABE.mp hs;obtain⟨op,a⟩:=ho p (by simp);have cls:∀x,(V5 x o=true\/x∈p::r)->V5 x o=true\/x=p\/N9 p x:=λx h=>by
    rcases h with h|h
    .exact .inl h
    .rcases AAK.mp h with h|h
     .exact .inr (.inl h)
     .exact .inr (.inr (h1 x h))
   have e:(Hn ss p:Int)=(ss.map λs=>mP s o).sum+cnt ss p:=by rw[Xk a ok];unfold cnt;rw[<-aR];congr 1;apply ADG;intro s hs;exact mQ (cls _ (hk s hs).1) (λx ex=>cls x ((hk s hs).2 x ex)) op
   refine⟨e, ?_⟩;have:=O9 ok r (some p) h2 (λq hq=>⟨h1 q hq,(ho q (by simp[hq])).2⟩) (λs hs=>⟨?_,λx ex=> ?_⟩)
   .rw [show (ss.map λs=>mP s (some p)).sum=(Hn ss p:Int) from(Xk a ok).symm] at this;exact this
   .rcases cls _ (hk s hs).1 with z|z|z
    .exact .inl (by rw[show V5 (bp s) (some p)=QV (bp s) p from rfl,(Lf (.inl z) op).1,z];rfl)
    .exact .inl (Ht.mpr (.inr z))
    .rcases (hk s hs).1 with y|y
     .exact .inl (by rw[show V5 (bp s) (some p)=QV (bp s) p from rfl,(Lf (.inl y) op).1,y];rfl)
     .rcases AAK.mp y with y|y
      .exact .inl (Ht.mpr (.inr y))
      .exact .inr y
   .rcases (hk s hs).2 x ex with y|y
    .exact .inl (by rw[show V5 x (some p)=QV x p from rfl,(Lf (.inl y) op).1,y];rfl)
    .rcases AAK.mp y with y|y
     .exact .inl (Ht.mpr (.inr y))
     .exact .inr y
def places (qs:kj Rat):kj Pl:=qs.flatMap λq=> [(q,0),(q,1)]
def Bl {qs:kj Rat}{p:Pl}:p∈places qs↔p.1∈qs/\(p.2=0\/p.2=1):=by
 obtain⟨a,i⟩:=p;unfold places;simp only[ACV,AAK,ABR,ABS,AEy];constructor
 .rintro ⟨q,hq,⟨rfl,rfl⟩|⟨rfl,rfl⟩⟩
  .exact ⟨hq, .inl rfl⟩
  .exact ⟨hq, .inr rfl⟩
 .rintro ⟨h,h2⟩;exact⟨a,h,h2.elim (λz=> .inl ⟨rfl,z⟩) (λz=> .inr ⟨rfl,z⟩)⟩
theorem EW:∀{qs:kj Rat},Qr qs->aq (places qs)
 | [],_=>List.Pairwise.nil
 | q::r,h=>by
   obtain⟨h1,h2⟩:=ABE.mp h;have ih:=EW h2;have a:∀(i:Int),∀p∈places r,N9 (q,i) p:=λi p hp=> .inl (h1 _ (Bl.mp hp).1);show aq ((q,0)::(q,1)::places r);refine ABE.mpr ⟨λp hp=> ?_,ABE.mpr ⟨a 1,ih⟩⟩;rcases AAK.mp hp with rfl|hp
   .exact .inr ⟨rfl,by show (0:Int)<1;decide⟩
   .exact a 0 p hp
def Bu (ss:kj BX):kj Rat:=ss.flatMap λs=>s.1::s.2.2.toList
def DW (ss:kj BX):kj Pl:=places (CO (Bu ss))
def Pf {B:Nat}{ss:kj BX}(ok:∀s∈ss,B4 B s){s:BX}(hs:s∈ss):bp s∈DW ss/\∀x,ep s=some x->x∈DW ss:=by
 refine⟨Bl.mpr ⟨B9.mpr (ACV.mpr ⟨s,hs,by simp[bp]⟩), ?_⟩,λx ex=> ?_⟩
 .have:=(ok s hs).h;unfold bp;simp only;omega
 .obtain ⟨e,he,rfl⟩:=ADY.mp ex;exact Bl.mpr ⟨B9.mpr (ACV.mpr ⟨s,hs,by simp[he]⟩), .inl rfl⟩
def Hj {B:Nat}{ss:kj BX}(ok:∀s∈ss,B4 B s):JZ ss 0 (DW ss):=by
 have h:=O9 ok (DW ss) none (EW CP) (λp hp=>⟨True.intro,by rcases (Bl.mp hp).2 with z|z <;> omega⟩) (λs hs=>⟨.inr (Pf ok hs).1,λx ex=> .inr ((Pf ok hs).2 x ex)⟩);have:(ss.map λs=>mP s none).sum=0:=by
  clear h ok;induction ss with
  | nil=>rfl
  | cons s ss ih=> rw[ABJ,AD9,ih];unfold mP;cases ep s <;> rfl
 rw[this] at h;exact h
def Cr (val:Pl->kc Int)(st:kj (Pl×Int)×Int)(p:Pl):kj (Pl×Int)×Int:=match val p with | some v=>(st.1 ++ [(p,st.2+v)],st.2+v)|none=>st
theorem Ur {ss:kj BX}{val:Pl->kc Int}(h1:∀p v,val p=some v->v=cnt ss p)(h2:∀p,val p=none->cnt ss p=0):∀(X:kj Pl) (a:kj (Pl×Int)) (c:Int),JZ ss c X->(X.foldl (Cr val) (a,c)).1=a++(X.filter λp=>(val p).isSome).map λp=>(p,(Hn ss p:Int))
 | [],a,c,_=>by simp
 | p::r,a,c,h=>by
   rw[AC0];cases e:val p with
   | none=>
     have hc:(Hn ss p:Int)=c:=by rw[h.1,h2 p e];omega
     rw[show Cr val (a,c) p=(a,c) by unfold Cr;rw[e],Ur h1 h2 r a c (hc ▸ h.2),ABg,AAH (by rw[e];decide)]
   | some v=>
     have hc:c+v=(Hn ss p:Int):=by rw[h.1,h1 p v e]
     rw[show Cr val (a,c) p=(a ++ [(p,c+v)],c+v) by unfold Cr;rw[e],hc,Ur h1 h2 r _ _ h.2,ABg,AAJ (by rw[e];rfl),ABJ,ADo];rfl
section
variable {ta tb td:AE}{r:AA}{τ:BD}{Q:PV->Prop}{QL:kj PV->Prop}{m:kj (FK×Int)}
def uT (xs:kj PV)(Q:kj PV->Prop):Prop:=match xs with | [.dct kvs] =>Q (kvs.map λp=>Xs p.1)|_=>False
instance v7:Wp (XJ r τ QL) (r τ λxs=>uT xs QL):=⟨id⟩
instance yo:Wp (uT [.dct m] QL) (QL (m.map λp=>Xs p.1)):=⟨id⟩
class ji (m:List (FK×Int)) (k:FK) (i:outParam Int):Prop where
 e:BQ m k=some i
def xk (m:kj (FK×Int))(k:FK)(Q:PV->Prop):Prop:=match BQ m k with | some i=>Q (.int i)|none=>False
instance AAq:Wp (jj ta tb td τ Q) (ta τ λx=>tb τ λy=>td τ λm=>rf m λa=>Pq x y λk=>Q (.bl (BQ a k).isSome)):=⟨id⟩
instance yi:Wp (dz td ta tb τ Q) (td τ λm=>ta τ λx=>tb τ λy=>rf m λa=>Pq x y λk=>xk a k Q):=⟨id⟩
instance AAt {k:FK}{i:Int}[h:ji m k i] :Wp (xk m k Q) (Q (.int i)):=⟨λz=>by unfold xk;rw[h.e];exact z⟩
instance AAs {R:kj (FK×Int)->Prop}:Wp (rf (.dct m) R) (R m):=⟨id⟩
instance v9 {q:Rat}{i:Int}{R:FK->Prop}:Wp (Pq (fr q) (.int i) R) (R (Fl (q,i))):=⟨id⟩
end
def il {v:PV}{xs:kj PV}{m:kj (FK×Int)}(hv:v= .tup xs\/v= .lst xs)(hl:xs.length<=1000)(h:F9 xs [] =some m){Q:PV->Prop}(q:Q (.dct m)):IQ [v] Q:=by
 have hz:2*xs.length+2<sizeLine:=ACJ (by omega:_<=2002) (ABb (by decide:2002<2003) (ACc rfl));rcases hv with rfl|rfl
 .exact ⟨hz,m,h,q⟩
 .exact ⟨hz,m,h,q⟩
def un (k:FK):Rat:=mkRat k.1.1 k.1.2.toNat
def qy (p:Pl):un (Fl p)=p.1:=by unfold un Fl;show mkRat p.1.num ((p.1.den:Int).toNat)=p.1;rw[ADc];exact Rat.mkRat_self p.1
def pJ (p:Pl):Xs (Fl p)= .tup [fr p.1, .int p.2] :=rfl
def vx (x:Pl×Int):PV:= .tup [fr x.1.1, .int x.1.2, .int x.2]
def Tn (ss:kj BX)(key:Pl->da):kj (Pl×Int):=((DW ss).filter key).map λp=>(p,(Hn ss p:Int))
def cE {v:PV}{xs:kj PV}{ss:kj BX}{B:Nat}(hv:v= .tup xs\/v= .lst xs)(F:HC xs ss)(ok:∀s∈ss,B4 B s)(hl:ss.length<=400)(I:B<=4000){Q:PV->Prop}(q:∀key:Pl->da,(∀p,key p=true↔LC ss p)->Q (.lst ((Tn ss key).map vx))):He [v] Q:=by
 obtain⟨m,t1,t2,D,J⟩:=SL [] F;have hx:=F.length;have K:∀p:Pl,(BQ m (Fl p)).isSome=true↔LC ss p:=λp=>by
  rw[mT,D];constructor
  .rintro (z|⟨S,z,e⟩)
   .cases z
   .rw [Ti e];exact z
  .exact λz=> .inr ⟨p,z,rfl⟩
 have G:=q (λp=>(BQ m (Fl p)).isSome) K;have i:∀p w,BQ m (Fl p)=some w->w=cnt ss p:=λp w e=>by have:=t2 p;rw[e] at this;simpa[BQ] using this
 have M:∀p,BQ m (Fl p)=none->cnt ss p=0:=λp e=>by have:=t2 p;rw[e] at this;simp[BQ] at this;omega
 have N:=Ur i M (DW ss) [] 0 (Hj ok);have mk:∀k∈m,∃p,k.1=Fl p/\LC ss p:=λk hk=>by
  rcases (D k.1).mp (ABG.mpr ⟨k,hk,rfl⟩) with z|⟨p,z,e⟩
  .cases z
  .exact ⟨p,e,z⟩
 have ms:∀x,x∈m.map (λk=>un k.1)↔x∈Bu ss:=λx=>by
  rw[ABG];unfold Bu;rw[ACV];constructor
  .rintro ⟨k,hk,rfl⟩;obtain⟨p,e,s,hs,z⟩:=mk k hk;rw[e,qy];refine⟨s,hs, ?_⟩;rcases z with z|z
   .rw [<-z];simp[bp]
   .obtain ⟨e',he,rfl⟩:=ADY.mp z;simp[he]
  .rintro ⟨s,hs,hx⟩;have go:∀p:Pl,LC ss p->∃a∈m,un a.1=p.1:=λp hp=>by obtain⟨a,ha,e⟩:=ABG.mp ((D (Fl p)).mpr (.inr ⟨p,hp,rfl⟩));exact⟨a,ha,by rw[e,qy]⟩
   rcases AAK.mp hx with rfl|hx
   .exact go (bp s) ⟨s,hs, .inl rfl⟩
   .have hx:s.2.2=some x:=by simpa using hx
    exact go (x,0) ⟨s,hs, .inr (by unfold ep;rw[hx];rfl)⟩
 have bm:∀x∈m.map (λk=>un k.1),Bd B x:=λx h=>by
  obtain⟨s,hs,hx⟩:=ACV.mp ((ms x).mp h);rcases AAK.mp hx with rfl|hx
  .exact (ok s hs).b
  .exact ((ok s hs).e x (by simpa using hx)).2
 have H:CO (m.map λk=>un k.1)=CO (Bu ss):=WV ms;have T:m.length<=800:=by simp at J;omega
 apply Yc;ac_rfl;refine il hv (by omega) t1 ?_;ac_rfl;refine Dx (λk:FK×Int=>Xs k.1) fr (λk=>un k.1) (λk=>k∈m) (λk hk R A=> ?_) m [] (λ_ h=>h) ?_
 .obtain ⟨p,e,_⟩:=mk k hk;rw[e,qy] at A;rw[e,pJ];repeat' array_get_dec
  exact A
 ac_rfl;rw[ACE];refine R0 (.inl rfl) (by rw[ABL];omega) bm I ?_;rw[H];have U:(CO (Bu ss)).length<=800:=by rw[<-H];exact ABT FP (by rw[ABL];omega)
 ac_rfl;refine B6 fr (λd vs τ=>∃t y,τ= [some (.val v),some (.val (.dct m)),some (.own (((places d).foldl (Cr λp=>BQ m (Fl p)) ([],0)).1.map vx)),some (.val (.int ((places d).foldl (Cr λp=>BQ m (Fl p)) ([],0)).2)),t,y]) ?_ ?_ ⟨_,_,rfl⟩
 .rintro τ ⟨t,y,rfl⟩;repeat' array_get_dec
  have e:Tn ss (λp=>(BQ m (Fl p)).isSome)=((places (CO (Bu ss))).foldl (Cr λp=>BQ m (Fl p)) ([],0)).1:=by rw[show places (CO (Bu ss))=DW ss from rfl,N];rfl
  rw[e] at G;exact G
 .rintro d c vs e τ R A ⟨t,y,rfl⟩;have ep:places (d ++ [c])=places d ++ [(c,0),(c,1)] :=by unfold places;simp
  have es:(places (d ++ [c])).foldl (Cr λp=>BQ m (Fl p)) ([],0)=Cr (λp=>BQ m (Fl p)) (Cr (λp=>BQ m (Fl p)) ((places d).foldl (Cr λp=>BQ m (Fl p)) ([],0)) (c,0)) (c,1):=by rw[ep,AEH];rfl
  have O:((places d).foldl (Cr λp=>BQ m (Fl p)) ([],0)).1.length<=2*d.length:=by
   have go:∀(X:kj Pl) (st:kj (Pl×Int)×Int),(X.foldl (Cr λp=>BQ m (Fl p)) st).1.length<=st.1.length+X.length:=by
    intro X;induction X with
    | nil=>intro st;simp
    | cons p X ih=>
      intro st;have h1:=ih (Cr (λp=>BQ m (Fl p)) st p);have h2:(Cr (λp=>BQ m (Fl p)) st p).1.length<=st.1.length+1:=by unfold Cr;split <;> simp
      rw[AC0,ABd];omega
   have h1:=go (places d) ([],0);have h2:(places d).length=2*d.length:=by
    unfold places;clear A es ep e h1;induction d with
    | nil=>rfl
    | cons u d ih=>rw[AEK,AB9,ih];simp;omega
   simp at h1;omega
  have ul:d.length<=800:=by have:=congrArg List.length e;simp at this;omega
  generalize (places d).foldl (Cr λp=>BQ m (Fl p)) ([],0)=st at *;obtain⟨L,n⟩:=st;have j:∀(L2:kj (Pl×Int)) E t y,(L2,E)=Cr (λp=>BQ m (Fl p)) (Cr (λp=>BQ m (Fl p)) (L,n) (c,0)) (c,1)->R [some (.val v),some (.val (.dct m)),some (.own (L2.map vx)),some (.val (.int E)),t,y] :=λL2 E t y h=>A _ ⟨t,y,by rw[es,<-h]⟩;clear A;have o:(Rat.num 0:Int)=0:=rfl;have r:((Rat.den 0:Nat):Int)=1:=rfl;have P:L.length<=1600:=by have h:L.length<=2*d.length:=O;omega
  cases l:BQ m (Fl (c,0)) with
  | none=>
    cases g:BQ m (Fl (c,1)) with
    | none=>
      have f:=j L n;repeat' array_get_dec
      simp only[o,r,l];repeat' array_get_dec
      simp only[o,r,g];repeat' array_get_dec
      exact f _ _ (by unfold Cr;simp only[l,g])
    | some i=>
      have f:=j (L ++ [((c,1),n+i)]) (n+i);rw[ABV] at f;haveI:ji m (Fl (c,1)) i:=⟨g⟩;repeat' array_get_dec
      simp only[o,r,l];repeat' array_get_dec
      simp only[o,r,g];repeat' array_get_dec
      exact f _ _ (by unfold Cr;simp only[l,g])
  | some C=>
    haveI:ji m (Fl (c,0)) C:=⟨l⟩;cases g:BQ m (Fl (c,1)) with
    | none=>
      have f:=j (L ++ [((c,0),n+C)]) (n+C);rw[ABV] at f;repeat' array_get_dec
      simp only[o,r,l];repeat' array_get_dec
      simp only[o,r,g];repeat' array_get_dec
      exact f _ _ (by unfold Cr;simp only[l,g])
    | some i=>
      have f:=j (L ++ [((c,0),n+C)] ++ [((c,1),n+C+i)]) (n+C+i);rw[ABV,ABV] at f;haveI:ji m (Fl (c,1)) i:=⟨g⟩;repeat' array_get_dec
      simp only[o,r,l];repeat' array_get_dec
      simp only[o,r,g];repeat' array_get_dec
      exact f _ _ (by unfold Cr;simp only[l,g])
def stepI (st:kj BX×kc Pl)(x:Pl×da):kj BX×kc Pl:=
 match st.2,x.2 with
 | none,true=>(st.1,some x.1)
 | some b,false=>(st.1 ++ [(b.1,1-b.2,some x.1.1)],none)
 | _,_=>st
def Vh (st:kj BX×kc Pl):kj BX:=match st.2 with | none=>st.1|some b=>st.1 ++ [(b.1,1-b.2,none)]
def JI (X:kj (Pl×da)):kj BX:=Vh (X.foldl stepI ([],none))
def sj:kc Pl->PV|none=> .non|some b=> .tup [fr b.1, .int (1-b.2)]
def cz {st:kj BX×kc Pl}{x:Pl×da}:(stepI st x).1.length<=st.1.length+1:=by unfold stepI;split <;> simp
theorem MO:∀(X:kj (Pl×da)) (st:kj BX×kc Pl),(X.foldl stepI st).1.length<=st.1.length+X.length
 | [],st=>by simp
 | x::X,st=>by have h1:=MO X (stepI st x);have h2:=cz (st:=st) (x:=x);rw[AC0,ABd];omega
theorem Ma:∀{ss:kj BX},(Bu ss).length<=2*ss.length
 | [] =>by simp[Bu]
 | s::ss=>by
   have ih:=Ma (ss:=ss);unfold Bu at *;rw[AEK,AB9,ABd,ABd];have:s.2.2.toList.length<=1:=by cases s.2.2 <;> simp
   omega
theorem Ju:∀{qs:kj Rat},(places qs).length=2*qs.length
 | [] =>rfl
 | q::qs=>by have ih:=Ju (qs:=qs);unfold places at *;rw[AEK,AB9,ih,ABd];simp;omega
def gI {ss:kj BX}{key:Pl->da}:(Tn ss key).length<=4*ss.length:=by unfold Tn DW;rw[ABL];have h1:=ACz key (places (CO (Bu ss)));have h2:=Ju (qs:=CO (Bu ss));have a:=FP (xs:=Bu ss);have b:=Ma (ss:=ss);omega
def XY {v:PV}{xs:kj PV}{ss:kj BX}{B:Nat}{n:Int}(hv:v= .tup xs\/v= .lst xs)(u:HC xs ss)(ok:∀s∈ss,B4 B s)(hl:ss.length<=400)(w:B<=4000){Q:PV->Prop}(q:∀key:Pl->da,(∀p,key p=true↔LC ss p)->Q (.tup ((JI ((Tn ss key).map λx=>(x.1,decide (n<=x.2)))).map BW))):E3 [v, .int n] Q:=by
 apply WY;ac_rfl;refine cE hv u ok hl w λkey hk=> ?_;have m:=q key hk;have y:(Tn ss key).length<=2000:=ABT gI (by omega);clear q;generalize Tn ss key=Ls at *;ac_rfl;refine B6 vx (λj vs τ=>∃a d g,τ= [some (.val v),some (.val (.int n)),some (.own (((j.map λx=>(x.1,decide (n<=x.2))).foldl stepI ([],none)).1.map BW)),some (.val (sj ((j.map λx=>(x.1,decide (n<=x.2))).foldl stepI ([],none)).2)),a,d,g]) ?_ ?_ ⟨_,_,_,rfl⟩
 .rintro τ ⟨a,d,g,rfl⟩;have o:=MO (Ls.map λx=>(x.1,decide (n<=x.2))) ([],none);unfold JI at m;generalize (Ls.map λx=>(x.1,decide (n<=x.2))).foldl stepI ([],none)=st at *;obtain⟨L,b⟩:=st;have r:L.length<=2000:=by have h:L.length<=0+_:=o;rw[ABL] at h;omega
  cases b with
  | none=>
    have l:Q (.tup (L.map BW)):=m;show GY _ [some (.val v),some (.val (.int n)),some (.own (L.map BW)),some (.val .non),a,d,g];repeat' array_get_dec
    exact l
  | some b=>
    have l:Q (.tup ((L ++ [(b.1,1-b.2,none)]).map BW)):=m;rw[ABV] at l;show GY _ [some (.val v),some (.val (.int n)),some (.own (L.map BW)),some (.val (.tup [fr b.1, .int (1-b.2)])),a,d,g];repeat' array_get_dec
    exact l
 .rintro j c vs e τ R t ⟨a,d,g,rfl⟩;have o:=MO (j.map λx=>(x.1,decide (n<=x.2))) ([],none);have ul:j.length<=2000:=by have:=congrArg List.length e;simp at this;omega
  have es:((j ++ [c]).map λx=>(x.1,decide (n<=x.2))).foldl stepI ([],none)=stepI ((j.map λx=>(x.1,decide (n<=x.2))).foldl stepI ([],none)) (c.1,decide (n<=c.2)):=by rw[ABV,AEH];rfl
  generalize (j.map λx=>(x.1,decide (n<=x.2))).foldl stepI ([],none)=st at *;obtain⟨L,b⟩:=st;have r:L.length<=2000:=by have h:L.length<=0+_:=o;rw[ABL] at h;omega
  have i:∀L2 b2 a d g,(L2,b2)=stepI (L,b) (c.1,decide (n<=c.2))->R [some (.val v),some (.val (.int n)),some (.own (L2.map BW)),some (.val (sj b2)),a,d,g] :=λL2 b2 a d g h=>t _ ⟨a,d,g,by rw[es,<-h]⟩;clear t;obtain⟨p,k⟩:=c;show HD 3 (AZ (An 4) (AZ (An 5) (AZ (An 6) BY))) (.tup [fr p.1, .int p.2, .int k]) _ _;cases b with
  | none=>
    show HD 3 (AZ (An 4) (AZ (An 5) (AZ (An 6) BY))) (.tup [fr p.1, .int p.2, .int k]) [some (.val v),some (.val (.int n)),some (.own (L.map BW)),some (.val .non),a,d,g] _;repeat' array_get_dec
    .rename_i h;exact i L (some p) _ _ _ (by unfold stepI;simp only[ABQ h])
    .rename_i h;exact i L none _ _ _ (by unfold stepI;simp only[ABa h])
  | some b=>
    show HD 3 (AZ (An 4) (AZ (An 5) (AZ (An 6) BY))) (.tup [fr p.1, .int p.2, .int k]) [some (.val v),some (.val (.int n)),some (.own (L.map BW)),some (.val (.tup [fr b.1, .int (1-b.2)])),a,d,g] _;repeat' array_get_dec
    .rename_i h;have f:=i (L ++ [(b.1,1-b.2,some p.1)]) none (some (.val (fr p.1))) (some (.val (.int p.2))) (some (.val (.int k))) (by unfold stepI;simp only[ABa (show ¬n<=k by omega)]);rw[ABV] at f;exact f
    .rename_i h;exact i L (some b) _ _ _ (by unfold stepI;simp only[ABQ (show n<=k by omega)])
def XF (In key:Pl->da):da->kj Pl->Prop
 | _, [] =>True
 | c,p::r=>(key p=false->In p=c)/\XF In key (In p) r
def Yt {st:kj BX×kc Pl}{p:Pl}{i:da}:(stepI st (p,i)).2.isSome=i:=by obtain⟨L,b⟩:=st;cases b <;> cases i <;> rfl
def Ys {st:kj BX×kc Pl}{p:Pl}{i:da}(h:i=st.2.isSome):stepI st (p,i)=st:=by obtain⟨L,b⟩:=st;cases b <;> cases i <;> first | rfl|cases h
theorem IZ {In key:Pl->da}:∀(X:kj Pl) (st:kj BX×kc Pl),XF In key st.2.isSome X->(X.map λp=>(p,In p)).foldl stepI st=((X.filter key).map λp=>(p,In p)).foldl stepI st
 | [],st,_=>rfl
 | p::r,st,h=>by
   rw[ABJ,AC0,ABg];cases k:key p with
   | true=> rw[AAJ rfl,ABJ,AC0];exact IZ r _ (by rw[Yt];exact h.2)
   | false=> have e:=h.1 k;rw[AAH (by decide),Ys e];exact IZ r st (by have:=h.2;rw[e] at this;exact this)
theorem J8 {ss:kj BX}{key:Pl->da}{n:Int}(hk:∀p,key p=false->cnt ss p=0):∀(X:kj Pl) (c:Int),JZ ss c X->XF (λp=>decide (n<=(Hn ss p:Int))) key (decide (n<=c)) X
 | [],_,_=>True.intro
 | p::r,c,h=>⟨λk=>(by show decide (n<=(Hn ss p:Int))=_;rw[h.1,hk p k,Int.add_zero]),J8 hk r _ h.2⟩
def canon (n:Int)(ss:kj BX):kj BX:=JI ((DW ss).map λp=>(p,decide (n<=(Hn ss p:Int))))
def Vc {ss:kj BX}{p:Pl}(h:¬LC ss p):cnt ss p=0:=by
 have key:∀ss:kj BX,(∀s∈ss,¬(bp s=p\/ep s=some p))->cnt ss p=0:=by
  intro ss;induction ss with
  | nil=>intro _;rfl
  | cons s ss ih=>
    intro h;have h1:=h s (by simp);have e:cnt (s::ss) p=Pr s p+cnt ss p:=by simp[cnt]
    rw[e,ih λx hx=>h x (by simp[hx])];unfold Pr;rw[AAH λz=>h1 (.inl z),AAH λz=>h1 (.inr z)];rfl
 exact key ss λs hs z=>h ⟨s,hs,z⟩
def eQ {ss:kj BX}{B:Nat}{n:Int}{key:Pl->da}(ok:∀s∈ss,B4 B s)(hn:0<n)(hk:∀p,key p=true↔LC ss p):JI ((Tn ss key).map λx=>(x.1,decide (n<=x.2)))=canon n ss:=by
 unfold canon JI Tn;rw[ACa];have h:=IZ (In:=λp=>decide (n<=(Hn ss p:Int))) (key:=key) (DW ss) ([],none) (by
  have:=J8 (n:=n) (key:=key) (λp z=>Vc λy=>by rw[(hk p).mpr y] at z;cases z) (DW ss) 0 (Hj ok);rw[ABa (by omega)] at this;exact this)
 rw[h];rfl
def XX {v:PV}{xs:kj PV}{ss:kj BX}{B:Nat}{n:Int}(hv:v= .tup xs\/v= .lst xs)(a:HC xs ss)(ok:∀s∈ss,B4 B s)(hl:ss.length<=400)(b:B<=4000)(hn:0<n){Q:PV->Prop}(q:Q (.tup ((canon n ss).map BW))):E3 [v, .int n] Q:=
 XY hv a ok hl b λkey hk=>by rw[eQ ok hn hk];exact q
def NU {v:PV}{xs:kj PV}{ss:kj BX}{B:Nat}(hv:v= .tup xs\/v= .lst xs)(a:HC xs ss)(ok:∀s∈ss,B4 B s)(hl:ss.length<=400)(b:B<=4000){Q:PV->Prop}(q:Q (.tup ((canon 1 ss).map BW))):EL [v] Q:=by
 apply UR;repeat' array_get_dec
 exact XX hv a ok hl b (by decide) q
def MV {ss:kj BX}{p:Pl}:decide ((1:Int)<=(Hn ss p:Int))=ss.any (A9 · p):=by
 rw[AB6,AEJ,AEI];unfold Hn;constructor
 .intro h;obtain⟨s,hs⟩:=List.exists_mem_of_length_pos (l:=ss.filter (A9 · p)) (by omega);have:=ABX.mp hs;exact⟨s,this.1,this.2⟩
 .rintro ⟨s,hs,h⟩;have:=List.length_pos_of_mem (ABX.mpr ⟨hs,h⟩:s∈ss.filter (A9 · p));omega
def DV (In:Pl->da):kj Pl->kc Pl->kj BX
 | [],none=> []
 | [],some b=> [(b.1,1-b.2,none)]
 | p::r,none=>if In p=true then DV In r (some p) else DV In r none
 | p::r,some b=>if In p=true then DV In r (some b) else (b.1,1-b.2,some p.1)::DV In r none
theorem Pz {In:Pl->da}:∀(X:kj Pl) (a:kj BX) (b:kc Pl),Vh ((X.map λp=>(p,In p)).foldl stepI (a,b))=a++DV In X b
 | [],a,none=>by simp[Vh,DV]
 | [],a,some b=>by simp[Vh,DV]
 | p::r,a,none=>by
   rw[ABJ,AC0];unfold DV;cases e:In p with
   | true=>exact Pz r a (some p)
   | false=>exact Pz r a none
 | p::r,a,some b=>by
   rw[ABJ,AC0];unfold DV;cases e:In p with
   | true=>exact Pz r a (some b)
   | false=> show Vh ((r.map λp=>(p,In p)).foldl stepI (a ++ [(b.1,1-b.2,some p.1)],none))=a++((b.1,1-b.2,some p.1)::DV In r none);rw[Pz r _ none];simp
def R1 {In:Pl->da}{X:kj Pl}:JI (X.map λp=>(p,In p))=DV In X none:=by unfold JI;rw[Pz];rfl
def N7 {q p:Pl}{e:kc Rat}(hq:q.2=0\/q.2=1)(hp:0<=p.2):A9 (q.1,1-q.2,e) p=(QV q p&&(match e with | none=>true|some e=>decide (p.1<e))):=by unfold A9 QV;congr 2;congr 1;exact AC6.mpr (by show 0<1-q.2+p.2↔q.2<=p.2;omega)
def Ja (In:Pl->da):da->kj Pl->Prop
 | _, [] =>True
 | c,p::r=>(c=true->In p=false->p.2=0)/\Ja In (In p) r
theorem aD {In:Pl->da}:∀(X:kj Pl),aq X->(∀x∈X,x.2=0\/x.2=1)-> (Ja In false X->(∀p:Pl,0<=p.2->(∀x∈X,N9 p x)->(DV In X none).any (A9 · p)=false)/\∀p∈X,(DV In X none).any (A9 · p)=In p)/\ (Ja In true X->∀q:Pl,(q.2=0\/q.2=1)->(∀x∈X,N9 q x)->(∀p:Pl,0<=p.2->(∀x∈X,N9 p x)->(DV In X (some q)).any (A9 · p)=QV q p)/\∀p∈X,(DV In X (some q)).any (A9 · p)=In p)
 | [],_,_=>⟨λ_=>⟨λp _ _=>rfl,λp hp=>by cases hp⟩,λ_ q hq _=>⟨λp hp _=>by show (A9 (q.1,1-q.2,none) p||false)=_;rw[N7 hq hp];simp,λp hp=>by cases hp⟩⟩
 | x::r,hs,h01=>by
   obtain⟨h1,h2⟩:=ABE.mp hs;have ih:=aD (In:=In) r h2 λy hy=>h01 y (by simp[hy]);have j:=h01 x (by simp);have f:0<=x.2:=by omega
   have g:∀p:Pl,(∀y∈x::r,N9 p y)->∀y∈r,N9 p y:=λp h y hy=>h y (by simp[hy]);have l:∀p:Pl,N9 p x->QV x p=false:=λp h=>by
    rw[<-Bool.not_eq_true,Ht];rintro(z|z)
    .exact OA (MZ z h)
    .rw [z] at h;exact OA h
   have m:QV x x=true:=Ht.mpr (.inr rfl);refine⟨λhd=> ?_,λhd q hq k=> ?_⟩
   .unfold DV;cases e:In x with
    | true=>
      have a:=hd.2;rw[e] at a;obtain⟨b,d⟩:=ih.2 a x j h1;rw[AAJ rfl];refine⟨λp c hp=> ?_,λp hp=> ?_⟩
      .rw [b p c (g p hp),l p (hp x (by simp))]
      .rcases AAK.mp hp with rfl|hp
       .rw [b p f h1,m,e]
       .exact d p hp
    | false=>
      have a:=hd.2;rw[e] at a;obtain⟨b,d⟩:=ih.1 a;rw[AAH (by decide)];refine⟨λp c hp=>b p c (g p hp),λp hp=> ?_⟩;rcases AAK.mp hp with rfl|hp
      .rw [b p f h1,e]
      .exact d p hp
   .unfold DV;have n:QV q x=true:=Ht.mpr (.inl (k x (by simp)));cases e:In x with
    | true=>
      have a:=hd.2;rw[e] at a;obtain⟨b,d⟩:=ih.2 a q hq (g q k);rw[AAJ rfl];refine⟨λp c hp=>b p c (g p hp),λp hp=> ?_⟩;rcases AAK.mp hp with rfl|hp
      .rw [b p f h1,n,e]
      .exact d p hp
    | false=>
      have a:=hd.2;rw[e] at a;obtain⟨b,d⟩:=ih.1 a;have s:=hd.1 rfl e;rw[AAH (by decide)];have i:∀p:Pl,(p=x\/N9 x p)->¬p.1<x.1:=λp h=>by rcases h with h|h|⟨h,_⟩ <;> grind
      refine⟨λp c hp=> ?_,λp hp=> ?_⟩
      .have o:p.1<x.1:=by
        rcases hp x (by simp) with z|⟨_,z⟩
        .exact z
        .omega
       show (A9 (q.1,1-q.2,some x.1) p||(DV In r none).any (A9 · p))=_;rw[N7 hq c,b p c (g p hp)];simp[o]
      .show (A9 (q.1,1-q.2,some x.1) p||(DV In r none).any (A9 · p))=_;rcases AAK.mp hp with rfl|hp
       .rw [N7 hq f,b p f h1,e];simp[i p (.inl rfl)]
       .rw [N7 hq (by have:=h01 p (by simp[hp]);omega),d p hp];simp[i p (.inr (h1 p hp))]
theorem WT {In:Pl->da}(P:Rat->Prop):∀(X:kj Pl) (b:kc Pl),aq X->(∀x∈X,(x.2=0\/x.2=1)/\P x.1)->Ja In b.isSome X->(∀q,b=some q->(q.2=0\/q.2=1)/\P q.1/\∀x∈X,N9 q x)-> ∀s∈DV In X b,P s.1/\(s.2.1=0\/s.2.1=1)/\∀e,s.2.2=some e->s.1<e/\P e
 | [],none,_,_,_,_=>λs hs=>by cases hs
 | [],some q,_,_,_,hb=>λs hs=>by obtain⟨h1,h2,_⟩:=hb q rfl;simp only[DV,ACU] at hs;subst hs;exact⟨h2,by show 1-q.2=0\/1-q.2=1;omega,λe he=>by cases he⟩
 | x::r,b,hs,h01,hd,hb=>by
   obtain⟨h1,h2⟩:=ABE.mp hs;have ih:=λb d hb=>WT (In:=In) P r b h2 (λy hy=>h01 y (by simp[hy])) d hb;have a:=hd.2;cases b with
   | none=>
     unfold DV;cases e:In x with
     | true=> rw[AAJ rfl];rw[e] at a;exact ih (some x) a λq hq=>by cases hq;exact⟨(h01 x (by simp)).1,(h01 x (by simp)).2,h1⟩
     | false=> rw[AAH (by decide)];rw[e] at a;exact ih none a λq hq=>by cases hq
   | some q=>
     obtain⟨g,c,f⟩:=hb q rfl;unfold DV;cases e:In x with
     | true=> rw[AAJ rfl];rw[e] at a;exact ih (some q) a λh hq=>by cases hq;exact⟨g,c,λy hy=>f y (by simp[hy])⟩
     | false=>
       rw[AAH (by decide)];rw[e] at a;have i:=hd.1 rfl e;intro s hs;rcases AAK.mp hs with rfl|hs
       .refine ⟨c,by show 1-q.2=0\/1-q.2=1;omega,λe' he=> ?_⟩;cases he;refine⟨?_,(h01 x (by simp)).2⟩;rcases f x (by simp) with z|⟨_,z⟩
        .exact z
        .omega
       .exact ih none a (λq hq=>by cases hq) s hs
theorem Jk {ss:kj BX}:∀(X:kj Pl) (c:Int),(∀x∈X,x.2=0\/x.2=1)->JZ ss c X->Ja (λp=>ss.any (A9 · p)) (decide (1<=c)) X
 | [],_,_,_=>True.intro
 | p::r,c,h01,h=>by
   have ih:=Jk r (Hn ss p) (λx hx=>h01 x (by simp[hx])) h.2;rw[MV] at ih;refine⟨λhc hi=> ?_,ih⟩;rcases h01 p (by simp) with z|z
   .exact z
   .have hc:1<=c:=by simpa using hc
    have hi:ss.any (A9 · p)=false:=hi;rw[<-MV] at hi;have hi:¬(1:Int)<=Hn ss p:=by simpa using hi
    have c0:0<=cnt ss p:=by
     have go:∀ss:kj BX,0<=cnt ss p:=by
      intro ss;induction ss with
      | nil=>exact Int.le_refl _
      | cons s ss ih=>
        have e:cnt (s::ss) p=Pr s p+cnt ss p:=by simp[cnt]
        have o:0<=Pr s p:=by
         unfold Pr;have:¬ep s=some p:=λy=>by obtain⟨e',_,a⟩:=ADY.mp y;have:(0:Int)=p.2:=congrArg Prod.snd a;omega
         rw[AAH this];split <;> decide
        omega
     exact go ss
    have:=h.1;omega
def Uk {ss:kj BX}:∀x∈DW ss,x.2=0\/x.2=1:=λx hx=>(Bl.mp hx).2
def Rg {ss:kj BX}:canon 1 ss=DV (λp=>ss.any (A9 · p)) (DW ss) none:=by unfold canon;rw[<-R1];congr 1;apply ADG;intro p _;rw[MV]
def QP {ss:kj BX}{B:Nat}(ok:∀s∈ss,B4 B s):Ja (λp=>ss.any (A9 · p)) false (DW ss):=Jk (DW ss) 0 Uk (Hj ok)
def XT {ss:kj BX}{B:Nat}(ok:∀s∈ss,B4 B s):∀s∈canon 1 ss,s.1∈Bu ss/\(s.2.1=0\/s.2.1=1)/\∀e,s.2.2=some e->s.1<e/\e∈Bu ss:=by rw[Rg];exact WT (· ∈Bu ss) (DW ss) none (EW CP) (λx hx=>⟨Uk x hx,B9.mp (Bl.mp hx).1⟩) (QP ok) λq hq=>by cases hq
def Zv {ss:kj BX}{B:Nat}(ok:∀s∈ss,B4 B s):∀x∈Bu ss,Bd B x:=λx h=>by
 obtain⟨s,hs,hx⟩:=ACV.mp h;rcases AAK.mp hx with rfl|hx
 .exact (ok s hs).b
 .exact ((ok s hs).e x (by simpa using hx)).2
def eS {ss:kj BX}{B:Nat}(ok:∀s∈ss,B4 B s):∀s∈canon 1 ss,B4 B s:=λs hs=>by obtain⟨h1,h2,a⟩:=XT ok s hs;exact⟨Zv ok _ h1,h2,λe he=>⟨(a e he).1,Zv ok _ (a e he).2⟩⟩
theorem JH (f:Rat->da):∀qs:kj Rat,(places qs).filter (λp=>f p.1)=places (qs.filter f)
 | [] =>rfl
 | q::qs=>by show ((q,0)::(q,1)::places qs).filter (λp=>f p.1)=_;rw[ABg,ABg,ABg,JH f qs];cases f q <;> rfl
def jx (i j:Int):HN (.int i) (.int j)=decide (i=j):=by show PyData.eqv (.int i) (.int j)=_;by_cases h:i=j <;> simp[PyData.eqv,h]
def jw (a b:kc Rat):HN (TU a) (TU b)=decide (a=b):=by
 cases a with
 | none=>cases b with
   | none=>rfl
   | some b=>simp[HN,TU,pd,PyData.eqv,fr]
 | some a=>cases b with
   | none=>simp[HN,TU,pd,PyData.eqv,fr]
   | some b=>show HN (fr a) (fr b)=_;rw[Fx];simp
def jy (s t:BX):HN (BW s) (BW t)=decide (s=t):=by have h:HN (BW s) (BW t)=(HN (fr s.1) (fr t.1)&&(HN (.int s.2.1) (.int t.2.1)&&(HN (TU s.2.2) (TU t.2.2)&&true))):=rfl;rw[h,Fx,jx,jw];obtain⟨a,b,c⟩:=s;obtain⟨t1,t2,d⟩:=t;simp[AB6]
theorem Vg:∀(xs ys:kj BX),HN (.lst (xs.map BW)) (.lst (ys.map BW))=decide (xs=ys)
 | [], [] =>rfl
 | [],_::_=>by simp[HN,pd,Mi,PyData.eqv,PyData.eqvAll]
 | _::_, [] =>by simp[HN,pd,Mi,PyData.eqv,PyData.eqvAll]
 | x::xs,y::ys=>by have h:HN (.lst ((x::xs).map BW)) (.lst ((y::ys).map BW))=(HN (BW x) (BW y)&&HN (.lst (xs.map BW)) (.lst (ys.map BW))):=rfl;rw[h,jy,Vg xs ys];simp[AB6]
def lI (d:Nat)(s:BX):D3 (d+2) (BW s)=true:=by obtain⟨a,i,e⟩:=s;cases e <;> simp[BW,D3,HL,TU,fr]
theorem Xn (x:Rat):∀qs:kj Rat,bZ (fr x) (qs.map fr)=decide (x∈qs)
 | [] =>by simp[bZ]
 | q::qs=>by
   have h:bZ (fr x) ((q::qs).map fr)=(HN (fr q) (fr x)||bZ (fr x) (qs.map fr)):=rfl;rw[h,Fx,Xn x qs];by_cases e:q=x
   .simp [e]
   .have:¬x=q:=λz=>e z.symm;simp[e,this]
theorem RZ:∀{qs:kj Rat} {x:Rat},Qr qs->At qs x (qs.filter λq=>decide (q<x)).length
 | [],x,_=>⟨ABH _,by simp,by simp⟩
 | q::r,x,h=>by
   obtain⟨h1,h2⟩:=ABE.mp h;obtain⟨d,a,b⟩:=RZ (x:=x) h2;rw[ABg];by_cases e:q<x
   .rw [AAJ (ABQ e),ABd];refine⟨by rw[ABd];omega,λy hy=> ?_,λy hy=>b y (by simpa using hy)⟩;rw[AEn] at hy;rcases AAK.mp hy with rfl|hy
    .exact e
    .exact a y hy
   .have hn:∀y∈q::r,¬y<x:=λy hy=>by
     rcases AAK.mp hy with rfl|hy
     .exact e
     .have:=h1 y hy;grind
    have c:r.filter (λq=>decide (q<x))= [] :=AEz.mpr λy hy=>by simpa using hn y (by simp[hy])
    rw[AAH (by simpa using e),c];exact⟨AB7 _,by simp,λy hy=>hn y (by simpa using hy)⟩
def Cq (ms:kj Rat)(ss:kj BX):kj Pl:=places (CO (ms++Bu ss))
def K3 {B:Nat}{ms:kj Rat}{ss:kj BX}(ok:∀s∈ss,B4 B s):JZ ss 0 (Cq ms ss):=by
 have c:∀s∈ss,bp s∈Cq ms ss/\∀x,ep s=some x->x∈Cq ms ss:=λs hs=>by
  obtain⟨h1,h2⟩:=Pf ok hs;have d:∀x∈DW ss,x∈Cq ms ss:=λx hx=>by obtain⟨a,b⟩:=Bl.mp hx;exact Bl.mpr ⟨B9.mpr (ABY _ (B9.mp a)),b⟩
  exact⟨d _ h1,λx ex=>d _ (h2 x ex)⟩
 have h:=O9 ok (Cq ms ss) none (EW CP) (λp hp=>⟨True.intro,by rcases (Bl.mp hp).2 with z|z <;> omega⟩) (λs hs=>⟨.inr (c s hs).1,λx ex=> .inr ((c s hs).2 x ex)⟩);have z:(ss.map λs=>mP s none).sum=0:=by
  clear h c ok;induction ss with
  | nil=>rfl
  | cons s ss ih=> rw[ABJ,AD9,ih];unfold mP;cases ep s <;> rfl
 rw[z] at h;exact h
def Jh {B:Nat}{ms:kj Rat}{ss:kj BX}{n:Int}(ok:∀s∈ss,B4 B s)(hn:0<n):JI ((Cq ms ss).map λp=>(p,decide (n<=(Hn ss p:Int))))=canon n ss:=by
 have hk:∀p:Pl,decide (p.1∈Bu ss)=false->cnt ss p=0:=λp hp=>Vc λ⟨s,hs,z⟩=>by
  have hp:¬p.1∈Bu ss:=by simpa using hp
  refine hp (ACV.mpr ⟨s,hs, ?_⟩);rcases z with z|z
  .rw [<-z];simp[bp]
  .obtain ⟨e',he,rfl⟩:=ADY.mp z;simp[he]
 have a:=J8 (n:=n) (ss:=ss) (key:=λp=>decide (p.1∈Bu ss)) hk (Cq ms ss) 0 (K3 ok);rw[ABa (by omega)] at a;have h:=IZ (Cq ms ss) ([],none) a;have b:(Cq ms ss).filter (λp=>decide (p.1∈Bu ss))=DW ss:=by unfold Cq DW;rw[JH (λx=>decide (x∈Bu ss))];congr 1;refine OL (CP.filter _) CP λx=> ?_;rw[ABX,B9,B9,AEJ];exact⟨λh=>h.2,λh=>⟨ABY _ h,h⟩⟩
 rw[b] at h;show Vh _=Vh _;rw[h]
def VY {B:Nat}{ss:kj BX}(ok:∀s∈ss,B4 B s){p:Pl}(hp:p.2=0\/p.2=1):(canon 1 ss).any (A9 · p)=ss.any (A9 · p):=by
 have b:p∈Cq [p.1] ss:=Bl.mpr ⟨B9.mpr (by simp),hp⟩;have a:∀x∈Cq [p.1] ss,x.2=0\/x.2=1:=λx hx=>(Bl.mp hx).2;have c:=Jk (Cq [p.1] ss) 0 a (K3 ok);have e:canon 1 ss=DV (λp=>ss.any (A9 · p)) (Cq [p.1] ss) none:=by rw[<-Jh (ms:= [p.1]) ok (by decide),<-R1];congr 1;apply ADG;intro q _;rw[MV]
 rw[e];exact((aD (Cq [p.1] ss) (EW CP) a).1 c).2 p b
def hN (L:kj BX)(p:Pl):Nat:=(L.filter (A9 · p)).length
def eO {B:Nat}{ss a:kj BX}(ok:∀s∈ss,B4 B s)(b:∀s∈a,B4 B s)(h:∀p:Pl,(p.2=0\/p.2=1)->ss.any (A9 · p)=a.any (A9 · p)):canon 1 ss=canon 1 a:=by
 rw[<-Jh (ms:=Bu a) ok (by decide),<-Jh (ms:=Bu ss) b (by decide)];have e:Cq (Bu a) ss=Cq (Bu ss) a:=by unfold Cq;rw[WV λx=> ?_];rw[ABI,ABI];exact Or.comm
 rw[e];congr 1;apply ADG;intro p hp;rw[MV,MV,h p (Bl.mp hp).2]
def wt (xs:kj PV):Il xs (some 1) none=xs.drop 1:=by
 unfold Il;rw[HT.sIx_none,show ((1:Int))=((1:Nat):Int) from rfl,HT.sIx_nat];cases xs with
 | nil=>rfl
 | cons x xs=> rw[Nat.min_eq_left (by simp)];simp
def rG (a b:kj Rat):GA (a.map fr) (b.map fr)=(a.zip b).map λp=> .tup [fr p.1,fr p.2] :=by unfold GA;rw[List.zipWith_map,List.zip,List.map_zipWith]
theorem PH:∀(X:kj (Pl×da)) (st:kj BX×kc Pl),2*(X.foldl stepI st).1.length+(if (X.foldl stepI st).2.isSome then 1 else 0)<=2*st.1.length+(if st.2.isSome then 1 else 0)+X.length
 | [],st=>ABH _
 | x::X,st=>by
   have h1:=PH X (stepI st x);have h2:2*(stepI st x).1.length+(if (stepI st x).2.isSome then 1 else 0)<=2*st.1.length+(if st.2.isSome then 1 else 0)+1:=by obtain⟨L,b⟩:=st;obtain⟨p,c⟩:=x;cases b <;> cases c <;> simp[stepI] <;> omega
   rw[AC0,ABd];omega
def cm (X:kj (Pl×da)):2*(JI X).length<=X.length+1:=by have h:=PH X ([],none);unfold JI;generalize X.foldl stepI ([],none)=st at *;obtain⟨L,b⟩:=st;cases b <;> simp[Vh] at * <;> omega
def FJ {n:Int}{ss:kj BX}:(canon n ss).length<=2*ss.length:=by unfold canon DW;have h:=cm ((places (CO (Bu ss))).map λp=>(p,decide (n<=(Hn ss p:Int))));have a:=FP (xs:=Bu ss);have b:=Ma (ss:=ss);have c:=Ju (qs:=CO (Bu ss));rw[ABL] at h;omega
inductive Kv:List PV->List (List BX)->Prop where
 | nil:Kv [] []
 | cons {x:PV} {xs:List PV} {ss:List BX} {r:List PV} {rs:List (List BX)} (h:x= .tup xs\/x= .lst xs) (hr:HC xs ss) (t:Kv r rs):Kv (x::r) (ss::rs)
def Kv.length:∀{xs:kj PV} {ss:kj (kj BX)},Kv xs ss->xs.length=ss.length
 | _,_, .nil=>rfl
 | _,_, .cons _ _ t=>by simp[t.length]
def Kv.app:∀{a b:kj PV} {ss d:kj (kj BX)},Kv a ss->Kv b d->Kv (a++b) (ss++d)
 | _,_,_,_, .nil,h=>h
 | _,_,_,_, .cons a b c,h=> .cons a b (c.app h)
def lt_size {k n:Nat}(h:k<=n)(hn:n<1000000):k<sizeLine:=ACJ h (ABb hn (ACc rfl))
def lin (p q:T3)(s:Rat):T3:=(p.1+s*(q.1-p.1),p.2.1+s*(q.2.1-p.2.1),p.2.2+s*(q.2.2-p.2.2))
def pP {a D b e m x X:Rat}(c:D≠0)(h:e-b≠0):x+(m-a)/D*X=(x+(b-a)/D*X)+(m-b)/(e-b)*((x+(e-a)/D*X)-(x+(b-a)/D*X)):=by grind
def bj {a c:C4}{b e m:Rat}(h1:a.1<c.1)(h2:b<e):inter a c m=lin (inter a c b) (inter a c e) ((m-b)/(e-b)):=by
 have d:c.1-a.1≠0:=by grind
 have f:e-b≠0:=by grind
 simp only[inter,lin];rw[<-pP d f,<-pP d f,<-pP d f]
def gE (p q:T3):lin p q 0=p:=by obtain⟨a,b,c⟩:=p;simp[lin,Rat.zero_mul,Rat.add_zero]
theorem M8 {b e m:Rat}{p q:T3}(f:b<e)(h1:b<=m)(h2:m<=e):∀{a:C4} {r:kj C4},Et (a::r)->(∀c∈r,¬(b<c.1/\c.1<e))->spotG a r b=some p->spotG a r e=some q->spotG a r m=some (lin p q ((m-b)/(e-b)))
 | a, [],_,_,hp,_=>by cases hp
 | a,c::r,hr,hn,hp,hq=>by
   have g:=(ABE.mp hr).1 c (by simp);have h:Et (c::r):=(ABE.mp hr).2;by_cases i:c.1<b
   .simp only[spotG] at hp hq ⊢;rw[AAJ i] at hp;rw[AAJ (by grind)] at hq ⊢;exact M8 f h1 h2 h (λx hx=>hn x (by simp[hx])) hp hq
   .simp only[spotG] at hp hq ⊢;rw[AAH i] at hp;by_cases k:b=c.1
    .subst k;rw[Gk g] at hp;cases hp;by_cases j:c.1<m
     .rw [AAJ j];rw[AAJ (by grind)] at hq;refine M8 f h1 h2 h (λx hx=>hn x (by simp[hx])) ?_ hq;cases r with
      | nil=>cases hq
      | cons d r=> have l:=(ABE.mp h).1 d (by simp);simp only[spotG];rw[AAH (by grind),Hr l]
     .have n:m=c.1:=by grind
      subst n;rw[AAH j,Gk g];have z:(c.1-c.1)/(e-c.1)=0:=by grind
      rw[z,gE]
    .have o:¬c.1<e:=λz=>hn c (by simp) ⟨by grind,z⟩;cases hp;rw[AAH o] at hq;cases hq;rw[AAH (by grind)];rw[<-bj g f]
def SB {b e m:Rat}{p q:T3}{cs:kj C4}(d:Et cs)(f:b<e)(h1:b<=m)(h2:m<=e)(hn:∀c∈cs,¬(b<c.1/\c.1<e))(hp:spotC cs b=some p)(hq:spotC cs e=some q):spotC cs m=some (lin p q ((m-b)/(e-b))):=by
 cases cs with
 | nil=>cases hp
 | cons a r=>
   simp only[spotC] at hp hq ⊢;by_cases k:b<a.1
   .rw [AAJ k] at hp;cases hp
   .rw [AAH k] at hp;rw[AAH (by grind)] at hq ⊢;exact M8 f h1 h2 d (λc hc=>hn c (by simp[hc])) hp hq
def Rs {B:Nat}{ss:kj BX}(ok:∀s∈ss,B4 B s)(m:Rat):∀k:Rat,m<k->∃n:Rat,m<n/\n<k/\∀x:Rat,m<x->x<n->ss.any (A9 · (x,0))=ss.any (A9 · (m,1)):=by
 induction ss with
 | nil=>intro k hk;exact⟨(m+k)/2,by grind,by grind,λ_ _ _=>rfl⟩
 | cons s ss ih=>
   intro k hk;obtain⟨n,h1,h2,i⟩:=ih (λt j=>ok t (by simp[j])) k hk;have os:=ok s (by simp);obtain⟨b,h,e⟩:=s;have o:h=0\/h=1:=os.h;have one:∃a:Rat,m<a/\∀x:Rat,m<x->x<a->A9 (b,h,e) (x,0)=A9 (b,h,e) (m,1):=by
    have key:∃a:Rat,m<a/\(m<b->a<=b)/\(∀e',e=some e'->m<e'->a<=e'):=by
     cases e with
     | none=>
       by_cases z:m<b
       .exact ⟨b,z,λ_=>by grind,λ_ h=>by cases h⟩
       .exact ⟨m+1,by grind,λh=>absurd h z,λ_ h=>by cases h⟩
     | some e'=>
       by_cases z:m<b
       .by_cases y:m<e'
        .by_cases w:b<e'
         .exact ⟨b,z,λ_=>by grind,λ_ h _=>by cases h;grind⟩
         .exact ⟨e',y,λ_=>by grind,λ_ h _=>by cases h;grind⟩
        .exact ⟨b,z,λ_=>by grind,λ_ h k=>by cases h;exact absurd k y⟩
       .by_cases y:m<e'
        .exact ⟨e',y,λk=>absurd k z,λ_ h _=>by cases h;grind⟩
        .exact ⟨m+1,by grind,λk=>absurd k z,λ_ h k=>by cases h;exact absurd k y⟩
    obtain⟨a,g,d,l⟩:=key;refine⟨a,g,λx c f=> ?_⟩;unfold A9;have A:(decide (b<x)||(decide (b=x)&&decide (0<h+0)))=(decide (b<m)||(decide (b=m)&&decide (0<h+1))):=by
     by_cases z:m<b
     .have:=d z;rw[ABa (show ¬b<x by grind),ABa (show ¬b=x by grind),ABa (show ¬b<m by grind),ABa (show ¬b=m by grind)];rfl
     .rw [ABQ (show b<x by grind)];by_cases y:b=m
      .rw [ABQ y,ABQ (show 0<h+1 by omega)];simp
      .rw [ABQ (show b<m by grind)];rfl
    show ((decide (b<x)||(decide (b=x)&&decide (0<h+0)))&&_)=((decide (b<m)||(decide (b=m)&&decide (0<h+1)))&&_);rw[A];congr 1;cases e with
    | none=>rfl
    | some e'=> show decide (x<e')=decide (m<e');refine AC6.mpr ⟨λ_=>by grind,λy=> ?_⟩;have:=l e' rfl y;grind
   obtain⟨a,g,d⟩:=one;by_cases z:n<a
   .exact ⟨n,h1,h2,λx c f=>by rw[ABr,ABr,i x c f,d x c (by grind)]⟩
   .exact ⟨a,g,by grind,λx c f=>by rw[ABr,ABr,i x c (by grind),d x c f]⟩
def Xz {B C:Nat}{ss b:kj BX}(ok:∀s∈ss,B4 B s)(c:∀s∈b,B4 C s)(h:∀m:Rat,ss.any (A9 · (m,0))=b.any (A9 · (m,0))):∀p:Pl,(p.2=0\/p.2=1)->ss.any (A9 · p)=b.any (A9 · p):=by
 rintro⟨m,i⟩ hi;have hi:i=0\/i=1:=hi;rcases hi with rfl|rfl
 .exact h m
 .obtain ⟨n,h1,h2,e⟩:=Rs ok m (m+1) (by grind);obtain⟨a,j,k,f⟩:=Rs c m n h1;have d:m<(m+a)/2:=by grind
  have g:(m+a)/2<a:=by grind
  rw[<-e ((m+a)/2) d (by grind),<-f ((m+a)/2) d g];exact h _
def B4.mono {B C:Nat}{s:BX}(h:B4 B s)(k:B<=C):B4 C s:=⟨h.b.mono k,h.h,λe he=>⟨(h.e e he).1,(h.e e he).2.mono k⟩⟩
def IV {B C:Nat}{ss b:kj BX}(ok:∀s∈ss,B4 B s)(a:∀s∈b,B4 C s)(h:∀m:Rat,ss.any (A9 · (m,0))=b.any (A9 · (m,0))):canon 1 ss=canon 1 b:=
 eO (B:=B+C) (λs hs=>(ok s hs).mono (by omega)) (λs hs=>(a s hs).mono (by omega)) (Xz ok a h)
def ww (r s:BX):Prop:=∃e,r.2.2=some e/\(e<s.1\/(e=s.1/\s.2.1=0))
def Sep (ss:kj BX):Prop:=ss.Pairwise ww
def eI (q:Pl)(e:kc Rat):bp (q.1,1-q.2,e)=q:=by obtain⟨a,b⟩:=q;show (a,1-(1-b))=(a,b);rw[show 1-(1-b)=b by omega]
theorem GW {In:Pl->da}:∀(X:kj Pl) (b:kc Pl),∀s∈DV In X b,bp s∈X\/b=some (bp s)
 | [],none=>λs hs=>by cases hs
 | [],some q=>λs hs=>by simp only[DV,ACU] at hs;subst hs;exact .inr (by rw[eI])
 | x::r,none=>λs hs=>by
   unfold DV at hs;split at hs
   .rcases GW r (some x) s hs with h|h
    .exact .inl (by simp[h])
    .cases h;exact .inl (by simp)
   .rcases GW r none s hs with h|h
    .exact .inl (by simp[h])
    .cases h
 | x::r,some q=>λs hs=>by
   unfold DV at hs;split at hs
   .rcases GW r (some q) s hs with h|h
    .exact .inl (by simp[h])
    .exact .inr h
   .rcases AAK.mp hs with rfl|hs
    .exact .inr (by rw[eI])
    .rcases GW r none s hs with h|h
     .exact .inl (by simp[h])
     .cases h
theorem aE {In:Pl->da}:∀(X:kj Pl) (b:kc Pl),aq X->(∀x∈X,x.2=0\/x.2=1)->Ja In b.isSome X->Sep (DV In X b)
 | [],none,_,_,_=> .nil
 | [],some q,_,_,_=>AFP _ _
 | x::r,b,hs,h01,hd=>by
   obtain⟨h1,h2⟩:=ABE.mp hs;have ih:=λb d=>aE (In:=In) r b h2 (λy hy=>h01 y (by simp[hy])) d;have a:=hd.2;cases b with
   | none=>
     unfold DV;cases e:In x with
     | true=>rw[AAJ rfl];rw[e] at a;exact ih (some x) a
     | false=>rw[AAH (by decide)];rw[e] at a;exact ih none a
   | some q=>
     unfold DV;cases e:In x with
     | true=>rw[AAJ rfl];rw[e] at a;exact ih (some q) a
     | false=>
       rw[AAH (by decide)];rw[e] at a;have g:=hd.1 rfl e;refine ABE.mpr ⟨λs hs=> ?_,ih none a⟩;rcases GW r none s hs with h|h
       .refine ⟨x.1,rfl, ?_⟩;have k:=h1 _ h;have c:=h01 _ (ACO x h);have c:1-s.2.1=0\/1-s.2.1=1:=c;rcases k with k|⟨k,f⟩
        .exact .inl k
        .have f:x.2<1-s.2.1:=f;exact .inr ⟨k,by omega⟩
       .cases h
def bE {B:Nat}{ss:kj BX}(ok:∀s∈ss,B4 B s):Sep (canon 1 ss):=by rw[Rg];exact aE (DW ss) none (EW CP) Uk (QP ok)
def DY {B:Nat}{s:BX}{m x:Rat}(os:B4 B s)(hx:s.2.2=some x):A9 s (m,0)=true↔(s.1<m\/(s.1=m/\s.2.1=1))/\m<x:=by
 unfold A9;rw[hx];have:0<s.2.1+0↔s.2.1=1:=by have:=os.h;omega
 simp only[ACA,ADI,ADh,this]
section
variable {B:Nat}{s:BX}{a:kj BX}{e:Rat}
theorem De (h:Sep (s::a))(ok:∀t∈s::a,B4 B t)(b:∀t∈s::a,∃x,t.2.2=some x)(he:s.2.2=some e){m:Rat}(g:m<=e):a.any (A9 · (m,0))=false:=by
 rw[AEZ];intro t c z;obtain⟨x,hx⟩:=b t (by simp[c]);have k:=(DY (ok t (by simp[c])) hx).mp z;obtain⟨e',h1,h2⟩:=(ABE.mp h).1 t c;rw[he] at h1;cases h1;rcases h2 with h2|⟨h2,i⟩
 .rcases k.1 with d|⟨d,f⟩ <;> grind
 .rcases k.1 with d|⟨d,f⟩
  .grind
  .omega
end
def Hv {a b:Rat}(h:a<b):a<(a+b)/2/\(a+b)/2<b:=⟨by grind,by grind⟩
def R6 {B C:Nat}{s t:BX}{a b:kj BX}{e f:Rat}(ha:Sep (s::a))(d:∀x∈s::a,B4 B x)(o:∀x∈s::a,∃y,x.2.2=some y)(hb:Sep (t::b))(c:∀x∈t::b,B4 C x)(l:∀x∈t::b,∃y,x.2.2=some y)(he:s.2.2=some e)(g:t.2.2=some f)(h:∀m:Rat,(s::a).any (A9 · (m,0))=(t::b).any (A9 · (m,0))):¬s.1<t.1:=by
 intro z;have os:=d s (by simp);have j:=c t (by simp);have i:=(os.e e he).1;have p:=(j.e f g).1;obtain⟨m,m1,m2,m3⟩:∃m,s.1<m/\m<e/\m<t.1:=by
  by_cases w:e<t.1
  .exact ⟨_,(Hv i).1,(Hv i).2,by have:=(Hv i).2;grind⟩
  .exact ⟨_,(Hv z).1,by have:=(Hv z).2;grind,(Hv z).2⟩
 have k:=h m;rw[ABr,ABr,(DY os he).mpr ⟨.inl m1,m2⟩,De hb c l g (by grind)] at k;have n:A9 t (m,0)=false:=ADJ.mpr λy=>by have:=(DY j g).mp y;grind
 rw[n] at k;simp at k
theorem QH {B C:Nat}:∀{a b:kj BX},Sep a->Sep b->(∀x∈a,B4 B x)->(∀x∈b,B4 C x)->(∀x∈a,∃y,x.2.2=some y)->(∀x∈b,∃y,x.2.2=some y)->(∀m:Rat,a.any (A9 · (m,0))=b.any (A9 · (m,0)))->a=b
 | [], [],_,_,_,_,_,_,_=>rfl
 | s::a, [],_,_,ok,_,fa,_,h=>by obtain⟨e,he⟩:=fa s (by simp);have os:=ok s (by simp);have l:=Hv (os.e e he).1;have k:=h ((s.1+e)/2);rw[ABr,(DY os he).mpr ⟨.inl l.1,l.2⟩] at k;simp at k
 | [],s::a,_,_,_,ok,_,fa,h=>by obtain⟨e,he⟩:=fa s (by simp);have os:=ok s (by simp);have l:=Hv (os.e e he).1;have k:=h ((s.1+e)/2);rw[ABr,(DY os he).mpr ⟨.inl l.1,l.2⟩] at k;simp at k
 | s::a,t::b,ha,hb,oka,okb,fa,fb,h=>by
   obtain⟨e,he⟩:=fa s (by simp);obtain⟨f,c⟩:=fb t (by simp);have os:=oka s (by simp);have d:=okb t (by simp);have u:=(os.e e he).1;have E:=(d.e f c).1;have F:=R6 ha oka fa hb okb fb he c h;have G:=R6 hb okb fb ha oka fa c he λm=>(h m).symm;have i:s.1=t.1:=by grind
   have A:∀m,(s::a).any (A9 · (m,0))=(A9 s (m,0)||a.any (A9 · (m,0))):=λm=>by rw[ABr]
   have g:∀m,(t::b).any (A9 · (m,0))=(A9 t (m,0)||b.any (A9 · (m,0))):=λm=>by rw[ABr]
   have o:s.2.1=t.2.1:=by
    have k:=h s.1;rw[A,g,De ha oka fa he (by grind),De hb okb fb c (by grind),AEG,AEG] at k;have p:=DY (m:=s.1) os he;have r:=DY (m:=s.1) d c;have:s.2.1=1↔t.2.1=1:=by
     constructor
     .intro z;have:=r.mp (by rw[<-k];exact p.mpr ⟨.inr ⟨rfl,z⟩,u⟩);rcases this.1 with w|⟨_,w⟩
      .grind
      .exact w
     .intro z;have:=p.mp (by rw[k];exact r.mpr ⟨.inr ⟨i.symm,z⟩,by grind⟩);rcases this.1 with w|⟨_,w⟩
      .grind
      .exact w
    have:=os.h;have:=d.h;omega
   have v:e=f:=by
    by_cases w:e<f
    .have k:=h e;rw[A,g,De ha oka fa he (by grind),(DY d c).mpr ⟨.inl (by grind),w⟩] at k;have n:A9 s (e,0)=false:=ADJ.mpr λy=>by have:=(DY os he).mp y;grind
     rw[n] at k;simp at k
    .by_cases D:f<e
     .have k:=h f;rw[A,g,De hb okb fb c (by grind),(DY os he).mpr ⟨.inl (by grind),D⟩] at k;have n:A9 t (f,0)=false:=ADJ.mpr λy=>by have:=(DY d c).mp y;grind
      rw[n] at k;simp at k
     .grind
   have j:s=t:=by obtain⟨x,y,z⟩:=s;obtain⟨H,I,J⟩:=t;simp only at i o he c;subst i o he c v;rfl
   subst j;congr 1;refine QH (ABE.mp ha).2 (ABE.mp hb).2 (λx hx=>oka x (by simp[hx])) (λx hx=>okb x (by simp[hx])) (λx hx=>fa x (by simp[hx])) (λx hx=>fb x (by simp[hx])) λm=> ?_;by_cases w:m<=e
   .rw [De ha oka fa he w,De hb okb fb he w]
   .have k:=h m;have n:A9 s (m,0)=false:=ADJ.mpr λy=>by have:=(DY os he).mp y;grind
    rw[A,g,n] at k;simpa using k
abbrev JT:AS:=
 (AY (Du (HM (aV 0)) (HD 2 (AZ (An 2) (AZ (An 3) BY))) (XH 1 Dc (AX Qz (aV 3) (AR 2 GH (AB (aV 1) (AB (aV 3) AM))))))
   (Ak (aV 1)))
abbrev G9:AS:=
 (AY (Am (aC (.int 1)) (An 1))
   JT)
def Cm:AF:=Ap 4 G9
def LV {a:PV}{Q:PV->Prop}(h:G9 ⟨λ_=>Q .non,Q,λ_=>False,λ_=>False⟩ [some (.val a),none,none,none]):Cm [a] Q:=h
def Wl (xs:kj Rat):Nat:=xs.foldl (λN r=>N*(r.den/Nat.gcd N r.den)) 1
def aI (xs:kj Rat)(r:Rat):Wl (xs ++ [r])=Wl xs*(r.den/Nat.gcd (Wl xs) r.den):=by unfold Wl;rw[AEH];rfl
def mC {N d:Nat}(hN:0<N)(hd:0<d):0<N*(d/Nat.gcd N d)/\N ∣ N*(d/Nat.gcd N d)/\d ∣ N*(d/Nat.gcd N d)/\N*(d/Nat.gcd N d)<=N*d:=by have g:Nat.gcd N d ∣ d:=AD7 ..;have a:0<Nat.gcd N d:=ADj _ hd;refine⟨Nat.mul_pos hN (Nat.div_pos (AEq hd g) a),Nat.dvd_mul_right .., ?_,Nat.mul_le_mul_left _ (AD6 ..)⟩;rw[<-Nat.mul_div_assoc _ g];exact Nat.dvd_lcm_right ..
theorem Ub {W:Nat}:∀(n:Nat) (xs:kj Rat),xs.length=n->(∀x∈xs,Bd W x)->0<Wl xs/\(∀x∈xs,x.den ∣ Wl xs)/\Wl xs<2^(n*W+1)
 | 0,xs,e,_=>by have:xs= [] :=List.length_eq_zero_iff.mp e;subst this;exact⟨by decide,by simp,by simp[Wl]⟩
 | n+1,xs,e,h=>by
   obtain⟨ys,r,rfl⟩:∃ys r,xs=ys ++ [r] :=⟨xs.dropLast,xs.getLast (by intro z;subst z;cases e),(List.dropLast_concat_getLast _).symm⟩;have a:ys.length=n:=by simpa using e
   obtain⟨h1,h2,b⟩:=Ub n ys a λx hx=>h x (by simp[hx]);have c:=(h r (by simp)).bot;rw[aI];obtain⟨d,f,g,i⟩:=mC h1 r.den_pos;refine⟨d,λx hx=> ?_, ?_⟩
   .rcases ABI.mp hx with hx|hx
    .exact Nat.dvd_trans (h2 x hx) f
    .simp at hx;subst hx;exact g
   .refine ACJ i ?_;have:=gM b c;rw[show n*W+1+W=(n+1)*W+1 by rw[AFL];omega] at this;exact this
def cw {v:PV}{xs:kj Rat}{W:Nat}(hv:v= .lst (xs.map fr))(hx:∀x∈xs,Bd W x)(hl:xs.length<=6)(hW:W<=1400){Q:PV->Prop}(q:Q (.int (Wl xs:Nat))):Cm [v] Q:=by
 subst hv;apply LV;ac_rfl;refine B6 fr (λa vs τ=>∃b d,τ= [some (.val (.lst (xs.map fr))),some (.val (.int (Wl a:Nat))),b,d]) ?_ ?_ ⟨_,_,rfl⟩
 .rintro τ ⟨b,d,rfl⟩;ac_rfl;exact q
 .rintro a c vs e τ R g ⟨b,d,rfl⟩;have hu:∀x∈a,Bd W x:=λx h=>hx x (by rw[<-e];simp[h]);have ul:a.length<=6:=by rw[<-e] at hl;simp at hl;omega
  obtain⟨h1,h2,i⟩:=Ub a.length a rfl hu;have f:=(hx c (by rw[<-e];simp)).bot;have k:a.length*W<=6*1400:=AE0 ul hW;have l:0<Nat.gcd (Wl a) c.den:=ADj _ c.den_pos;have gl:Nat.gcd (Wl a) c.den<2^8900:=Ae (ACJ (AEq c.den_pos (AD7 ..)) f) (by omega);ac_rfl;refine Hc _ _ _ ?_;ac_rfl;refine⟨⟨by omega,by simpa using gl⟩, ?_⟩;have j:((c.den:Nat):Int).fdiv ((Nat.gcd (Wl a) c.den:Nat):Int)=((c.den/Nat.gcd (Wl a) c.den:Nat):Int):=by rw[ADS _ (by omega),AD8]
  rw[j];have dl:c.den/Nat.gcd (Wl a) c.den<2^1400:=Ae (ACJ (AD6 ..) f) hW;ac_rfl;refine⟨MulOk.of (m:=8401) (n:=1400) (by simpa using Ae i (by omega)) (by rw[AE1];exact dl), ?_⟩;exact g _ ⟨some (.val (.int c.num)),some (.val (.int c.den)),by rw[aI,AEr];rfl⟩
abbrev L7:AS:=
 (AY (Dv 3 Ip (AB (Ay (AB (aV 6) (AB (aV 7) AM))) AM))
   (Dv 3 Ip (AB (Ay (AB (TL Hl (aV 6)) (AB (TL Hl (aV 7)) AM))) AM)))
abbrev L6:AS:=
 (AY (Am (AX Dc (AX Ao (aV 5) (aC (.int 0))) (AX Qz (aV 2) (AX Ao (aV 5) (aC (.int 1))))) (An 7))
   L7)
abbrev Qf:AS:=
 (AY (Am (AX Dc (AX Ao (aV 4) (aC (.int 0))) (AX Qz (aV 2) (AX Ao (aV 4) (aC (.int 1))))) (An 6))
   L6)
abbrev Qi:AS:=
 (AY (Du (sZ (AB (aV 0) (AB (aV 1) AM))) (HD 2 (AZ (An 4) (AZ (An 5) BY))) Qf)
   (Ak (Ay (AB (aV 2) (AB (aV 3) AM)))))
abbrev Qg:AS:=
 (AY (GN (Ci AM) 3)
   Qi)
abbrev Od:AS:=
 (AY (Am (AR 1 Cm (AB (AX BL (aV 0) (aV 1)) AM)) (An 2))
   Qg)
def FC:AF:=Ap 8 Od
def UP {a b:PV}{Q:PV->Prop}(h:Od ⟨λ_=>Q .non,Q,λ_=>False,λ_=>False⟩ [some (.val a),some (.val b),none,none,none,none,none,none]):FC [a,b] Q:=h
def D9 (N:Nat)(r:Rat):Int:=r.num*((N:Int).fdiv (r.den:Int))
def G0 {N:Nat}{r:Rat}(h:r.den ∣ N):(D9 N r:Rat)=r*N:=by
 obtain⟨k,rfl⟩:=h;have hd:=r.den_pos;unfold D9;rw[AEr,Int.mul_fdiv_cancel_left _ (by omega),ADZ];have hn:((r.den:Int):Rat)≠0:=λz=>by have:(r.den:Int)=0:=Rat.intCast_inj.mp z;omega
 have e:r=(r.num:Rat)/((r.den:Int):Rat):=by rw[<-AEL,AC5]
 have a:r*((r.den:Int):Rat)=r.num:=by
  conv=>lhs;arg 1;rw[e]
  grind
 rw[<-a,show ((r.den*k:Nat):Rat)=((r.den:Int):Rat)*((k:Int):Rat) by rw[<-ADZ,<-AEr,Rat.intCast_natCast]];grind
abbrev C2 (p:Int×Int):PV:= .tup [.int p.1, .int p.2]
def X7 (t:T3):PV:= .lst [fr t.1,fr t.2.1,fr t.2.2]
structure Pc where
 b:Rat
 e:Rat
 o0:T3
 o1:T3
def Pc.six (p:Pc):kj Rat:= [p.o0.1,p.o0.2.1,p.o0.2.2,p.o1.1,p.o1.2.1,p.o1.2.2]
def Pc.N (p:Pc):Nat:=Wl p.six
def Pc.lns (p:Pc):kj (Int×Int):= [(D9 p.N p.o0.1,D9 p.N p.o1.1),(-D9 p.N p.o0.1, -D9 p.N p.o1.1),(D9 p.N p.o0.2.1,D9 p.N p.o1.2.1),(-D9 p.N p.o0.2.1, -D9 p.N p.o1.2.1),(D9 p.N p.o0.2.2,D9 p.N p.o1.2.2),(-D9 p.N p.o0.2.2, -D9 p.N p.o1.2.2)]
def jN (p:Pc):PV:= .tup [fr p.b,fr p.e, .int p.N, .lst (p.lns.map C2)]
def iV {W:Nat}{p:Pc}(a:EN W p.o0)(h1:EN W p.o1):∀x∈p.six,Bd W x:=by
 intro x hx;simp only[Pc.six,AAK,ABR,ABS] at hx;rcases hx with rfl|rfl|rfl|rfl|rfl|rfl
 .exact a.x
 .exact a.y
 .exact a.z
 .exact h1.x
 .exact h1.y
 .exact h1.z
def ZZ {N d k:Nat}(h:N<2^k):((N:Int).fdiv (d:Int)).natAbs<2^k:=by rw[ADS _ (by omega),<-AD8,AE1];exact ACJ (AD6 ..) h
def gF {p:Pc}{W:Nat}(b:EN W p.o0)(h1:EN W p.o1)(hW:W<=1400){Q:PV->Prop}(q:Q (.tup [.int p.N, .lst (p.lns.map C2)])):FC [X7 p.o0,X7 p.o1] Q:=by
 have hs:=iV b h1;obtain⟨f,g,d⟩:=Ub 6 p.six rfl hs;have e:(p.N:Nat)<2^8401:=Ae d (by omega);have a:∀r:Rat,Bd W r->VQ (p.N:Int) (r.den:Int)/\MulOk r.num ((p.N:Int).fdiv (r.den:Int)):=λr c=>
  ⟨⟨Bh r,by simpa using Ae c.bot (by omega)⟩,MulOk.of (m:=1400) (n:=8401) (Ae c.top hW) (ZZ e)⟩
 unfold X7;apply UP;repeat' array_get_dec
 refine cw (xs:=p.six) (W:=W) rfl hs (by show 6<=6;omega) hW ?_;have q:Q (.tup [.int p.N, .lst [C2 (D9 p.N p.o0.1,D9 p.N p.o1.1),C2 (-D9 p.N p.o0.1, -D9 p.N p.o1.1),C2 (D9 p.N p.o0.2.1,D9 p.N p.o1.2.1),C2 (-D9 p.N p.o0.2.1, -D9 p.N p.o1.2.1),C2 (D9 p.N p.o0.2.2,D9 p.N p.o1.2.2),C2 (-D9 p.N p.o0.2.2, -D9 p.N p.o1.2.2)]]):=q;unfold D9 at q;rw[show Wl p.six=p.N from rfl];generalize p.N=N at *;repeat' array_get_dec
 refine⟨(a _ b.x).1,(a _ b.x).2, ?_⟩;repeat' array_get_dec
 refine⟨(a _ h1.x).1,(a _ h1.x).2, ?_⟩;repeat' array_get_dec
 refine⟨(a _ b.y).1,(a _ b.y).2, ?_⟩;repeat' array_get_dec
 refine⟨(a _ h1.y).1,(a _ h1.y).2, ?_⟩;repeat' array_get_dec
 refine⟨(a _ b.z).1,(a _ b.z).2, ?_⟩;repeat' array_get_dec
 refine⟨(a _ h1.z).1,(a _ h1.z).2, ?_⟩;repeat' array_get_dec
 exact q
abbrev Y7:AS:=
 (AY (Am (AX BL (AR 3 Bj (AB (aV 0) (AB (aV 2) (AB (aV 3) AM)))) (AR 3 Bj (AB (aV 1) (AB (aV 2) (AB (aV 3) AM))))) (An 4))
   (Ak (AR 1 GL (AB (AX BL (FX (Ci (AB (aV 2) (AB (aV 3) AM)))) (FX (C1 (HM (aV 4)) 1 [] (An 0) FH (AX Ao (aV 0) (aC (.int 0)))))) AM))))
def IR:AF:=Ap 5 Y7
def cr {a b c d:PV}{Q:PV->Prop}(h:Y7 ⟨λ_=>Q .non,Q,λ_=>False,λ_=>False⟩ [some (.val a),some (.val b),some (.val c),some (.val d),none]):IR [a,b,c,d] Q:=h
def D8 (cs ds:kj C4)(b e:Rat):kj Rat:=CO ([b,e] ++ ((cs.filter (IU b e)++ds.filter (IU b e)).map (·.1)))
def DH {cs ds:kj C4}{b e x:Rat}:x∈D8 cs ds b e↔x=b\/x=e\/(b<x/\x<e/\∃c,(c∈cs\/c∈ds)/\c.1=x):=by
 unfold D8;rw[B9];simp only[AEC,ACE,AAK,ABG,ABI,ABX,IU,ACA,ADh];constructor
 .rintro (h|h|⟨c,h,rfl⟩)
  .exact .inl h
  .exact .inr (.inl h)
  .rcases h with⟨h1,h2,a⟩|⟨h1,h2,a⟩
   .exact .inr (.inr ⟨h2,a,c, .inl h1,rfl⟩)
   .exact .inr (.inr ⟨h2,a,c, .inr h1,rfl⟩)
 .rintro (h|h|⟨h1,h2,c,h,rfl⟩)
  .exact .inl h
  .exact .inr (.inl h)
  .exact .inr (.inr ⟨c,h.elim (λh=> .inl ⟨h,h1,h2⟩) (λh=> .inr ⟨h,h1,h2⟩),rfl⟩)
def NA {cs ds:kj C4}{b e:Rat}:(D8 cs ds b e).length<=2+(cs.length+ds.length):=by unfold D8;refine ABT FP ?_;have h1:=ACz (IU b e) cs;have h2:=ACz (IU b e) ds;simp only[AB9,ABL,ABd,ADn];omega
def Wu {cs ds:kj C4}{v w:PV}{b e:Rat}{B:Nat}(hv:BI cs v)(hw:BI ds w)(hl:cs.length<=100)(j:ds.length<=100)(hc:∀c∈cs,Dp B c)(g:∀c∈ds,Dp B c)(a:B<=4000)(d:Bd B b)(f:Bd B e){Q:PV->Prop}(q:Q (.lst ((D8 cs ds b e).map fr))):IR [v,w,fr b,fr e] Q:=by
 have h1:=ACz (IU b e) cs;have h2:=ACz (IU b e) ds;apply cr;ac_rfl;refine Cy hv (by omega) hc a (d.mono a) (f.mono a) ?_;ac_rfl;refine Cy hw (by omega) g a (d.mono a) (f.mono a) ?_;ac_rfl;rw[<-ABV];ac_rfl;refine Dx cor fr (λc=>c.1) (λ_=>True) (λc _ R i=> ?_) _ [] (by simp) ?_
 .ac_rfl;exact i
 rw[ACE];ac_rfl;refine R0 (xs:= [b,e] ++ (cs.filter (IU b e)++ds.filter (IU b e)).map (·.1)) (B:=B) (.inl rfl) (by simp only[AB9,ABL,ABd,ADn];omega) (λx hx=> ?_) a q;rcases ABI.mp hx with hx|hx
 .simp only[AAK,ABR,ABS] at hx;rcases hx with rfl|rfl
  .exact d
  .exact f
 .obtain ⟨c,h,rfl⟩:=ABG.mp hx;rcases ABI.mp h with h|h
  .exact (hc c (ABX.mp h).1).m
  .exact (g c (ABX.mp h).1).m
abbrev VB:AS:=
 (AY (Am (AR 2 FC (AB (AX Ao (aV 5) (AX Ex (aV 7) (aC (.int 1)))) (AB (AX Ao (aV 5) (aV 7)) AM))) (HD 2 (AZ (An 8) (AZ (An 9) BY))))
   (Dv 6 Ip (AB (Ay (AB (AX Ao (aV 4) (AX Ex (aV 7) (aC (.int 1)))) (AB (AX Ao (aV 4) (aV 7)) (AB (aV 8) (AB (aV 9) AM))))) AM)))
abbrev VG:AS:=
 (AY (Du (jm (AB (aC (.int 1)) (AB (FZ FN (AB (aV 4) AM)) AM))) (An 7) VB)
   (Ak (aV 6)))
abbrev VF:AS:=
 (AY (GN (Ci AM) 6)
   VG)
abbrev VE:AS:=
 (AY (Am (FX (C1 (HM (aV 4)) 1 [0,1,2] (An 0) FH (AR 4 EI (AB (aV 1) (AB (aV 2) (AB (aV 3) (AB (aV 0) AM))))))) (An 5))
   VF)
abbrev VD:AS:=
 (AY (Am (AR 4 IR (AB (aV 0) (AB (aV 1) (AB (AX Ao (aV 3) (aC (.int 0))) (AB (AX Ao (aV 3) (aC (.int 1))) AM))))) (An 4))
   VE)
abbrev VC:AS:=
 (AY (BE (Ah (AX Nf (aV 3) (aC .non))) (Ak (FX (Ci AM))) Av)
   VD)
abbrev VA:AS:=
 (AY (Am (AR 2 Cz (AB (aV 0) (AB (aV 1) AM))) (An 3))
   VC)
def FD:AF:=Ap 10 VA
def Yd {a b c:PV}{Q:PV->Prop}(h:VA ⟨λ_=>Q .non,Q,λ_=>False,λ_=>False⟩ [some (.val a),some (.val b),some (.val c),none,none,none,none,none,none,none]):FD [a,b,c] Q:=h
def ofs (cs ds:kj C4)(d:Rat×Rat)(m:Rat):T3:=Ej ((spotC cs m).getD (0,0,0)) ((spotC ds m).getD (0,0,0)) d
def LJ (cs ds:kj C4)(d:Rat×Rat)(ts:kj Rat):kj Pc:=(ts.zip ts.tail).map λp=>⟨p.1,p.2,ofs cs ds d p.1,ofs cs ds d p.2⟩
def zip_get {ts:kj Rat}{i:Nat}{x y:Rat}(hx:ts[i]? =some x)(hy:ts[i+1]? =some y):(ts.zip ts.tail)[i]? =some (x,y):=by rw[List.getElem?_zip_eq_some];exact⟨hx,by rw[List.getElem?_tail];exact hy⟩
structure vd (cs ds:List C4) (b e:Rat):Prop where
 lt:b<e
 one:∀m,b<=m->m<=e->∃t,spotC cs m=some t
 other:∀m,b<=m->m<=e->∃t,spotC ds m=some t
def i9 {a l b c:C4}{r r2:kj C4}(e:r≠ [])(f:r2≠ [])(g:(a::r).getLast?=some l)(d:(b::r2).getLast?=some c)(h:mx a.1 b.1<mn l.1 c.1):vd (a::r) (b::r2) (mx a.1 b.1) (mn l.1 c.1):=by
 have i:a.1<=mx a.1 b.1:=by unfold mx;split <;> grind
 have j:b.1<=mx a.1 b.1:=by unfold mx;split <;> grind
 have k:mn l.1 c.1<=l.1:=by unfold mn;split <;> grind
 have n:mn l.1 c.1<=c.1:=by unfold mn;split <;> grind
 exact⟨h,λm h1 h2=>Df e g (by grind) (by grind),λm h1 h2=>Df f d (by grind) (by grind)⟩
def ph {cs ds:kj C4}{d:Rat×Rat}{b e m:Rat}{B M D:Nat}(g:vd cs ds b e)(h1:b<=m)(h2:m<=e)(i:Et cs)(j:Et ds)(hc:∀c∈cs,Dp B c)(k:∀c∈ds,Dp B c)(bm:Bd M m)(b1:Bd D d.1)(b2:Bd D d.2)(p1:d.1≠0)(p2:d.2≠0):EN (2*(M+6*B+10)+1+D) (ofs cs ds d m):=by obtain⟨s,es⟩:=g.one m h1 h2;obtain⟨t,h⟩:=g.other m h1 h2;have a:=EN.spotC bm i hc s es;have f:=EN.spotC bm j k t h;unfold ofs;rw[es,h];exact⟨(((a.x.sub f.x).div p1 b1)).mono (by omega),(((a.y.sub f.y).div p1 b1)).mono (by omega),(((a.z.sub f.z).div p2 b2)).mono (by omega)⟩
def aa (ts:kj Rat):(ts.zip ts.tail).length=ts.length-1:=by rw[List.length_zip,List.length_tail];omega
def OE {cs ds:kj C4}{d:Rat×Rat}{ts:kj Rat}:(LJ cs ds d ts).length=ts.length-1:=by unfold LJ;rw[ABL,aa]
def Dm {cs ds:kj C4}{b e:Rat}:Qr (D8 cs ds b e):=CP
def Ek {cs ds:kj C4}{b e x:Rat}(h:b<e)(hx:x∈D8 cs ds b e):b<=x/\x<=e:=by rcases DH.mp hx with rfl|rfl|⟨h1,h2,_⟩ <;> exact⟨by grind,by grind⟩
def Lh {cs ds:kj C4}{b e x:Rat}{M:Nat}(hc:∀c∈cs,Bd M c.1)(a:∀c∈ds,Bd M c.1)(d:Bd M b)(f:Bd M e)(hx:x∈D8 cs ds b e):Bd M x:=by
 rcases DH.mp hx with rfl|rfl|⟨_,_,c,h,rfl⟩
 .exact d
 .exact f
 .rcases h with h|h
  .exact hc c h
  .exact a c h
def Fy (cs:kj C4):Rat:=(cs.head?.getD (0,0,0,0)).1
def lstM (cs:kj C4):Rat:=(cs.getLast?.getD (0,0,0,0)).1
def A4 (cs ds:kj C4):Rat:=mx (Fy cs) (Fy ds)
def Ax (cs ds:kj C4):Rat:=mn (lstM cs) (lstM ds)
def NV (cs ds:kj C4):kj Rat:=D8 cs ds (A4 cs ds) (Ax cs ds)
structure El (cs ds:List C4) (d:Rat×Rat) (M W:Nat):Prop where
 c1:∀c∈cs,Dp 150 c
 c2:∀c∈ds,Dp 150 c
 r1:Et cs
 r2:Et ds
 t1:2<=cs.length
 t2:2<=ds.length
 f1:cs.length<=100
 f2:ds.length<=100
 m1:∀c∈cs,Bd M c.1
 m2:∀c∈ds,Bd M c.1
 b1:Bd 100 d.1
 b2:Bd 100 d.2
 p1:0<d.1
 p2:0<d.2
 w:A4 cs ds<Ax cs ds->∀m∈NV cs ds,EN W (ofs cs ds d m)
 hM:M<=150
 hW:W<=1050
def open2 {cs:kj C4}(h:2<=cs.length):∃a r l,cs=a::r/\r≠ [] /\(a::r).getLast?=some l:=by
 match cs,h with
 | a::b::r,_=> obtain⟨l,c⟩:∃l,(a::b::r).getLast?=some l:=⟨_,AEx (by simp)⟩;exact⟨a,b::r,l,rfl,by simp,c⟩
def IW {a:C4}{r:kj C4}:Fy (a::r)=a.1:=rfl
def Bn {cs:kj C4}{l:C4}(e:cs.getLast?=some l):lstM cs=l.1:=by unfold lstM;rw[e];rfl
section
variable {cs ds:kj C4}{d:Rat×Rat}{M W:Nat}
theorem El.fstB (D:El cs ds d M W):Bd M (Fy cs):=by obtain⟨a,r,l,rfl,b,c⟩:=open2 D.t1;exact D.m1 a (by simp)
theorem El.fstB2 (D:El cs ds d M W):Bd M (Fy ds):=by obtain⟨a,r,l,rfl,b,c⟩:=open2 D.t2;exact D.m2 a (by simp)
theorem El.lstB (D:El cs ds d M W):Bd M (lstM cs):=by obtain⟨a,r,l,rfl,c,b⟩:=open2 D.t1;rw[Bn b];exact D.m1 l (ACB b)
theorem El.lstB2 (D:El cs ds d M W):Bd M (lstM ds):=by obtain⟨a,r,l,rfl,c,b⟩:=open2 D.t2;rw[Bn b];exact D.m2 l (ACB b)
theorem El.begB (D:El cs ds d M W):Bd M (A4 cs ds):=D.fstB.mx D.fstB2
theorem El.endB (D:El cs ds d M W):Bd M (Ax cs ds):=D.lstB.mn D.lstB2
theorem El.tog (D:El cs ds d M W)(h:A4 cs ds<Ax cs ds):vd cs ds (A4 cs ds) (Ax cs ds):=by obtain⟨a,r,l,rfl,e,c⟩:=open2 D.t1;obtain⟨g,r2,i,rfl,f,b⟩:=open2 D.t2;unfold A4 Ax at h ⊢;rw[IW,IW,Bn c,Bn b] at h ⊢;exact i9 e f c b h
end
def aU {cs ds:kj C4}{d:Rat×Rat}{M W:Nat}(D:El cs ds d M W){v w:PV}(hv:BI cs v)(hw:BI ds w){Q:PV->Prop}(c:A4 cs ds<Ax cs ds->Q (.tup [fr (A4 cs ds),fr (Ax cs ds)]))(e:¬A4 cs ds<Ax cs ds->Q .non):Cz [v,w] Q:=by have i:=D.fstB;have j:=D.fstB2;have g:=D.lstB;have h:=D.lstB2;have hM:=D.hM;obtain⟨a,r,l,rfl,k,f⟩:=open2 D.t1;obtain⟨m,r2,n,rfl,o,b⟩:=open2 D.t2;unfold A4 Ax at c e;rw[IW,IW,Bn f,Bn b] at c e;rw[Bn f] at g;rw[Bn b] at h;exact NT hv hw f b (i.mono (by omega)) (g.mono (by omega)) (j.mono (by omega)) (h.mono (by omega)) c e
def En (cs ds:kj C4)(d:Rat×Rat):kj Pc:=if A4 cs ds<Ax cs ds then LJ cs ds d (NV cs ds) else []
def Ml {cs ds:kj C4}{d:Rat×Rat}{M W:Nat}(D:El cs ds d M W){v w u:PV}(hv:BI cs v)(hw:BI ds w)(hu:ON d u){Q:PV->Prop}(q:Q (.lst ((En cs ds d).map jN))):FD [v,w,u] Q:=by
 have hM:=D.hM;have hW:=D.hW;have o:=D.f1;have r:=D.f2;apply Yd;ac_rfl;refine aU D hv hw (λh=> ?_) (λh=> ?_);rotate_left
 .unfold En at q;rw[AAH h] at q;ac_rfl;exact q
 unfold En at q;rw[AAJ h] at q;have A:=D.tog h;ac_rfl;refine Wu (B:=150) hv hw o r D.c1 D.c2 (by decide) (D.begB.mono hM) (D.endB.mono hM) ?_;have F:=NA (cs:=cs) (ds:=ds) (b:=A4 cs ds) (e:=Ax cs ds);have l:∀x∈NV cs ds,A4 cs ds<=x/\x<=Ax cs ds:=λx hx=>Ek h hx;have G:∀x∈NV cs ds,Bd M x:=λx hx=>Lh D.m1 D.m2 D.begB D.endB hx;have C:∀x∈NV cs ds,EN W (ofs cs ds d x):=D.w h;have H:(NV cs ds).length<=2+(cs.length+ds.length):=F;rw[show D8 cs ds (A4 cs ds) (Ax cs ds)=NV cs ds from rfl];generalize NV cs ds=ts at *;ac_rfl;refine Dx fr X7 (ofs cs ds d) (λx=>x∈ts) (λx hx R k=> ?_) ts [] (λx hx=>hx) ?_
 .obtain ⟨s,es⟩:=A.one x (l x hx).1 (l x hx).2;obtain⟨t,E⟩:=A.other x (l x hx).1 (l x hx).2;have k:R (X7 (Ej ((spotC cs x).getD (0,0,0)) ((spotC ds x).getD (0,0,0)) d)):=k;rw[es,E] at k;ac_rfl;exact lG hv hw hu D.c1 D.c2 D.r1 D.r2 (by have:=D.t1;intro z;subst z;simp at this) (by have:=D.t2;intro z;subst z;simp at this) o r ((G x hx).mono (by omega)) D.b1 D.b2 (by have:=D.p1;grind) (by have:=D.p2;grind) es E k
 rw[ACE];ac_rfl;refine Za (λi τ=>∃g j a,τ= [some (.val v),some (.val w),some (.val u),some (.val (.tup [fr (A4 cs ds),fr (Ax cs ds)])),some (.val (.lst (ts.map fr))),some (.val (.lst ((ts.map (ofs cs ds d)).map X7))),some (.own (((LJ cs ds d ts).take i).map jN)),g,j,a]) ?_ ?_ ⟨_,_,_,rfl⟩
 .rintro τ ⟨g,j,a,rfl⟩;rw[AEg (by rw[OE];omega)];ac_rfl;exact q
 .rintro i hi τ R k ⟨g,j,a,rfl⟩;have I:i+1<ts.length:=by omega
  obtain⟨x,ex⟩:∃x,ts[i]? =some x:=⟨_,ABf (by omega)⟩;obtain⟨y,m⟩:∃y,ts[i+1]? =some y:=⟨_,ABf I⟩;have N:=OE (cs:=cs) (ds:=ds) (d:=d) (ts:=ts);have J:=C x (AB8 ex);have K:=C y (AB8 m);have ep:(LJ cs ds d ts).take (i+1)=(LJ cs ds d ts).take i ++ [⟨x,y,ofs cs ds d x,ofs cs ds d y⟩] :=by
   have L:(LJ cs ds d ts)[i]? =some ⟨x,y,ofs cs ds d x,ofs cs ds d y⟩:=by unfold LJ;rw[ABw,zip_get ex m];rfl
   rw[List.take_succ,L];rfl
  have t1:((1:Int)+(i:Int)-1).toNat=i:=by omega
  have t2:((1:Int)+(i:Int)).toNat=i+1:=by omega
  have n:∀g j a,R [some (.val v),some (.val w),some (.val u),some (.val (.tup [fr (A4 cs ds),fr (Ax cs ds)])),some (.val (.lst (ts.map fr))),some (.val (.lst ((ts.map (ofs cs ds d)).map X7))),some (.own (((LJ cs ds d ts).take i).map jN ++ [jN ⟨x,y,ofs cs ds d x,ofs cs ds d y⟩])),g,j,a] :=λg j a=>k _ ⟨g,j,a,by rw[ep,ABV];rfl⟩;ac_rfl;rename_i c1 c _ c2 f _;rw[t1,ABw,ex] at c;rw[t2,ABw,m] at f;cases c;cases f;refine gF (p:=⟨x,y,ofs cs ds d x,ofs cs ds d y⟩) J K (by omega) ?_;ac_rfl;rename_i c1 c _ c2 f _;rw[t1,ex] at c;cases c;rw[t2,m] at f;cases f;ac_rfl;exact n _ _ _
abbrev NE:AS:=
 (Ak (AR 2 Hf (AB (aV 0) (AB (AR 2 Fe (AB (AR 2 Gc (AB (AX Ao (aV 2) (aC (.int 0))) (AB (AX Ao (aV 2) (aC (.int 1))) AM))) (AB (AR 2 Ds (AB (aV 1) (AB (aV 0) AM))) AM))) AM))))
def CY:AF:=Ap 3 NE
def RH {a b c:PV}{Q:PV->Prop}(h:NE ⟨λ_=>Q .non,Q,λ_=>False,λ_=>False⟩ [some (.val a),some (.val b),some (.val c)]):CY [a,b,c] Q:=h
def sv (p:Int×Int):Rat:=(p.1:Rat)/(p.2:Rat)
def MJ {i:Int}(h:0<i):(0:Rat)<(i:Rat):=by have:=ACF.mpr h;simpa using this
def ip {a b:Int×Int}(ha:0<a.2)(hb:0<b.2):sv a<sv b↔a.1*b.2<b.1*a.2:=by
 have h1:=MJ ha;have h2:=MJ hb;unfold sv;rw[AC7 h1,<-ACF,ADZ,ADZ];have e:(b.1:Rat)/(b.2:Rat)*(a.2:Rat)=(b.1:Rat)*(a.2:Rat)/(b.2:Rat):=by grind
 rw[e,AEM h2]
structure Sz (p:Int×Int):Prop where
 pos:0<p.2
 t:p.1.natAbs<2^8850
 n:p.2.natAbs<2^8850
def GP {a b:Int×Int}(ha:Sz a)(hb:Sz b){Q:PV->Prop}(q:Q (.bl (decide (sv a<sv b)))):Aj [C2 a,C2 b] Q:=by refine⟨MulOk.of ha.t hb.n,MulOk.of hb.t ha.n, ?_⟩;rw[AC6.mpr (ip ha.pos hb.pos)] at q;exact q
def cD {a b:Int×Int}(ha:Sz a)(hb:Sz b){Q:PV->Prop}(q:Q (C2 (if sv b<sv a then b else a))):Eg [C2 a,C2 b] Q:=by
 refine⟨rfl,GP hb ha ?_⟩;refine Fz (b:=decide (sv b<sv a)) (λz=> ?_) (λz=> ?_)
 .rw [AAJ (ABx z)] at q;exact q
 .rw [AAH (ACb z)] at q;exact q
def Gm {b e:Rat}{p:Int×Int}{M S:Nat}(hp:Sz p)(bs:Bd S (sv p))(a:Bd M b)(c:Bd M e)(hM:M<=300)(f:S<=3200){Q:PV->Prop}(q:Q (fr (b+sv p*(e-b)))):CY [fr b,fr e,C2 p] Q:=by
 have d:p.2≠0:=by have:=hp.pos;omega
 have es:Rat.divInt p.1 p.2=sv p:=AEL ..;have k:=c.sub a;have g:=bs.mul k;apply RH;ac_rfl;refine EJ _ _ d (Ae hp.n (by decide)) _ ?_;rw[es];ac_rfl;exact q
def lv (l:Int×Int)(s:Rat):Rat:=(l.1:Rat)+s*((l.2:Rat)-(l.1:Rat))
structure NI (N:Nat) (S:Nat) (us:List (Int×Int)) (lo hi:Int×Int) (h:Int):Prop where
 l:Sz lo
 r:Sz hi
 bl:Bd S (sv lo)
 br:Bd S (sv hi)
 h01:h=0\/h=1
 lo0:0<=sv lo
 hi1:sv hi<=1
 sem:∀s,0<=s->s<1->((∀l∈us,lv l s<N)↔(sv lo<s\/(sv lo=s/\h=1))/\s<sv hi)
def im:sv (0,1)=0:=by decide +kernel
def Ws:sv (1,1)=1:=by decide +kernel
def pY {N S:Nat}(a:1<=S):NI N S [] (0,1) (1,1) 1:=by
 refine⟨⟨by decide, ?_, ?_⟩,⟨by decide, ?_, ?_⟩, ?_, ?_, .inr rfl,by rw[im];grind,by rw[Ws];grind,λs b h1=> ?_⟩
 .exact Ae (m:=1) (by decide) (by decide)
 .exact Ae (m:=1) (by decide) (by decide)
 .exact Ae (m:=1) (by decide) (by decide)
 .exact Ae (m:=1) (by decide) (by decide)
 .rw [im];exact jJ.mono a
 .rw [Ws];exact rQ.mono a
 .rw [im,Ws];exact⟨λ_=>⟨by grind,h1⟩,λ_=>by simp⟩
structure Ik (N W:Nat) (l:Int×Int):Prop where
 a:l.1.natAbs<2^8848
 b:l.2.natAbs<2^8848
 n:N<2^8848
 n0:0<N
 ex:∃u v:Rat,Bd W u/\Bd W v/\(l.1:Rat)=u*N/\(l.2:Rat)=v*N
def Ow {N:Nat}(h:0<N):(0:Rat)<(N:Rat):=Rat.natCast_pos.mpr h
def NS {a b:Int}{k:Nat}(ha:a.natAbs<2^k)(hb:b.natAbs<2^k):(a-b).natAbs<2^(k+1):=Um ha hb
def EY {a:kj (Int×Int)}{l:Int×Int}{P:Int×Int->Prop}:(∀x∈a ++ [l],P x)↔(∀x∈a,P x)/\P l:=by
 constructor
 .intro h;exact⟨λx hx=>h x (by simp[hx]),h l (by simp)⟩
 .rintro ⟨h1,h2⟩ x hx;rcases ABI.mp hx with hx|hx
  .exact h1 x hx
  .simp at hx;subst hx;exact h2
def Dw (N:Nat):((N:Int):Rat)=(N:Rat):=Rat.intCast_natCast N
def MY {N W:Nat}{l:Int×Int}(h:Ik N W l)(h1:(N:Int)<=l.1)(h2:l.2<(N:Int)):Sz (l.1-N,l.1-l.2)/\Bd (3*W+3) (sv (l.1-N,l.1-l.2))/\0<=sv (l.1-N,l.1-l.2)/\∀s,lv l s<N↔sv (l.1-N,l.1-l.2)<s:=by
 obtain⟨u,v,d,g,e,f⟩:=h.ex;have hn:=Ow h.n0;have p2:0<l.1-l.2:=by omega
 have k:((N:Rat))<=(l.1:Rat):=by rw[<-Dw];exact ADa.mpr h1
 have m:(l.2:Rat)<(N:Rat):=by rw[<-Dw];exact ACF.mpr h2
 have es:sv (l.1-N,l.1-l.2)=((l.1:Rat)-N)/((l.1:Rat)-l.2):=by unfold sv;show ((l.1-(N:Int):Int):Rat)/((l.1-l.2:Int):Rat)=_;rw[ADb,ADb,Dw]
 have c:(0:Rat)<(l.1:Rat)-l.2:=by grind
 have i:u-v≠0:=by
  intro z;have:u=v:=by grind
  subst this;grind
 have j:sv (l.1-N,l.1-l.2)=(u-1)/(u-v):=by
  rw[es,e,f];have:u*(N:Rat)-v*N≠0:=by rw[e,f] at c;grind
  have:(N:Rat)≠0:=by grind
  grind
 refine⟨⟨p2,Ae (NS h.a (by simpa using h.n)) (by decide),Ae (NS h.a h.b) (by decide)⟩, ?_, ?_,λs=> ?_⟩
 .rw [j];exact((d.sub rQ).div i (d.sub g)).mono (by omega)
 .rw [es,<-ACK,AC7 c];grind
 .rw [es,AC7 c];unfold lv;constructor <;> intro z <;> grind
def Tg {N W:Nat}{l:Int×Int}(h:Ik N W l)(h1:l.1<(N:Int))(h2:(N:Int)<l.2):Sz (N-l.1,l.2-l.1)/\Bd (3*W+3) (sv (N-l.1,l.2-l.1))/\sv (N-l.1,l.2-l.1)<=1/\∀s,lv l s<N↔s<sv (N-l.1,l.2-l.1):=by
 obtain⟨u,v,d,g,e,f⟩:=h.ex;have hn:=Ow h.n0;have p2:0<l.2-l.1:=by omega
 have k:(l.1:Rat)<(N:Rat):=by rw[<-Dw];exact ACF.mpr h1
 have m:(N:Rat)<(l.2:Rat):=by rw[<-Dw];exact ACF.mpr h2
 have es:sv (N-l.1,l.2-l.1)=((N:Rat)-l.1)/((l.2:Rat)-l.1):=by unfold sv;show (((N:Int)-l.1:Int):Rat)/((l.2-l.1:Int):Rat)=_;rw[ADb,ADb,Dw]
 have c:(0:Rat)<(l.2:Rat)-l.1:=by grind
 have i:v-u≠0:=by
  intro z;have:u=v:=by grind
  subst this;grind
 have j:sv (N-l.1,l.2-l.1)=(1-u)/(v-u):=by
  rw[es,e,f];have:v*(N:Rat)-u*N≠0:=by rw[e,f] at c;grind
  have:(N:Rat)≠0:=by grind
  grind
 refine⟨⟨p2,Ae (NS (by simpa using h.n) h.a) (by decide),Ae (NS h.b h.a) (by decide)⟩, ?_, ?_,λs=> ?_⟩
 .rw [j];exact((rQ.sub d).div i (g.sub d)).mono (by omega)
 .rw [es,<-ACK,AEM c];grind
 .rw [es,AEM c];unfold lv;constructor <;> intro z <;> grind
section
variable {N W:Nat}{us:kj (Int×Int)}{lo hi l:Int×Int}{h:Int}
def pX (i:NI N (3*W+3) us lo hi h)(o:Ik N W l)(h1:(N:Int)<=l.1)(h2:l.2<(N:Int))(k:¬sv (l.1-N,l.1-l.2)<sv lo):NI N (3*W+3) (us ++ [l]) (l.1-N,l.1-l.2) hi 0:=by
 obtain⟨a,b,c,e⟩:=MY o h1 h2;refine⟨a,i.r,b,i.br, .inl rfl,c,i.hi1,λs d f=> ?_⟩;rw[EY,i.sem s d f,e s];constructor
 .rintro ⟨⟨x,y⟩,z⟩;exact⟨.inl z,y⟩
 .rintro ⟨x|⟨_,x⟩,y⟩
  .exact ⟨⟨.inl (by grind),y⟩,x⟩
  .cases x
def lD (i:NI N (3*W+3) us lo hi h)(o:Ik N W l)(h1:(N:Int)<=l.1)(h2:l.2<(N:Int))(k:sv (l.1-N,l.1-l.2)<sv lo):NI N (3*W+3) (us ++ [l]) lo hi h:=by
 obtain⟨a,b,c,e⟩:=MY o h1 h2;refine⟨i.l,i.r,i.bl,i.br,i.h01,i.lo0,i.hi1,λs d f=> ?_⟩;rw[EY,i.sem s d f,e s];constructor
 .rintro ⟨x,z⟩;exact x
 .rintro ⟨x,y⟩;refine⟨⟨x,y⟩, ?_⟩;rcases x with x|⟨x,_⟩ <;> grind
def lC (i:NI N (3*W+3) us lo hi h)(o:Ik N W l)(h1:l.1<(N:Int))(h2:(N:Int)<l.2):NI N (3*W+3) (us ++ [l]) lo (if sv (N-l.1,l.2-l.1)<sv hi then (N-l.1,l.2-l.1) else hi) h:=by
 obtain⟨a,b,c,e⟩:=Tg o h1 h2;by_cases k:sv (N-l.1,l.2-l.1)<sv hi
 .rw [AAJ k];refine⟨i.l,a,i.bl,b,i.h01,i.lo0,c,λs d f=> ?_⟩;rw[EY,i.sem s d f,e s];constructor
  .rintro ⟨⟨x,y⟩,z⟩;exact⟨x,z⟩
  .rintro ⟨x,y⟩;exact⟨⟨x,by grind⟩,y⟩
 .rw [AAH k];refine⟨i.l,i.r,i.bl,i.br,i.h01,i.lo0,i.hi1,λs d f=> ?_⟩;rw[EY,i.sem s d f,e s];constructor
  .rintro ⟨x,z⟩;exact x
  .rintro ⟨x,y⟩;exact⟨⟨x,y⟩,by grind⟩
def uQ (i:NI N (3*W+3) us lo hi h)(h1:l.1<(N:Int))(h2:¬(N:Int)<l.2):NI N (3*W+3) (us ++ [l]) lo hi h:=by
 have b:(l.1:Rat)<(N:Rat):=by rw[<-Dw];exact ACF.mpr h1
 have c:(l.2:Rat)<=(N:Rat):=by rw[<-Dw];exact ADa.mpr (by omega)
 refine⟨i.l,i.r,i.bl,i.br,i.h01,i.lo0,i.hi1,λs a d=> ?_⟩;rw[EY,i.sem s a d];constructor
 .rintro ⟨x,z⟩;exact x
 .intro x;refine⟨x, ?_⟩;have y:lv l s=(1-s)*(l.1:Rat)+s*(l.2:Rat):=by unfold lv;grind
  have e:(1-s)*(l.1:Rat)<(1-s)*N:=ADq b (by grind);have f:s*(l.2:Rat)<=s*N:=ADr c a;rw[y];grind
end
abbrev Sf:AS:=
 (AY (Am (aV 10) (An 1))
   (Am (aC (.int 0)) (An 2)))
abbrev Sg:AS:=
 (AY (Am (Ay (AB (AX Ex (aV 8) (aV 6)) (AB (AX Ex (aV 8) (aV 9)) AM))) (An 10))
   (BE (Ca (Ah (AR 2 Aj (AB (aV 10) (AB (aV 1) AM))))) Sf Av))
abbrev Si:AS:=
 (AY (BE (Ff (Ah (AX mo (aV 8) (aV 6))) (Ah (AX mo (aV 9) (aV 6)))) (Ak (FX (Ci AM))) Av)
   (BE (Ah (AX mo (aV 8) (aV 6))) Sg (BE (Ah (AX mq (aV 9) (aV 6))) (Am (AR 2 Eg (AB (aV 3) (AB (Ay (AB (AX Ex (aV 6) (aV 8)) (AB (AX Ex (aV 9) (aV 8)) AM))) AM))) (An 3)) Av)))
abbrev So:AS:=
 (AY (BE (Ca (Ah (AR 2 Aj (AB (aV 1) (AB (aV 3) AM))))) (Ak (FX (Ci AM))) Av)
   (Ak (FX (Ci (AB (Ay (AB (AR 3 CY (AB (aV 4) (AB (aV 5) (AB (aV 1) AM)))) (AB (aV 2) (AB (AR 3 CY (AB (aV 4) (AB (aV 5) (AB (aV 3) AM)))) AM)))) AM)))))
abbrev Sn:AS:=
 (AY (Du (HM (aV 7)) (HD 2 (AZ (An 8) (AZ (An 9) BY))) Si)
   So)
abbrev Sm:AS:=
 (AY (Am (Ay (AB (aC (.int 1)) (AB (aC (.int 1)) AM))) (An 3))
   Sn)
abbrev Sk:AS:=
 (AY (Am (aC (.int 1)) (An 2))
   Sm)
abbrev Sj:AS:=
 (AY (Am (Ay (AB (aC (.int 0)) (AB (aC (.int 1)) AM))) (An 1))
   Sk)
abbrev RO:AS:=
 (AY (Am (aV 0) (HD 4 (AZ (An 4) (AZ (An 5) (AZ (An 6) (AZ (An 7) BY))))))
   Sj)
def GJ:AF:=Ap 11 RO
def Wc {a:PV}{Q:PV->Prop}(h:RO ⟨λ_=>Q .non,Q,λ_=>False,λ_=>False⟩ [some (.val a),none,none,none,none,none,none,none,none,none,none]):GJ [a] Q:=h
def Zy (N:Nat)(lns:kj (Int×Int))(b e m:Rat):Prop:=b<=m/\m<e/\∀l∈lns,lv l ((m-b)/(e-b))<N
structure dh (N:Nat) (lns:List (Int×Int)) (b e:Rat) (B:Nat) (ss:List BX):Prop where
 few:ss.length<=1
 ok:∀s∈ss,B4 B s
 fin:∀s∈ss,∃x,s.2.2=some x
 sem:∀m,ss.any (A9 · (m,0))=true↔Zy N lns b e m
def Rv {N:Nat}{lns:kj (Int×Int)}{b e:Rat}{B:Nat}(h:∀s,0<=s->s<1->¬∀l∈lns,lv l s<N)(d:b<e):dh N lns b e B [] :=by
 refine⟨by simp,by simp,by simp,λm=> ?_⟩;refine⟨λz=>by simp at z,λz=> ?_⟩;obtain⟨h1,h2,c⟩:=z;have a:0<e-b:=by grind
 refine absurd c (h _ ?_ ?_)
 .rw [<-ACK,AC7 a];grind
 .rw [AC7 a];grind
def cM {N S B M:Nat}{lns:kj (Int×Int)}{b e:Rat}{lo hi:Int×Int}{h:Int}(i:NI N S lns lo hi h)(p:b<e)(k:sv lo<sv hi)(a:Bd M b)(g:Bd M e)(r:3*M+S+3<=B):dh N lns b e B [(b+sv lo*(e-b),h,some (b+sv hi*(e-b)))] :=by
 have l:0<e-b:=by grind
 have mono:∀{x y:Rat},x<y->b+x*(e-b)<b+y*(e-b):=λ{x y} h=>by have:=AE2 h l;grind
 refine⟨by simp,λs hs=> ?_,λs hs=> ?_,λm=> ?_⟩
 .simp at hs;subst hs;refine⟨(a.add (i.bl.mul (g.sub a))).mono (by omega),i.h01,λx hx=> ?_⟩;cases hx;exact⟨mono k,(a.add (i.br.mul (g.sub a))).mono (by omega)⟩
 .simp at hs;subst hs;exact⟨_,rfl⟩
 .obtain ⟨s,rfl⟩:∃s,m=b+s*(e-b):=⟨(m-b)/(e-b),by grind⟩;have es:(b+s*(e-b)-b)/(e-b)=s:=by grind
  unfold Zy;rw[es];have j:∀x y:Rat,b+x*(e-b)<b+y*(e-b)↔x<y:=λx y=>by
   refine⟨λz=> ?_,mono⟩;by_cases w:x<y
   .exact w
   .by_cases f:y<x
    .have:=mono f;grind
    .have:x=y:=by grind
     subst this;grind
  have n:∀x y:Rat,b+x*(e-b)=b+y*(e-b)↔x=y:=λx y=>by
   refine⟨λz=> ?_,λz=>by rw[z]⟩;by_cases w:x<y
   .have:=mono w;grind
   .by_cases f:y<x
    .have:=mono f;grind
    .grind
  have A: [((b+sv lo*(e-b),h,some (b+sv hi*(e-b))):BX)].any (A9 · (b+s*(e-b),0))=true↔(sv lo<s\/(sv lo=s/\h=1))/\s<sv hi:=by
   simp only[ABr,List.any_nil,AEG,A9,ACA,ADI,ADh,j,n];have:0<h+0↔h=1:=by have:=i.h01;omega
   rw[this]
  rw[A];constructor
  .intro z;have c:0<=s:=by have:=i.lo0;rcases z.1 with y|⟨y,_⟩ <;> grind
   have d:s<1:=by have:=i.hi1;have:=z.2;grind
   refine⟨?_, ?_,(i.sem s c d).mpr z⟩
   .have:=AC1 c (show 0<=e-b by grind);grind
   .have:=mono d;grind
  .rintro ⟨t,u,o⟩;have c:0<=s:=by rw[<-ACK];intro w;have:=mono w;grind
   have d:s<1:=by have:=(j s 1).mp (by grind);exact this
   exact(i.sem s c d).mp o
def X3 {b e:Rat}{N M W:Nat}{lns:kj (Int×Int)}(ok:∀l∈lns,Ik N W l)(p:b<e)(t:Bd M b)(u:Bd M e)(hM:M<=300)(hW:W<=1050)(hl:lns.length<=1000){Q:PV->Prop}(q:∀ss,dh N lns b e (3*M+3*W+6) ss->Q (.lst (ss.map BW))):GJ [.tup [fr b,fr e, .int N, .lst (lns.map C2)]] Q:=by
 apply Wc;ac_rfl;refine B6 C2 (λv vs τ=>∃lo hi h f g c,NI N (3*W+3) v lo hi h/\τ= [some (.val (.tup [fr b,fr e, .int N, .lst (lns.map C2)])),some (.val (C2 lo)),some (.val (.int h)),some (.val (C2 hi)),some (.val (fr b)),some (.val (fr e)),some (.val (.int N)),some (.val (.lst (lns.map C2))),f,g,c]) ?_ ?_ ⟨(0,1),(1,1),1,_,_,_,pY (by omega),rfl⟩
 .rintro τ ⟨lo,hi,h,f,g,c,i,rfl⟩;ac_rfl;refine GP i.l i.r ?_;ac_rfl
  .rename_i k;refine q [] (Rv (λs w B=> ?_) p);rw[i.sem s w B];rintro⟨x,y⟩;rcases x with x|⟨x,_⟩ <;> grind
  .rename_i k;refine Gm i.l i.bl t u hM (by omega) ?_;ac_rfl;refine Gm i.r i.br t u hM (by omega) ?_;ac_rfl;exact q _ (cM i p k t u (by omega))
 .rintro v l vs C τ R D ⟨lo,hi,h,f,g,c,i,rfl⟩;have o:=ok l (by rw[<-C];simp);have d:∀{lo hi h f g c},NI N (3*W+3) (v ++ [l]) lo hi h->R [some (.val (.tup [fr b,fr e, .int N, .lst (lns.map C2)])),some (.val (C2 lo)),some (.val (.int h)),some (.val (C2 hi)),some (.val (fr b)),some (.val (fr e)),some (.val (.int N)),some (.val (.lst (lns.map C2))),f,g,c] :=λ{lo hi h f g c} k=>D _ ⟨lo,hi,h,f,g,c,k,rfl⟩;ac_rfl;all_goals first | (exfalso;omega)|skip
  .rename_i j n;refine q [] (Rv (λs w B z=> ?_) p);have z:=z l (by rw[<-C];simp);have E:(N:Rat)<=(l.1:Rat):=by rw[<-Dw];exact ADa.mpr j
   have F:(N:Rat)<=(l.2:Rat):=by rw[<-Dw];exact ADa.mpr n
   have y:lv l s=(1-s)*(l.1:Rat)+s*(l.2:Rat):=by unfold lv;grind
   have G:(1-s)*N<=(1-s)*(l.1:Rat):=ADr E (by grind);have H:s*N<=s*(l.2:Rat):=ADr F w;rw[y] at z;grind
  .rename_i j n m;obtain⟨a,_,_,_⟩:=MY o j (by omega);refine GP a i.l ?_;ac_rfl
   .rename_i A;exact d (pX i o j (by omega) A)
   .rename_i A;exact d (lD i o j (by omega) A)
  .rename_i j n m;obtain⟨a,_,_,_⟩:=Tg o (by omega) m;refine cD i.r a ?_;exact d (lC i o (by omega) m)
  .rename_i j n m;exact d (uQ i (by omega) m)
abbrev Oh:AS:=
 (Ak (AR 1 EL (AB (FX (MF (HM (AR 3 FD (AB (aV 0) (AB (aV 1) (AB (aV 2) AM))))) 2 [] (An 1) FH (HM (AR 1 GJ (AB (aV 1) AM))) 1 (An 0) FH (aV 0))) AM)))
def C0:AF:=Ap 3 Oh
def US {a b c:PV}{Q:PV->Prop}(h:Oh ⟨λ_=>Q .non,Q,λ_=>False,λ_=>False⟩ [some (.val a),some (.val b),some (.val c)]):C0 [a,b,c] Q:=h
def TN {x:Rat}:absR x<1↔x<1/\ -x<1:=by unfold absR;split <;> grind
def oZ {o:T3}:Dn o<1↔absR o.1<1/\absR o.2.1<1/\absR o.2.2<1:=by
 unfold Dn mx;repeat' split
 all_goals grind
def J6 {N:Nat}{u v s:Rat}(a:0<N)(h1:u.den ∣ N)(h2:v.den ∣ N):(lv (D9 N u,D9 N v) s<N↔u+s*(v-u)<1)/\(lv (-D9 N u, -D9 N v) s<N↔ -(u+s*(v-u))<1):=by
 have hn:=Ow a;have b:lv (D9 N u,D9 N v) s=(u+s*(v-u))*N:=by unfold lv;show ((D9 N u:Int):Rat)+s*(((D9 N v:Int):Rat)-((D9 N u:Int):Rat))=_;rw[G0 h1,G0 h2];grind
 have c:lv (-D9 N u, -D9 N v) s= -(u+s*(v-u))*N:=by unfold lv;show ((-D9 N u:Int):Rat)+s*(((-D9 N v:Int):Rat)-((-D9 N u:Int):Rat))=_;rw[AEN,AEN,G0 h1,G0 h2];grind
 have key:∀x:Rat,x*N<N↔x<1:=λx=>by
  constructor
  .intro z;by_cases w:x<1
   .exact w
   .have:=AFQ (show 1<=x by grind) (show (0:Rat)<=N by grind);grind
  .intro z;have:=AE2 z hn;grind
 rw[b,c,key,key];exact⟨Iff.rfl,Iff.rfl⟩
def Lb {W:Nat}{p:Pc}(a:EN W p.o0)(h1:EN W p.o1):0<p.N/\(∀x∈p.six,x.den ∣ p.N)/\p.N<2^(6*W+1):=Ub 6 p.six rfl (iV a h1)
def Zr {W:Nat}{p:Pc}(r:EN W p.o0)(h1:EN W p.o1)(s:Rat):(∀l∈p.lns,lv l s<p.N)↔Dn (lin p.o0 p.o1 s)<1:=by
 obtain⟨g,h,_⟩:=Lb r h1;have i:=h p.o0.1 (by simp[Pc.six]);have j:=h p.o0.2.1 (by simp[Pc.six]);have k:=h p.o0.2.2 (by simp[Pc.six]);have m:=h p.o1.1 (by simp[Pc.six]);have n:=h p.o1.2.1 (by simp[Pc.six]);have o:=h p.o1.2.2 (by simp[Pc.six]);rw[oZ,TN,TN,TN];unfold Pc.lns lin;simp only[AAK,ABR,ABS,forall_eq_or_imp,forall_eq];rw[(J6 g i m).1,(J6 g i m).2,(J6 g j n).1,(J6 g j n).2,(J6 g k o).1,(J6 g k o).2];constructor
 .rintro ⟨a,b,c,d,e,f⟩;exact⟨⟨a,b⟩,⟨c,d⟩,e,f⟩
 .rintro ⟨⟨a,b⟩,⟨c,d⟩,e,f⟩;exact⟨a,b,c,d,e,f⟩
def UY {N W:Nat}{r:Rat}(a:Bd W r)(hN:N<2^(6*W+1)):(D9 N r).natAbs<2^(W+(6*W+1)):=BU a.top (ZZ hN)
def gG {W:Nat}{p:Pc}(b:EN W p.o0)(h1:EN W p.o1)(hW:W<=1200):∀l∈p.lns,Ik p.N W l:=by
 obtain⟨d,a,c⟩:=Lb b h1;have one:∀{u v:Rat},Bd W u->Bd W v->u.den ∣ p.N->v.den ∣ p.N->Ik p.N W (D9 p.N u,D9 p.N v)/\Ik p.N W (-D9 p.N u, -D9 p.N v):=λ{u v} bu bv du a=>by
  have e:=UY bu c;have f:=UY bv c;have g:=Ae (n:=8848) c (by omega);refine⟨⟨Ae e (by omega),Ae f (by omega),g,d,u,v,bu,bv,G0 du,G0 a⟩,⟨Ae (by rw[ADW];exact e) (by omega),Ae (by rw[ADW];exact f) (by omega),g,d, -u, -v,bu.neg,bv.neg, ?_, ?_⟩⟩
  .show ((-D9 p.N u:Int):Rat)=_;rw[AEN,G0 du];grind
  .show ((-D9 p.N v:Int):Rat)=_;rw[AEN,G0 a];grind
 have h:=one b.x h1.x (a _ (by simp[Pc.six])) (a _ (by simp[Pc.six]));have i:=one b.y h1.y (a _ (by simp[Pc.six])) (a _ (by simp[Pc.six]));have j:=one b.z h1.z (a _ (by simp[Pc.six])) (a _ (by simp[Pc.six]));intro l hl;simp only[Pc.lns,AAK,ABR,ABS] at hl;rcases hl with rfl|rfl|rfl|rfl|rfl|rfl
 .exact h.1
 .exact h.2
 .exact i.1
 .exact i.2
 .exact j.1
 .exact j.2
def lF {p q a b:T3}{d:Rat×Rat}{s:Rat}:Ej (lin p q s) (lin a b s) d=lin (Ej p a d) (Ej q b d) s:=by
 unfold Ej lin;simp only[AEp];congr 1
 .grind
 .congr 1 <;> grind
def Wz {ts:kj Rat}(h:Qr ts):∀p∈ts.zip ts.tail,p.1∈ts/\p.2∈ts/\p.1<p.2/\∀x∈ts,¬(p.1<x/\x<p.2):=by
 induction ts with
 | nil=>intro p hp;simp at hp
 | cons a r ih=>
   cases r with
   | nil=>intro p hp;simp at hp
   | cons b r=>
     have h1:=ABE.mp h;intro p hp;simp only[List.tail_cons,List.zip_cons_cons,AAK] at hp;rcases hp with rfl|hp
     .refine ⟨by simp,by simp,h1.1 b (by simp),λx hx z=> ?_⟩;rcases AAK.mp hx with rfl|hx
      .grind
      .rcases AAK.mp hx with rfl|hx
       .grind
       .have:=(ABE.mp h1.2).1 x hx;grind
     .obtain ⟨c,d,e,f⟩:=ih h1.2 p hp;refine⟨by simp[c],by simp[d],e,λx hx z=> ?_⟩;rcases AAK.mp hx with rfl|hx
      .have:=h1.1 p.1 c;grind
      .exact f x hx z
theorem SU:∀{ts:kj Rat} {m:Rat} {a z:Rat},Qr ts->ts.head?=some a->ts.getLast?=some z->a<=m->m<z->∃p∈ts.zip ts.tail,p.1<=m/\m<p.2
 | [],_,_,_,_,h,_,_,_=>by cases h
 | [a],m,_,_,_,h1,h2,h3,h4=>by simp at h1 h2;subst h1 h2;grind
 | a::b::r,m,x,z,h,h1,h2,h3,h4=>by
   simp at h1;subst h1;by_cases k:m<b
   .exact ⟨(a,b),by simp,h3,k⟩
   .obtain ⟨p,hp,q⟩:=SU (m:=m) (a:=b) (z:=z) (ABE.mp h).2 rfl (by simpa[AEB] using h2) (by grind) h4;exact⟨p,by simp only[List.tail_cons,List.zip_cons_cons,AAK];exact .inr (by simpa using hp),q⟩
section
variable {cs ds:kj C4}{d:Rat×Rat}{M W:Nat}
structure XE (cs ds:List C4) (d:Rat×Rat) (M W:Nat) (p:Pc):Prop where
 lt:p.b<p.e
 w0:EN W p.o0
 w1:EN W p.o1
 bb:Bd M p.b
 be:Bd M p.e
 lo:A4 cs ds<=p.b
 hi:p.e<=Ax cs ds
 at0:p.o0=ofs cs ds d p.b
 at1:p.o1=ofs cs ds d p.e
 lin:∀m,p.b<=m->m<=p.e->ofs cs ds d m=lin p.o0 p.o1 ((m-p.b)/(p.e-p.b))
theorem El.pc (D:El cs ds d M W):∀p∈En cs ds d,XE cs ds d M W p:=by
 intro p hp;unfold En at hp;by_cases h:A4 cs ds<Ax cs ds
 .rw [AAJ h] at hp;have e:=D.tog h;have j:∀x∈NV cs ds,A4 cs ds<=x/\x<=Ax cs ds:=λx hx=>Ek h hx;have k:∀x∈NV cs ds,Bd M x:=λx hx=>Lh D.m1 D.m2 D.begB D.endB hx;have l:∀x∈NV cs ds,EN W (ofs cs ds d x):=D.w h;unfold LJ at hp;obtain⟨q,hq,rfl⟩:=ABG.mp hp;obtain⟨f,g,i,s⟩:=Wz Dm q hq;have a:=j _ f;have b:=j _ g;refine⟨i,l _ f,l _ g,k _ f,k _ g,a.1,b.2,rfl,rfl,λm m1 m2=> ?_⟩;have m1:q.1<=m:=m1;have m2:m<=q.2:=m2;have n:∀c,c∈cs\/c∈ds->¬(q.1<c.1/\c.1<q.2):=λc hc z=>by refine s c.1 (DH.mpr (.inr (.inr ⟨by grind,by grind,c,hc,rfl⟩))) z
  obtain⟨v,o⟩:=e.one q.1 a.1 a.2;obtain⟨y,r⟩:=e.one q.2 b.1 b.2;obtain⟨t1,f1⟩:=e.other q.1 a.1 a.2;obtain⟨t2,f2⟩:=e.other q.2 b.1 b.2;have t:=SB D.r1 i m1 m2 (λc hc=>n c (.inl hc)) o r;have u:=SB D.r2 i m1 m2 (λc hc=>n c (.inr hc)) f1 f2;show ofs cs ds d m=PL.lin (ofs cs ds d q.1) (ofs cs ds d q.2) ((m-q.1)/(q.2-q.1));unfold ofs;rw[t,u,o,r,f1,f2];exact lF
 .rw [AAH h] at hp;cases hp
theorem aW (h:A4 cs ds<Ax cs ds):(NV cs ds).head?=some (A4 cs ds):=by
 have b:A4 cs ds∈NV cs ds:=DH.mpr (.inl rfl);have hs:Qr (NV cs ds):=Dm;have hi:∀x∈NV cs ds,A4 cs ds<=x:=λx hx=>(Ek h hx).1;generalize NV cs ds=ts at *;cases ts with
 | nil=>cases b
 | cons a r=>
   rcases AAK.mp b with e|e
   .rw [e];rfl
   .have:=(ABE.mp hs).1 _ e;have:=hi a (by simp);grind
theorem aX (h:A4 cs ds<Ax cs ds):(NV cs ds).getLast?=some (Ax cs ds):=by
 have b:Ax cs ds∈NV cs ds:=DH.mpr (.inr (.inl rfl));have hs:Qr (NV cs ds):=Dm;have hi:∀x∈NV cs ds,x<=Ax cs ds:=λx hx=>(Ek h hx).2;generalize NV cs ds=ts at *;obtain⟨l,a⟩:∃l,ts.getLast?=some l:=⟨_,AEx (by intro z;subst z;cases b)⟩;rw[a];have f:=hi l (ACB a);obtain⟨i,c,e⟩:=List.mem_iff_getElem.mp b;rw[AFi] at a;obtain⟨hl,a⟩:=ABc.mp a;by_cases k:i=ts.length-1
 .subst k;rw[<-e,<-a]
 .have:=AFM.mp hs i (ts.length-1) c hl (by omega);rw[e,a] at this;grind
theorem El.cover (D:El cs ds d M W){m:Rat}(h1:A4 cs ds<=m)(h2:m<Ax cs ds):∃p∈En cs ds d,p.b<=m/\m<p.e:=by
 have h:A4 cs ds<Ax cs ds:=by grind
 unfold En;rw[AAJ h];obtain⟨p,hp,k⟩:=SU Dm (aW h) (aX h) h1 h2;exact⟨_,ABG.mpr ⟨p,hp,rfl⟩,k⟩
def Bw (cs ds:kj C4)(d:Rat×Rat)(m:Rat):Prop:=A4 cs ds<=m/\m<Ax cs ds/\Dn (ofs cs ds d m)<1
instance {m:Rat}:Decidable (Bw cs ds d m):=by unfold Bw;infer_instance
theorem El.near_iff (D:El cs ds d M W){m:Rat}:(∃p∈En cs ds d,Zy p.N p.lns p.b p.e m)↔Bw cs ds d m:=by
 constructor
 .rintro ⟨p,hp,h1,h2,a⟩;have o:=D.pc p hp;have lo:=o.lo;have hi:=o.hi;rw[Zr o.w0 o.w1,<-o.lin m h1 (by grind)] at a;exact⟨by grind,by grind,a⟩
 .rintro ⟨h1,h2,a⟩;obtain⟨p,hp,c,f⟩:=D.cover h1 h2;have o:=D.pc p hp;refine⟨p,hp,c,f, ?_⟩;rw[Zr o.w0 o.w1,<-o.lin m c (by grind)];exact a
theorem Z6 (D:El cs ds d M W):(En cs ds d).length<=201:=by
 have h1:=D.f1;have h2:=D.f2;unfold En;split
 .rw [OE];have:=NA (cs:=cs) (ds:=ds) (b:=A4 cs ds) (e:=Ax cs ds);unfold NV;omega
 .simp
structure ZD (cs ds:List C4) (d:Rat×Rat) (B:Nat) (ss:List BX):Prop where
 few:ss.length<=201
 ok:∀s∈ss,B4 B s
 fin:∀s∈ss,∃x,s.2.2=some x
 sem:∀m,ss.any (A9 · (m,0))=true↔Bw cs ds d m
 pf:ss.length<=(En cs ds d).length
theorem Tl {p:Pc}:p.lns.length=6:=rfl
theorem C8 (D:El cs ds d M W){v w u:PV}(hv:BI cs v)(hw:BI ds w)(hu:ON d u){Q:PV->Prop}(q:∀ss,ZD cs ds d (3*M+3*W+6) ss->Q (.tup ((canon 1 ss).map BW))):C0 [v,w,u] Q:=by
 have hM:=D.hM;have hW:=D.hW;have j:=Z6 D;apply US;ac_rfl;refine Ml D hv hw hu ?_;ac_rfl;refine PB (λr a=>∃c rs ss,c++rs=En cs ds d/\r=rs.map jN/\a=ss.map BW/\ss.length<=c.length/\(∀s∈ss,B4 (3*M+3*W+6) s)/\(∀s∈ss,∃x,s.2.2=some x)/\∀m,ss.any (A9 · (m,0))=true↔∃p∈c,Zy p.N p.lns p.b p.e m) ?_ ?_ _ _ ⟨[],_, [],rfl,rfl,rfl,by simp,by simp,by simp,by simp⟩
 .rintro a ⟨c,rs,ss,e,f,rfl,h1,h2,h,i⟩;have:rs= [] :=by cases rs with | nil=>rfl|cons _ _=>cases f
  subst this;rw[ACQ] at e;subst e;ac_rfl;refine NU (.inr rfl) (R3 ss) h2 (by omega) (by omega) ?_;exact q ss ⟨by omega,h2,h,λm=>by rw[i,D.near_iff],h1⟩
 .rintro y r a R k ⟨c,rs,ss,e,f,rfl,h1,h2,h,i⟩;cases rs with
  | nil=>cases f
  | cons p rs=>
    cases f;have l:p∈En cs ds d:=by rw[<-e];simp
    have ul:c.length+1<=201:=by rw[<-e] at j;simp at j;omega
    have o:=D.pc p l;repeat' array_get_dec
    refine X3 (gG o.w0 o.w1 (by omega)) o.lt o.bb o.be (by omega) hW (by rw[Tl];decide) λn g=> ?_;have t:=g.few;repeat' array_get_dec
    refine XU _ _ (k _ ⟨c ++ [p],rs,ss++n,by simpa using e,rfl,by rw[ABV],by simp;omega,λs hs=> ?_,λs hs=> ?_,λm=> ?_⟩)
    .rcases ABI.mp hs with hs|hs
     .exact h2 s hs
     .exact g.ok s hs
    .rcases ABI.mp hs with hs|hs
     .exact h s hs
     .exact g.fin s hs
    .rw [AFR,ADI,i,g.sem];constructor
     .rintro (⟨x,hx,z⟩|z)
      .exact ⟨x,by simp[hx],z⟩
      .exact ⟨p,by simp,z⟩
     .rintro ⟨x,hx,z⟩;rcases ABI.mp hx with hx|hx
      .exact .inl ⟨x,hx,z⟩
      .simp at hx;subst hx;exact .inr z
end
abbrev Ly:AS:=
 (AY (Am (XI (FZ FN (AB (FX (C1 (HM (aV 1)) 1 [2] (An 0) (Ah (AR 2 Aj (AB (aV 0) (AB (aV 1) AM)))) (aV 0))) AM))) (An 3))
   (BE (RX (Ew (Ah (AX KG (aV 3) (FZ FN (AB (aV 1) AM)))) (Ah (AX KH (AX Ao (aV 1) (aV 3)) (aV 2))))) (Dv 1 gJ (AB (aV 3) (AB (aV 2) AM))) Av))
abbrev Lz:AS:=
 (AY (Du (HM (aV 0)) (An 2) Ly)
   (Ak (aV 1)))
abbrev I0:AS:=
 (AY (GN (Ci AM) 1)
   Lz)
def DQ:AF:=Ap 4 I0
def Nq {a:PV}{Q:PV->Prop}(h:I0 ⟨λ_=>Q .non,Q,λ_=>False,λ_=>False⟩ [some (.val a),none,none,none]):DQ [a] Q:=h
abbrev Iz:AS:=
 (Ak (AR 2 Bg (AB (AR 2 Br (AB (aV 0) (AB (aV 1) AM))) (AB (Ay (AB (aC (.int 1)) (AB (aC (.int 2)) AM))) AM))))
def DP:AF:=Ap 2 Iz
def Np {a b:PV}{Q:PV->Prop}(h:Iz ⟨λ_=>Q .non,Q,λ_=>False,λ_=>False⟩ [some (.val a),some (.val b)]):DP [a,b] Q:=h
def Q7 {v:PV}{ms:kj Rat}{B:Nat}(hv:v= .lst (ms.map fr))(n:B<=4000)(hl:ms.length<=10000)(hb:∀m∈ms,Bd B m){Q:PV->Prop}(q:Q (.lst ((CO ms).map fr))):DQ [v] Q:=by
 subst hv;apply Nq;ac_rfl;refine B6 fr (λa vs τ=>∃(b c:kc AV),τ= [some (.val (.lst (ms.map fr))),some (.own ((CO a).map fr)),b,c]) ?_ ?_ ⟨_,_,rfl⟩
 .rintro τ ⟨b,c,rfl⟩;ac_rfl;exact q
 .rintro a m vs e τ R k ⟨b,c,rfl⟩;have ul:a.length<=10000:=by rw[<-e] at hl;simp at hl;omega
  have o:=FP (xs:=a);have bm:=hb m (by rw[<-e];simp);have l:∀x∈CO a,Bd B x:=λx hx=>hb x (by rw[<-e];simp[B9.mp hx]);have hs:Qr (CO a):=CP;have f:∀(ws:kj Rat) b c,ws=ins (CO a) m->R [some (.val (.lst (ms.map fr))),some (.own (ws.map fr)),b,c] :=λws b c h=>k _ ⟨b,c,by rw[h,show CO (a ++ [m])=ins (CO a) m by unfold CO;rw[AEH];rfl]⟩;clear k;generalize CO a=rs at *;ac_rfl;refine EQ fr fr (λx=>decide (x<m)) (Bd B) (λx p R N h1 h2=> ?_) rs [] l ?_
  .ac_rfl
   .rename_i z;exact h1 (ABQ z)
   .rename_i z;exact h2 (ABa z)
  have r:(rs.filter λx=>decide (x<m)).length<=rs.length:=ACz _ _;have i:=XQ hs (RZ (x:=m) hs);rw[ACE];generalize (rs.filter λx=>decide (x<m))=fs at *;ac_rfl
  .rename_i h1;have j:rs[fs.length]? =none:=AFn (by omega);rw[j,AAH (by simp)] at i;have:=f _ (some (.val (fr m))) (some (.val (.int fs.length))) i.symm;rw[ABV,ABJ,AEA,ADl] at this;exact this
  .rename_i h1 d j _ h2;have g:rs[fs.length]? =some d:=j;rw[g,AAH (by simpa using h2)] at i;have:=f _ (some (.val (fr m))) (some (.val (.int fs.length))) i.symm;rw[ABV,ABJ,AEA,ADl] at this;exact this
  .rename_i h1 d j _ h2;have g:rs[fs.length]? =some d:=j;rw[g,AAJ (by rw[h2])] at i;exact f _ _ _ i.symm
def Q6 {a b:Rat}(c:Bd 3900 a)(d:Bd 3900 b)(hb:Bd 4000 (a+b)){Q:PV->Prop}(q:Q (fr ((a+b)*(1/2)))):DP [fr a,fr b] Q:=by have e:Bd 8 (1/2:Rat):=xu;apply Np;ac_rfl;exact q
abbrev nK (p:Rat×Rat):PV:= .tup [fr p.1,fr p.2]
def jG (ts:kj Rat):GA (ts.map fr) (Il (ts.map fr) (some 1) none)=(ts.zip ts.tail).map nK:=by rw[wt,<-ADl,rG];rw[List.drop_one]
def sm3 {r:Rat}(h:r.num.natAbs<2^3:=by decide +kernel)(h2:r.den<2^3:=by decide +kernel):Bd 3 r:=⟨h,h2⟩
def sm2 {r:Rat}(h:r.num.natAbs<2^2:=by decide +kernel)(h2:r.den<2^2:=by decide +kernel):Bd 2 r:=⟨h,h2⟩
def ax {Q:PV->Prop}(q:∀d:Rat×Rat,Bd 3 d.1->Bd 3 d.2->1/3<=d.1->1/3<=d.2->Q (.tup [fr d.1,fr d.2])):DD [.tape] Q:=by
 apply IB;have all:∀x∈ [(1:Rat),2,3/2,1/3,5],Bd 3 x/\1/3<=x:=by intro x hx;simp only[AAK,ABR,ABS] at hx;rcases hx with rfl|rfl|rfl|rfl|rfl <;> exact⟨sm3,by decide +kernel⟩
 ac_rfl;refine F0 (xs:= [(1:Rat),2,3/2,1/3,5]) (by omega) (by show _<(5:Int);omega) λx hx=> ?_;ac_rfl;refine F0 (xs:= [(1:Rat),2,3/2,1/3,5]) (by omega) (by show _<(5:Int);omega) λy hy=> ?_;ac_rfl;exact q (x,y) (all x hx).1 (all y hy).1 (all x hx).2 (all y hy).2
def X2 {n:Nat}{cs:kj C4}{t:Rat}{o:T3}(p:Ge n 10 cs)(bt:Bd 11 t)(e:EN 11 o):Ge n 22 (cs.map (kr t o)):=by
 refine⟨by simpa using p.two,by simpa using p.few,λc hc=> ?_, ?_⟩
 .obtain ⟨d,hd,rfl⟩:=ABG.mp hc;have b:=p.bd d hd;exact⟨(b.m.add bt).mono (by decide),(b.x.add e.x).mono (by decide),(b.y.add e.y).mono (by decide),(b.z.add e.z).mono (by decide)⟩
 .refine ADp.mpr (p.ris.imp λ{a b} h=> ?_);show a.1+t<b.1+t;grind
def kN {ss:kj BX}(a:∀s∈ss,∃x,s.2.2=some x)(k:Rat):∃m,k<m/\ss.any (A9 · (m,0))=false:=by
 induction ss with
 | nil=>exact⟨k+1,by grind,rfl⟩
 | cons s ss ih=>
   obtain⟨x,hx⟩:=a s (by simp);have c:∀(b:kj BX),(∀s∈b,∃x,s.2.2=some x)->∃n:Rat,k<n/\∀s∈b,∀x,s.2.2=some x->x<n:=by
    intro b;induction b with
    | nil=>intro _;exact⟨k+1,by grind,by simp⟩
    | cons t b d=>
      intro e;obtain⟨n,h1,h2⟩:=d λs hs=>e s (by simp[hs]);obtain⟨y,hy⟩:=e t (by simp);by_cases z:y<n
      .refine ⟨n,h1,λs hs x hx=> ?_⟩;rcases AAK.mp hs with rfl|hs
       .rw [hy] at hx;cases hx;exact z
       .exact h2 s hs x hx
      .refine ⟨y+1,by grind,λs hs x hx=> ?_⟩;rcases AAK.mp hs with rfl|hs
       .rw [hy] at hx;cases hx;grind
       .have:=h2 s hs x hx;grind
   obtain⟨n,h1,h2⟩:=c (s::ss) a;refine⟨n,h1, ?_⟩;rw[AEZ];intro t f z;obtain⟨y,hy⟩:=a t f;have:=h2 t f y hy;unfold A9 at z;rw[hy] at z;simp at z;grind
def bD {B:Nat}{ss:kj BX}(ok:∀s∈ss,B4 B s)(a:∀s∈ss,∃x,s.2.2=some x):∀r∈canon 1 ss,∃x,r.2.2=some x:=by
 intro r b;cases e:r.2.2 with
 | some x=>exact⟨x,rfl⟩
 | none=> exfalso;obtain⟨m,h1,h2⟩:=kN a r.1;rw[<-VY ok (p:=(m,0)) (.inl rfl)] at h2;rw[AEZ] at h2;refine h2 r b ?_;unfold A9;rw[e];simp;exact .inl h1
structure Told (P:Rat->Prop) (B:Nat) (cc:List BX):Prop where
 ok:∀s∈cc,B4 B s
 fin:∀s∈cc,∃x,s.2.2=some x
 few:cc.length<=2000
 sem:∀m,cc.any (A9 · (m,0))=true↔P m
def ZD.told {cs ds:kj C4}{d:Rat×Rat}{B:Nat}{ss:kj BX}(n:ZD cs ds d B ss):Told (Bw cs ds d) B (canon 1 ss):=
 ⟨eS n.ok,bD n.ok n.fin,by have:=FJ (n:=1) (ss:=ss);have:=n.few;omega,λm=>by rw[VY n.ok (p:=(m,0)) (.inl rfl)];exact n.sem m⟩
def Mn {s:BX}{x:Rat}(h:s.2.2=some x):BW s= .tup [fr s.1, .int s.2.1,fr x] :=by unfold BW;rw[h];rfl
abbrev Ob:AS:=
 (Ak (Qt (FZ fG (AB (aV 0) (AB (aC (.ty "int")) AM))) (TL oS (FZ fG (AB (aV 0) (AB (aC (.ty "bool")) AM))))))
def Cg:AF:=Ap 1 Ob
def LU {a:PV}{Q:PV->Prop}(h:Ob ⟨λ_=>Q .non,Q,λ_=>False,λ_=>False⟩ [some (.val a)]):Cg [a] Q:=h
abbrev RJ:AS:=
 (AY (Du (HM (aV 0)) (HD 3 (AZ (An 2) (AZ (An 3) (AZ (An 4) BY)))) (BE (Ff (Ah (AR 2 Aj (AB (aV 1) (AB (aV 4) AM)))) (Ew (Ah (AR 2 Aj (AB (aV 2) (AB (aV 1) AM)))) (Ff (Ah (AX KG (aV 3) (aC (.int 1)))) (Ah (AX KG (aV 2) (aV 1)))))) (Ak (aC (.bl true))) Av))
   (Ak (aC (.bl false))))
def E2:AF:=Ap 5 RJ
def WX {a b:PV}{Q:PV->Prop}(h:RJ ⟨λ_=>Q .non,Q,λ_=>False,λ_=>False⟩ [some (.val a),some (.val b),none,none,none]):E2 [a,b] Q:=h
def SQ {i:Int}{Q:PV->Prop}(q:Q (.bl true)):Cg [.int i] Q:=by apply LU;ac_rfl;exact q
def GS {B:Nat}{s:BX}{m x:Rat}(os:B4 B s)(hx:s.2.2=some x):A9 s (m,0)=true↔(s.1<m\/(s.1=m/\s.2.1=1))/\m<x:=by
 unfold A9;rw[hx];have:0<s.2.1+0↔s.2.1=1:=by have:=os.h;omega
 simp only[ACA,ADI,ADh,this]
def MW {P:Rat->Prop}{B:Nat}{a:kj BX}{m:Rat}(t:Told P B a)(o:B<=4000)(bm:Bd 4000 m){Q:PV->Prop}(q:Q (.bl (a.any (A9 · (m,0))))):E2 [.tup (a.map BW),fr m] Q:=by
 have n:=t.few;apply WX;ac_rfl;refine B6 BW (λk vs τ=>∃c d f,k.any (A9 · (m,0))=false/\τ= [some (.val (.tup (a.map BW))),some (.val (fr m)),c,d,f]) ?_ ?_ ⟨_,_,_,rfl,rfl⟩
 .rintro τ ⟨c,d,f,h,rfl⟩;rw[h] at q;ac_rfl;exact q
 .rintro k s vs e τ R l ⟨c,d,f,h,rfl⟩;have i:s∈a:=by rw[<-e];simp
  obtain⟨x,hx⟩:=t.fin s i;have os:=t.ok s i;have b1:=os.b;have b2:=(os.e x hx).2;have g:A9 s (m,0)=true->Q (.bl true):=λz=>by rw[show a.any (A9 · (m,0))=true from AEI.mpr ⟨s,i,z⟩] at q;exact q
  have j:A9 s (m,0)=false->∀c d f,R [some (.val (.tup (a.map BW))),some (.val (fr m)),c,d,f] :=λz c d f=>l _ ⟨c,d,f,by rw[AFR,h];simp[z],rfl⟩;clear l q;rw[Mn hx];ac_rfl
  .exact g ((GS os hx).mpr ⟨.inl ‹_›, ‹_›⟩)
  .exact g ((GS os hx).mpr ⟨.inr ⟨‹_›, ‹_›⟩, ‹_›⟩)
  .refine j (ADJ.mpr λz=> ?_) _ _ _;have:=(GS os hx).mp z;grind
  .refine j (ADJ.mpr λz=> ?_) _ _ _;have:=(GS os hx).mp z;grind
  .refine j (ADJ.mpr λz=> ?_) _ _ _;have:=(GS os hx).mp z;grind
structure CB2 (Bm Bs:Nat) (c:C4):Prop where
 m:Bd Bm c.1
 p:EN Bs c.2
def aw (r:Rat):absR (-r)=absR r:=by unfold absR;split <;> split <;> grind
def Vk (p q:T3)(d:Rat×Rat):Dn (Ej q p d)=Dn (Ej p q d):=by
 have h:∀x y z:Rat,(y-x)/z= -((x-y)/z):=λx y z=>by rw[AEp,AEp,<-Rat.neg_mul];congr 1;grind
 unfold Dn Ej;simp only[h p.1 q.1,h p.2.1 q.2.1,h p.2.2 q.2.2,aw]
def OC (a b:Rat):mx a b=mx b a:=by unfold mx;split <;> split <;> grind
def OB (a b:Rat):mn a b=mn b a:=by unfold mn;split <;> split <;> grind
def Mc {cs ds:kj C4}{d:Rat×Rat}{m:Rat}:Bw ds cs d m↔Bw cs ds d m:=by unfold Bw A4 Ax ofs;rw[OC (Fy ds),OB (lstM ds),Vk]
abbrev fL (l:Rat×Rat)(s:Rat):Rat:=l.1+s*(l.2-l.1)
def Hh (a:kj (Rat×Rat))(s g:Rat):Prop:=(∃l∈a,fL l s=g)/\∀l∈a,fL l s<=g
def Tr {c:kj (Rat×Rat)}{s g h:Rat}(a:Hh c s g)(b:Hh c s h):g=h:=by obtain⟨⟨l,hl,e⟩,ha⟩:=a;obtain⟨⟨m,d,f⟩,hb⟩:=b;have:=ha m d;have:=hb l hl;grind
def Cd (a b:Rat×Rat):Rat:=(a.1-b.1)/(a.1-b.1+b.2-a.2)
def JE (a b:Rat×Rat):Prop:=b.1<a.1/\a.2<b.2
def To {a b:Rat×Rat}(h:JE a b):0<Cd a b/\Cd a b<1/\∀s,fL a s<=fL b s↔Cd a b<=s:=by
 obtain⟨h1,h2⟩:=h;have d:0<a.1-b.1+b.2-a.2:=by grind
 have e:Cd a b*(a.1-b.1+b.2-a.2)=a.1-b.1:=by unfold Cd;grind
 refine⟨?_, ?_,λs=> ?_⟩
 .unfold Cd;rw[AEM d];grind
 .unfold Cd;rw[AC7 d];grind
 .constructor
  .intro h;rw[<-ACK];intro z;have:=AE2 z d;unfold fL at h;grind
  .intro h;have:=AFQ h (show 0<=a.1-b.1+b.2-a.2 by grind);unfold fL;grind
def ko {a b:Rat×Rat}(h:JE a b):fL a (Cd a b)=fL b (Cd a b):=by
 obtain⟨h1,h2⟩:=h;have d:a.1-b.1+b.2-a.2≠0:=by grind
 have e:Cd a b*(a.1-b.1+b.2-a.2)=a.1-b.1:=by unfold Cd;grind
 unfold fL;grind
def Qk (d:kj (Rat×Rat))(c:Rat):Prop:=c=0\/c=1\/∃a∈d,∃b∈d,JE a b/\c=Cd a b
def N4 {d:kj (Rat×Rat)}{c:Rat}(h:Qk d c):0<=c/\c<=1:=by
 rcases h with rfl|rfl|⟨a,_,b,_,f,rfl⟩
 .exact ⟨by grind,by grind⟩
 .exact ⟨by grind,by grind⟩
 .have:=To f;exact⟨by grind,by grind⟩
theorem Xx {a:Type}(f:a->Rat):∀{xs:kj a},xs≠ [] ->∃x∈xs,∀y∈xs,f y<=f x
 | [],h=>absurd rfl h
 | [x],_=>⟨x,by simp,λy hy=>by simp at hy;subst hy;exact ABZ⟩
 | x::y::r,_=>by
   obtain⟨k,hk,h⟩:=Xx f (xs:=y::r) (by simp);by_cases z:f x<=f k
   .refine ⟨k,by simp[hk],λw hw=> ?_⟩;rcases AAK.mp hw with rfl|hw
    .exact z
    .exact h w hw
   .refine ⟨x,by simp,λw hw=> ?_⟩;rcases AAK.mp hw with rfl|hw
    .exact ABZ
    .have:=h w hw;grind
def ZK (c:kj (Rat×Rat)):kj Rat:=0::1::c.flatMap λa=>(c.filter λb=>decide (b.1<a.1/\a.2<b.2)).map λb=>Cd a b
def E7 {d:kj (Rat×Rat)}{c:Rat}:c∈ZK d↔Qk d c:=by
 unfold ZK Qk JE;simp only[AAK,ACV,ABG,ABX,ADh];constructor
 .rintro (h|h|⟨a,ha,b,⟨hb,f⟩,e⟩)
  .exact .inl h
  .exact .inr (.inl h)
  .exact .inr (.inr ⟨a,ha,b,hb,f,e.symm⟩)
 .rintro (h|h|⟨a,ha,b,hb,f,e⟩)
  .exact .inl h
  .exact .inr (.inl h)
  .exact .inr (.inr ⟨a,ha,b,⟨hb,f⟩,e.symm⟩)
def fD {j i:Rat×Rat}{p s:Rat}(a:0<=p)(ps:p<s)(d:s<1)(h1:fL i p<fL j p)(h2:fL j s<=fL i s):JE j i:=by
 have e:∀x y,fL j x-fL i x-(fL j y-fL i y)=(x-y)*((j.2-j.1)-(i.2-i.1)):=λx y=>by unfold fL;grind
 have f:=e p s;have n:(j.2-j.1)-(i.2-i.1)<0:=by rw[<-Rat.not_le];intro z;have:=AC1 (show 0<=s-p by grind) z;grind
 have b:=e 0 p;have c:=e 1 s;have m1:=AC1 a (show 0<= -((j.2-j.1)-(i.2-i.1)) by grind);have m2:=AEO (show 0<1-s by grind) (show 0 < -((j.2-j.1)-(i.2-i.1)) by grind);unfold JE;unfold fL at b c h1 h2;exact⟨by grind,by grind⟩
def bK {j i:Rat×Rat}{s q:Rat}(a:0<s)(d:s<q)(f:q<=1)(h1:fL i q<fL j q)(h2:fL j s<=fL i s):JE i j:=by
 have e:∀x y,fL j x-fL i x-(fL j y-fL i y)=(x-y)*((j.2-j.1)-(i.2-i.1)):=λx y=>by unfold fL;grind
 have g:=e q s;have n:0<(j.2-j.1)-(i.2-i.1):=by rw[<-Rat.not_le];intro z;have:=AC1 (show 0<=q-s by grind) (show 0<= -((j.2-j.1)-(i.2-i.1)) by grind);grind
 have b:=e 0 s;have c:=e 1 q;have m1:=AEO a n;have m2:=AC1 (show 0<=1-q by grind) (show 0<=(j.2-j.1)-(i.2-i.1) by grind);unfold JE;unfold fL at b c h1 h2;exact⟨by grind,by grind⟩
def eM {a:kj (Rat×Rat)}{s g:Rat}(E:0<=s)(F:s<=1)(h:Hh a s g):∃c k,Qk a c/\Hh a c k/\(k<g\/(k=g/\c<=s)):=by
 by_cases sc:Qk a s
 .exact ⟨s,g,sc,h, .inr ⟨rfl,ABZ⟩⟩
 have G:s≠0:=λe=>sc (.inl e);have H:s≠1:=λe=>sc (.inr (.inl e));have l:0<s:=by grind
 have m:s<1:=by grind
 obtain⟨⟨i,hi,n⟩,b⟩:=h;obtain⟨p,hp,y⟩:=Xx (λc:Rat=>c) (xs:=(ZK a).filter λc=>decide (c<=s)) (by
  intro z;have:=AEz.mp z 0 (E7.mpr (.inl rfl));simp at this;grind)
 obtain⟨q,hq,A⟩:=Xx (λc:Rat=> -c) (xs:=(ZK a).filter λc=>decide (s<c)) (by
  intro z;have:=AEz.mp z 1 (E7.mpr (.inr (.inl rfl)));simp at this;grind)
 have t:=ABX.mp hp;have u:=ABX.mp hq;have o:=E7.mp t.1;have x:=E7.mp u.1;have ps:p<=s:=ABx t.2;have B:s<q:=ABx u.2;have pn:p<s:=by have:p≠s:=λe=>sc (e ▸ o);grind
 have pin:=N4 o;have r:=N4 x;by_cases d:0<=i.2-i.1
 .refine ⟨p,fL i p,o,⟨⟨i,hi,rfl⟩,λj hj=> ?_⟩, ?_⟩
  .rw [<-ACK];intro z;have f:=fD pin.1 pn m z (by rw[n];exact b j hj);have mt:=To f;have m1:Cd j i<=s:=(mt.2.2 s).mp (by rw[n];exact b j hj);have m2:¬Cd j i<=p:=λw=>absurd ((mt.2.2 p).mpr w) (by grind);have:=y (Cd j i) (ABX.mpr ⟨E7.mpr (.inr (.inr ⟨j,hj,i,hi,f,rfl⟩)),ABQ m1⟩);grind
  .have e:fL i s=fL i p+(s-p)*(i.2-i.1):=by unfold fL;grind
   have:=AC1 (show 0<=s-p by grind) d;by_cases w:fL i p<g
   .exact .inl w
   .exact .inr ⟨by grind,ps⟩
 .refine ⟨q,fL i q,x,⟨⟨i,hi,rfl⟩,λj hj=> ?_⟩, ?_⟩
  .rw [<-ACK];intro z;have f:=bK l B r.2 z (by rw[n];exact b j hj);have mt:=To f;have m1:Cd i j<=q:=(mt.2.2 q).mp (by grind);have m0:Cd i j≠q:=λw=>by have:=ko f;rw[w] at this;grind
   have m2:¬Cd i j<=s:=λw=>by
    have h1:=(mt.2.2 s).mpr w;have h2:=b j hj;have C:fL j s=fL i s:=by grind
    have I:s<=Cd i j:=by
     rw[<-ACK];intro v;obtain⟨f1,f2⟩:=f;have D:0<i.1-j.1+j.2-i.2:=by grind
     have e:Cd i j*(i.1-j.1+j.2-i.2)=i.1-j.1:=by unfold Cd;grind
     have:=AE2 v D;unfold fL at C;grind
    exact sc (.inr (.inr ⟨i,hi,j,hj,f,by grind⟩))
   have:=A (Cd i j) (ABX.mpr ⟨E7.mpr (.inr (.inr ⟨i,hi,j,hj,f,rfl⟩)),ABQ (by grind)⟩);grind
  .left;have e:fL i q=fL i s+(q-s)*(i.2-i.1):=by unfold fL;grind
   have:=AEO (show 0<q-s by grind) (show 0 < -(i.2-i.1) by grind);grind
def Xp {a b f t c d:Rat}(h1:a<b)(h2:a<f):c+(t-a)/(f-a)*((c+(f-a)/(b-a)*(d-c))-c)=c+(t-a)/(b-a)*(d-c):=by
 have e:b-a≠0:=by grind
 have g:f-a≠0:=by grind
 grind
def bi {a b:C4}{f t:Rat}(h1:a.1<b.1)(h2:a.1<f):inter a (f,inter a b f) t=inter a b t:=by simp only[inter];rw[Xp h1 h2,Xp h1 h2,Xp h1 h2]
def Fg (cs:kj C4)(n:Rat):kj C4:=cs.filter λc=>decide (c.1<n)
def O1 {b:C4}{r:kj C4}{n:Rat}(h:Et (b::r))(hb:¬b.1<n):Fg (b::r) n= [] :=by
 unfold Fg;rw[AEz];intro c hc;rcases AAK.mp hc with rfl|hc
 .simpa using hb
 .have:=(ABE.mp h).1 c hc;simp;grind
theorem SD {n m:Rat}{s:T3}(c:m<=n):∀{a:C4} {r:kj C4},Et (a::r)->a.1<n->spotG a r n=some s->spotG a (Fg r n ++ [(n,s)]) m=spotG a r m
 | a, [],_,_,e=>by cases e
 | a,b::r,h,ha,e=>by
   have d:=(ABE.mp h).1 b (by simp);have h':=(ABE.mp h).2;by_cases hb:b.1<n
   .have f:Fg (b::r) n=b::Fg r n:=by unfold Fg;rw[ABg,AAJ (by simpa using hb)]
    rw[f];show spotG a (b::(Fg r n ++ [(n,s)])) m=_;simp only[spotG] at e ⊢;rw[AAJ hb] at e;rw[SD c h' hb e]
   .rw [O1 h' hb];simp only[spotG,ACE] at e ⊢;rw[AAH hb] at e;cases e;rw[AAH (by grind),AAH (by grind),bi d ha]
def iY {cs:kj C4}{n m:Rat}{s:T3}(b:Et cs)(d:m<=n)(c:Fg cs n≠ [])(e:spotC cs n=some s):spotC (Fg cs n ++ [(n,s)]) m=spotC cs m:=by
 cases cs with
 | nil=>exact absurd rfl c
 | cons a r=>
   by_cases ha:a.1<n
   .have f:Fg (a::r) n=a::Fg r n:=by unfold Fg;rw[ABg,AAJ (by simpa using ha)]
    rw[f];show spotC (a::(Fg r n ++ [(n,s)])) m=_;simp only[spotC] at e ⊢;rw[AAH (by grind)] at e;rw[SD d b ha e]
   .exact absurd (O1 b ha) c
section
variable {a l:C4}{r:kj C4}{b x m:Rat}
theorem cy (d:Et (a::r))(f:r≠ [])(g:(a::r).getLast?=some l)(h1:a.1<b)(h2:b<l.1)(h:m<=b):spotC (bM (a::r) b ++ [sp (a::r) b]) m=spotC (a::r) m:=by
 obtain⟨t,c⟩:=Df f g (show a.1<=b by grind) (show b<=l.1 by grind);have e:sp (a::r) b=(b,t):=by simp only[sp,c,AEs]
 rw[e];refine iY d h ?_ c;have:a∈Fg (a::r) b:=ABX.mpr ⟨by simp,by simpa using h1⟩;exact List.ne_nil_of_mem this
theorem cj (e:Et (a::r)):Et (bM (a::r) b++sp (a::r) b::zU (a::r) b):=by
 refine ADk.mpr ⟨e.filter _,ABE.mpr ⟨λc hc=> ?_,e.filter _⟩,λc hc d hd=> ?_⟩
 .exact ABx (ABX.mp hc).2
 .have h1:c.1<b:=ABx (ABX.mp hc).2;rcases AAK.mp hd with rfl|hd
  .exact h1
  .have h2:b<d.1:=ABx (ABX.mp hd).2;grind
end
def b6:PV->da | .int _=>true|_=>false
def Wx {x:PV}(hk:kdOf x≠none){Q:PV->Prop}(q:Q (.bl (b6 x))):Cg [x] Q:=by
 apply LU;cases x <;> first | exact absurd rfl hk|skip
 all_goals
  repeat' array_get_dec
  exact q
def V0:kj PV->da
 | [.int a, .int b] =>decide (0<b)&&decide (Nat.gcd a.natAbs b.natAbs=1)
 | _=>false
def fk {xs:kj PV}(h:¬(xs.length:Int)=2):V0 xs=false:=by
 match xs,h with
 | [],_=>rfl
 | [a],_=>cases a <;> rfl
 | [a,b],h=>exact absurd rfl h
 | a::b::c::r,_=>cases a <;> cases b <;> rfl
def qv {xs:kj PV}(h:(xs.length:Int)=2):∃a b,xs= [a,b] :=by
 match xs,h with
 | [],h=>simp at h
 | [a],h=>simp at h
 | [a,b],_=>exact⟨a,b,rfl⟩
 | a::b::c::r,h=>simp at h;omega
def nj {x:PV}(h:b6 x=true):∃i,x= .int i:=by cases x <;> first | exact⟨_,rfl⟩|cases h
def pG {x y:PV}(h:b6 x=false):V0 [x,y] =false:=by cases x <;> first | rfl|cases h
def pH {x y:PV}(h:b6 y=false):V0 [x,y] =false:=by cases x <;> cases y <;> first | rfl|cases h
abbrev KZ:AS:=
 (AY (BE (Ew (Ca (Ah (AR 1 Cg (AB (aV 1) AM)))) (Ca (Ah (AR 1 Cg (AB (aV 2) AM))))) (Ak (aC (.bl false))) Av)
   (Ak (Qt (AX mq (aV 2) (aC (.int 0))) (AX KG (AR 2 GH (AB (FZ TW (AB (aV 1) AM)) (AB (aV 2) AM))) (aC (.int 1))))))
abbrev Sa:AS:=
 (AY (Am (aV 0) (HD 2 (AZ (An 1) (AZ (An 2) BY))))
   KZ)
abbrev RL:AS:=
 (AY (BE (Ew (Ca (Ah (RY (aV 0) ["tuple","list"]))) (Ah (AX KH (FZ FN (AB (aV 0) AM)) (aC (.int 2))))) (Ak (aC (.bl false))) Av)
   Sa)
def EF:AF:=Ap 3 RL
def WZ {a:PV}{Q:PV->Prop}(h:RL ⟨λ_=>Q .non,Q,λ_=>False,λ_=>False⟩ [some (.val a),none,none]):EF [a] Q:=h
def gk {x y z:PV}(hx:x= .tup [y,z] \/x= .lst [y,z])(hy:kdOf y≠none)(hz:kdOf z≠none){Q:PV->Prop}(q:Q (.bl (V0 [y,z]))):KZ {nx:=λx=>Q PV.non,rt:=Q,bk:=λx=>False,ct:=λx=>False} [some (.val x),some (.val y),some (.val z)] :=by
 repeat' array_get_dec
 refine Wx hy ?_;repeat' array_get_dec
 cases c:b6 y with
 | false=>rw[pG c] at q;exact q
 | true=>
   obtain⟨a,rfl⟩:=nj c;repeat' array_get_dec
   refine Wx hz ?_;repeat' array_get_dec
   cases d:b6 z with
   | false=>rw[pH d] at q;exact q
   | true=>
     obtain⟨b,rfl⟩:=nj d;repeat' array_get_dec
     .rename_i hb;obtain⟨n,rfl⟩:∃n:Nat,b=n:=⟨b.toNat,by omega⟩;refine Hc _ _ _ ?_;repeat' array_get_dec
      have e:V0 [.int a, .int (n:Int)] =decide (((Nat.gcd a.natAbs n:Nat):Int)=1):=by show (decide (0<(n:Int))&&decide (Nat.gcd a.natAbs (n:Int).natAbs=1))=_;rw[ABQ hb,Bool.true_and,AE1];exact AC6.mpr ⟨λh=>by rw[h];rfl,λh=>by omega⟩
      rw[e] at q;exact q
     .rename_i hb;have e:V0 [.int a, .int b] =false:=by show (decide (0<b)&&_)=_;rw[ABa hb,Bool.false_and]
      rw[e] at q;exact q
def gj {B:Nat}{x:PV}{xs:kj PV}(hx:x= .tup xs\/x= .lst xs)(hl:xs.length<=100)(hi:(∀y∈xs,kdOf y≠none)/\∀a b,xs= [a, .int b] ->b.natAbs<B){Q:PV->Prop}(q:Q (.bl (V0 xs))):EF [x] Q:=by
 apply WZ;rcases hx with rfl|rfl;all_goals
  repeat' array_get_dec
  .rename_i z;rw[fk z] at q;exact q
  .rename_i h2;obtain⟨y,z,rfl⟩:=qv h2;exact gk (by first | exact .inl rfl|exact .inr rfl) (hi.1 y (by simp)) (hi.1 z (by simp)) q
def kX (r:Rat):V0 [.int r.num, .int (r.den:Int)] =true:=by show (decide (0<(r.den:Int))&&decide (Nat.gcd r.num.natAbs (r.den:Int).natAbs=1))=true;have:=r.den_pos;rw[ABQ (by omega),Bool.true_and,AE1];exact ABQ r.reduced
def Z5 {r:Rat}{x:PV}(hx:x=fr r\/x= .lst [.int r.num, .int (r.den:Int)]){Q:PV->Prop}(q:Q (.bl true)):EF [x] Q:=by
 refine gj (B:=r.den+1) hx (by simp) ⟨λy hy=> ?_,λa b e=> ?_⟩ (by rw[kX];exact q)
 .simp only[AAK,ABR,ABS] at hy;rcases hy with rfl|rfl <;> exact λz=>by cases z
 .cases e;simp
instance ACk {r:AA}{τ:BD}{a:kj PV->Prop}:Wp (wn r τ a) (r τ λb=>match b with | [.lst xs] =>a (FM 0 xs)|_=>False):=⟨id⟩
structure zS (s:BX):Prop where
 st:B4 740 s
 h:s.2.1=1
 e:s.2.2.isSome=true
abbrev Sd:AS:=
 (AY (Am (mf (Ah (AX mo (aV 5) (aV 0))) (Ay (AB (aC (.int 1)) (AB (aC (.int 1)) AM))) (Ay (AB (AX Ex (aV 4) (aV 0)) (AB (AX Ex (aV 4) (aV 5)) AM)))) (An 6))
   (BE (Ew (Ah (AX Nf (aV 2) (aC .non))) (Ah (AR 2 Aj (AB (AX Ao (aV 2) (aC (.int 1))) (AB (aV 6) AM))))) (Am (Ay (AB (aV 3) (AB (aV 6) AM))) (An 2)) Av))
abbrev Se:AS:=
 (AY (Du (wn (AB (aV 1) AM)) (HD 2 (AZ (An 3) (AZ (HD 2 (AZ (An 4) (AZ (An 5) BY))) BY))) (BE (Ah (AX mo (aV 4) (aV 0))) Sd Av))
   (Ak (aV 2)))
abbrev RN:AS:=
 (AY (Am (aC .non) (An 2))
   Se)
def E5:AF:=Ap 7 RN
def Wb {a b:PV}{Q:PV->Prop}(h:RN ⟨λ_=>Q .non,Q,λ_=>False,λ_=>False⟩ [some (.val a),some (.val b),none,none,none,none,none]):E5 [a,b] Q:=h
abbrev VJ:AS:=
 (AY (Am (mf (Ah (AX KG (AX bJ (aV 2) (aC (.int 2))) (aC (.int 0)))) (aC (.int 1)) (TL Hl (aC (.int 1)))) (An 3))
   (Ak (Ay (AB (aV 0) (AB (aV 1) (AB (AX Qz (aV 2) (aC (.int 2))) (AB (aV 3) AM)))))))
def FE:AF:=Ap 4 VJ
def Yf {a b c:PV}{Q:PV->Prop}(h:VJ ⟨λ_=>Q .non,Q,λ_=>False,λ_=>False⟩ [some (.val a),some (.val b),some (.val c),none]):FE [a,b,c] Q:=h
abbrev S5:AS:=
 (AY (Am (AR 3 CY (AB (aV 3) (AB (aV 4) (AB (aV 8) AM)))) (An 2))
   (Ak (FX (Ci (AB (AR 3 FE (AB (aV 3) (AB (aV 2) (AB (aV 7) AM)))) (AB (AR 3 FE (AB (aV 2) (AB (aV 4) (AB (aV 1) AM)))) AM))))))
abbrev S4:AS:=
 (AY (Am (AX Ao (AR 2 E5 (AB (aV 5) (AB (FX (C1 (HM (aV 6)) 2 [] (HD 2 (AZ (An 0) (AZ (An 1) BY))) FH (Ay (AB (aV 1) (AB (aV 0) AM))))) AM))) (aC (.int 0))) (An 1))
   S5)
abbrev S3:AS:=
 (AY (BE (Ah (AX KG (aV 8) (Ay (AB (aC (.int 1)) (AB (aC (.int 1)) AM))))) (Ak (FX (Ci (AB (AR 3 FE (AB (aV 3) (AB (aV 4) (AB (aV 7) AM)))) AM)))) Av)
   S4)
abbrev S2:AS:=
 (AY (Am (AR 2 E5 (AB (aV 5) (AB (aV 6) AM))) (HD 2 (AZ (An 7) (AZ (An 8) BY))))
   S3)
abbrev RS:AS:=
 (AY (Am (aV 0) (HD 4 (AZ (An 3) (AZ (An 4) (AZ (An 5) (AZ (An 6) BY))))))
   S2)
def GM:AF:=Ap 9 RS
def Wg {a:PV}{Q:PV->Prop}(h:RS ⟨λ_=>Q .non,Q,λ_=>False,λ_=>False⟩ [some (.val a),none,none,none,none,none,none,none,none]):GM [a] Q:=h
def Ua (N:Nat)(l:Int×Int):Int×Int:=if (N:Int)<=l.2 then (1,1) else (l.1-N,l.1-l.2)
def Yk {N W:Nat}{l:Int×Int}(h:Ik N W l)(h1:(N:Int)<=l.1):Sz (Ua N l)/\Bd (3*W+3) (sv (Ua N l)):=by
 unfold Ua;split
 .refine ⟨⟨by decide,Ae (m:=1) (by decide) (by decide),Ae (m:=1) (by decide) (by decide)⟩, ?_⟩;rw[Ws];exact rQ.mono (by omega)
 .have:=MY h h1 (by omega);exact⟨this.1,this.2.1⟩
structure n9 (N:Nat) (us:List (Int×Int)) (k:Nat) (l:Int×Int):Prop where
 at_:us[k]? =some l
 up:(N:Int)<=l.1
 top:∀x∈us,(N:Int)<=x.1->sv (Ua N x)<=sv (Ua N l)
 fst:∀j x,j<k->us[j]? =some x->(N:Int)<=x.1->sv (Ua N x)<sv (Ua N l)
def n9.one {N:Nat}{c:kj (Int×Int)}{k a:Nat}{l b:Int×Int}(h:n9 N c k l)(h':n9 N c a b):k=a/\l=b:=by
 have e:k=a:=by
  rcases Nat.lt_trichotomy k a with z|z|z
  .have:=h'.fst k l z h.at_ h.up;have:=h.top b (AB8 h'.at_) h'.up;exfalso;grind
  .exact z
  .have:=h.fst a b z h'.at_ h'.up;have:=h'.top l (AB8 h.at_) h.up;exfalso;grind
 subst e;have:=h.at_;rw[h'.at_] at this;exact⟨rfl,(ABW this).symm⟩
def je (N:Nat)(a:kj (Int×Int))(v:PV):Prop:=(v= .non/\∀x∈a,¬(N:Int)<=x.1)\/∃k l,v= .tup [.int (k:Nat),C2 (Ua N l)] /\n9 N a k l
def Pg {N W:Nat}{lns:kj (Int×Int)}(ok:∀l∈lns,Ik N W l)(hl:lns.length<=1000)(ex:∃l∈lns,(N:Int)<=l.1){Q:PV->Prop}(q:∀k l,n9 N lns k l->Q (.tup [.int (k:Nat),C2 (Ua N l)])):E5 [.int N, .lst (lns.map C2)] Q:=by
 apply Wb;ac_rfl;show Eh _ _ _ (FM 0 (lns.map C2)) _;refine K6 (λw τ=>∃c ws v g i m n,c++ws=lns/\w=FM c.length (ws.map C2)/\je N c v/\τ= [some (.val (.int N)),some (.val (.lst (lns.map C2))),some (.val v),g,i,m,n]) ?_ ?_ _ _ ⟨[],lns, .non,_,_,_,_,rfl,rfl, .inl ⟨rfl,by simp⟩,rfl⟩
 .rintro τ ⟨c,ws,v,g,i,m,n,e,r,hv,rfl⟩;have:ws= [] :=by cases ws with | nil=>rfl|cons _ _=>simp[FM] at r
  subst this;rw[ACQ] at e;subst e;ac_rfl;rcases hv with⟨_,h⟩|⟨k,l,rfl,h⟩
  .obtain ⟨l,hl,hN⟩:=ex;exact absurd hN (h l hl)
  .exact q k l h
 .rintro x w τ R y ⟨c,ws,v,g,i,m,n,e,r,hv,rfl⟩;cases ws with
  | nil=>simp[FM] at r
  | cons l ws=>
    rw[ABJ,FM] at r;cases r;have A:l∈lns:=by rw[<-e];simp
    have o:=ok l A;have keep:∀v g i m n,je N (c ++ [l]) v->R [some (.val (.int N)),some (.val (.lst (lns.map C2))),some (.val v),g,i,m,n] :=λv g i m n h=>y _ ⟨c ++ [l],ws,v,g,i,m,n,by simpa using e,by simp,h,rfl⟩;clear y;have lower:¬(N:Int)<=l.1->je N (c ++ [l]) v:=λh=>by
     rcases hv with⟨rfl,h2⟩|⟨k,f,rfl,h2⟩
     .exact .inl ⟨rfl,EY.mpr ⟨h2,h⟩⟩
     .exact .inr ⟨k,f,rfl,⟨by rw[ABv];exact h2.at_;exact(ABc.mp h2.at_).1,h2.up,EY.mpr ⟨h2.top,λz=>absurd z h⟩,λj x d hx=>h2.fst j x d (by rw[ABv (ADR d (ABc.mp h2.at_).1)] at hx;exact hx)⟩⟩
    have take:(N:Int)<=l.1->(∀x∈c,(N:Int)<=x.1->sv (Ua N x)<sv (Ua N l))->je N (c ++ [l]) (.tup [.int (c.length:Nat),C2 (Ua N l)]):=λh h2=> .inr ⟨c.length,l,rfl,⟨by simp,h,EY.mpr ⟨λx hx z=>by have:=h2 x hx z;grind,λ_=>ABZ⟩,λj x d hx z=>h2 x (by rw[ABv d] at hx;exact AB8 hx) z⟩⟩;have t:=λh=>Yk o h;ac_rfl
    .rename_i h1 h2;have s:Ua N l=(1,1):=AAJ h2;rw[s] at take t;rcases hv with⟨rfl,a⟩|⟨k,f,rfl,a⟩
     .ac_rfl;exact keep _ _ _ _ _ (take h1 λx hx z=>absurd z (a x hx))
     .have p:f∈lns:=by rw[<-e];exact AEW _ (AB8 a.at_)
      ac_rfl;refine GP (b:=(1,1)) (Yk (ok f p) a.up).1 (t h1).1 ?_;ac_rfl
      .rename_i z;exact keep _ _ _ _ _ (take h1 λx hx u=>by have:=a.top x hx u;grind)
      .rename_i z;exact keep _ _ _ _ _ (.inr ⟨k,f,rfl,⟨by rw[ABv];exact a.at_;exact(ABc.mp a.at_).1,a.up,EY.mpr ⟨a.top,λ_=>by rw[s];grind⟩,λj x d hx=>a.fst j x d (by rw[ABv (ADR d (ABc.mp a.at_).1)] at hx;exact hx)⟩⟩)
    .rename_i h1 h2;have s:Ua N l=(l.1-N,l.1-l.2):=AAH h2;rw[s] at take t;rcases hv with⟨rfl,a⟩|⟨k,f,rfl,a⟩
     .ac_rfl;exact keep _ _ _ _ _ (take h1 λx hx z=>absurd z (a x hx))
     .have p:f∈lns:=by rw[<-e];exact AEW _ (AB8 a.at_)
      ac_rfl;refine GP (b:=(l.1-N,l.1-l.2)) (Yk (ok f p) a.up).1 (t h1).1 ?_;ac_rfl
      .rename_i z;exact keep _ _ _ _ _ (take h1 λx hx u=>by have:=a.top x hx u;grind)
      .rename_i z;exact keep _ _ _ _ _ (.inr ⟨k,f,rfl,⟨by rw[ABv];exact a.at_;exact(ABc.mp a.at_).1,a.up,EY.mpr ⟨a.top,λ_=>by rw[s];grind⟩,λj x d hx=>a.fst j x d (by rw[ABv (ADR d (ABc.mp a.at_).1)] at hx;exact hx)⟩⟩)
    .rename_i h1;exact keep _ _ _ _ _ (lower h1)
def uJ {N:Nat}{l:Int×Int}{s:Rat}(a:0<=s)(h1:s<=1)(b:(N:Int)<=l.1)(c:(N:Int)<=l.2):(N:Rat)<=lv l s:=by
 have d:(N:Rat)<=(l.1:Rat):=by rw[<-Dw];exact ADa.mpr b
 have e:(N:Rat)<=(l.2:Rat):=by rw[<-Dw];exact ADa.mpr c
 have y:lv l s=(1-s)*(l.1:Rat)+s*(l.2:Rat):=by unfold lv;grind
 have f:(1-s)*N<=(1-s)*(l.1:Rat):=ADr d (by grind);have g:s*N<=s*(l.2:Rat):=ADr e a;rw[y];grind
def fz {N W:Nat}{l:Int×Int}(o:Ik N W l)(h1:(N:Int)<=l.1){s:Rat}(a:0<=s)(hs:s<=1):(N:Rat)<=lv l s↔s<=sv (Ua N l):=by
 unfold Ua;by_cases h:(N:Int)<=l.2
 .rw [AAJ h,Ws];exact⟨λ_=>hs,λ_=>uJ a hs h1 h⟩
 .rw [AAH h];have:=(MY o h1 (by omega)).2.2.2 s;grind
def jo (l:Int×Int):Int×Int:=(l.2,l.1)
def gH (l:Int×Int)(s:Rat):lv (jo l) s=lv l (1-s):=by unfold lv jo;grind
def YA {N W:Nat}{l:Int×Int}(o:Ik N W l):Ik N W (jo l):=by obtain⟨u,v,a,b,c,d⟩:=o.ex;exact⟨o.b,o.a,o.n,o.n0,v,u,b,a,d,c⟩
def kh (l:Int×Int):lv l 0=(l.1:Rat):=by unfold lv;grind
def pT (l:Int×Int):lv l 1=(l.2:Rat):=by unfold lv;grind
def MK {N:Nat}{k:Int}:(N:Rat)<=(k:Rat)↔(N:Int)<=k:=by rw[<-Dw];exact ADa
def below {N:Nat}{lns:kj (Int×Int)}{s:Rat}(h:∀l∈lns,∃u,s<u/\∀t,s<t->t<u->lv l t<N):∃u,s<u/\∀t,s<t->t<u->∀l∈lns,lv l t<N:=by
 induction lns with
 | nil=>exact⟨s+1,by grind,by simp⟩
 | cons l r ih=>
   obtain⟨u,h1,h2⟩:=ih λx hx=>h x (by simp[hx]);obtain⟨v,d,a⟩:=h l (by simp);refine⟨if u<v then u else v,by split <;> assumption,λt t1 t2 x hx=> ?_⟩;have b:t<u:=by split at t2 <;> grind
   have c:t<v:=by split at t2 <;> grind
   rcases AAK.mp hx with rfl|hx
   .exact a t t1 c
   .exact h2 t t1 b x hx
def Yz {N W:Nat}{lns:kj (Int×Int)}(ok:∀l∈lns,Ik N W l)(a:∀s,0<=s->s<1->∃l∈lns,(N:Rat)<=lv l s){s:Rat}(i:0<=s)(b:s<1)(top:∀x∈lns,(N:Int)<=x.1->sv (Ua N x)<=s):∃l∈lns,¬(N:Int)<=l.1/\(N:Int)<=l.2/\(N:Rat)<=lv l s:=by
 refine AE3 λf=> ?_;obtain⟨u,h1,h2⟩:=below (N:=N) (lns:=lns) (s:=s) λl hl=>by
  have o:=ok l hl;by_cases h:(N:Int)<=l.1
  .refine ⟨1,b,λt t1 t2=> ?_⟩;have:=fz o h (s:=t) (by grind) (by grind);have:=top l hl h;grind
  .by_cases k:(N:Int)<=l.2
   .have z:¬(N:Rat)<=lv l s:=λz=>f ⟨l,hl,h,k,z⟩;by_cases e:(N:Int)=l.2
    .refine ⟨1,b,λt t1 t2=> ?_⟩;have c:(l.1:Rat)<(N:Rat):=by rw[<-Dw];exact ACF.mpr (by omega)
     have d:(l.2:Rat)=(N:Rat):=by rw[<-Dw,e]
     have:=ADq c (show 0<1-t by grind);unfold lv;rw[d];grind
    .have hs:=(Tg o (by omega) (by omega)).2.2.2;refine⟨sv (N-l.1,l.2-l.1),(hs s).mp (by grind),λt _ t2=>(hs t).mpr t2⟩
   .refine ⟨1,b,λt t1 t2=> ?_⟩;have c:(l.1:Rat)<(N:Rat):=by rw[<-Dw];exact ACF.mpr (by omega)
    have d:(l.2:Rat)<(N:Rat):=by rw[<-Dw];exact ACF.mpr (by omega)
    have:=ADq c (show 0<1-t by grind);have:=ADr (show (l.2:Rat)<=(N:Rat) by grind) (show 0<=t by grind);have y:lv l t=(1-t)*(l.1:Rat)+t*(l.2:Rat):=by unfold lv;grind
    rw[y];grind
 have ⟨t,t1,t2,g⟩:∃t,s<t/\t<u/\t<1:=by
  by_cases z:u<1
  .exact ⟨(s+u)/2,by grind,by grind,by grind⟩
  .exact ⟨(s+1)/2,by grind,by grind,by grind⟩
 obtain⟨l,hl,z⟩:=a t (by grind) g;have:=h2 t t1 t2 l hl;grind
abbrev S0:AS:=
 (AY (Am (AX Ao (aV 3) (aC (.int 0))) (HD 3 (AZ (An 4) (AZ (An 5) (AZ (An 6) BY)))))
   (Ak (Ay (AB (aC (.str "near")) (AB (AR 2 Gb (AB (AR 2 Hf (AB (aV 4) (AB (aV 6) AM))) (AB (AR 1 IS (AB (aC (.int 2)) AM)) AM))) AM)))))
abbrev S1:AS:=
 (AY (BE (oJ (aV 3)) S0 Av)
   (Ak (Ay (AB (aC (.str "clear")) (AB (FZ Co (AB (FX (MF (HM (AR 3 FD (AB (aV 0) (AB (aV 1) (AB (aV 2) AM))))) 2 [] (An 1) FH (HM (AR 1 GM (AB (aV 1) AM))) 1 (An 0) FH (aV 0))) AM)) AM)))))
abbrev RR:AS:=
 (AY (Am (AR 3 C0 (AB (aV 0) (AB (aV 1) (AB (aV 2) AM)))) (An 3))
   S1)
def E6:AF:=Ap 7 RR
def We {a b c:PV}{Q:PV->Prop}(h:RR ⟨λ_=>Q .non,Q,λ_=>False,λ_=>False⟩ [some (.val a),some (.val b),some (.val c),none,none,none,none]):E6 [a,b,c] Q:=h
abbrev U4:AS:=
 (AY (BE (Ew (Ca (Ah (AR 1 EF (AB (aV 1) AM)))) (Ew (Ca (Ah (AR 1 EF (AB (aV 2) AM)))) (Ew (Ca (Ah (AR 1 Cg (AB (aV 3) AM)))) (Ca (Ah (AR 1 Cg (AB (aV 4) AM))))))) (Ak (aC (.bl false))) Av)
   (Ak (Qt (AX (fC false) (aV 3) (Ay (AB (aC (.int 0)) (AB (aC (.int 1)) (AB (aC (.int 2)) AM))))) (AX (fC false) (aV 4) (Ay (AB (aC (.int 1)) (AB (TL Hl (aC (.int 1))) AM)))))))
abbrev U3:AS:=
 (AY (Am (aV 0) (HD 4 (AZ (An 1) (AZ (An 2) (AZ (An 3) (AZ (An 4) BY))))))
   U4)
abbrev U2:AS:=
 (AY (BE (Ew (Ca (Ah (RY (aV 0) ["tuple","list"]))) (Ah (AX KH (FZ FN (AB (aV 0) AM)) (aC (.int 4))))) (Ak (aC (.bl false))) Av)
   U3)
def GI:AF:=Ap 5 U2
def Yb {a:PV}{Q:PV->Prop}(h:U2 ⟨λ_=>Q .non,Q,λ_=>False,λ_=>False⟩ [some (.val a),none,none,none,none]):GI [a] Q:=h
abbrev W5:AS:=
 (AY (Am (AR 2 Ds (AB (AX Ao (AR 2 Di (AB (aV 0) (AB (aV 4) AM))) (aV 7)) (AB (AX Ao (AR 2 Di (AB (aV 1) (AB (aV 4) AM))) (aV 7)) AM))) (An 9))
   (BE (Ah (AR 2 Aj (AB (AR 2 Fe (AB (AR 1 IS (AB (aV 8) AM)) (AB (aV 9) AM))) (AB (AR 2 EK (AB (aV 2) (AB (aV 7) AM))) AM)))) (Ak (aC (.bl false))) Av))
abbrev W6:AS:=
 (AY (Du (HM (AR 4 IR (AB (aV 0) (AB (aV 1) (AB (aV 5) (AB (aV 6) AM)))))) (An 4) W5)
   (Ak (aC (.bl true))))
abbrev Y6:AS:=
 (AY (Am (aV 3) (HD 4 (AZ (An 5) (AZ (An 6) (AZ (An 7) (AZ (An 8) BY))))))
   W6)
def Ko:AF:=Ap 10 Y6
def cn {a b c d:PV}{Q:PV->Prop}(h:Y6 ⟨λ_=>Q .non,Q,λ_=>False,λ_=>False⟩ [some (.val a),some (.val b),some (.val c),some (.val d),none,none,none,none,none,none]):Ko [a,b,c,d] Q:=h
abbrev HJ:AS:=
 (AY (BE (Ca (Ah (AR 4 Ko (AB (aV 0) (AB (aV 1) (AB (aV 2) (AB (Ay (AB (aV 8) (AB (aV 9) (AB (AX Ao (aV 5) (aC (.int 2))) (AB (AX Ao (aV 5) (aC (.int 3))) AM))))) AM))))))) (Ak (aC (.bl false))) Av)
   (Am (aV 9) (An 6)))
abbrev HI:AS:=
 (AY (BE (Ew (Ah (AX KH (aV 8) (aV 6))) (Ew (Ca (Ah (AR 2 Aj (AB (aV 8) (AB (aV 9) AM))))) (Ah (AR 2 Aj (AB (aV 7) (AB (aV 9) AM)))))) (Ak (aC (.bl false))) Av)
   HJ)
abbrev HH:AS:=
 (AY (Am (FZ Co (AB (AX Ao (aV 5) (aC (.int 1))) AM)) (An 9))
   HI)
abbrev HG:AS:=
 (AY (Am (FZ Co (AB (AX Ao (aV 5) (aC (.int 0))) AM)) (An 8))
   HH)
abbrev JU:AS:=
 (AY (BE (Ca (Ah (AR 1 GI (AB (aV 5) AM)))) (Ak (aC (.bl false))) Av)
   HG)
abbrev JY:AS:=
 (AY (Du (HM (aV 3)) (An 5) JU)
   (Ak (AX KG (aV 6) (aV 7))))
abbrev JX:AS:=
 (AY (Am (aV 4) (HD 2 (AZ (An 6) (AZ (An 7) BY))))
   JY)
abbrev JW:AS:=
 (AY (BE (Ah (AX Nf (aV 4) (aC .non))) (Ak (AX KG (FZ FN (AB (aV 3) AM)) (aC (.int 0)))) Av)
   JX)
abbrev JV:AS:=
 (AY (Am (AR 2 Cz (AB (aV 0) (AB (aV 1) AM))) (An 4))
   JW)
abbrev HA:AS:=
 (AY (BE (Ca (Ah (RY (aV 3) ["tuple","list"]))) (Ak (aC (.bl false))) Av)
   JV)
def B0:AF:=Ap 10 HA
def LW {a b c d:PV}{Q:PV->Prop}(h:HA ⟨λ_=>Q .non,Q,λ_=>False,λ_=>False⟩ [some (.val a),some (.val b),some (.val c),some (.val d),none,none,none,none,none,none]):B0 [a,b,c,d] Q:=h
structure Rw where
 b:Rat
 e:Rat
 sd:Nat
 up:Bool
abbrev Nu (u:da):Int:=if u=true then 1 else -1
def YZ (r:Rw):PV:= .tup [fr r.b,fr r.e, .int (r.sd:Nat), .int (Nu r.up)]
def ET (b e:Rat)(k:Nat):Rw:=⟨b,e,k/2,decide (k % 2=0)⟩
def Mo {b e:Rat}{k:Nat}{Q:PV->Prop}(q:Q (YZ (ET b e k))):FE [fr b,fr e, .int (k:Nat)] Q:=by
 have c:((k:Int).fdiv 2)=((k/2:Nat):Int):=by rw[ADS _ (by decide)];omega
 have d:((k:Int).fmod 2)=((k % 2:Nat):Int):=by rw[AEY _ (by decide)];omega
 apply Yf;ac_rfl
 .rename_i h;refine⟨⟨by decide,Ae (m:=2) (by decide) (by decide)⟩, ?_⟩;rw[c];have a:YZ (ET b e k)= .tup [fr b,fr e, .int ((k/2:Nat):Int), .int 1] :=by unfold YZ ET Nu;rw[ABQ (show k % 2=0 by omega),AAJ rfl]
  rw[a] at q;ac_rfl;exact q
 .rename_i h;refine⟨⟨by decide,Ae (m:=2) (by decide) (by decide)⟩, ?_⟩;rw[c];have a:YZ (ET b e k)= .tup [fr b,fr e, .int ((k/2:Nat):Int), .int (-1)] :=by unfold YZ ET Nu;rw[ABa (show ¬k % 2=0 by omega)];rfl
  rw[a] at q;ac_rfl;exact q
def dX (b e:Rat):kj Rw->Prop
 | [] =>b=e
 | r::rs=>r.b=b/\dX r.e e rs
theorem dX.app {x e:Rat}{a:kj Rw}:∀{rs:kj Rw} {b:Rat},dX b x rs->dX x e a->dX b e (rs++a)
 | [],b,h,k=>by cases h;exact k
 | r::rs,b,h,k=>⟨h.1,dX.app h.2 k⟩
def Oz (N:Nat)(lns:kj (Int×Int))(b e:Rat)(rs:kj Rw):Prop:=∃k l,n9 N lns k l/\(((N:Int)<=l.2/\rs= [ET b e k])\/(¬(N:Int)<=l.2/\∃a c,n9 N (lns.map jo) a c/\rs= [ET b (b+sv (l.1-N,l.1-l.2)*(e-b)) k,ET (b+sv (l.1-N,l.1-l.2)*(e-b)) e a]))
def Oz.one {N:Nat}{lns:kj (Int×Int)}{b e:Rat}{rs d:kj Rw}(h:Oz N lns b e rs)(h':Oz N lns b e d):rs=d:=by
 obtain⟨k,l,a,c⟩:=h;obtain⟨n,o,g,i⟩:=h';obtain⟨rfl,rfl⟩:=a.one g;rcases c with⟨c1,rfl⟩|⟨c1,p,r,j,rfl⟩ <;> rcases i with⟨f,rfl⟩|⟨f,s,t,m,rfl⟩
 .rfl
 .exact absurd c1 f
 .exact absurd f c1
 .obtain ⟨rfl,rfl⟩:=j.one m;rfl
structure mY (N:Nat) (lns:List (Int×Int)) (b e:Rat) (B:Nat) (rs:List Rw):Prop where
 few:rs.length<=2
 ne:rs≠ []
 chn:dX b e rs
 det:Oz N lns b e rs
 ok:∀r∈rs,Bd B r.b/\Bd B r.e/\b<=r.b/\r.b<r.e/\r.e<=e/\∃k l,lns[k]? =some l/\r.sd=k/2/\r.up=decide (k % 2=0)/\(N:Rat)<=lv l ((r.b-b)/(e-b))/\(N:Rat)<=lv l ((r.e-b)/(e-b))
def fB {p:Int×Int}{b:da}(hb:decide (p.1=1/\p.2=1)=b){Q:PV->Prop}(q:Q (.bl b)):KG (C2 p) (fr 1) Q:=by
 refine⟨⟨rfl,rfl⟩, ?_⟩;have e:HN (C2 p) (fr 1)=decide (p.1=1/\p.2=1):=by show HN (.tup [.int p.1, .int p.2]) (.tup [.int 1, .int 1])=_;simp[HN,pd,Mi,PyData.eqv,PyData.eqvAll];rfl
 rw[e,hb];exact q
def YY {b e:Rat}{N M W:Nat}{lns:kj (Int×Int)}(ok:∀l∈lns,Ik N W l)(J:b<e)(f:Bd M b)(i:Bd M e)(hM:M<=300)(hW:W<=1050)(hl:lns.length<=1000)(g:∀s,0<=s->s<1->∃l∈lns,(N:Rat)<=lv l s){Q:PV->Prop}(q:∀rs,mY N lns b e (3*M+3*W+6) rs->Q (.lst (rs.map YZ))):GM [.tup [fr b,fr e, .int N, .lst (lns.map C2)]] Q:=by
 have nz:e-b≠0:=by grind
 have B:(b-b)/(e-b)=0:=by grind
 have C:(e-b)/(e-b)=1:=by grind
 apply Wg;ac_rfl;refine Pg ok hl ?_ λk l h=> ?_
 .obtain ⟨l,hl,h⟩:=g 0 ABZ (by decide);rw[kh] at h;exact⟨l,hl,MK.mp h⟩
 have K:l∈lns:=AB8 h.at_;have ol:=ok l K;by_cases hN:(N:Int)<=l.2
 .rw [show Ua N l=(1,1) from AAJ hN];ac_rfl;refine fB (b:=true) (by decide) ?_;ac_rfl;refine Mo ?_;ac_rfl;refine q [ET b e k] ⟨by simp,by simp,⟨rfl,rfl⟩,⟨k,l,h, .inl ⟨hN,rfl⟩⟩,λr j=> ?_⟩;rcases ACU.mp j with rfl;refine⟨f.mono (by omega),i.mono (by omega),ABZ,J,ABZ,k,l,h.at_,rfl,rfl, ?_, ?_⟩
  .show (N:Rat)<=lv l ((b-b)/(e-b));rw[B,kh];exact MK.mpr h.up
  .show (N:Rat)<=lv l ((e-b)/(e-b));rw[C,pT];exact MK.mpr hN
 .have es:Ua N l=(l.1-N,l.1-l.2):=AAH hN;obtain⟨L,D,O,E⟩:=MY ol h.up (by omega);have P:(l.2:Rat)<(N:Rat):=by rw[<-Dw];exact ACF.mpr (by omega)
  have m:sv (l.1-N,l.1-l.2)<1:=(E 1).mp (by rw[pT];exact P);have top:=h.top;rw[es] at top;obtain⟨t,tm,t1,t2,n⟩:=Yz ok g O m top;have S:0<sv (l.1-N,l.1-l.2):=by
   refine AE3 λz=>t1 ?_;have T:sv (l.1-N,l.1-l.2)=0:=by grind
   rw[T,kh] at n;exact MK.mp n
  rw[es];ac_rfl;have o:¬((l.1-N,l.1-l.2).1=1/\(l.1-N,l.1-l.2).2=1):=by rintro⟨U,X⟩;have:(l.1-(N:Int),l.1-l.2)=(1,1):=ADP U X;rw[this,Ws] at m;exact absurd m (by decide)
  refine fB (b:=false) (ABa o) ?_;ac_rfl;refine Dx C2 C2 jo (λ_=>True) (λa _ R Y=> ?_) lns [] (λ_ _=>trivial) ?_
  .ac_rfl;exact Y
  .rw [ACE];ac_rfl;refine Pg (N:=N) (W:=W) (lns:=lns.map jo) (λx hx=> ?_) (by simpa using hl) ⟨jo t,ABG.mpr ⟨t,tm,rfl⟩,t2⟩ λd p h2=> ?_
   .obtain ⟨y,hy,rfl⟩:=ABG.mp hx;exact YA (ok y hy)
   obtain⟨c,F,rfl⟩:∃c,lns[d]? =some c/\jo c=p:=by
    have:=h2.at_;rw[ABw] at this;cases G:lns[d]? with
    | none=>rw[G] at this;cases this
    | some c=>rw[G] at this;exact⟨c,rfl,ABW this⟩
   have u:c∈lns:=AB8 F;have Z:=(fz (YA (ok t tm)) t2 (s:=1-sv (l.1-N,l.1-l.2)) (by grind) (by grind)).mp (by rw[gH,show (1:Rat)-(1-sv (l.1-N,l.1-l.2))=sv (l.1-N,l.1-l.2) by grind];exact n);have tt:=h2.top (jo t) (ABG.mpr ⟨t,tm,rfl⟩) t2;have v:(N:Rat)<=lv c (sv (l.1-N,l.1-l.2)):=by have:=(fz (YA (ok c u)) h2.up (s:=1-sv (l.1-N,l.1-l.2)) (by grind) (by grind)).mpr (Rat.le_trans Z tt);rw[gH,show (1:Rat)-(1-sv (l.1-N,l.1-l.2))=sv (l.1-N,l.1-l.2) by grind] at this;exact this
   have w:(N:Rat)<=lv l (sv (l.1-N,l.1-l.2)):=by have:=E (sv (l.1-N,l.1-l.2));grind
   ac_rfl;refine Gm L D f i hM (by omega) ?_;have A:Oz N lns b e [ET b (b+sv (l.1-N,l.1-l.2)*(e-b)) k,ET (b+sv (l.1-N,l.1-l.2)*(e-b)) e d] :=⟨k,l,h, .inr ⟨hN,d,_,h2,rfl⟩⟩;generalize sv (l.1-N,l.1-l.2)=s at *;have H:(b+s*(e-b)-b)/(e-b)=s:=by grind
   have w0:=AEO S (show 0<e-b by grind);have w1:=ADq m (show 0<e-b by grind);have I:Bd (3*M+3*W+6) (b+s*(e-b)):=(f.add (D.mul (i.sub f))).mono (by omega);ac_rfl;refine Mo ?_;ac_rfl;refine Mo ?_;ac_rfl;refine q [ET b (b+s*(e-b)) k,ET (b+s*(e-b)) e d] ⟨by simp,by simp,⟨rfl,rfl,rfl⟩,A,λr j=> ?_⟩;simp only[AAK,ABR,ABS] at j;rcases j with rfl|rfl
   .refine ⟨f.mono (by omega),I,ABZ,by show b<b+s*(e-b);grind,by show b+s*(e-b)<=e;grind,k,l,h.at_,rfl,rfl, ?_, ?_⟩
    .show (N:Rat)<=lv l ((b-b)/(e-b));rw[B,kh];exact MK.mpr h.up
    .show (N:Rat)<=lv l ((b+s*(e-b)-b)/(e-b));rw[H];exact w
   .refine ⟨I,i.mono (by omega),by show b<=b+s*(e-b);grind,by show b+s*(e-b)<e;grind,ABZ,d,c,F,rfl,rfl, ?_, ?_⟩
    .show (N:Rat)<=lv c ((b+s*(e-b)-b)/(e-b));rw[H];exact v
    .show (N:Rat)<=lv c ((e-b)/(e-b));rw[C,pT];exact MK.mpr h2.up
def Fw (t:T3)(k:Nat):Rat:=if k=0 then t.1 else if k=1 then t.2.1 else t.2.2
def V8 {W:Nat}{p:Pc}(d:EN W p.o0)(h1:EN W p.o1){k:Nat}{l:Int×Int}(e:p.lns[k]? =some l){s:Rat}(h:(p.N:Rat)<=lv l s):k/2<3/\1<=(Nu (decide (k % 2=0)):Rat)*Fw (lin p.o0 p.o1 s) (k/2):=by
 obtain⟨f,c,_⟩:=Lb d h1;have key:∀u v,u∈p.six->v∈p.six->((p.N:Rat)<=lv (D9 p.N u,D9 p.N v) s->1<=u+s*(v-u))/\((p.N:Rat)<=lv (-D9 p.N u, -D9 p.N v) s->1<= -(u+s*(v-u))):=λu v hu hv=>by
  have:=J6 (s:=s) f (c u hu) (c v hv);constructor
  .intro z;have:=this.1;grind
  .intro z;have:=this.2;grind
 have g:k<6:=(ABc.mp e).1;have a:((Nu true:Int):Rat)=1:=rfl;have b:((Nu false:Int):Rat)= -1:=rfl;have m:∀x∈ [p.o0.1,p.o0.2.1,p.o0.2.2,p.o1.1,p.o1.2.1,p.o1.2.2],x∈p.six:=λx hx=>hx;match k,g with
 | 0,_=>cases e;refine⟨by decide, ?_⟩;rw[show decide (0 % 2=0)=true from rfl,a];have:=(key _ _ (m p.o0.1 (by simp)) (m p.o1.1 (by simp))).1 h;show 1<=1*(p.o0.1+s*(p.o1.1-p.o0.1));grind
 | 1,_=>cases e;refine⟨by decide, ?_⟩;rw[show decide (1 % 2=0)=false from rfl,b];have:=(key _ _ (m p.o0.1 (by simp)) (m p.o1.1 (by simp))).2 h;show 1<= -1*(p.o0.1+s*(p.o1.1-p.o0.1));grind
 | 2,_=>cases e;refine⟨by decide, ?_⟩;rw[show decide (2 % 2=0)=true from rfl,a];have:=(key _ _ (m p.o0.2.1 (by simp)) (m p.o1.2.1 (by simp))).1 h;show 1<=1*(p.o0.2.1+s*(p.o1.2.1-p.o0.2.1));grind
 | 3,_=>cases e;refine⟨by decide, ?_⟩;rw[show decide (3 % 2=0)=false from rfl,b];have:=(key _ _ (m p.o0.2.1 (by simp)) (m p.o1.2.1 (by simp))).2 h;show 1<= -1*(p.o0.2.1+s*(p.o1.2.1-p.o0.2.1));grind
 | 4,_=>cases e;refine⟨by decide, ?_⟩;rw[show decide (4 % 2=0)=true from rfl,a];have:=(key _ _ (m p.o0.2.2 (by simp)) (m p.o1.2.2 (by simp))).1 h;show 1<=1*(p.o0.2.2+s*(p.o1.2.2-p.o0.2.2));grind
 | 5,_=>cases e;refine⟨by decide, ?_⟩;rw[show decide (5 % 2=0)=false from rfl,b];have:=(key _ _ (m p.o0.2.2 (by simp)) (m p.o1.2.2 (by simp))).2 h;show 1<= -1*(p.o0.2.2+s*(p.o1.2.2-p.o0.2.2));grind
section
variable {cs ds:kj C4}{d:Rat×Rat}{M W:Nat}
theorem uY:∀p∈En cs ds d,∀c,c∈cs\/c∈ds->¬(p.b<c.1/\c.1<p.e):=by
 intro p hp c hc z;unfold En at hp;by_cases h:A4 cs ds<Ax cs ds
 .rw [AAJ h] at hp;unfold LJ at hp;obtain⟨q,hq,rfl⟩:=ABG.mp hp;obtain⟨a,f,i,g⟩:=Wz Dm q hq;have j:=Ek h a;have k:=Ek h f;have l:q.1<c.1:=z.1;have m:c.1<q.2:=z.2;exact g c.1 (DH.mpr (.inr (.inr ⟨by grind,by grind,c,hc,rfl⟩))) z
 .rw [AAH h] at hp;cases hp
def sT (b e:Rat):kj Pc->Prop
 | [] =>b=e
 | p::ps=>p.b=b/\sT p.e e ps
theorem gm:∀{ts:kj Rat} {a z:Rat},ts.head?=some a->ts.getLast?=some z->sT a z (LJ cs ds d ts)
 | [],a,z,h,_=>by cases h
 | [x],a,z,h,k=>by simp at h k;subst h;subst k;rfl
 | x::y::r,a,z,h,k=>by simp at h;subst h;refine⟨rfl, ?_⟩;have:=gm (ts:=y::r) (a:=y) (z:=z) rfl (by rw[AEB] at k;exact k);exact this
theorem gr (h:A4 cs ds<Ax cs ds):sT (A4 cs ds) (Ax cs ds) (En cs ds d):=by unfold En;rw[AAJ h];exact gm (aW h) (aX h)
structure jg (cs ds:List C4) (d:Rat×Rat) (B:Nat) (r:Rw):Prop where
 bb:Bd B r.b
 be:Bd B r.e
 lo:A4 cs ds<=r.b
 lt:r.b<r.e
 hi:r.e<=Ax cs ds
 sd:r.sd<3
 no:∀c,c∈cs\/c∈ds->¬(r.b<c.1/\c.1<r.e)
 at0:1<=(Nu r.up:Rat)*Fw (ofs cs ds d r.b) r.sd
 at1:1<=(Nu r.up:Rat)*Fw (ofs cs ds d r.e) r.sd
def Ox:kj Pc->kj Rw->Prop
 | [],rs=>rs= []
 | p::ps,rs=>∃r1 r2,rs=r1++r2/\Oz p.N p.lns p.b p.e r1/\Ox ps r2
theorem Ox.one:∀{ps:kj Pc} {rs c:kj Rw},Ox ps rs->Ox ps c->rs=c
 | [],_,_,h,h'=>by have h:_= [] :=h;have h':_= [] :=h';rw[h,h']
 | p::ps,_,_,⟨r1,r2,e,a,b⟩,⟨r1',r2',e',a',b'⟩=>by rw[e,e',a.one a',Ox.one b b']
theorem Ox.snoc {p:Pc}{t:kj Rw}(h:Oz p.N p.lns p.b p.e t):∀{ps:kj Pc} {rs:kj Rw},Ox ps rs->Ox (ps ++ [p]) (rs++t)
 | [],_,k=>by have k:_= [] :=k;subst k;exact⟨t, [],by simp,h,rfl⟩
 | q::ps,_,⟨r1,r2,e,a,b⟩=>⟨r1,r2++t,by rw[e,ADo],a,Ox.snoc h b⟩
structure di (cs ds:List C4) (d:Rat×Rat) (B:Nat) (rs:List Rw):Prop where
 few:rs.length<=402
 some_:A4 cs ds<Ax cs ds->rs≠ [] /\dX (A4 cs ds) (Ax cs ds) rs
 none_:¬A4 cs ds<Ax cs ds->rs= []
 ok:∀r∈rs,jg cs ds d B r
 det:Ox (En cs ds d) rs
theorem El.far (D:El cs ds d M W)(a:∀m,¬Bw cs ds d m){p:Pc}(hp:p∈En cs ds d):∀s,0<=s->s<1->∃l∈p.lns,(p.N:Rat)<=lv l s:=by
 intro s c f;have o:=D.pc p hp;have g:=o.lt;refine AE3 λz=> ?_;have all:∀l∈p.lns,lv l s<p.N:=λl hl=>by rw[<-Rat.not_le];exact λk=>z ⟨l,hl,k⟩
 have h:=AC1 c (show 0<=p.e-p.b by grind);have i:=ADq f (show 0<p.e-p.b by grind);refine a (p.b+s*(p.e-p.b)) (D.near_iff.mp ⟨p,hp,by grind,by grind, ?_⟩);rw[show (p.b+s*(p.e-p.b)-p.b)/(p.e-p.b)=s by grind];exact all
theorem El.rows (D:El cs ds d M W){p:Pc}(hp:p∈En cs ds d){rs:kj Rw}{B:Nat}(h:mY p.N p.lns p.b p.e B rs):∀r∈rs,jg cs ds d B r:=by intro r g;have o:=D.pc p hp;have lo:=o.lo;have hi:=o.hi;obtain⟨b1,b2,i,j,m,k,l,e,a,f,n,s⟩:=h.ok r g;have c1:=V8 o.w0 o.w1 e n;have c2:=V8 o.w0 o.w1 e s;rw[<-o.lin r.b i (by grind),<-a,<-f] at c1;rw[<-o.lin r.e (by grind) m,<-a,<-f] at c2;refine⟨b1,b2,by grind,j,by grind,c1.1,λc hc z=>uY p hp c hc ⟨by grind,by grind⟩,c1.2,c2.2⟩
theorem Pi {B:Nat}{s:BX}{a:kj BX}{x:Rat}{P:Rat->Prop}(t:Told P B (s::a))(hx:s.2.2=some x):P ((s.1+x)/2):=by have os:=t.ok s (by simp);have b:=(os.e x hx).1;refine(t.sem _).mp ?_;rw[ABr,ADI];refine .inl ((GS os hx).mpr ⟨.inl (by grind),by grind⟩)
def ZC (P:Rat->Prop)(B:Nat)(m:Rat):Prop:=∃s a x,Told P B (s::a)/\Sep (s::a)/\s.2.2=some x/\m=(s.1+x)/2
theorem ZC.one {P:Rat->Prop}{B:Nat}{m a:Rat}(h:ZC P B m)(h':ZC P B a):m=a:=by
 obtain⟨s,g,x,t,z,hx,rfl⟩:=h;obtain⟨i,c,j,t',f,b,rfl⟩:=h';have e:=QH z f t.ok t'.ok t.fin t'.fin λk=>by rw[AB6,t.sem,t'.sem]
 cases e;rw[hx] at b;cases b;rfl
theorem Pt (D:El cs ds d M W){v w u:PV}(hv:BI cs v)(hw:BI ds w)(hu:ON d u)(S:3*M+3*W+6<=1990){Q:PV->Prop}(H:∀m,Bw cs ds d m->Bd (2*(3*M+3*W+6)+4) m->ZC (Bw cs ds d) (3*M+3*W+6) m->Q (.tup [.str "near",fr m]))(I:(∀m,¬Bw cs ds d m)->∀rs,di cs ds d (3*M+3*W+6) rs->Q (.tup [.str "clear", .tup (rs.map YZ)])):E6 [v,w,u] Q:=by
 have hM:=D.hM;have hW:=D.hW;have C:=Z6 D;apply We;ac_rfl;refine C8 D hv hw hu λss n=> ?_;have t:=n.told;have sp:=bE n.ok;generalize canon 1 ss=i at t sp;cases i with
 | nil=>
   have E:∀m,¬Bw cs ds d m:=λm z=>by have:=(t.sem m).mpr z;cases this
   ac_rfl;refine Ml D hv hw hu ?_;ac_rfl;refine PB (λr f=>∃c rs rows x,c++rs=En cs ds d/\r=rs.map jN/\f=rows.map YZ/\rows.length<=2*c.length/\(c≠ [] ->rows≠ [])/\(∀r∈rows,jg cs ds d (3*M+3*W+6) r)/\((c= [] ->rows= [])/\Ox c rows)/\(A4 cs ds<Ax cs ds->dX (A4 cs ds) x rows/\sT x (Ax cs ds) rs)) ?_ ?_ _ _ ⟨[],_, [],A4 cs ds,rfl,rfl,rfl,by simp,λz=>absurd rfl z,by simp,⟨by simp,rfl⟩,λh=>⟨rfl,gr h⟩⟩
   .rintro f ⟨c,rs,rows,x,e,a,rfl,h1,h2,j,⟨F,k⟩,l⟩;have:rs= [] :=by cases rs with | nil=>rfl|cons _ _=>cases a
    subst this;rw[ACQ] at e;subst e;ac_rfl;refine I E rows ⟨by omega,λh=> ?_,λh=> ?_,j,k⟩
    .have A:=l h;have hx:x=Ax cs ds:=A.2;subst hx;refine⟨λz=> ?_,A.1⟩;have G:=A.1;rw[z] at G;have:A4 cs ds=Ax cs ds:=G;grind
    .refine F ?_;unfold En;rw[AAH h]
   .rintro y r f R J ⟨c,rs,rows,x,e,a,rfl,h1,h2,j,⟨F,k⟩,l⟩;cases rs with
    | nil=>cases a
    | cons p rs=>
      cases a;have B:p∈En cs ds d:=by rw[<-e];simp
      have ul:c.length+1<=201:=by rw[<-e] at C;simp at C;omega
      have o:=D.pc p B;repeat' array_get_dec
      refine YY (gG o.w0 o.w1 (by omega)) o.lt o.bb o.be (by omega) hW (by rw[Tl];decide) (D.far E B) λK g=> ?_;have T:=g.few;repeat' array_get_dec
      refine XU _ _ (J _ ⟨c ++ [p],rs,rows++K,p.e,by simpa using e,rfl,by rw[ABV],by simp;omega,λ_ z=>g.ne (List.append_eq_nil_iff.mp z).2,λr a=> ?_,⟨λz=>by simp at z,k.snoc g.det⟩,λh=> ?_⟩)
      .rcases ABI.mp a with a|a
       .exact j r a
       .exact D.rows B g r a
      .obtain ⟨L,N,O⟩:=l h;refine⟨L.app ?_,O⟩;rw[<-N];exact g.chn
 | cons s i=> obtain⟨x,hx⟩:=t.fin s (by simp);have os:=t.ok s (by simp);have b1:=os.b;have b2:=(os.e x hx).2;have mn:=Pi t hx;have P:Bd 2 (((2:Int):Rat)):=⟨by decide,by decide⟩;rw[ABJ,Mn hx];ac_rfl;exact H _ mn (((b1.add b2).div (by decide) P).mono (by omega)) ⟨s,i,x,t,sp,hx,rfl⟩
theorem eY {p:T3}{k:Nat}(hk:k<3){R:PV->Prop}(h:R (fr (Fw p k))):Ao (.tup [fr p.1,fr p.2.1,fr p.2.2]) (.int (k:Nat)) R:=by
 match k,hk with
 | 0,_=>exact h
 | 1,_=>exact h
 | 2,_=>exact h
theorem lH {p q:T3}{k:Nat}(p1:0<d.1)(p2:0<d.2){s:Rat}:s*(Fw p k-Fw q k)<(if k=2 then d.2 else d.1)\/2<k↔s*Fw (Ej p q d) k<1\/2<k:=by
 have key:∀{x y:Rat},0<y->(s*x<y↔s*(x/y)<1):=λ{x y} hy=>by
  have e:s*(x/y)=s*x/y:=by grind
  rw[e,AC7 hy];grind
 match k with
 | 0=>have:=key (x:=p.1-q.1) p1;simp only[Fw,Ej];simpa using this
 | 1=>have:=key (x:=p.2.1-q.2.1) p1;simp only[Fw,Ej];simpa using this
 | 2=>have:=key (x:=p.2.2-q.2.2) p2;simp only[Fw,Ej];simpa using this
 | k+3=>simp
theorem fg (D:El cs ds d M W){v w u:PV}{B X:Nat}(hc:∀c∈cs,Dp B c)(f:∀c∈ds,Dp B c)(hv:BI cs v)(hw:BI ds w)(hu:ON d u){r:Rw}(o:r.sd<3)(A:Bd X r.b)(C:Bd X r.e)(lo:A4 cs ds<=r.b)(H:r.b<r.e)(hi:r.e<=Ax cs ds)(Y:2*(X+6*B+10)<=3980)(g:B<=X){Q:PV->Prop}(I:(∀m∈D8 cs ds r.b r.e,1<=(Nu r.up:Rat)*Fw (ofs cs ds d m) r.sd)->Q (.bl true))(J:(¬∀m∈D8 cs ds r.b r.e,1<=(Nu r.up:Rat)*Fw (ofs cs ds d m) r.sd)->Q (.bl false)):Ko [v,w,u,YZ r] Q:=by
 have E:=D.tog (show A4 cs ds<Ax cs ds by grind);have f1:=D.f1;have f2:=D.f2;have K:Bd 2 ((Nu r.up:Int):Rat):=by cases r.up <;> exact⟨by decide,by decide⟩
 unfold YZ;apply cn;ac_rfl;refine Wu hv hw f1 f2 (B:=X) (λc h=>(hc c h).mono g) (λc h=>(f c h).mono g) (by omega) A C ?_;ac_rfl;refine B6 fr (λF vs τ=>(∀m∈F,1<=(Nu r.up:Rat)*Fw (ofs cs ds d m) r.sd)/\∃i j,τ= [some (.val v),some (.val w),some (.val u),some (.val (.tup [fr r.b,fr r.e, .int (r.sd:Nat), .int (Nu r.up)])),i,some (.val (fr r.b)),some (.val (fr r.e)),some (.val (.int (r.sd:Nat))),some (.val (.int (Nu r.up))),j]) ?_ ?_ ⟨by simp,_,_,rfl⟩
 .rintro τ ⟨h,i,j,rfl⟩;ac_rfl;exact I h
 .rintro F m vs e τ R L ⟨h,i,j,rfl⟩;have l:m∈D8 cs ds r.b r.e:=by rw[<-e];simp
  obtain⟨Z,i2⟩:=Ek H l;have bm:Bd X m:=Lh (λc h=>((hc c h).mono g).m) (λc h=>((f c h).mono g).m) A C l;obtain⟨s,es⟩:=E.one m (by grind) (by grind);obtain⟨t,n⟩:=E.other m (by grind) (by grind);have N:=EN.spotC bm D.r1 hc s es;have O:=EN.spotC bm D.r2 f t n;have G:∀{p:T3},EN (X+6*B+10) p->Bd (X+6*B+10) (Fw p r.sd):=λh=>by unfold Fw;split;exact h.x;split;exact h.y;exact h.z
  have c1:=G N;have c2:=G O;have P:ofs cs ds d m=Ej s t d:=by unfold ofs;rw[es,n];rfl
  have a:(Nu r.up:Rat)*(Fw s r.sd-Fw t r.sd)<(if r.sd=2 then d.2 else d.1)↔(Nu r.up:Rat)*Fw (ofs cs ds d m) r.sd<1:=by
   have:=lH (p:=s) (q:=t) (k:=r.sd) D.p1 D.p2 (s:=(Nu r.up:Rat));rw[P];have S:¬2<r.sd:=by omega
   simpa[S] using this
  have T:=c1.sub c2;have c4:=K.mul T;have b1:=D.b1;have b2:=D.b2;ac_rfl;refine Ch hv hc D.r1 (by have:=D.t1;intro z;rw[z] at this;simp at this) (by omega) bm (by omega) ?_;rw[es];refine eY o ?_;ac_rfl;refine Ch hw f D.r2 (by have:=D.t2;intro z;rw[z] at this;simp at this) (by omega) bm (by omega) ?_;rw[n];refine eY o ?_;ac_rfl;refine aN (x:=d.1) (y:=d.2) (λh=> ?_) (λh=> ?_) ?_
  .rcases hu with rfl|rfl <;> exact h
  .rcases hu with rfl|rfl <;> exact h
  have U:(if ((r.sd:Nat):Int)=2 then d.2 else d.1)=if r.sd=2 then d.2 else d.1:=by
   by_cases h:r.sd=2
   .rw [AAJ h,AAJ (by omega)]
   .rw [AAH h,AAH (by omega)]
  have bs:Bd 100 (if r.sd=2 then d.2 else d.1):=by split <;> assumption
  rw[U];generalize (if r.sd=2 then d.2 else d.1)=sz at *;ac_rfl
  .rename_i k;refine J λz=> ?_;have:=z m l;have:=a.mp k;grind
  .rename_i k;refine L _ ⟨λx hx=> ?_,_,_,rfl⟩;rcases ABI.mp hx with hx|hx
   .exact h x hx
   .rcases ACU.mp hx with rfl;rw[<-ACK];exact λz=>k (a.mpr z)
theorem ck {B:Nat}{r:Rw}(g:jg cs ds d B r):∀m∈D8 cs ds r.b r.e,1<=(Nu r.up:Rat)*Fw (ofs cs ds d m) r.sd:=by
 intro m a;rcases DH.mp a with rfl|rfl|⟨h1,h2,c,hc,rfl⟩
 .exact g.at0
 .exact g.at1
 .exact absurd ⟨h1,h2⟩ (g.no c hc)
def wL (r:Rat)(v:PV):Prop:=v=fr r\/v= .lst [.int r.num, .int (r.den:Int)]
def rP (r:Rw)(v:PV):Prop:=∃x y,wL r.b x/\wL r.e y/\(v= .tup [x,y, .int (r.sd:Nat), .int (Nu r.up)] \/v= .lst [x,y, .int (r.sd:Nat), .int (Nu r.up)])
theorem rP.self (r:Rw):rP r (YZ r):=⟨_,_, .inl rfl, .inl rfl, .inl rfl⟩
theorem t9 {k:Nat}(h:k<3){Q:PV->Prop}(q:Q (.bl true)):fC false (.int (k:Nat)) (.tup [.int 0, .int 1, .int 2]) Q:=by
 match k,h with
 | 0,_=>exact⟨⟨rfl,rfl⟩,q⟩
 | 1,_=>exact⟨⟨rfl,rfl⟩,q⟩
 | 2,_=>exact⟨⟨rfl,rfl⟩,q⟩
theorem uA {u:da}{Q:PV->Prop}(q:Q (.bl true)):fC false (.int (Nu u)) (.tup [.int 1, .int (-1)]) Q:=by
 cases u
 .exact ⟨⟨rfl,rfl⟩,q⟩
 .exact ⟨⟨rfl,rfl⟩,q⟩
theorem b9 {r:Rw}{v:PV}(h:rP r v)(hs:r.sd<3){Q:PV->Prop}(q:Q (.bl true)):GI [v] Q:=by
 obtain⟨x,y,hx,hy,hv⟩:=h;apply Yb;rcases hv with rfl|rfl;all_goals
  ac_rfl;refine Z5 hx ?_;ac_rfl;refine Z5 hy ?_;ac_rfl;refine SQ ?_;ac_rfl;refine SQ ?_;ac_rfl;refine t9 hs ?_;ac_rfl;refine uA ?_;ac_rfl;exact q
theorem jB {r:Rat}{x:PV}(h:wL r x){Q:PV->Prop}(q:Q (fr r)):Co [x] Q:=by
 rcases h with rfl|rfl
 .exact q
 .exact q
theorem QJ (D:El cs ds d M W){v w u pv:PV}{B X:Nat}(hc:∀c∈cs,Dp B c)(t:∀c∈ds,Dp B c)(hv:BI cs v)(hw:BI ds w)(hu:ON d u){rs:kj Rw}(P:di cs ds d X rs)(y:2*(X+6*B+10)<=3980)(A:B<=X)(o:M<=X){f:Rw->PV}(p:∀r,rP r (f r))(hp:pv= .tup (rs.map f)\/pv= .lst (rs.map f)){Q:PV->Prop}(q:Q (.bl true)):B0 [v,w,u,pv] Q:=by
 have U:=D.endB.mono o;have C:=P.few;apply LW;rcases hp with rfl|rfl;all_goals
  ac_rfl;refine aU D hv hw (λh=> ?_) (λh=> ?_)
  .ac_rfl;refine B6 f (λE vs τ=>∃x i j k,Bd X x/\dX x (Ax cs ds) vs/\τ= [some (.val v),some (.val w),some (.val u),some (.val _),some (.val (.tup [fr (A4 cs ds),fr (Ax cs ds)])),i,some (.val (fr x)),some (.val (fr (Ax cs ds))),j,k]) ?_ ?_ ⟨A4 cs ds,_,_,_,D.begB.mono o,(P.some_ h).2,rfl⟩
   .rintro τ ⟨x,i,j,k,F,hx,rfl⟩;have hx:x=Ax cs ds:=hx;subst hx;ac_rfl;rw[ABQ rfl];exact q
   .rintro E r vs e τ R G ⟨x,i,j,k,F,hx,rfl⟩;have g:=P.ok r (by rw[<-e];simp);have H:=g.bb;have s:=g.be;obtain⟨l,m⟩:=hx;have l:r.b=x:=l;obtain⟨I,y1,J,K,a⟩:=p r;have n:∀{Q:PV->Prop},Q (.bl true)->GI [f r] Q:=λq=>b9 (p r) g.sd q;have L:∀{R:PV->Prop},R I->Ao (f r) (.int 0) R:=λh=>by rcases a with z|z <;> rw[z] <;> exact h
    have N:∀{R:PV->Prop},R y1->Ao (f r) (.int 1) R:=λh=>by rcases a with z|z <;> rw[z] <;> exact h
    have O:∀{R:PV->Prop},R (.int (r.sd:Nat))->Ao (f r) (.int 2) R:=λh=>by rcases a with z|z <;> rw[z] <;> exact h
    have S:∀{R:PV->Prop},R (.int (Nu r.up))->Ao (f r) (.int 3) R:=λh=>by rcases a with z|z <;> rw[z] <;> exact h
    ac_rfl;refine n ?_;ac_rfl;refine L ?_;ac_rfl;refine jB J ?_;ac_rfl;refine N ?_;ac_rfl;refine jB K ?_;subst l;ac_rfl
    .exact absurd g.lt ‹_›
    .have:=g.hi;rename_i Y Z;exfalso;grind
    .refine O ?_;ac_rfl;refine S ?_;ac_rfl;refine fg D (r:=r) hc t hv hw hu g.sd H s g.lo g.lt g.hi y A (λ_=> ?_) (λz=>absurd (ck g) z);ac_rfl;exact G _ ⟨r.e,_,_,_,s,m,rfl⟩
  .have T:=P.none_ h;subst T;ac_rfl;exact q
end
structure JF (cs:List C4):Prop where
 ok:Ge 12 22 cs
 mu:∀c∈cs,Mul 6 2000 c.1
def uN {N:Nat}:Mul 6 N (0:Rat):=⟨by decide,0,by simp,by simp⟩
def X1 {cs:kj C4}{t:Rat}{o:T3}(h:∀c∈cs,Mul 6 600 c.1)(a:Mul 6 1400 t):∀c∈cs.map (kr t o),Mul 6 2000 c.1:=λc hc=>by obtain⟨b,hb,rfl⟩:=ABG.mp hc;exact(h b hb).add a
instance (priority:=high) wC {Q:PV->Prop}:N2 (CV [.tape] Q) True (∀a,Bd 8 a->0<a->Mul 6 48 a->Q (fr a)):=⟨λ_ h=>HB h⟩
def EO {cs:kj C4}{w:Int}{o:T3}{U W z6 z7 z8:kc AV}{X Y Z:BD->Prop}(h:Oy 12 6 600 cs)(E:EN 11 o){Q:PV->Prop}(q:∀ds,JF ds->Q (Aq ds)):GC {nx:=X,rt:=Q,bk:=Y,ct:=Z} [some (.val .tape),some (.val (Aq cs)),U,some (.val (.int w)),some (.own [fr o.1,fr o.2.1,fr o.2.2]),W,z6,z7,z8] :=by
 have few:=h.few;have two:=h.two;have b:Ge 12 10 cs:=h.ok (by decide) (by decide);obtain⟨a,r,l,s,h0,el,al⟩:=b.open;have I:cs.getLast?=some l:=by rw[s];exact el
 have F:l∈cs:=ACB I;have bl:=(b.bd l F).m;have f:=jJ.mono (n:=11) (by decide);have A:∀{ds:kj C4},Oy 12 6 600 ds->JF ds:=λp=>⟨⟨p.two,p.few,λc hc=>(p.mu c hc).bd (by decide) (by decide),p.ris⟩,λc hc=>(p.mu c hc).m.mono (by decide)⟩;have i:∀c∈cs,Mul 6 600 c.1:=λc hc=>(h.mu c hc).m;ac_rfl
 .exact Jn rfl (by omega) b.bd f E (by decide) (by decide) (q _ ⟨X2 b f E,X1 i uN⟩)
 .rename_i sp bs ps J k K L;refine F0 (xs:= [sp,0]) K L λt S=> ?_;have bt:Bd 11 t/\Mul 6 1400 t:=by
   simp only[AAK,ABR,ABS] at S;rcases S with rfl|rfl
   .exact ⟨bs.mono (by decide),J.mono (by decide)⟩
   .exact ⟨f,uN⟩
  obtain⟨bt,mt⟩:=bt;ac_rfl;exact Jn rfl (by omega) b.bd bt E (by decide) (by decide) (q _ ⟨X2 b bt E,X1 i mt⟩)
 .show (cs.map cor).length=(cs.map cor).length/\_;refine⟨rfl, ?_⟩;rw[<-List.map_reverse,mV];refine⟨uI (n:=12) (by simp;omega) (by decide), ?_⟩;refine Dx (λp:C4×C4=> .tup [cor p.1,cor p.2]) cor (λp=>(p.1.1,p.2.2)) (λ_=>True) (λp _ R hR=> ?_) _ [] (by simp) ?_
  .ac_rfl;exact hR
  rw[ACE];ac_rfl;refine q _ ⟨⟨by simp;omega,by simp;omega,λc hc=> ?_, ?_⟩,λc hc=> ?_⟩;rotate_left 2
  .obtain ⟨⟨u,v⟩,hu,rfl⟩:=ABG.mp hc;exact(i u (AC3 hu).1).mono (by decide)
  .obtain ⟨⟨u,v⟩,hu,rfl⟩:=ABG.mp hc;have h1:=b.bd u (AC3 hu).1;have h2:=b.bd v (List.mem_reverse.mp (AC3 hu).2);exact⟨h1.m.mono (by decide),h2.x.mono (by decide),h2.y.mono (by decide),h2.z.mono (by decide)⟩
  .refine aG h.ris ?_;rw[ACa];have e:((λx:C4=>x.1) ∘ λp:C4×C4=>((p.1.1,p.2.2):C4))=(λx:C4=>x.1) ∘ Prod.fst:=rfl;rw[e,<-ACa,List.map_fst_zip (by simp)]
 .refine Mm λds pd=> ?_;have g:Ge 12 10 ds:=pd.ok (by decide) (by decide);obtain⟨G,r2,l2,B,TX,el2,al2⟩:=g.open;have T:=pd.few;have ba2:=(g.bd G (by rw[B];simp)).m;subst B;have bt:Bd 11 (l.1-G.1):=(Mul.subQ (h.mu l F).m (pd.mu G (by simp)).m).bd (by decide) (by decide);ac_rfl;exact Jn (o:=(0,0,0)) rfl (by omega) g.bd bt ⟨f,f,f⟩ (by decide) (by decide) (q _ ⟨X2 g bt ⟨f,f,f⟩,X1 (λc hc=>(pd.mu c hc).m) ((Mul.subQ (h.mu l F).m (pd.mu G (by simp)).m).mono (by decide))⟩)
 .rename_i k K L x bx y M z bz c N H;have j:=b.bd c H;have hk:k.toNat<cs.length:=by omega
  have O:cs[k.toNat] =c:=by rw[ABf hk] at N;exact ABW N
  rw[show (k+1).toNat=k.toNat+1 by omega];refine q _ ⟨⟨by simp;omega,by simp;omega,λd hd=> ?_, ?_⟩,λd hd=> ?_⟩;rotate_left 2
  .rcases ABI.mp hd with hd|hd
   .rcases ABI.mp hd with hd|hd
    .exact (i d (List.mem_of_mem_take hd)).mono (by decide)
    .simp at hd;subst hd;exact(i c H).mono (by decide)
   .exact (i d (List.mem_of_mem_drop hd)).mono (by decide)
  .rcases ABI.mp hd with hd|hd
   .rcases ABI.mp hd with hd|hd
    .exact (b.bd d (List.mem_of_mem_take hd)).mono (by decide)
    .simp at hd;subst hd;exact⟨j.m.mono (by decide),bx.mono (by decide),M.mono (by decide),bz.mono (by decide)⟩
   .exact (b.bd d (List.mem_of_mem_drop hd)).mono (by decide)
  .refine aG h.ris ?_;have e:cs=cs.take k.toNat ++ [c] ++ cs.drop (k.toNat+1):=by rw[ADo,List.singleton_append,<-O,<-ADV hk,List.take_append_drop]
   conv=>rhs;rw[e]
   simp only[ABV,ABJ,ADd]
 .rename_i k K L c N H c0 C D sp bs ps J;have j:=b.bd c H;have P:=b.bd c0 D;have e0:c0=a:=by rw[s] at C;exact(ABW C).symm
  refine q [(c0.1,c.2.1,c.2.2.1,c.2.2.2),(l.1+sp,c.2.1,c.2.2.1,c.2.2.2)] ⟨⟨by simp,by simp,λd hd=> ?_, ?_⟩,λd hd=> ?_⟩;rotate_left 2
  .simp only[AAK,ABR,ABS] at hd;rcases hd with rfl|rfl
   .exact (i c0 D).mono (by decide)
   .exact ((i l F).add J).mono (by decide)
  .simp only[AAK,ABR,ABS] at hd;rcases hd with rfl|rfl
   .exact ⟨P.m.mono (by decide),j.x.mono (by decide),j.y.mono (by decide),j.z.mono (by decide)⟩
   .exact ⟨(bl.add bs).mono (by decide),j.x.mono (by decide),j.y.mono (by decide),j.z.mono (by decide)⟩
  .refine ABE.mpr ⟨λd hd=> ?_,AFP _ _⟩;simp at hd;subst hd;show c0.1<l.1+sp;rw[e0];grind
 .exact Mm λds pd=>q ds (A pd)
def XR {cs:kj C4}{d:Rat×Rat}(p:Oy 12 6 600 cs)(b1:Bd 3 d.1)(b2:Bd 3 d.2){Q:PV->Prop}(q:∀ds,JF ds->Q (Aq ds)):DO [.tape,Aq cs, .tup [fr d.1,fr d.2]] Q:=by
 have e:=p.few;have two:=p.two;apply Nn;ac_rfl;rename_i w l m r n r1;have g:r=0\/r=1\/r=2:=by omega
 have a:Bd 11 (0:Rat):=jJ.mono (by decide);have b:∀{k:Int} {R:PV->Prop},0<=k->k<3->(∀f:Rat,Bd 2 f->R (fr f))->Ao (.lst [fr (1/2),fr ((-1:Int):Rat), .tup [.int (-1), .int 3]]) (.int k) R:=λi j h=>by rw[vM];refine F0 (xs:= [(1/2:Rat),((-1:Int):Rat), -1/3]) i j λx hx=>h x ?_;simp only[AAK,ABR,ABS] at hx;rcases hx with rfl|rfl|rfl <;> exact sm2
 rcases g with rfl|rfl|rfl
 .ac_rfl;rw[show (if decide ((0:Int)=2)=true then (1:Int) else 0)=0 from rfl];ac_rfl;simp only[m9,lN,ADs,ADX];repeat' (first | exact EO (o:=(d.1,0,0)) p ⟨b1.mono (by decide),a,a⟩ q|array_mem_dec)
  refine b (by omega) (by omega) λf c=> ?_;ac_rfl;simp only[m9,lN,ADs,ADX];repeat' (first | exact EO (o:=(d.1*f,0,0)) p ⟨(b1.mul c).mono (by decide),a,a⟩ q|array_mem_dec)
 .ac_rfl;rw[show (if decide ((1:Int)=2)=true then (1:Int) else 0)=0 from rfl];ac_rfl;simp only[nA,lN,ADs,ADX];repeat' (first | exact EO (o:=(0,d.1,0)) p ⟨a,b1.mono (by decide),a⟩ q|array_mem_dec)
  refine b (by omega) (by omega) λf c=> ?_;ac_rfl;simp only[nA,lN,ADs,ADX];repeat' (first | exact EO (o:=(0,d.1*f,0)) p ⟨a,(b1.mul c).mono (by decide),a⟩ q|array_mem_dec)
 .ac_rfl;rw[show (if decide ((2:Int)=2)=true then (1:Int) else 0)=1 from rfl];ac_rfl;simp only[nB,lN,ADs,ADX];repeat' (first | exact EO (o:=(0,0,d.2)) p ⟨a,a,b2.mono (by decide)⟩ q|array_mem_dec)
  refine b (by omega) (by omega) λf c=> ?_;ac_rfl;simp only[nB,lN,ADs,ADX];repeat' (first | exact EO (o:=(0,0,d.2*f)) p ⟨a,a,(b2.mul c).mono (by decide)⟩ q|array_mem_dec)
def eU {e:kj Int}{k:Nat}(hk:k<=1000){Q:PV->Prop}(q:∀cs ds (d:Rat×Rat),JF cs->JF ds->Bd 3 d.1->Bd 3 d.2->1/3<=d.1->1/3<=d.2->Q (.tup [.tape,Aq cs,Aq ds, .tup [fr d.1,fr d.2]])):Ec [.scr e, .int k] Q:=by
 apply RF;ac_rfl;refine ax λd b1 b2 p1 p2=> ?_;ac_rfl;refine Mm λcs b=> ?_;ac_rfl;refine XR b b1 b2 λds pd=> ?_;have a:JF cs:=⟨⟨b.two,b.few,λc hc=>(b.mu c hc).bd (by decide) (by decide),b.ris⟩,λc hc=>(b.mu c hc).m.mono (by decide)⟩;ac_rfl
 .exact q ds cs d pd a b1 b2 p1 p2
 .exact q cs ds d a pd b1 b2 p1 p2
def Mul.up {D N:Nat}{a:Rat}(h:Mul D N a):Mul (12*D) (30*N) a:=by obtain⟨b,k,rfl,hk⟩:=h;refine⟨by omega,12*k, ?_,by omega⟩;rw[show ((12*D:Nat):Int)=12*(D:Int) by push_cast;rfl,Rat.divInt_mul_left (by decide)]
structure MB (A B:Nat) (cs:List C4):Prop where
 m:∀c∈cs,Bd A c.1
 x:∀c∈cs,Dp B c
def fj {A B M:Nat}{a b:C4}{t:Rat}(ha:Bd A a.1)(hb:Bd A b.1)(c:Dp B a)(d:Dp B b)(bt:Bd M t)(h:a.1<b.1):EN (M+3*A+3*B+4) (inter a b t):=by
 have n:b.1-a.1≠0:=by grind
 have s:=(bt.sub ha).div n (hb.sub ha);exact⟨(c.x.add (s.mul (d.x.sub c.x))).mono (by omega),(c.y.add (s.mul (d.y.sub c.y))).mono (by omega),(c.z.add (s.mul (d.z.sub c.z))).mono (by omega)⟩
theorem SC {A B M:Nat}{t:Rat}(bt:Bd M t):∀{a:C4} {r:kj C4},Et (a::r)->MB A B (a::r)->∀p,spotG a r t=some p->EN (M+3*A+3*B+4) p
 | a, [],_,_,p,e=>by cases e
 | a,b::r,h,mb,p,e=>by
   simp only[spotG] at e;have d:=(ABE.mp h).1 b (by simp);split at e
   .exact SC bt (ABE.mp h).2 ⟨λc hc=>mb.m c (by simp[hc]),λc hc=>mb.x c (by simp[hc])⟩ p e
   .cases e;exact fj (mb.m a (by simp)) (mb.m b (by simp)) (mb.x a (by simp)) (mb.x b (by simp)) bt d
def IM {A B M:Nat}{cs:kj C4}{t:Rat}{p:T3}(bt:Bd M t)(b:Et cs)(c:MB A B cs)(e:spotC cs t=some p):EN (M+3*A+3*B+4) p:=by
 cases cs with
 | nil=>cases e
 | cons a r=>
   simp only[spotC] at e;split at e
   .cases e
   .exact SC bt b c p e
def fA {cs ds:kj C4}{d:Rat×Rat}{n M S D:Nat}(hn:n<=100)(t1:2<=cs.length)(t2:2<=ds.length)(f1:cs.length<=n)(f2:ds.length<=n)(r1:Et cs)(r2:Et ds)(c1:∀c∈cs,Dp 150 c)(c2:∀c∈ds,Dp 150 c)(m1:∀c∈cs,Bd M c.1)(m2:∀c∈ds,Bd M c.1)(b1:Bd D d.1)(b2:Bd D d.2)(G:0<d.1)(H:0<d.2)(B:D<=100)(hM:M<=150)(I:∀m,A4 cs ds<=m->m<=Ax cs ds->Bd M m->∀p,spotC cs m=some p->EN S p)(J:∀m,A4 cs ds<=m->m<=Ax cs ds->Bd M m->∀p,spotC ds m=some p->EN S p)(hW:2*S+1+D<=1050):El cs ds d M (2*S+1+D) where
 c1:=c1
 c2:=c2
 r1:=r1
 r2:=r2
 t1:=t1
 t2:=t2
 f1:=by omega
 f2:=by omega
 m1:=m1
 m2:=m2
 b1:=b1.mono B
 b2:=b2.mono B
 p1:=G
 p2:=H
 w:=λh m C=>by
  have K:Bd M (A4 cs ds):=by obtain⟨a,r,l,rfl,j,e⟩:=open2 t1;obtain⟨k,f,o,rfl,u,b⟩:=open2 t2;exact(m1 a (by simp)).mx (m2 k (by simp))
  have L:Bd M (Ax cs ds):=by obtain⟨a,r,l,rfl,j,e⟩:=open2 t1;obtain⟨k,f,o,rfl,u,b⟩:=open2 t2;unfold Ax;rw[Bn e,Bn b];exact(m1 l (ACB e)).mn (m2 o (ACB b))
  have E:vd cs ds (A4 cs ds) (Ax cs ds):=by obtain⟨a,r,l,rfl,j,e⟩:=open2 t1;obtain⟨k,f,o,rfl,u,b⟩:=open2 t2;unfold A4 Ax at h ⊢;rw[Bn e,Bn b] at h ⊢;exact i9 j u e b h
  obtain⟨g,i⟩:=Ek h C;have bm:Bd M m:=Lh m1 m2 K L C;obtain⟨s,es⟩:=E.one m g i;obtain⟨t,F⟩:=E.other m g i;have v:=I m g i bm s es;have A:=J m g i bm t F;have p1:d.1≠0:=by grind
  have p2:d.2≠0:=by grind
  unfold ofs;rw[es,F];exact⟨(((v.x.sub A.x).div p1 b1)).mono (by omega),(((v.y.sub A.y).div p1 b1)).mono (by omega),(((v.z.sub A.z).div p2 b2)).mono (by omega)⟩
 hM:=hM
 hW:=hW
structure EA (cs:List C4):Prop where
 ok:Ge 12 28 cs
 mm:∀c∈cs,Bd 11 c.1
def JF.y {cs:kj C4}(p:JF cs):EA cs:=⟨⟨p.ok.two,p.ok.few,λc hc=>(p.ok.bd c hc).mono (by decide),p.ok.ris⟩,λc hc=>(p.mu c hc).bd (by decide) (by decide)⟩
def EA.mb {cs:kj C4}(p:EA cs):MB 11 28 cs:=⟨p.mm,p.ok.bd⟩
def sn {cs ds:kj C4}{d:Rat×Rat}(p:EA cs)(p2:EA ds)(b1:Bd 3 d.1)(b2:Bd 3 d.2)(a:0<d.1)(b:0<d.2):El cs ds d 11 268:=
 fA (n:=12) (S:=132) (D:=3) (by decide) p.ok.two p2.ok.two p.ok.few p2.ok.few p.ok.ris p2.ok.ris (λc hc=>(p.ok.bd c hc).mono (by decide)) (λc hc=>(p2.ok.bd c hc).mono (by decide)) p.mm p2.mm b1 b2 a b (by decide) (by decide) (λm _ _ bm q e=>(IM bm p.ok.ris p.mb e)) (λm _ _ bm q e=>(IM bm p2.ok.ris p2.mb e)) (by decide)
def O5 {a b:Rat}{Q:PV->Prop}(ha:Bd 8800 a)(hb:Bd 8800 b)(h:Q (.bl (decide (a<b)))):Aj [fr a,fr b] Q:=by refine⟨.of ha.top hb.botI, .of hb.top ha.botI, ?_⟩;rw[<-nF] at h;exact h
def gh {a b:Rat}{Q:PV->Prop}(c:b≠0)(ha:Bd 8000 a)(hb:Bd 100 b)(h:Q (fr (a/b))):Gb [fr a,fr b] Q:=by refine⟨.of ha.top hb.botI, .of ha.botI hb.top,rfl,EJ _ _ (D0 (Bh a) (X6 c)) (Ae (BU (a:=(a.den:Int)) ha.botI hb.top) (by omega)) _ ?_⟩;rw[Jj] at h;exact h
def Vl {a b:Rat}{Q:PV->Prop}(ha:Bd 8800 a)(hb:Bd 8800 b)(h:Q (fr (mx a b))):BR [fr a,fr b] Q:=by
 refine⟨rfl,O5 ha hb ?_⟩;refine Fz (b:=decide (a<b)) (λz=> ?_) (λz=> ?_)
 .unfold mx at h;rw[AAJ (ABx z)] at h;exact h
 .unfold mx at h;rw[AAH (ACb z)] at h;exact h
instance (priority:=high) rB {a b:Rat}{Q:PV->Prop}:N2 (Aj [fr a,fr b] Q) (Bd 8800 a/\Bd 8800 b) (Q (.bl (decide (a<b)))):=⟨λc h=>O5 c.1 c.2 h⟩
instance (priority:=high) vR {a b:Rat}{Q:PV->Prop}:N2 (Gb [fr a,fr b] Q) (b≠0/\Bd 8000 a/\Bd 100 b) (Q (fr (a/b))):=⟨λc h=>gh c.1 c.2.1 c.2.2 h⟩
instance (priority:=high) ni {a b:Rat}{Q:PV->Prop}:N2 (BR [fr a,fr b] Q) (Bd 8800 a/\Bd 8800 b) (Q (fr (mx a b))):=⟨λc h=>Vl c.1 c.2 h⟩
def gR {B M:Nat}(o:M+6*B+10<=3900){cs ds:kj C4}{v w u:PV}{d:Rat×Rat}{m:Rat}{p a:T3}(hv:BI cs v)(hw:BI ds w)(hu:ON d u)(hc:∀c∈cs,Dp B c)(b:∀c∈ds,Dp B c)(e:Et cs)(f:Et ds)(i:cs≠ [])(j:ds≠ [])(hl:cs.length<=100)(r:ds.length<=100)(bm:Bd M m)(b1:Bd 100 d.1)(b2:Bd 100 d.2)(p1:d.1≠0)(p2:d.2≠0)(g:spotC cs m=some p)(h:spotC ds m=some a){Q:PV->Prop}(q:Q (.lst [fr (Ej p a d).1,fr (Ej p a d).2.1,fr (Ej p a d).2.2])):EI [v,w,u,fr m] Q:=by
 have t1:=EN.spotC bm e hc p g;have t2:=EN.spotC bm f b a h;have k:=t1.x;have l:=t1.y;have n:=t1.z;have y1:=t2.x;have y2:=t2.y;have y3:=t2.z;have s:=k.sub y1;have t:=l.sub y2;have A:=n.sub y3;apply NP;ac_rfl;refine Ch hv hc e i (by omega) bm (by omega) ?_;rw[g,show SH (some p)= .tup [fr p.1,fr p.2.1,fr p.2.2] from rfl];ac_rfl;refine Ch hw b f j (by omega) bm (by omega) ?_;rw[h,show SH (some a)= .tup [fr a.1,fr a.2.1,fr a.2.2] from rfl];ac_rfl;rw[show rng 0 (Int.toNat 3)= [.int 0, .int 1, .int 2] from rfl];repeat' array_get_dec
 refine GO hu ?_;rw[AAH (by decide)];repeat' array_get_dec
 refine GO hu ?_;rw[AAH (by decide)];repeat' array_get_dec
 refine GO hu ?_;rw[AAJ (by decide)];repeat' array_get_dec
 exact q
def j9 {B M:Nat}(L:M+6*B+10<=3900)(S:B<=160){a l b i:C4}{r r2:kj C4}{v w u:PV}{d:Rat×Rat}{m:Rat}(hv:BI (a::r) v)(hw:BI (b::r2) w)(hu:ON d u)(hc:∀c∈a::r,Dp B c)(t:∀c∈b::r2,Dp B c)(E:Et (a::r))(F:Et (b::r2))(G:r≠ [])(N:r2≠ [])(hl:(a::r).length<=100)(O:(b::r2).length<=100)(A:(a::r).getLast?=some l)(e:(b::r2).getLast?=some i)(bm:Bd M m)(b1:Bd 100 d.1)(b2:Bd 100 d.2)(p1:d.1≠0)(p2:d.2≠0){Q:PV->Prop}(q:Q (fK (fH a l b i (a::r) (b::r2) d m))):Ef [v,w,u,fr m] Q:=by
 have H:=(hc a (by simp)).m;have I:=(hc l (ACB A)).m;have p:=(t b (by simp)).m;have s:=(t i (ACB e)).m;have C:¬D7 a l b i m->Q .non:=λh=>by unfold fH at q;rw[AAH h] at q;exact q
 have T:=(H.mono (n:=160) (by omega)).mx (p.mono (by omega));have U:=(I.mono (n:=160) (by omega)).mn (s.mono (by omega));apply Ya;ac_rfl;refine NT hv hw A e (H.mono (by omega)) (I.mono (by omega)) (p.mono (by omega)) (s.mono (by omega)) (λhs=> ?_) (λhs=> ?_);rotate_left
 .ac_rfl;refine C λh=>hs ?_;unfold D7 at h;unfold mx mn;split <;> split <;> grind
 ac_rfl
 .rename_i h;refine C λz=> ?_;unfold D7 at z;unfold mx at h;split at h <;> grind
 .rename_i G h;refine C λz=>h ?_;unfold D7 at z;unfold mn;split <;> grind
 rename_i h1 h2;have D:D7 a l b i m:=by unfold D7;unfold mx at h1;unfold mn at h2;split at h1 <;> split at h2 <;> grind
 have J:a.1<=m/\m<=l.1:=by unfold D7 at D;exact⟨by grind,by grind⟩
 have K:b.1<=m/\m<=i.1:=by unfold D7 at D;exact⟨by grind,by grind⟩
 obtain⟨j,f⟩:=Df G A J.1 J.2;obtain⟨k,g⟩:=Df N e K.1 K.2;have t1:=EN.spotC bm E hc j f;have t2:=EN.spotC bm F t k g;unfold fH at q;rw[AAJ D,f,g] at q;have q:Q (fr (Dn (Ej j k d))):=q;have P:Bd 7910 (absR (Ej j k d).1):=(((t1.x.sub t2.x).div p1 b1).absR).mono (by omega);have R:Bd 7910 (absR (Ej j k d).2.1):=(((t1.y.sub t2.y).div p1 b1).absR).mono (by omega);have W:Bd 7910 (absR (Ej j k d).2.2):=(((t1.z.sub t2.z).div p2 b2).absR).mono (by omega);have m0:Bd 7910 (0:Rat):=jJ.mono (by decide);have m1:=m0.mx P;have m2:=m1.mx R;refine gR L hv hw hu hc t E F (by simp) (by simp) hl O bm b1 b2 p1 p2 f g ?_;unfold Dn at q;generalize Ej j k d=o at *;repeat' array_get_dec
 rw[XM];repeat' array_get_dec
 rw[XM];repeat' array_get_dec
 rw[XM];repeat' array_get_dec
 exact q
def j7 {a l b c:C4}{r r2:kj C4}{d:Rat×Rat}{m:Rat}(f:(a::r).getLast?=some l)(e:(b::r2).getLast?=some c):fH a l b c (a::r) (b::r2) d m=if A4 (a::r) (b::r2)<=m/\m<Ax (a::r) (b::r2) then some (Dn (ofs (a::r) (b::r2) d m)) else none:=by
 unfold fH;have:D7 a l b c m↔A4 (a::r) (b::r2)<=m/\m<Ax (a::r) (b::r2):=by unfold D7 A4 Ax;rw[Bn f,Bn e,IW,IW];unfold mx mn;split <;> split <;> grind
 by_cases h:D7 a l b c m
 .rw [AAJ h,AAJ (this.mp h)];rfl
 .rw [AAH h,AAH (λz=>h (this.mpr z))]
def fJ (cs ds:kj C4)(d:Rat×Rat)(m:Rat):kc Rat:=if A4 cs ds<=m/\m<Ax cs ds then some (Dn (ofs cs ds d m)) else none
def MP {cs ds:kj C4}{d:Rat×Rat}{M W B X:Nat}(D:El cs ds d M W){v w u:PV}{m:Rat}(hc:∀c∈cs,Dp B c)(g:∀c∈ds,Dp B c)(hv:BI cs v)(hw:BI ds w)(hu:ON d u)(bm:Bd X m)(h:X+6*B+10<=3900)(i:B<=160){Q:PV->Prop}(q:Q (fK (fJ cs ds d m))):Ef [v,w,u,fr m] Q:=by
 have f1:=D.f1;have f2:=D.f2;have r1:=D.r1;have e:=D.r2;have b1:=D.b1;have b2:=D.b2;have p1:d.1≠0:=by have:=D.p1;grind
 have p2:d.2≠0:=by have:=D.p2;grind
 obtain⟨a,r,l,rfl,j,f⟩:=open2 D.t1;obtain⟨n,r2,o,rfl,k,b⟩:=open2 D.t2;refine j9 h i hv hw hu hc g r1 e j k f1 f2 f b bm b1 b2 p1 p2 ?_;rw[j7 f b];exact q
abbrev KY:AS:=
 (AY (Am (FX (C1 (HM (aV 1)) 2 [4,5] (HD 2 (AZ (An 0) (AZ (An 1) BY))) FH (AX BL (AX Dc (aV 0) (AX Ex (aV 3) (aV 2))) (AX Dc (aV 1) (aV 2))))) (An 3))
   (Ak (Ay (AB (FZ Zc (AB (aV 3) AM)) (AB (AX Dc (aV 0) (aV 5)) AM)))))
abbrev HX:AS:=
 (AY (Am (aV 2) (HD 2 (AZ (An 4) (AZ (An 5) BY))))
   KY)
def CK:AF:=Ap 6 HX
def Mp {a b c:PV}{Q:PV->Prop}(h:HX ⟨λ_=>Q .non,Q,λ_=>False,λ_=>False⟩ [some (.val a),some (.val b),some (.val c),none,none,none]):CK [a,b,c] Q:=h
def gK {b:kj Int}{Q:PV->Prop}(c:b≠ [])(h:∀M,M∈b->(∀a∈b,a<=M)->Q (.int M)):Zc [.lst (b.map PV.int)] Q:=by show (match Hs (b.map PV.int) with | some b=>b≠ [] /\∀M,M∈b->(∀a∈b,a<=M)->Q (.int M)|none=>False);rw[ints_map];exact⟨c,h⟩
def dO (N:Nat)(lns:kj (Int×Int)):kj (Rat×Rat):=lns.map λl=>((l.1:Rat)/N,(l.2:Rat)/N)
structure rM (N K:Nat) (lns:List (Int×Int)):Prop where
 n0:0<N
 n:N<2^K
 a:∀l∈lns,l.1.natAbs<2^K/\l.2.natAbs<2^K
 ne:lns≠ []
 k:K<=4300
 len:lns.length<=100
structure jh (K:Nat) (p:Int×Int):Prop where
 pos:0<p.2
 t:p.1.natAbs<2^(K+3)
 n:p.2.natAbs<2^(K+3)
def tS (p:Int×Int)(l:Int×Int):Int:=l.1*(p.2-p.1)+l.2*p.1
def fW {N:Nat}{p l:Int×Int}(a:0<N)(hp:0<p.2):sv (tS p l,(N:Int)*p.2)=fL ((l.1:Rat)/N,(l.2:Rat)/N) (sv p):=by
 have h1:=MJ hp;have h2:=Ow a;unfold sv tS fL;simp only[AFS,ADZ,ADb,Dw];have:(N:Rat)*(p.2:Rat)≠0:=by have:=AEO h2 h1;grind
 grind
def Rm {N K:Nat}{lns:kj (Int×Int)}{p:Int×Int}(h:rM N K lns)(hp:jh K p){Q:PV->Prop}(q:∀x:Int,Hh (dO N lns) (sv p) (sv (x,(N:Int)*p.2))->x.natAbs<2^(2*K+6)->Q (C2 (x,(N:Int)*p.2))):CK [.int N, .lst (lns.map C2),C2 p] Q:=by
 have hk:=h.k;apply Mp;ac_rfl;refine⟨by have:=h.len;omega,Dx C2 PV.int (tS p) (λl=>l.1.natAbs<2^K/\l.2.natAbs<2^K) ?_ lns [] h.a ?_⟩
 .rintro l ⟨b,c⟩ R r;have d:=NS (Ae hp.n (ABH _)) hp.t;ac_rfl;refine⟨MulOk.of b d (by omega) (by omega), ?_⟩;refine⟨MulOk.of c hp.t (by omega) (by omega), ?_⟩;exact r
 .rw [ACE];ac_rfl;refine gK (by simpa using h.ne) λx hx g=> ?_;obtain⟨l,hl,rfl⟩:=ABG.mp hx;have i:((N:Int)).natAbs<2^K:=by simpa using h.n
  refine⟨MulOk.of i hp.n (by omega) (by omega), ?_⟩;ac_rfl;refine q _ ⟨⟨_,ABG.mpr ⟨l,hl,rfl⟩,(fW h.n0 hp.pos).symm⟩,λu hu=> ?_⟩ ?_
  .obtain ⟨f,j,rfl⟩:=ABG.mp hu;have:=g _ (ABG.mpr ⟨f,j,rfl⟩);rw[<-fW h.n0 hp.pos];have e:(0:Int)<(N:Int)*p.2:=Int.mul_pos (by have:=h.n0;omega) hp.pos;rw[<-ACK,ip e e];intro z;have z:tS p l*((N:Int)*p.2)<tS p f*((N:Int)*p.2):=z;have:=Int.mul_le_mul_of_nonneg_right this (Int.le_of_lt e);omega
  .obtain ⟨b,c⟩:=h.a l hl;have m1:=BU b (NS hp.n hp.t);have m2:=BU c hp.t;have:=N3 (Ae m1 (show _<=2*K+5 by omega)) (Ae m2 (show _<=2*K+5 by omega));exact this
abbrev Ij:AS:=
 (AY (Du (HM (aV 0)) (HD 2 (AZ (An 2) (AZ (An 3) BY))) (Du (HM (aV 0)) (HD 2 (AZ (An 4) (AZ (An 5) BY))) (BE (Ff (Ah (AX ZW (aV 4) (aV 2))) (Ah (AX ZW (aV 3) (aV 5)))) (Dv 1 Ip (AB (Ay (AB (AX Ex (aV 2) (aV 4)) (AB (AX Ex (AX BL (AX Ex (aV 2) (aV 4)) (aV 5)) (aV 3)) AM))) AM)) Av)))
   (Ak (aV 1)))
abbrev GD:AS:=
 (AY (GN (Ci AM) 1)
   Ij)
def CL:AF:=Ap 6 GD
def Jv {a:PV}{Q:PV->Prop}(h:GD ⟨λ_=>Q .non,Q,λ_=>False,λ_=>False⟩ [some (.val a),none,none,none,none,none]):CL [a] Q:=h
def Ph (a b:Int×Int):Int×Int:=(a.1-b.1,a.1-b.1+b.2-a.2)
def FO (lns:kj (Int×Int))(a:Int×Int):kj (Int×Int):=(lns.filter λb=>decide (b.1<a.1/\a.2<b.2)).map (Ph a)
def Mb {vs:kj (Int×Int)}{a b:Int×Int}:FO (vs ++ [b]) a=FO vs a++(if b.1<a.1/\a.2<b.2 then [Ph a b] else []):=by
 unfold FO;rw[List.filter_append,ABV];by_cases h:b.1<a.1/\a.2<b.2
 .rw [AAJ h];simp[h]
 .rw [AAH h];rw[List.filter_cons_of_neg (by simpa using h)];simp
def Ru {vs:kj (Int×Int)}{a:Int×Int}:(FO vs a).length<=vs.length:=by unfold FO;rw[ABL];exact ACz ..
theorem PF {ws:kj (Int×Int)}:∀b:kj (Int×Int),(b.flatMap (FO ws)).length<=b.length*ws.length
 | [] =>by simp
 | a::b=>by rw[AEK,AB9,ABd,AFL];have:=PF (ws:=ws) b;have:=Ru (vs:=ws) (a:=a);omega
def Xy {lns:kj (Int×Int)}(hl:lns.length<=100){Q:PV->Prop}(q:Q (.lst ((lns.flatMap (FO lns)).map C2))):CL [.lst (lns.map C2)] Q:=by
 apply Jv;ac_rfl;refine B6 C2 (λd vs τ=>∃j k f g,τ= [some (.val (.lst (lns.map C2))),some (.own ((d.flatMap (FO lns)).map C2)),j,k,f,g]) ?_ ?_ ?_
 .rintro τ ⟨j,k,f,g,rfl⟩;ac_rfl;exact q
 .rintro d c vs o τ R h ⟨j,k,f,g,rfl⟩;have ul:d.length<=100:=by have:=congrArg List.length o;simp at this;omega
  have r:=PF (ws:=lns) d;have s:d.length*lns.length<=100*100:=AE0 ul hl;ac_rfl;refine B6 C2 (λb l τ=>∃f g,τ= [some (.val (.lst (lns.map C2))),some (.own ((d.flatMap (FO lns)++FO b c).map C2)),some (.val (.int c.1)),some (.val (.int c.2)),f,g]) ?_ ?_ ?_
  .rintro τ ⟨f,g,rfl⟩;refine h _ ?_;rw[List.flatMap_append,AEK,List.flatMap_nil,ACQ];exact⟨_,_,_,_,rfl⟩
  .rintro b c2 l m τ R h ⟨f,g,rfl⟩;have t:=Ru (vs:=b) (a:=c);have p:b.length<=100:=by have:=congrArg List.length m;simp at this;omega
   ac_rfl
   .rename_i i n;refine h _ ?_;rw[Mb,AAJ ⟨i,n⟩,<-ADo,ABV (l₂:= [Ph c c2])];exact⟨_,_,rfl⟩
   .rename_i i n;refine h _ ?_;rw[Mb,AAH (λz=>n z.2),ACQ];exact⟨_,_,rfl⟩
   .rename_i i;refine h _ ?_;rw[Mb,AAH (λz=>i z.1),ACQ];exact⟨_,_,rfl⟩
  .have e:d.flatMap (FO lns)++FO [] c=d.flatMap (FO lns):=ACQ _;rw[e];exact⟨_,_,rfl⟩
 .exact ⟨_,_,_,_,rfl⟩
abbrev QZ:AS:=
 (AY (Am (aV 3) (An 1))
   (Am (aV 8) (An 2)))
abbrev Qa:AS:=
 (AY (Am (AR 3 CK (AB (aV 6) (AB (aV 7) (AB (aV 3) AM)))) (An 8))
   (BE (Ew (Ah (AR 2 Aj (AB (aV 8) (AB (aV 2) AM)))) (Ff (Ca (Ah (AR 2 Aj (AB (aV 2) (AB (aV 8) AM))))) (Ah (AR 2 Aj (AB (aV 3) (AB (aV 1) AM)))))) QZ Av))
abbrev Qe:AS:=
 (AY (Du (HM (AX BL (AR 1 CL (AB (aV 7) AM)) (FX (Ci (AB (Ay (AB (aC (.int 1)) (AB (aC (.int 1)) AM))) AM))))) (An 3) Qa)
   (Ak (Ay (AB (AR 2 Gc (AB (AX Ao (aV 2) (aC (.int 0))) (AB (AX Ao (aV 2) (aC (.int 1))) AM))) (AB (AR 3 CY (AB (aV 4) (AB (aV 5) (AB (aV 1) AM)))) AM)))))
abbrev Qc:AS:=
 (AY (Am (AR 3 CK (AB (aV 6) (AB (aV 7) (AB (aV 1) AM)))) (An 2))
   Qe)
abbrev Qb:AS:=
 (AY (Am (Ay (AB (aC (.int 0)) (AB (aC (.int 1)) AM))) (An 1))
   Qc)
abbrev Oc:AS:=
 (AY (Am (aV 0) (HD 4 (AZ (An 4) (AZ (An 5) (AZ (An 6) (AZ (An 7) BY))))))
   Qb)
def EG:AF:=Ap 9 Oc
def UO {a:PV}{Q:PV->Prop}(h:Oc ⟨λ_=>Q .non,Q,λ_=>False,λ_=>False⟩ [some (.val a),none,none,none,none,none,none,none,none]):EG [a] Q:=h
def O6 {a b:Int×Int}{m:Nat}(c:0<a.2)(d:0<b.2)(ha:a.1.natAbs<2^m/\a.2.natAbs<2^m)(hb:b.1.natAbs<2^m/\b.2.natAbs<2^m)(e:m<=20000){Q:PV->Prop}(q:Q (.bl (decide (sv a<sv b)))):Aj [C2 a,C2 b] Q:=by refine⟨MulOk.of ha.1 hb.2 (by omega) (by omega),MulOk.of hb.1 ha.2 (by omega) (by omega), ?_⟩;rw[AC6.mpr (ip c d)] at q;exact q
def nM (N:Nat)(l:Int×Int):Rat×Rat:=((l.1:Rat)/N,(l.2:Rat)/N)
def ZT {N:Nat}{a b:Int}(h:0<N):((a:Rat)/N<(b:Rat)/N)↔a<b:=by
 have:=Ow h;rw[AC7 this,<-ACF];have e:(b:Rat)/(N:Rat)*(N:Rat)=(b:Rat):=by grind
 rw[e]
def ZY {N:Nat}{a b:Int×Int}(h:0<N):JE (nM N a) (nM N b)↔b.1<a.1/\a.2<b.2:=by unfold JE nM;rw[ZT h,ZT h]
def gL {N:Nat}{a b:Int×Int}(h:0<N)(f:b.1<a.1/\a.2<b.2):sv (Ph a b)=Cd (nM N a) (nM N b):=by
 have g:=Ow h;have f1:=ACF.mpr f.1;have f2:=ACF.mpr f.2;unfold sv Ph Cd nM;simp only[AFS,ADb];have d:(a.1:Rat)-b.1+b.2-a.2≠0:=by grind
 have e:(a.1:Rat)/N-(b.1:Rat)/N+(b.2:Rat)/N-(a.2:Rat)/N=((a.1:Rat)-b.1+b.2-a.2)/N:=by grind
 have c:(a.1:Rat)/N-(b.1:Rat)/N=((a.1:Rat)-b.1)/N:=by grind
 rw[e,c];grind
def pU {K:Nat}{a b:Int×Int}(ha:a.1.natAbs<2^K/\a.2.natAbs<2^K)(hb:b.1.natAbs<2^K/\b.2.natAbs<2^K)(f:b.1<a.1/\a.2<b.2):jh K (Ph a b):=by have c:=NS ha.1 hb.1;have d:=N3 c (Ae hb.2 (show K<=K+1 by omega));have e:=NS d (Ae ha.2 (show K<=K+1+1 by omega));refine⟨?_,Ae c (by omega),e⟩;show 0<a.1-b.1+b.2-a.2;omega
structure oA (N K:Nat) (lns us:List (Int×Int)) (best:Int×Int) (x:Int):Prop where
 z:jh K best
 mem:best∈us
 xb:x.natAbs<2^(2*K+6)
 mx:Hh (dO N lns) (sv best) (sv (x,(N:Int)*best.2))
 le:∀c∈us,∀g,Hh (dO N lns) (sv c) g->sv (x,(N:Int)*best.2)<g\/(sv (x,(N:Int)*best.2)=g/\sv best<=sv c)
def Zs {N K:Nat}{lns a:kj (Int×Int)}{best c:Int×Int}{x y:Int}(i:oA N K lns a best x)(hc:jh K c)(hy:y.natAbs<2^(2*K+6))(b:Hh (dO N lns) (sv c) (sv (y,(N:Int)*c.2)))(h:sv (y,(N:Int)*c.2)<sv (x,(N:Int)*best.2)\/(¬sv (x,(N:Int)*best.2)<sv (y,(N:Int)*c.2)/\sv c<sv best)):oA N K lns (a ++ [c]) c y:=by
 refine⟨hc,by simp,hy,b,λd hd g e=> ?_⟩;rcases ABI.mp hd with hd|hd
 .rcases i.le d hd g e with k|⟨f,j⟩
  .rcases h with h|⟨h1,h2⟩
   .left;grind
   .left;grind
  .rcases h with h|⟨h1,h2⟩
   .left;grind
   .by_cases z:sv (y,(N:Int)*c.2)<g
    .exact .inl z
    .exact .inr ⟨by grind,by grind⟩
 .simp at hd;subst hd;exact .inr ⟨Tr b e,ABZ⟩
def Zt {N K:Nat}{lns a:kj (Int×Int)}{best c:Int×Int}{x y:Int}(i:oA N K lns a best x)(e:Hh (dO N lns) (sv c) (sv (y,(N:Int)*c.2)))(h1:¬sv (y,(N:Int)*c.2)<sv (x,(N:Int)*best.2))(h2:sv (x,(N:Int)*best.2)<sv (y,(N:Int)*c.2)\/¬sv c<sv best):oA N K lns (a ++ [c]) best x:=by
 refine⟨i.z,by simp[i.mem],i.xb,i.mx,λd hd g b=> ?_⟩;rcases ABI.mp hd with hd|hd
 .exact i.le d hd g b
 .simp at hd;subst hd;have:=Tr e b;rcases h2 with h2|h2
  .left;grind
  .by_cases z:sv (x,(N:Int)*best.2)<g
   .exact .inl z
   .exact .inr ⟨by grind,by grind⟩
def Ib (lns:kj (Int×Int)):kj (Int×Int):=lns.flatMap (FO lns) ++ [(1,1)]
def iQ {N K:Nat}{lns:kj (Int×Int)}(h:rM N K lns):∀c∈Ib lns,jh K c:=by
 intro c hc;rcases ABI.mp hc with hc|hc
 .obtain ⟨a,ha,hc⟩:=ACV.mp hc;obtain⟨b,hb,rfl⟩:=ABG.mp hc;have hb:=ABX.mp hb;exact pU (h.a a ha) (h.a b hb.1) (ABx hb.2)
 .simp at hc;subst hc;exact⟨by decide,Ae (m:=1) (by decide) (by omega),Ae (m:=1) (by decide) (by omega)⟩
def IL {N K:Nat}{lns:kj (Int×Int)}(h:rM N K lns)(s:Rat):Qk (dO N lns) s↔∃c∈(0,1)::Ib lns,sv c=s:=by
 constructor
 .rintro (rfl|rfl|⟨a,ha,b,hb,f,rfl⟩)
  .exact ⟨_,by simp,im⟩
  .exact ⟨(1,1),by simp[Ib],Ws⟩
  .obtain ⟨d,i,rfl⟩:=ABG.mp ha;obtain⟨e,j,rfl⟩:=ABG.mp hb;have g:=(ZY h.n0).mp f;refine⟨Ph d e, ?_,gL h.n0 g⟩;refine ACO _ (ABI.mpr (.inl (ACV.mpr ⟨d,i,ABG.mpr ⟨e,ABX.mpr ⟨j,ABQ g⟩,rfl⟩⟩)))
 .rintro ⟨c,hc,rfl⟩;rcases AAK.mp hc with rfl|hc
  .exact .inl im
  .rcases ABI.mp hc with hc|hc
   .obtain ⟨a,ha,hc⟩:=ACV.mp hc;obtain⟨b,hb,rfl⟩:=ABG.mp hc;have hb:=ABX.mp hb;have f:=ABx hb.2;exact .inr (.inr ⟨nM N a,ABG.mpr ⟨a,ha,rfl⟩,nM N b,ABG.mpr ⟨b,hb.1,rfl⟩,(ZY h.n0).mpr f,gL h.n0 f⟩)
   .simp at hc;subst hc;exact .inr (.inl Ws)
def vB {N K W:Nat}{lns:kj (Int×Int)}(h:rM N K lns)(d:∀l∈lns,Bd W ((l.1:Rat)/N)/\Bd W ((l.2:Rat)/N)){c:Int×Int}(hc:c∈(0,1)::Ib lns):Bd (6*W+6) (sv c):=by
 rcases (IL h (sv c)).mpr ⟨c,hc,rfl⟩ with e|e|⟨a,ha,b,hb,f,e⟩
 .rw [e];exact jJ.mono (by omega)
 .rw [e];exact rQ.mono (by omega)
 .obtain ⟨i,j,rfl⟩:=ABG.mp ha;obtain⟨k,m,rfl⟩:=ABG.mp hb;obtain⟨g,n⟩:=d i j;obtain⟨y1,y2⟩:=d k m;rw[e];obtain⟨f1,f2⟩:=f;unfold Cd;exact((g.sub y1).div (by grind) (((g.sub y1).add y2).sub n)).mono (by omega)
def gC {N K M W:Nat}{b e:Rat}{lns:kj (Int×Int)}(h:rM N K lns)(I:∀l∈lns,Bd W ((l.1:Rat)/N)/\Bd W ((l.2:Rat)/N))(hW:W<=530)(J:Bd M b)(L:Bd M e)(hM:M<=300){Q:PV->Prop}(q:∀c g,Qk (dO N lns) c->Hh (dO N lns) c g->(∀d g',Qk (dO N lns) d->Hh (dO N lns) d g'->g<g'\/(g=g'/\c<=d))->Bd (6*W+6) c->Q (.tup [fr g,fr (b+c*(e-b))])):EG [.tup [fr b,fr e, .int N, .lst (lns.map C2)]] Q:=by
 have hk:=h.k;have U:=h.n0;have D:((N:Int)).natAbs<2^K:=by simpa using h.n
 have f:∀{p:Int×Int},jh K p->(0:Int)<(N:Int)*p.2:=λhp=>Int.mul_pos (by omega) hp.pos;have E:∀{p:Int×Int},jh K p->((N:Int)*p.2).natAbs<2^(2*K+6):=λhp=>Ae (BU D hp.n) (by omega);have j:jh K (0,1):=⟨by decide,Ae (m:=1) (by decide) (by omega),Ae (m:=1) (by decide) (by omega)⟩;apply UO;ac_rfl;refine Rm (p:=(0,1)) h j λx mx O=> ?_;ac_rfl;refine Xy h.len ?_;ac_rfl;have X:=PF (ws:=lns) lns;have Y:lns.length*lns.length<=100*100:=AE0 h.len h.len;have Z:20000<=sizeLine:=by decide
 refine⟨by rw[ABL,AFX];omega, ?_⟩;have P:(lns.flatMap (FO lns)).map C2 ++ [fr 1] =(Ib lns).map C2:=by unfold Ib;rw[ABV];rfl
 rw[P];refine B6 C2 (λr vs τ=>∃best x u v,oA N K lns ((0,1)::r) best x/\τ= [some (.val (.tup [fr b,fr e, .int N, .lst (lns.map C2)])),some (.val (C2 best)),some (.val (C2 (x,(N:Int)*best.2))),u,some (.val (fr b)),some (.val (fr e)),some (.val (.int N)),some (.val (.lst (lns.map C2))),v]) ?_ ?_ ?_
 .rintro τ ⟨best,x,u,v,i,rfl⟩;ac_rfl;have es:Rat.divInt x ((N:Int)*best.2)=sv (x,(N:Int)*best.2):=AEL ..;refine EJ _ _ (by have:=f i.z;omega) (Ae (BU D i.z.n) (by omega)) _ ?_;rw[es];ac_rfl;have bs:=vB h I i.mem;refine Gm ⟨i.z.pos,Ae i.z.t (by omega),Ae i.z.n (by omega)⟩ bs J L hM (by omega) ?_;ac_rfl;refine q _ _ ((IL h _).mpr ⟨best,i.mem,rfl⟩) i.mx (λd g' hc w=> ?_) bs;obtain⟨c,S,rfl⟩:=(IL h d).mp hc;exact i.le c S g' w
 .rintro r c vs T τ R F ⟨best,x,u,v,i,rfl⟩;have a:jh K c:=iQ h c (by rw[<-T];simp);have o:∀{y:Int},oA N K lns ((0,1)::r ++ [c]) best x->R [some (.val (.tup [fr b,fr e, .int N, .lst (lns.map C2)])),some (.val (C2 best)),some (.val (C2 (x,(N:Int)*best.2))),some (.val (C2 c)),some (.val (fr b)),some (.val (fr e)),some (.val (.int N)),some (.val (.lst (lns.map C2))),some (.val (C2 (y,(N:Int)*c.2)))] :=λi=>F _ ⟨_,_,_,_,i,rfl⟩;have new:∀{y:Int},oA N K lns ((0,1)::r ++ [c]) c y->R [some (.val (.tup [fr b,fr e, .int N, .lst (lns.map C2)])),some (.val (C2 c)),some (.val (C2 (y,(N:Int)*c.2))),some (.val (C2 c)),some (.val (fr b)),some (.val (fr e)),some (.val (.int N)),some (.val (.lst (lns.map C2))),some (.val (C2 (y,(N:Int)*c.2)))] :=λi=>F _ ⟨_,_,_,_,i,rfl⟩;ac_rfl;refine Rm h a λy s A=> ?_;ac_rfl;have G:(y,(N:Int)*c.2).1.natAbs<2^(2*K+6)/\(y,(N:Int)*c.2).2.natAbs<2^(2*K+6):=⟨A,E a⟩;have H:(x,(N:Int)*best.2).1.natAbs<2^(2*K+6)/\(x,(N:Int)*best.2).2.natAbs<2^(2*K+6):=⟨i.xb,E i.z⟩;refine O6 (f a) (f i.z) G H (by omega) ?_;ac_rfl
  .rename_i k;exact new (Zs i a A s (.inl k))
  .rename_i k;refine O6 (f i.z) (f a) H G (by omega) ?_;ac_rfl
   .rename_i B;have m1:c.1.natAbs<2^(2*K+6)/\c.2.natAbs<2^(2*K+6):=⟨Ae a.t (by omega),Ae a.n (by omega)⟩;have m2:best.1.natAbs<2^(2*K+6)/\best.2.natAbs<2^(2*K+6):=⟨Ae i.z.t (by omega),Ae i.z.n (by omega)⟩;refine O6 a.pos i.z.pos m1 m2 (by omega) ?_;ac_rfl
    .rename_i C;exact new (Zs i a A s (.inr ⟨B,C⟩))
    .rename_i C;exact o (Zt i s k (.inr C))
   .rename_i B;exact o (Zt i s k (.inl B))
 .refine ⟨(0,1),x,none,none,⟨j,by simp,O,mx,λc hc g w=> ?_⟩,rfl⟩;simp at hc;subst hc;exact .inr ⟨Tr mx w,ABZ⟩
abbrev Ss:AS:=
 (AY (Am (AR 1 EG (AB (aV 4) AM)) (An 5))
   (BE (Ew (Ah (AX Nf (aV 3) (aC .non))) (Ah (AR 2 Aj (AB (AX Ao (aV 5) (aC (.int 0))) (AB (AX Ao (aV 3) (aC (.int 0))) AM))))) (Am (aV 5) (An 3)) Av))
abbrev Su:AS:=
 (AY (Du (HM (AR 3 FD (AB (aV 0) (AB (aV 1) (AB (aV 2) AM))))) (An 4) Ss)
   (Ak (aV 3)))
abbrev RP:AS:=
 (AY (Am (aC .non) (An 3))
   Su)
def Dh:AF:=Ap 6 RP
def Wd {a b c:PV}{Q:PV->Prop}(h:RP ⟨λ_=>Q .non,Q,λ_=>False,λ_=>False⟩ [some (.val a),some (.val b),some (.val c),none,none,none]):Dh [a,b,c] Q:=h
def Pc.rl (p:Pc):kj (Rat×Rat):=dO p.N p.lns
structure dU (p:Pc) (c g:Rat):Prop where
 c0:0<=c
 c1:c<=1
 mx:Hh p.rl c g
 le:∀s h,0<=s->s<=1->Hh p.rl s h->g<h\/(g=h/\c<=s)
def TQ {p:Pc}{c g:Rat}(hc:Qk p.rl c)(mx:Hh p.rl c g)(b:∀a g',Qk p.rl a->Hh p.rl a g'->g<g'\/(g=g'/\c<=a)):dU p c g:=by
 refine⟨(N4 hc).1,(N4 hc).2,mx,λs h e f hs=> ?_⟩;obtain⟨d,k,i,j,o⟩:=eM e f hs;rcases b d k i j with z|⟨l,m⟩ <;> rcases o with y|⟨y1,y2⟩
 .left;grind
 .left;grind
 .left;grind
 .by_cases q:g<h
  .exact .inl q
  .exact .inr ⟨by grind,by grind⟩
def Yn (o q:T3):kj (Rat×Rat):= [(o.1,q.1),(-o.1, -q.1),(o.2.1,q.2.1),(-o.2.1, -q.2.1),(o.2.2,q.2.2),(-o.2.2, -q.2.2)]
def Ia {N:Nat}{r:Rat}(a:0<N)(h:r.den ∣ N):((D9 N r:Int):Rat)/N=r/\((-D9 N r:Int):Rat)/N= -r:=by
 have b:=Ow a;have e:=G0 h;constructor
 .rw [e];grind
 .rw [AEN,e];grind
def nQ {W:Nat}{p:Pc}(i:EN W p.o0)(h1:EN W p.o1):p.rl=Yn p.o0 p.o1:=by obtain⟨a,b,_⟩:=Lb i h1;have c:=Ia a (b p.o0.1 (by simp[Pc.six]));have d:=Ia a (b p.o0.2.1 (by simp[Pc.six]));have e:=Ia a (b p.o0.2.2 (by simp[Pc.six]));have f:=Ia a (b p.o1.1 (by simp[Pc.six]));have g:=Ia a (b p.o1.2.1 (by simp[Pc.six]));have h:=Ia a (b p.o1.2.2 (by simp[Pc.six]));unfold Pc.rl dO Pc.lns Yn;simp only[ABJ,ADd];rw[c.1,c.2,d.1,d.2,e.1,e.2,f.1,f.2,g.1,g.2,h.1,h.2]
def TM (x:Rat):(absR x=x\/absR x= -x)/\x<=absR x/\ -x<=absR x/\0<=absR x:=by
 unfold absR;split
 .exact ⟨.inr rfl,by grind,by grind,by grind⟩
 .exact ⟨.inl rfl,by grind,by grind,by grind⟩
def V9 (a b:Rat):(mx a b=a\/mx a b=b)/\a<=mx a b/\b<=mx a b:=by
 unfold mx;split
 .exact ⟨.inr rfl,by grind,by grind⟩
 .exact ⟨.inl rfl,by grind,by grind⟩
def Zd (o:T3):(∀x∈ [o.1, -o.1,o.2.1, -o.2.1,o.2.2, -o.2.2],x<=Dn o)/\Dn o∈ [o.1, -o.1,o.2.1, -o.2.1,o.2.2, -o.2.2] :=by
 obtain⟨b,f,h,i⟩:=TM o.1;obtain⟨b1,b2,j,k⟩:=TM o.2.1;obtain⟨c1,c2,l,m⟩:=TM o.2.2;unfold Dn;obtain⟨n,p,r⟩:=V9 0 (absR o.1);obtain⟨c,s,t⟩:=V9 (mx 0 (absR o.1)) (absR o.2.1);obtain⟨d,u,y⟩:=V9 (mx (mx 0 (absR o.1)) (absR o.2.1)) (absR o.2.2);generalize mx (mx (mx 0 (absR o.1)) (absR o.2.1)) (absR o.2.2)=g at *;generalize mx (mx 0 (absR o.1)) (absR o.2.1)=g2 at *;generalize mx 0 (absR o.1)=g1 at *;generalize absR o.1=x1 at *;generalize absR o.2.1=x2 at *;generalize absR o.2.2=x3 at *;constructor
 .intro x hx;simp only[AAK,ABR,ABS] at hx;rcases hx with rfl|rfl|rfl|rfl|rfl|rfl <;> grind
 .simp only[AAK,ABR,ABS];have e:g1=x1:=by grind
  rcases d with w|w
  .rcases c with v|v
   .rcases b with a|a <;> grind
   .rcases b1 with a|a <;> grind
  .rcases c1 with a|a <;> grind
def qj (o q:T3)(s:Rat):Hh (Yn o q) s (Dn (lin o q s)):=by
 obtain⟨h1,h2⟩:=Zd (lin o q s);have e:(Yn o q).map (λl=>fL l s)= [(lin o q s).1, -(lin o q s).1,(lin o q s).2.1, -(lin o q s).2.1,(lin o q s).2.2, -(lin o q s).2.2] :=by simp only[Yn,ABJ,ADd,fL,lin,List.cons.injEq,and_true,true_and];refine⟨?_, ?_, ?_⟩ <;> grind
 rw[<-e] at h1 h2;refine⟨?_,λl hl=>h1 _ (ABG.mpr ⟨l,hl,rfl⟩)⟩;obtain⟨l,hl,k⟩:=ABG.mp h2;exact⟨l,hl,k⟩
section
variable {cs ds:kj C4}{d:Rat×Rat}{M W:Nat}
def Hm (cs ds:kj C4)(d:Rat×Rat)(m:Rat):Rat:=Dn (ofs cs ds d m)
theorem nL {p:Pc}(o:XE cs ds d M W p){m:Rat}(h1:p.b<=m)(h2:m<=p.e):Hh p.rl ((m-p.b)/(p.e-p.b)) (Hm cs ds d m):=by rw[nQ o.w0 o.w1];unfold Hm;rw[o.lin m h1 h2];exact qj ..
theorem iP {p:Pc}(o:XE cs ds d M W p){m:Rat}(h1:p.b<=m)(h2:m<=p.e):0<=(m-p.b)/(p.e-p.b)/\(m-p.b)/(p.e-p.b)<=1/\p.b+(m-p.b)/(p.e-p.b)*(p.e-p.b)=m:=by
 have a:0<p.e-p.b:=by have:=o.lt;grind
 refine⟨?_, ?_,by grind⟩
 .rw [<-ACK,AC7 a];grind
 .rw [<-ACK,AEM a];grind
theorem pV {p:Pc}(o:XE cs ds d M W p){s:Rat}(h1:0<=s)(h2:s<=1):p.b<=p.b+s*(p.e-p.b)/\p.b+s*(p.e-p.b)<=p.e/\(p.b+s*(p.e-p.b)-p.b)/(p.e-p.b)=s:=by
 have a:0<p.e-p.b:=by have:=o.lt;grind
 have c:=AC1 h1 (show 0<=p.e-p.b by grind);have f:=AC1 (show 0<=1-s by grind) (show 0<=p.e-p.b by grind);exact⟨by grind,by grind,by grind⟩
structure CI (cs ds:List C4) (d:Rat×Rat) (us:List Pc) (m g:Rat):Prop where
 ex:∃p∈us,p.b<=m/\m<=p.e
 at_:Hm cs ds d m=g
 le:∀p∈us,∀k,p.b<=k->k<=p.e->g<Hm cs ds d k\/(g=Hm cs ds d k/\m<=k)
theorem jp {p:Pc}(o:XE cs ds d M W p){c g:Rat}(h:dU p c g):CI cs ds d [p] (p.b+c*(p.e-p.b)) g:=by
 have t:0<p.e-p.b:=by have:=o.lt;grind
 obtain⟨a,f,n⟩:=pV o h.c0 h.c1;have m1:=nL o a f;rw[n] at m1;refine⟨⟨p,by simp,a,f⟩,Tr m1 h.mx,λi j k l m=> ?_⟩;simp at j;subst j;obtain⟨r,s,es⟩:=iP o l m;rcases h.le _ _ r s (nL o l m) with z|⟨z,y⟩
 .exact .inl z
 .refine .inr ⟨z, ?_⟩;have:=AFQ y (show 0<=i.e-i.b by grind);grind
theorem d8 {b:kj Pc}{p:Pc}{m g k h:Rat}(i:CI cs ds d b m g)(j:CI cs ds d [p] k h)(l:h<g):CI cs ds d (b ++ [p]) k h:=by
 obtain⟨q,hq,e⟩:=j.ex;refine⟨⟨q,by simp at hq;subst hq;simp,e⟩,j.at_,λc a r h1 h2=> ?_⟩;rcases ABI.mp a with a|a
 .rcases i.le c a r h1 h2 with z|⟨z,_⟩ <;> (left;grind)
 .exact j.le c a r h1 h2
theorem d9 {c:kj Pc}{p:Pc}{m g k h:Rat}(i:CI cs ds d c m g)(j:CI cs ds d [p] k h)(l:¬h<g)(f:∀q∈c,q.e<=p.b):CI cs ds d (c ++ [p]) m g:=by
 obtain⟨q,hq,o,s⟩:=i.ex;refine⟨⟨q,by simp[hq],o,s⟩,i.at_,λn a r h1 h2=> ?_⟩;rcases ABI.mp a with a|a
 .exact i.le n a r h1 h2
 .simp at a;subst a;have:=f q hq;rcases j.le n (by simp) r h1 h2 with z|⟨z,_⟩
  .left;grind
  .by_cases y:g<Hm cs ds d r
   .exact .inl y
   .exact .inr ⟨by grind,by grind⟩
theorem jH:∀{ts:kj Rat},Qr ts->(ts.zip ts.tail).Pairwise λp q=>p.2<=q.1
 | [],_=>by simp
 | [a],_=>by simp
 | a::b::r,h=>by
   have h2:Qr (b::r):=(ABE.mp h).2;refine ABE.mpr ⟨λq hq=> ?_,jH h2⟩;have c:q.1∈b::r:=(AC3 (a:=q.1) (b:=q.2) hq).1;show b<=q.1;rcases AAK.mp c with e|e
   .rw [e];exact ABZ
   .have:=(ABE.mp h2).1 _ e;grind
theorem qF:(En cs ds d).Pairwise λp q=>p.e<=q.b:=by
 unfold En;split
 .unfold LJ;rw[ADp];exact jH Dm
 .simp
theorem tE {l:Rat×Rat}{c:Rat}{S:Nat}(h1:Bd W l.1)(h2:Bd W l.2)(hc:Bd S c):Bd (W+(S+(W+W+1))+1) (fL l c):=h1.add (hc.mul (h2.sub h1))
theorem mF {o q:T3}(a:EN W o)(h1:EN W q):∀l∈Yn o q,Bd W l.1/\Bd W l.2:=by
 intro l hl;simp only[Yn,AAK,ABR,ABS] at hl;rcases hl with rfl|rfl|rfl|rfl|rfl|rfl
 .exact ⟨a.x,h1.x⟩
 .exact ⟨a.x.neg,h1.x.neg⟩
 .exact ⟨a.y,h1.y⟩
 .exact ⟨a.y.neg,h1.y.neg⟩
 .exact ⟨a.z,h1.z⟩
 .exact ⟨a.z.neg,h1.z.neg⟩
theorem qD {p:Pc}(o:XE cs ds d M W p)(hW:W<=440):rM p.N (7*W+1) p.lns:=by
 obtain⟨h,i,a⟩:=Lb o.w0 o.w1;have one:∀{u v:Rat},Bd W u->Bd W v->((D9 p.N u).natAbs<2^(7*W+1)/\(D9 p.N v).natAbs<2^(7*W+1))/\((-D9 p.N u).natAbs<2^(7*W+1)/\(-D9 p.N v).natAbs<2^(7*W+1)):=λ{u v} bu bv=>by have b:=Ae (UY bu a) (show W+(6*W+1)<=7*W+1 by omega);have c:=Ae (UY bv a) (show W+(6*W+1)<=7*W+1 by omega);exact⟨⟨b,c⟩,by rw[ADW];exact b,by rw[ADW];exact c⟩
 have e:=one o.w0.x o.w1.x;have f:=one o.w0.y o.w1.y;have g:=one o.w0.z o.w1.z;refine⟨h,Ae a (by omega),λl hl=> ?_,by simp[Pc.lns],by omega,by rw[Tl];decide⟩;simp only[Pc.lns,AAK,ABR,ABS] at hl;rcases hl with rfl|rfl|rfl|rfl|rfl|rfl
 .exact e.1
 .exact e.2
 .exact f.1
 .exact f.2
 .exact g.1
 .exact g.2
theorem gD {p:Pc}(o:XE cs ds d M W p)(hW:W<=440)(hM:M<=300){Q:PV->Prop}(q:∀m g,CI cs ds d [p] m g->Bd 4000 g->Bd (3*M+6*W+9) m->Q (.tup [fr g,fr m])):EG [jN p] Q:=by
 have a:∀l∈p.rl,Bd W l.1/\Bd W l.2:=by rw[nQ o.w0 o.w1];exact mF o.w0 o.w1
 refine gC (qD o hW) (λl hl=>a _ (ABG.mpr ⟨l,hl,rfl⟩)) (by omega) o.bb o.be hM λc g hc b hl hb=> ?_;have B:dU p c g:=TQ hc b hl;refine q _ _ (jp o B) ?_ ((o.bb.add (hb.mul (o.be.sub o.bb))).mono (by omega));obtain⟨⟨l,e,rfl⟩,_⟩:=b;obtain⟨b1,b2⟩:=a l e;exact(tE b1 b2 hb).mono (by omega)
def jA (cs ds:kj C4)(d:Rat×Rat)(X:Nat)(a:kj Pc)(t:PV):Prop:=(a= [] /\t= .non)\/∃m g,CI cs ds d a m g/\(Bd 4000 g/\Bd X m)/\t= .tup [fr g,fr m]
theorem Jp (D:El cs ds d M W)(hW:W<=440){v w u:PV}(hv:BI cs v)(hw:BI ds w)(hu:ON d u){Q:PV->Prop}(z:En cs ds d= [] ->Q .non)(A:∀m g,CI cs ds d (En cs ds d) m g->Bd (3*M+6*W+9) m->Bd 4000 g->Q (.tup [fr g,fr m])):Dh [v,w,u] Q:=by
 have hM:=D.hM;apply Wd;ac_rfl;refine Ml D hv hw hu ?_;ac_rfl;refine B6 jN (λa vs τ=>∃t f i,jA cs ds d (3*M+6*W+9) a t/\τ= [some (.val v),some (.val w),some (.val u),some (.val t),f,i]) ?_ ?_ ?_
 .rintro τ ⟨t,f,i,h,rfl⟩;ac_rfl;rcases h with⟨h,rfl⟩|⟨m,g,h,bm,rfl⟩
  .exact z h
  .exact A m g h bm.2 bm.1
 .rintro a p vs l τ R n ⟨t,f,i,h,rfl⟩;have o:=D.pc p (by rw[<-l];simp);have B:∀q∈a,q.e<=p.b:=λq hq=>by have r:=qF (cs:=cs) (ds:=ds) (d:=d);rw[<-l] at r;exact(ADk.mp r).2.2 q hq p (by simp)
  ac_rfl;refine gD o hW (by omega) λm g bm c C=> ?_;have c:Bd 4000 g/\Bd (3*M+6*W+9) m:=⟨c,C⟩;have E:=c.1;have s:jA cs ds d (3*M+6*W+9) (a ++ [p]) (.tup [fr g,fr m])->R [some (.val v),some (.val w),some (.val u),some (.val (.tup [fr g,fr m])),some (.val (jN p)),some (.val (.tup [fr g,fr m]))] :=λh=>n _ ⟨_,_,_,h,rfl⟩;have ol:jA cs ds d (3*M+6*W+9) (a ++ [p]) t->R [some (.val v),some (.val w),some (.val u),some (.val t),some (.val (jN p)),some (.val (.tup [fr g,fr m]))] :=λh=>n _ ⟨_,_,_,h,rfl⟩;rcases h with⟨rfl,rfl⟩|⟨k,h,x,y,rfl⟩
  .ac_rfl;exact s (.inr ⟨m,g,bm,c,rfl⟩)
  .have F:=y.1;ac_rfl
   .rename_i j;exact s (.inr ⟨m,g,d8 x bm j,c,rfl⟩)
   .rename_i j;exact ol (.inr ⟨k,h,d9 x bm j B,y,rfl⟩)
 .exact ⟨_,_,_, .inl ⟨rfl,rfl⟩,rfl⟩
end
end PL
namespace PL.K85
open PySem L2 PL PyProof.Rows
abbrev OT:AS:=
 (AY (Am (AX Ao (FX (Ci (AB (Ay (AB (aC (.int 0)) (AB (aC (.int 1)) AM))) (AB (Ay (AB (aC (.int 1)) (AB (aC (.int 2)) AM))) (AB (Ay (AB (aC (.int 1)) (AB (aC (.int 1)) AM))) (AB (Ay (AB (aC (.int 3)) (AB (aC (.int 2)) AM))) AM)))))) (AR 2 BO (AB (aV 0) (AB (aC (.int 4)) AM)))) (An 7))
   (Dv 5 Ip (AB (AR 2 Bg (AB (aV 7) (AB (AX Ao (aV 2) (FZ bO (AB (AX KG (aV 6) (aC (.int 2))) AM))) AM))) AM)))
abbrev KL:AS:=
 (AY (Du (XO (AB (aC (.int 3)) AM)) (An 6) OT)
   (Dv 3 Ip (AB (XI (AX BL (Ay (AB (AX Ao (aV 4) (aC (.int 0))) AM)) (FZ Co (AB (FX (C1 (XO (AB (aC (.int 3)) AM)) 1 [4,5] (An 0) FH (AR 2 Br (AB (AX Ao (aV 1) (AX BL (aV 0) (aC (.int 1)))) (AB (AX Ao (aV 2) (aV 0)) AM))))) AM)))) AM)))
abbrev OU:AS:=
 (AY (GN (Ci AM) 5)
   KL)
abbrev OV:AS:=
 (AY (Du (HM (aV 1)) (An 4) OU)
   (Ak (FZ Co (AB (aV 3) AM))))
abbrev ND:AS:=
 (AY (GN (Ci AM) 3)
   OV)
def Ed:AF:=Ap 8 ND
def RG {a b c:PV}{Q:PV->Prop}(h:ND ⟨λ_=>Q .non,Q,λ_=>False,λ_=>False⟩ [some (.val a),some (.val b),some (.val c),none,none,none,none,none]):Ed [a,b,c] Q:=h
abbrev HR:AS:=
 (AY (dy 5 (Am (AR 1 DQ (AB (aV 5) AM)) (An 5)))
   (Ak (AX BL (aV 5) (FX (C1 (sZ (AB (aV 5) (AB (dG (aV 5) (dI (aC (.int 1))) dH) AM))) 2 [] (HD 2 (AZ (An 0) (AZ (An 1) BY))) FH (AR 2 DP (AB (aV 0) (AB (aV 1) AM))))))))
abbrev HQ:AS:=
 (AY (BE (Ah (AX GR (aV 4) (aC .non))) (Dv 5 Ip (AB (AX Ao (aV 4) (aC (.int 1))) AM)) Av)
   HR)
abbrev HP:AS:=
 (AY (Du (HM (aV 3)) (HD 3 (AZ (An 6) (AZ (An 7) (AZ (An 8) BY)))) (GN (VW (aV 5) (FX (Ci (AB (aV 6) (AB (aV 8) AM))))) 5))
   HQ)
abbrev Fa:AS:=
 (AY (GN (VW (FX (C1 (HM (AX BL (aV 1) (aV 2))) 1 [] (An 0) FH (AX Ao (aV 0) (aC (.int 0))))) (FX (Ci (AB (AR 1 A5 (AB (aV 0) AM)) (AB (AR 1 CV (AB (aV 0) AM)) AM))))) 5)
   HP)
def B3:AF:=Ap 9 Fa
def Iq {a b c d e:PV}{Q:PV->Prop}(h:Fa ⟨λ_=>Q .non,Q,λ_=>False,λ_=>False⟩ [some (.val a),some (.val b),some (.val c),some (.val d),some (.val e),none,none,none,none]):B3 [a,b,c,d,e] Q:=h
abbrev KM:AS:=
 (AY (BE (Ew (Ah (AX KH (aV 3) (Ay AM))) (Ew (Ah (AX KH (AR 3 E6 (AB (aV 0) (AB (aV 1) (AB (aV 2) AM)))) (Ay (AB (aC (.str "clear")) (AB (Ay AM) AM))))) (Ca (Ah (AR 4 B0 (AB (aV 0) (AB (aV 1) (AB (aV 2) (AB (Ay AM) AM))))))))) (Ak (aC (.bl false))) Av)
   (Ak (Qt (AX Nf (AR 4 Ef (AB (aV 0) (AB (aV 1) (AB (aV 2) (AB (AX Ao (AX Ao (aV 0) (aC (.int 0))) (aC (.int 0))) AM))))) (aC .non)) (AX Nf (AR 4 Ef (AB (aV 0) (AB (aV 1) (AB (aV 2) (AB (AX Ao (AX Ao (aV 1) (aC (.int 0))) (aC (.int 0))) AM))))) (aC .non)))))
def Dq:AF:=Ap 4 KM
def P4 {a b c d:PV}{Q:PV->Prop}(h:KM ⟨λ_=>Q .non,Q,λ_=>False,λ_=>False⟩ [some (.val a),some (.val b),some (.val c),some (.val d)]):Dq [a,b,c,d] Q:=h
abbrev HW:AS:=
 (AY (BE (Ew (Ah (AX KH (AX Ao (aV 5) (aC (.int 0))) (aC (.str "clear")))) (Ca (Ah (AR 4 B0 (AB (aV 0) (AB (aV 1) (AB (aV 2) (AB (AX Ao (aV 5) (aC (.int 1))) AM)))))))) (Ak (aC (.bl false))) Av)
   (Ak (Qt (AX mo (AX Ao (AX Ao (aV 4) (aC (.int 0))) (aC (.int 0))) (AX Ao (AX Ao (aV 4) (aC (.int 0))) (aC (.int 1)))) (AX KH (AX Ao (aV 5) (aC (.int 1))) (Ay AM)))))
abbrev HV:AS:=
 (AY (BE (Ah (AX KH (aV 3) (Ay AM))) (Ak (Qt (AX KG (AX Ao (aV 5) (aC (.int 0))) (aC (.str "near"))) (Qt (AR 2 E2 (AB (aV 3) (AB (AX Ao (aV 5) (aC (.int 1))) AM))) (AX ZW (AX Ao (AX Ao (aV 4) (aC (.int 0))) (aC (.int 0))) (AX Ao (AX Ao (aV 4) (aC (.int 0))) (aC (.int 1))))))) Av)
   HW)
abbrev Fc:AS:=
 (AY (Am (AR 3 E6 (AB (aV 0) (AB (aV 1) (AB (aV 2) AM)))) (An 5))
   HV)
def Bi:AF:=Ap 6 Fc
def Ir {a b c d e:PV}{Q:PV->Prop}(h:Fc ⟨λ_=>Q .non,Q,λ_=>False,λ_=>False⟩ [some (.val a),some (.val b),some (.val c),some (.val d),some (.val e),none]):Bi [a,b,c,d,e] Q:=h
instance yH {b c:AE}{τ a:BD}{Q:kj PV->Prop}[h:ap τ a] :Wp (VW b c τ Q) (b a λx=>c a λy=>match x,y with | .lst xs, .lst ys=>xs.length+ys.length<=sizeLine/\WA (xs++ys)=true/\Q (xs++ys)|_,_=>False):=⟨λk=>by unfold VW;rw[h.e];exact k⟩
def kq {cs:kj C4}{d:Rat×Rat}(p:JF cs)(b1:Bd 3 d.1)(b2:Bd 3 d.2){Q:PV->Prop}(q:∀ds,EA ds->Q (Aq ds)):Ed [.tape,Aq cs, .tup [fr d.1,fr d.2]] Q:=by
 have w:=p.ok.few;have i:∀f∈ [(0:Rat),1/2,1,3/2],Bd 2 f:=by intro f r;simp only[AAK,ABR,ABS] at r;rcases r with rfl|rfl|rfl|rfl <;> exact⟨by decide +kernel,by decide +kernel⟩
 apply RG;ac_rfl;refine B6 cor (λs vs τ=>∃(a:kj C4) (j k l n:kc AV),a.map (·.1)=s.map (·.1)/\(∀g∈a,Dp 28 g)/\τ= [some (.val .tape),some (.val (Aq cs)),some (.val (.tup [fr d.1,fr d.2])),some (.own (a.map cor)),j,k,l,n]) ?_ ?_ ⟨[],_,_,_,_,rfl,by simp,rfl⟩
 .rintro τ ⟨a,j,k,l,n,e,o,rfl⟩;ac_rfl;have t:a.length=cs.length:=by have:=congrArg List.length e;simpa using this
  refine q a ⟨⟨by rw[t];exact p.ok.two,by rw[t];exact p.ok.few,o, ?_⟩,λc hc=> ?_⟩
  .have h1:(cs.map (·.1)).Pairwise (· < ·):=ADp.mpr p.ok.ris;rw[<-e] at h1;exact ADp.mp h1
  .have:c.1∈cs.map (·.1):=by rw[<-e];exact ABG.mpr ⟨c,hc,rfl⟩
   obtain⟨A,B,e'⟩:=ABG.mp this;rw[<-e'];exact p.y.mm A B
 .rintro s c vs e τ R C ⟨a,j,k,l,n,u,o,rfl⟩;have b:=p.ok.bd c (by rw[<-e];simp);have gl:a.length<=12:=by have h1:=congrArg List.length u;have h2:=congrArg List.length e;simp at h1 h2;omega
  repeat' array_get_dec
  rw[show rng 0 (Int.toNat 3)= [.int 0, .int 1, .int 2] from rfl];repeat' array_get_dec
  refine F0 (xs:= [0,1/2,1,3/2]) (by assumption) (by assumption) λf1 D=> ?_;have E:=i f1 D;repeat' array_get_dec
  rw[show (if decide ((0:Int)=2)=true then (1:Int) else 0)=0 from rfl];repeat' array_get_dec
  refine F0 (xs:= [0,1/2,1,3/2]) (by assumption) (by assumption) λf2 F=> ?_;have G:=i f2 F;repeat' array_get_dec
  rw[show (if decide ((1:Int)=2)=true then (1:Int) else 0)=0 from rfl];repeat' array_get_dec
  refine F0 (xs:= [0,1/2,1,3/2]) (by assumption) (by assumption) λv H=> ?_;have I:=i v H;have J:=E.mul b1;have K:=G.mul b1;have L:=I.mul b2;repeat' array_get_dec
  rw[show (if decide ((2:Int)=2)=true then (1:Int) else 0)=1 from rfl];repeat' array_get_dec
  rw[show rng 0 (Int.toNat 3)= [.int 0, .int 1, .int 2] from rfl];simp only[ACE,AEC];repeat' array_get_dec
  rw[show (0:Int)+1=1 from rfl];repeat' array_get_dec
  rw[show (1:Int)+1=2 from rfl];repeat' array_get_dec
  rw[show (2:Int)+1=3 from rfl];repeat' array_get_dec
  refine C _ ⟨a ++ [(c.1,c.2.1+f1*d.1,c.2.2.1+f2*d.1,c.2.2.2+v*d.2)],_,_,_,_,by rw[ABV,ABV,u];try rfl,λg M=> ?_,by rw[ABV];try rfl⟩;rcases ABI.mp M with h|h
  .exact o g h
  .rcases ACU.mp h with rfl;exact⟨b.m.mono (by decide),(b.x.add J).mono (by decide),(b.y.add K).mono (by decide),(b.z.add L).mono (by decide)⟩
theorem Tu:∀xs:kj Rat,WA (xs.map fr)=true
 | [] =>rfl
 | x::xs=>by have:=Tu xs;simp only[ABJ,WA,this];rfl
section
variable {cs ds:kj C4}{d:Rat×Rat}
theorem X0 {X:Nat}{P:Rat->Prop}{f:kj BX}{m0 w:Rat}(p:EA cs)(p2:EA ds)(t:Told P X f)(bm:Bd X m0)(y:11<=X)(J:2*X+10<=3900)(cl:f.length<=500){Q:PV->Prop}(q:∀ms:kj Rat,(∀m∈ms,Bd (2*X+10) m)->Q (.lst (ms.map fr))):B3 [.tape,Aq cs,Aq ds, .tup (f.map BW), .tup [fr w,fr m0]] Q:=by
 have F:=p.ok.few;have z:=p2.ok.few;apply Iq;ac_rfl;refine Dx cor fr (λc=>c.1) (λ_=>True) (λc _ R i=> ?_) (cs++ds) [] (λ_ _=>trivial) ?_
 .ac_rfl;exact i
 ac_rfl;rename_i A b1 C b2 _ _;obtain⟨j,G,H,gl⟩:∃j:kj Rat, [] ++ List.map fr (List.map (λc=>c.1) (cs++ds)) ++ [fr A,fr C] =j.map fr/\(∀g∈j,Bd X g)/\j.length<=26:=by
  refine⟨(cs++ds).map (λc=>c.1) ++ [A,C],by simp,λg l=> ?_,by simp;omega⟩;rcases ABI.mp l with h|h
  .obtain ⟨c,hc,rfl⟩:=ABG.mp h;rcases ABI.mp hc with hc|hc
   .exact (p.mm c hc).mono y
   .exact (p2.mm c hc).mono y
  .simp only[AAK,ABR,ABS] at h;rcases h with rfl|rfl
   .exact b1.mono (by omega)
   .exact b2.mono (by omega)
 rw[G];refine⟨Tu _, ?_⟩;ac_rfl;refine B6 BW (λn vs τ=>∃(hs:kj Rat) (o r u:kc AV),(∀g∈hs,Bd X g)/\hs.length<=26+2*n.length/\τ= [some (.val .tape),some (.val (Aq cs)),some (.val (Aq ds)),some (.val (.tup (f.map BW))),some (.val (.tup [fr w,fr m0])),some (.own (hs.map fr)),o,r,u]) ?_ ?_ ⟨j,_,_,_,H,by simpa using gl,rfl⟩
 .rintro τ ⟨hs,o,r,u,hb,hl,rfl⟩;ac_rfl;rw[show List.map fr hs ++ [fr m0] =(hs ++ [m0]).map fr by simp];refine Q7 rfl (B:=X) (by omega) (by simp;omega) (λm k=> ?_) ?_
  .rcases ABI.mp k with h|h
   .exact hb m h
   .rcases ACU.mp h with rfl;exact bm
  have v:∀m∈CO (hs ++ [m0]),Bd X m:=λm k=>by
   rcases ABI.mp (B9.mp k) with h|h
   .exact hb m h
   .rcases ACU.mp h with rfl;exact bm
  have K:(CO (hs ++ [m0])).length<=2000:=by have:=FP (xs:=hs ++ [m0]);simp at this;omega
  generalize CO (hs ++ [m0])=L at *;ac_rfl;rw[jG];have I:=aa L;refine⟨by rw[ABL,I];show _<16777216;omega, ?_⟩;have D:∀a∈L.zip L.tail,Bd X a.1/\Bd X a.2:=λa ha=>⟨v _ (AC3 ha).1,v _ (List.mem_of_mem_tail (AC3 ha).2)⟩;refine Dx nK fr (λa:Rat×Rat=>(a.1+a.2)*(1/2)) (λa=>Bd X a.1/\Bd X a.2) (λa ha R i=> ?_) (L.zip L.tail) [] D ?_
  .obtain ⟨h1,h2⟩:=ha;ac_rfl;refine Q6 (h1.mono (by omega)) (h2.mono (by omega)) ((h1.add h2).mono (by omega)) ?_;exact i
  .rw [ACE];ac_rfl;rw[<-ABV];refine q _ λm k=> ?_;rcases ABI.mp k with h|h
   .exact (v m h).mono (by omega)
   .obtain ⟨a,ha,rfl⟩:=ABG.mp h;obtain⟨h1,h2⟩:=D a ha;exact((h1.add h2).mul (xu:Bd 8 (1/2:Rat))).mono (by omega)
 .rintro n s vs e τ R i ⟨hs,o,r,u,hb,hl,rfl⟩;have E:s∈f:=by rw[<-e];simp
  have ul:n.length+1<=500:=by have:=congrArg List.length e;simp at this;omega
  obtain⟨x,hx⟩:=t.fin s E;have os:=t.ok s E;rw[Mn hx];ac_rfl;rw[show List.map fr hs ++ [fr s.1,fr x] =(hs ++ [s.1,x]).map fr by simp];refine⟨Tu _, ?_⟩;ac_rfl;refine i _ ⟨hs ++ [s.1,x],_,_,_,λg l=> ?_,by simp;omega,rfl⟩;rcases ABI.mp l with h|h
  .exact hb g h
  .simp only[AAK,ABR,ABS] at h;rcases h with rfl|rfl
   .exact os.b
   .exact (os.e _ hx).2
theorem Zx {Q:PV->Prop}(q:Q (.bl false)):KH (.tup []) (.tup []) Q:=⟨⟨rfl,rfl⟩,q⟩
theorem Zw {x:PV}{xs:kj PV}(h:D3 30 (.tup (x::xs))=true){Q:PV->Prop}(q:Q (.bl true)):KH (.tup (x::xs)) (.tup []) Q:=⟨⟨h,rfl⟩,by
 have:HN (.tup (x::xs)) (.tup [])=false:=by simp[HN,pd,Mi,PyData.eqv,PyData.eqvAll]
 rw[this];exact q⟩
theorem gN {M W B:Nat}(D:El cs ds d M W)(hc:∀c∈cs,Dp B c)(e:∀c∈ds,Dp B c)(C:7*B+10<=3900)(j:B<=160)(h:¬A4 cs ds<Ax cs ds)(s:2*((3*M+3*W+6)+6*B+10)<=3980)(g:B<=3*M+3*W+6){Q:PV->Prop}(q:Q (.bl true)):Dq [Aq cs,Aq ds, .tup [fr d.1,fr d.2], .tup []] Q:=by
 have t:∀m,¬Bw cs ds d m:=λm z=>h (by have:=z.1;have:=z.2.1;grind);have n:∀m,fJ cs ds d m=none:=λm=>by unfold fJ;rw[AAH];intro z;exact h (by grind)
 obtain⟨a,r,l,o,E,F⟩:=open2 D.t1;obtain⟨p,r2,G,b,H,u⟩:=open2 D.t2;have v:∀{Q:PV->Prop},Q (cor a)->Ao (Aq cs) (.int 0) Q:=λh=>by rw[o];exact iJ h
 have w:∀{Q:PV->Prop},Q (cor p)->Ao (Aq ds) (.int 0) Q:=λh=>by rw[b];exact iJ h
 have x:=(hc a (by rw[o];simp)).m;have i:=(e p (by rw[b];simp)).m;apply P4;ac_rfl;refine Zx ?_;ac_rfl;refine Pt D (.self _) (.self _) (.inl rfl) (by omega) (λk y _ _=>absurd y (t k)) (λ_ rs P=> ?_);have A:=P.none_ h;subst A;ac_rfl;refine⟨⟨by simp only[D3,HL];decide +kernel,by simp only[D3,HL];decide +kernel⟩, ?_⟩;rw[show (!HN (.tup [.str "clear", .tup (List.map YZ [])]) (.tup [.str "clear", .tup []]))=false by decide +kernel];ac_rfl;refine QJ D (rs:= []) (f:=YZ) hc e (.self _) (.self _) (.inl rfl) P s g (by omega) rP.self (.inl rfl) ?_;ac_rfl;refine v ?_;ac_rfl;refine MP D hc e (.self _) (.self _) (.inl rfl) x (by omega) j ?_;rw[n,show fK none= .non from rfl];ac_rfl;refine w ?_;ac_rfl;refine MP D hc e (.self _) (.self _) (.inl rfl) i (by omega) j ?_;rw[n];exact q
theorem Vb {e:Rat}:∀{rs:kj Rw} {b:Rat},rs≠ [] ->dX b e rs->∃r∈rs,r.e=e
 | [],_,h,_=>absurd rfl h
 | [r],_,_,h=>⟨r,by simp,h.2⟩
 | r::s::rs,_,_,h=>by obtain⟨x,hx,e⟩:=Vb (rs:=s::rs) (by simp) h.2;exact⟨x,by simp[hx],e⟩
theorem oY {o:T3}{k:Nat}{u:da}(h:1<=(Nu u:Rat)*Fw o k):1<=Dn o:=by
 have g:=(Zd o).1;have a:((Nu true:Int):Rat)=1:=rfl;have b:((Nu false:Int):Rat)= -1:=rfl;have m:∀x,x∈ [o.1, -o.1,o.2.1, -o.2.1,o.2.2, -o.2.2] ->1<=x->1<=Dn o:=λx hx h=>Rat.le_trans h (g x hx);unfold Fw at h;cases u
 .rw [b] at h;split at h
  .exact m (-o.1) (by simp) (by grind)
  .split at h
   .exact m (-o.2.1) (by simp) (by grind)
   .exact m (-o.2.2) (by simp) (by grind)
 .rw [a] at h;split at h
  .exact m o.1 (by simp) (by grind)
  .split at h
   .exact m o.2.1 (by simp) (by grind)
   .exact m o.2.2 (by simp) (by grind)
theorem bL {M W B:Nat}{rs:kj Rw}{m g:Rat}(D:El cs ds d M W)(c:∀m,¬Bw cs ds d m)(P:di cs ds d B rs)(a:CI cs ds d (En cs ds d) m g):1<=g/\rs≠ [] :=by
 obtain⟨p,hp,h1,h2⟩:=a.ex;have o:=D.pc p hp;have lo:=o.lo;have hi:=o.hi;have k:=o.lt;obtain⟨b,f⟩:=P.some_ (by grind);refine⟨?_,b⟩;rw[<-a.at_];by_cases h:m<Ax cs ds
 .refine AE3 λz=>c m ⟨by grind,h, ?_⟩;unfold Hm at z;grind
 .have e:m=Ax cs ds:=by grind
  obtain⟨r,i,j⟩:=Vb b f;have:=(P.ok r i).at1;rw[j,<-e] at this;exact oY this
theorem X4 {M W:Nat}{m g k:Rat}(D:El cs ds d M W)(a:Bw cs ds d k)(b:CI cs ds d (En cs ds d) m g):g<1:=by
 obtain⟨p,hp,h1,h2⟩:=D.cover a.1 a.2.1;have:=a.2.2;rcases b.le p hp k h1 (by grind) with z|⟨z,_⟩
 .unfold Hm at z;grind
 .unfold Hm at z;grind
theorem pj (n:Nat)(rs:kj Rw):D3 (n+3) (.tup (rs.map YZ))=true:=by simp only[D3];exact GU λx hx=>by obtain⟨r,_,rfl⟩:=ABG.mp hx;rfl
theorem X8 (n:Nat)(ss:kj BX):D3 (n+3) (.tup (ss.map BW))=true:=by simp only[D3];exact GU λx hx=>by obtain⟨r,_,rfl⟩:=ABG.mp hx;exact lI _ _
theorem X5 {g:Rat}:g.num<(g.den:Int)↔g<1:=by rw[Rat.lt_iff];show _↔g.num*1<1*(g.den:Int);omega
theorem O2 {M W B:Nat}{a:kj BX}{m g:Rat}(D:El cs ds d M W)(t:Told (Bw cs ds d) (3*M+3*W+6) a)(h:CI cs ds d (En cs ds d) m g)(hc:∀c∈cs,Dp B c)(l:∀c∈ds,Dp B c)(n:2*((3*M+3*W+6)+6*B+10)<=3980)(o:B<=3*M+3*W+6){Q:PV->Prop}(q:Q (.bl true)):Bi [Aq cs,Aq ds, .tup [fr d.1,fr d.2], .tup (a.map BW), .tup [fr g,fr m]] Q:=by
 apply Ir;ac_rfl;refine Pt D (.self _) (.self _) (.inl rfl) (by omega) (λk b bk _=> ?_) (λi rs P=> ?_)
 .cases a with
  | nil=>have:=(t.sem k).mpr b;cases this
  | cons s a=> ac_rfl;refine Zw (X8 _ (s::a)) ?_;ac_rfl;refine MW t (by omega) (bk.mono (by omega)) ?_;rw[(t.sem k).mpr b];have j:=X5.mpr (X4 D b h);ac_rfl;rw[ABQ j];exact q
 .cases a with
  | cons s a=> obtain⟨x,hx⟩:=t.fin s (by simp);exact absurd (Pi t hx) (i _)
  | nil=>
    ac_rfl;refine Zx ?_;ac_rfl;refine QJ D (f:=YZ) hc l (.self _) (.self _) (.inl rfl) P n o (by omega) rP.self (.inl rfl) ?_;obtain⟨j,p⟩:=bL D i P h;have u:(g.den:Int)<=g.num:=by have:=X5 (g:=g);grind
    ac_rfl
    .obtain ⟨r,e,rfl⟩:=AFo p;exact Zw (pj _ (r::e)) q
    .exact absurd u ‹_›
end
abbrev Ii:AS:=
 (AY (BE (Ff (Ah (AX GR (aV 8) (aC .non))) (Ah (AR 2 Aj (AB (aV 8) (AB (AX Ao (aV 5) (aC (.int 0))) AM))))) (Ak (aC (.bl false))) Av)
   (BE (Ff (Ah (AX KG (aV 7) (AX Ao (aV 5) (aC (.int 1))))) (Ff (Ah (AX KH (aV 8) (AX Ao (aV 5) (aC (.int 0))))) (Ew (Ah (AX GR (aV 8) (aC .non))) (Ah (AX (fC true) (aV 7) (aV 6)))))) (Ak (aC (.bl false))) Av))
abbrev Ih:AS:=
 (AY (BE (Ah (AX KH (Qt (AX GR (aV 8) (aC .non)) (AX ZW (AX Ao (aV 8) (aC (.int 0))) (AX Ao (aV 8) (aC (.int 1))))) (AR 2 E2 (AB (aV 4) (AB (aV 7) AM))))) (Ak (aC (.bl false))) Av)
   Ii)
abbrev L0:AS:=
 (AY (Am (AR 4 Ef (AB (aV 1) (AB (aV 2) (AB (aV 3) (AB (aV 7) AM))))) (An 8))
   Ih)
abbrev L1:AS:=
 (AY (Du (HM (AR 5 B3 (AB (aV 0) (AB (aV 1) (AB (aV 2) (AB (aV 4) (AB (aV 5) AM))))))) (An 7) L0)
   (Ak (aC (.bl true))))
abbrev JA:AS:=
 (AY (Am (FX (Ci (AB (AX Ao (AX Ao (aV 1) (TL Hl (aC (.int 1)))) (aC (.int 0))) (AB (AX Ao (AX Ao (aV 2) (TL Hl (aC (.int 1)))) (aC (.int 0))) AM)))) (An 6))
   L1)
def DR:AF:=Ap 9 JA
def Nr {a b c d e f:PV}{Q:PV->Prop}(h:JA ⟨λ_=>Q .non,Q,λ_=>False,λ_=>False⟩ [some (.val a),some (.val b),some (.val c),some (.val d),some (.val e),some (.val f),none,none,none]):DR [a,b,c,d,e,f] Q:=h
abbrev QW:AS:=
 (AY (Dv 7 Zu (AB (AR 3 C0 (AB (aV 9) (AB (aV 1) (AB (aV 2) AM)))) AM))
   (Dv 8 Ip (AB (AR 3 Dh (AB (aV 9) (AB (aV 1) (AB (aV 2) AM)))) AM)))
abbrev QY:AS:=
 (AY (dy 8 (Du (HM (aV 8)) (An 10) (BE (Ah (AR 2 Aj (AB (aV 10) (AB (AX Ao (aV 5) (aC (.int 0))) AM)))) (Ak (aC (.bl false))) Av)))
   (Ak (AX (fC false) (AX Ao (aV 5) (aC (.int 0))) (aV 8))))
abbrev QX:AS:=
 (AY (BE (RX (Ah (AX KH (AR 1 EL (AB (aV 7) AM)) (aV 4)))) (Ak (aC (.bl false))) Av)
   QY)
abbrev Ft:AS:=
 (AY (GN (C1 (wo 8) 1 [] (An 0) (Ah (AX GR (aV 0) (aC .non))) (AX Ao (aV 0) (aC (.int 0)))) 8)
   QX)
abbrev Iy:AS:=
 (AY (Du (HM (aV 6)) (An 9) (BE (Ah (AX GR (aV 9) (aC .non))) QW Av))
   Ft)
abbrev Iw:AS:=
 (AY (GN (Ci AM) 8)
   Iy)
abbrev Iv:AS:=
 (AY (GN (Ci AM) 7)
   Iw)
abbrev JK:AS:=
 (AY (Am (FX (Ci (AB (AR 3 GK (AB (aV 0) (AB (AX Ao (AX Ao (aV 0) (aC (.int 0))) (aC (.int 0))) (AB (aV 3) AM)))) (AB (AR 3 GK (AB (aV 0) (AB (aV 3) (AB (AX Ao (AX Ao (aV 0) (TL Hl (aC (.int 1)))) (aC (.int 0))) AM)))) AM)))) (An 6))
   Iv)
def FB:AF:=Ap 11 JK
def UN {a b c d e f:PV}{Q:PV->Prop}(h:JK ⟨λ_=>Q .non,Q,λ_=>False,λ_=>False⟩ [some (.val a),some (.val b),some (.val c),some (.val d),some (.val e),some (.val f),none,none,none,none,none]):FB [a,b,c,d,e,f] Q:=h
abbrev JS:AS:=
 (AY (Am (AR 2 Br (AB (AX Ao (AX Ao (aV 1) (aV 4)) (aC (.int 0))) (AB (AR 2 Bg (AB (AR 2 EE (AB (AX Ao (AX Ao (aV 1) (AX BL (aV 4) (aC (.int 1)))) (aC (.int 0))) (AB (AX Ao (AX Ao (aV 1) (aV 4)) (aC (.int 0))) AM))) (AB (aV 5) AM))) AM))) (An 6))
   (Ak (AR 6 FB (AB (aV 1) (AB (aV 2) (AB (aV 3) (AB (aV 6) (AB (aV 7) (AB (aV 8) AM)))))))))
abbrev JR:AS:=
 (AY (Am (AX Ao (FX (Ci (AB (Ay (AB (aC (.int 1)) (AB (aC (.int 2)) AM))) (AB (Ay (AB (aC (.int 0)) (AB (aC (.int 1)) AM))) (AB (Ay (AB (aC (.int 1)) (AB (aC (.int 5)) AM))) AM))))) (AR 2 BO (AB (aV 0) (AB (aC (.int 3)) AM)))) (An 5))
   JS)
abbrev JQ:AS:=
 (AY (Am (AR 2 BO (AB (aV 0) (AB (AX Ex (FZ FN (AB (aV 1) AM)) (aC (.int 1))) AM))) (An 4))
   JR)
abbrev JP:AS:=
 (AY (BE (Ah (AX mq (AR 2 BO (AB (aV 0) (AB (aC (.int 4)) AM))) (aC (.int 0)))) (Ak (aC (.bl true))) Av)
   JQ)
abbrev JO:AS:=
 (AY (BE (Ew (Ca (Ah (AR 5 Bi (AB (aV 1) (AB (aV 2) (AB (aV 3) (AB (aV 7) (AB (aV 8) AM)))))))) (Ca (Ah (AR 5 Bi (AB (aV 2) (AB (aV 1) (AB (aV 3) (AB (aV 7) (AB (aV 8) AM))))))))) (Ak (aC (.bl false))) Av)
   JP)
abbrev JN:AS:=
 (AY (BE (Ca (Ah (AR 6 DR (AB (aV 0) (AB (aV 1) (AB (aV 2) (AB (aV 3) (AB (aV 7) (AB (aV 8) AM))))))))) (Ak (aC (.bl false))) Av)
   JO)
abbrev JM:AS:=
 (AY (BE (Ah (AX Nf (aV 8) (aC .non))) (Ak (AR 4 Dq (AB (aV 1) (AB (aV 2) (AB (aV 3) (AB (aV 7) AM)))))) Av)
   JN)
abbrev JL:AS:=
 (AY (BE (Ew (Ah (AX KH (AR 3 C0 (AB (aV 2) (AB (aV 1) (AB (aV 3) AM)))) (aV 7))) (Ah (AX KH (AR 3 Dh (AB (aV 2) (AB (aV 1) (AB (aV 3) AM)))) (aV 8)))) (Ak (aC (.bl false))) Av)
   JM)
abbrev G8:AS:=
 (AY (TK 7 8 (AB (AR 3 C0 (AB (aV 1) (AB (aV 2) (AB (aV 3) AM)))) (AB (AR 3 Dh (AB (aV 1) (AB (aV 2) (AB (aV 3) AM)))) AM)))
   JL)
def Ck:AF:=Ap 9 G8
def LS {a b c d:PV}{Q:PV->Prop}(h:G8 ⟨λ_=>Q .non,Q,λ_=>False,λ_=>False⟩ [some (.val a),some (.val b),some (.val c),some (.val d),none,none,none,none,none]):Ck [a,b,c,d] Q:=h
abbrev NY:AS:=
 (AY (Am (AR 3 Ed (AB (aV 3) (AB (aV 4) (AB (aV 6) AM)))) (An 2))
   (Du (HM (Ay (AB (Ay (AB (aV 4) (AB (aV 5) AM))) (AB (Ay (AB (aV 4) (AB (aV 2) AM))) AM)))) (HD 2 (AZ (An 7) (AZ (An 8) BY))) (BE (Ca (Ah (AR 4 Ck (AB (aV 3) (AB (aV 7) (AB (aV 8) (AB (aV 6) AM))))))) (Ak (aC (.bl false))) Av)))
abbrev Sc:AS:=
 (AY (Am (AR 2 Ec (AB (aV 0) (AB (aV 1) AM))) (HD 4 (AZ (An 3) (AZ (An 4) (AZ (An 5) (AZ (An 6) BY))))))
   NY)
abbrev RM:AS:=
 (AY (Du (XO (AB (AX BL (aC (.int 1)) (FZ (tG min) (AB (aC (.int 2)) (AB (FZ FN (AB (aV 0) AM)) AM)))) AM)) (An 1) Sc)
   (Ak (aC (.bl true))))
def E4:AF:=Ap 9 RM
def Wa {a:PV}{Q:PV->Prop}(h:RM ⟨λ_=>Q .non,Q,λ_=>False,λ_=>False⟩ [some (.val a),none,none,none,none,none,none,none,none]):E4 [a] Q:=h
section
variable {cs ds:kj C4}{d:Rat×Rat}
theorem fM {M W:Nat}{m g k:Rat}(D:El cs ds d M W)(a:CI cs ds d (En cs ds d) m g)(h1:A4 cs ds<=k)(h2:k<Ax cs ds):¬Dn (ofs cs ds d k)<g:=by obtain⟨p,hp,b,c⟩:=D.cover h1 h2;rcases a.le p hp k b (by grind) with z|⟨z,_⟩ <;> (unfold Hm at z;grind)
theorem NH {M W:Nat}{m g:Rat}(D:El cs ds d M W)(a:CI cs ds d (En cs ds d) m g):A4 cs ds<=m/\m<=Ax cs ds/\A4 cs ds<Ax cs ds:=by obtain⟨p,hp,h1,h2⟩:=a.ex;have o:=D.pc p hp;have lo:=o.lo;have hi:=o.hi;have b:=o.lt;exact⟨by grind,by grind,by grind⟩
theorem nG {b:da}{Q:PV->Prop}(q:Q (.bl false)):KH (.bl b) (.bl b) Q:=by cases b <;> exact q
theorem j8 {n:Nat}{o:T3}(h:EN n o)(hn:1<=n):Bd n (Dn o):=by unfold Dn;exact(((jJ.mono hn).mx h.x.absR).mx h.y.absR).mx h.z.absR
theorem pD {x a b:Rat}{r:da}(h:(decide (x=a)||decide (x=b))=r){Q:PV->Prop}(q:Q (.bl (!r))):fC true (fr x) (.lst [fr a,fr b]) Q:=by refine⟨⟨rfl,rfl⟩, ?_⟩;rw[AAJ rfl];have e:bZ (fr x) [fr a,fr b] =(HN (fr a) (fr x)||(HN (fr b) (fr x)||false)):=rfl;rw[e,Fx,Fx,AEG,show decide (a=x)=decide (x=a) from AC6.mpr eq_comm,show decide (b=x)=decide (x=b) from AC6.mpr eq_comm,h];exact q
theorem lA {g:Rat}{Q:PV->Prop}(q:Q (.bl true)):KH .non (fr g) Q:=⟨⟨rfl,rfl⟩,q⟩
theorem dD {M W B X:Nat}{b:kj BX}{m g:Rat}(D:El cs ds d M W)(p:EA cs)(p2:EA ds)(C:B=28)(t:Told (Bw cs ds d) X b)(cl:b.length<=500)(u:CI cs ds d (En cs ds d) m g)(bm:Bd X m)(O:Bd 4000 g)(E:11<=X)(F:2*X+10+6*B+10<=3900){Q:PV->Prop}(q:Q (.bl true)):DR [.tape,Aq cs,Aq ds, .tup [fr d.1,fr d.2], .tup (b.map BW), .tup [fr g,fr m]] Q:=by
 subst C;obtain⟨a,r,l,G,P,H⟩:=open2 D.t1;obtain⟨S,r2,o,v,T,w⟩:=open2 D.t2;have x:cs.getLast?=some l:=by rw[G];exact H
 have i:ds.getLast?=some o:=by rw[v];exact w
 have I:Ax cs ds=mn l.1 o.1:=by unfold Ax;rw[Bn x,Bn i]
 apply Nr;ac_rfl;refine X0 p p2 t bm E (by omega) cl λms J=> ?_;ac_rfl;refine B6 fr (λK vs τ=>∃(c f:kc AV),τ= [some (.val .tape),some (.val (Aq cs)),some (.val (Aq ds)),some (.val (.tup [fr d.1,fr d.2])),some (.val (.tup (b.map BW))),some (.val (.tup [fr g,fr m])),some (.val (.lst [fr l.1,fr o.1])),c,f]) ?_ ?_ ⟨_,_,rfl⟩
 .rintro τ ⟨c,f,rfl⟩;ac_rfl;exact q
 .rintro K k vs e τ R A ⟨c,f,rfl⟩;have again:∀c f,R [some (.val .tape),some (.val (Aq cs)),some (.val (Aq ds)),some (.val (.tup [fr d.1,fr d.2])),some (.val (.tup (b.map BW))),some (.val (.tup [fr g,fr m])),some (.val (.lst [fr l.1,fr o.1])),c,f] :=λc f=>A _ ⟨c,f,rfl⟩;clear A;have bk:=J k (by rw[<-e];simp);ac_rfl;refine MP D p.ok.bd p2.ok.bd (.self _) (.self _) (.inl rfl) bk F (by decide) ?_;have j:=t.sem k;by_cases h:A4 cs ds<=k/\k<Ax cs ds
  .rw [show fJ cs ds d k=some (Dn (ofs cs ds d k)) from AAJ h,show fK (some (Dn (ofs cs ds d k)))=fr (Dn (ofs cs ds d k)) from rfl];have L:Bd 7910 (Dn (ofs cs ds d k)):=j8 ((ph (D.tog (by grind)) h.1 (by grind) D.r1 D.r2 p.ok.bd p2.ok.bd bk D.b1 D.b2 (by have:=D.p1;grind) (by have:=D.p2;grind)).mono (by omega)) (by decide);have y:b.any (A9 · (k,0))=decide ((Dn (ofs cs ds d k)).num<((Dn (ofs cs ds d k)).den:Int)):=by rw[AB6,j,AEJ,X5];exact⟨λz=>z.2.2,λz=>⟨h.1,h.2,z⟩⟩
   have N:=fM D u h.1 h.2;have at_:k=m->Dn (ofs cs ds d k)=g:=λz=>by rw[z];exact u.at_
   generalize Dn (ofs cs ds d k)=gp at *;ac_rfl;refine MW t (by omega) (bk.mono (by omega)) ?_;rw[y];refine nG ?_;ac_rfl;all_goals first | exact absurd ‹_› N|exact again _ _|exact absurd (at_ ‹_›) ‹_› | skip
  .rw [show fJ cs ds d k=none from AAH h,show fK none= .non from rfl];have y:b.any (A9 · (k,0))=false:=by rw[ADJ,ne_eq,j];exact λz=>h ⟨z.1,z.2.1⟩
   ac_rfl;refine MW t (by omega) (bk.mono (by omega)) ?_;rw[y];refine nG ?_;ac_rfl;all_goals first | exact again _ _|skip
   rename_i s;have s:k=m:=s;obtain⟨U,Y,Z⟩:=NH D u;have n:k=Ax cs ds:=by rw[s];rw[s] at h;grind
   refine lA ?_;ac_rfl;refine pD (r:=true) ?_ ?_
   .rw [I] at n;unfold mn at n;split at n
    .rw [ABQ n];rfl
    .rw [ABQ n];simp
   ac_rfl;exact again _ _
end
instance yM {xs a:kj PV}{b:kj PV->Prop}:Wp (Zu xs [.tup a] b) (xs.length+a.length<=sizeLine/\b (xs++a)):=⟨id⟩
def iX {a:C4}{r:kj C4}(c:Et (a::r))(d:r≠ []):sp (a::r) a.1=a:=by
 obtain⟨b,t,rfl⟩:=AFo d;have f:=(ABE.mp c).1 b (by simp);have e:spotC (a::b::t) a.1=some a.2:=by simp only[spotC,spotG];rw[AAH (by grind),AAH (by grind)];obtain⟨m,x,y,z⟩:=a;simp only[inter,Option.some.injEq,AEy];exact⟨by grind,by grind,by grind⟩
 simp only[sp,e,AEs]
structure Qp (cs hs:List C4) (b e:Rat):Prop where
 two:2<=hs.length
 few:hs.length<=14
 ris:Et hs
 fst:Fy hs=b
 lst:lstM hs=e
 spot:∀t,b<=t->t<=e->spotC hs t=spotC cs t
 bd:∀c∈hs,Dp 150 c
 mm:∀c∈hs,Bd 17 c.1
def Z4 {cs:kj C4}(p:EA cs){b e:Rat}(d:Bd 17 b)(f:Bd 17 e):(DJ cs b e).length<=14/\2<=(DJ cs b e).length/\(∀c∈DJ cs b e,Dp 150 c)/\∀c∈DJ cs b e,Bd 17 c.1:=by
 have g:=p.ok.few;have a:∀{t:Rat},Bd 17 t->Dp 150 (sp cs t):=λ{t} bt=>by
  unfold sp;cases e:spotC cs t with
  | none=>exact⟨bt.mono (by decide),jJ.mono (by decide),jJ.mono (by decide),jJ.mono (by decide)⟩
  | some q=> have:=IM bt p.ok.ris p.mb e;exact⟨bt.mono (by decide),this.x.mono (by decide),this.y.mono (by decide),this.z.mono (by decide)⟩
 unfold DJ;have h:=ACz (IU b e) cs;refine⟨by simp;omega,by simp,λc hc=> ?_,λc hc=> ?_⟩
 .rcases AAK.mp hc with rfl|hc
  .exact a d
  .rcases ABI.mp hc with hc|hc
   .exact (p.ok.bd c (ABX.mp hc).1).mono (by decide)
   .rcases ACU.mp hc with rfl;exact a f
 .rcases AAK.mp hc with rfl|hc
  .exact d
  .rcases ABI.mp hc with hc|hc
   .exact (p.mm c (ABX.mp hc).1).mono (by decide)
   .rcases ACU.mp hc with rfl;exact f
def tH {a l:C4}{r:kj C4}{m:Rat}(p:EA (a::r))(f:r≠ [])(g:(a::r).getLast?=some l)(h1:a.1<m)(h2:m<l.1)(bm:Bd 17 m):Qp (a::r) (DJ (a::r) a.1 m) a.1 m:=by
 have d:=p.ok.ris;have h:=(p.mm a (by simp)).mono (n:=17) (by decide);obtain⟨i,j,k,o⟩:=Z4 p h bm;have e:DJ (a::r) a.1 m=bM (a::r) m ++ [sp (a::r) m] :=by
  unfold DJ;rw[iX d f];have s:bM (a::r) m=a::r.filter (λc=>decide (c.1<m)):=by unfold bM;rw[ABg,AAJ (by simpa using h1)]
  have u:(a::r).filter (IU a.1 m)=r.filter (λc=>decide (c.1<m)):=by
   have v:¬a.1<a.1:=by grind
   rw[ABg,AAH (by unfold IU;simp[v])];refine List.filter_congr λc hc=> ?_;have:=(ABE.mp d).1 c hc;unfold IU;simp[this]
  rw[s,u];rfl
 refine⟨j,i, ?_, ?_, ?_,λt t1 t2=> ?_,k,o⟩
 .rw [e];have w:=cj (b:=m) d;have:Et ((bM (a::r) m ++ [sp (a::r) m])++zU (a::r) m):=by rw[ADo];exact w
  exact(ADk.mp this).1
 .unfold DJ;rfl
 .exact Bn (l:=sp (a::r) m) (by rw[e];exact List.getLast?_concat)
 .rw [e];exact cy d f g h1 h2 t2
def tI {a l:C4}{r:kj C4}{m:Rat}(p:EA (a::r))(j:r≠ [])(b:(a::r).getLast?=some l)(h1:a.1<=m)(h2:m<l.1)(bm:Bd 17 m):Qp (a::r) (DJ (a::r) m l.1) m l.1:=by
 have c:=p.ok.ris;have d:=(p.mm l (ACB b)).mono (n:=17) (by decide);obtain⟨f,g,h,i⟩:=Z4 p bm d;have e:=Ps c b h1 h2;refine⟨g,f, ?_, ?_, ?_,λt t1 t2=> ?_,h,i⟩
 .rw [e];exact Rz c
 .unfold DJ;rfl
 .exact Bn (by rw[e];exact P1 b)
 .rw [e];exact P3 c b h1 h2 t1
section
variable {cs ds hs:kj C4}{d:Rat×Rat}{b e:Rat}
theorem Qp.duo (H:Qp cs hs b e)(p:EA cs)(p2:EA ds)(b1:Bd 3 d.1)(b2:Bd 3 d.2)(f:0<d.1)(g:0<d.2):El hs ds d 17 280:=by
 refine fA (n:=14) (S:=138) (D:=3) (by decide) H.two p2.ok.two H.few (ABT p2.ok.few (by decide)) H.ris p2.ok.ris H.bd (λc hc=>(p2.ok.bd c hc).mono (by decide)) H.mm (λc hc=>(p2.mm c hc).mono (by decide)) b1 b2 f g (by decide) (by decide) (λm j k bm q a=> ?_) (λm _ _ bm q a=>(IM bm p2.ok.ris p2.mb a)) (by decide);have h:b<=m:=by have:Fy hs<=A4 hs ds:=(V9 _ _).2.1;rw[H.fst] at this;grind
 have i:m<=e:=by
  have:Ax hs ds<=lstM hs:=by unfold Ax mn;split <;> grind
  rw[H.lst] at this;grind
 rw[H.spot m h i] at a;exact IM bm p.ok.ris p.mb a
theorem Qp.ofs (H:Qp cs hs b e){t:Rat}(h1:b<=t)(h2:t<=e):ofs hs ds d t=PL.ofs cs ds d t:=by unfold PL.ofs;rw[H.spot t h1 h2]
theorem Hw {x y z:Rat}:mx x y<=z↔x<=z/\y<=z:=by unfold mx;split <;> grind
theorem NM {x y z:Rat}:z<mn x y↔z<x/\z<y:=by unfold mn;split <;> grind
theorem V6 {x y z:Rat}:z<=mn x y↔z<=x/\z<=y:=by unfold mn;split <;> grind
theorem Qp.near (H:Qp cs hs b e)(h1:Fy cs<=b)(h2:e<=lstM cs){t:Rat}:Bw hs ds d t↔Bw cs ds d t/\b<=t/\t<e:=by
 unfold Bw A4 Ax;rw[H.fst,H.lst,Hw,Hw,NM,NM];constructor
 .rintro ⟨⟨c,f⟩,⟨h,g⟩,a⟩;rw[H.ofs c (by grind)] at a;exact⟨⟨⟨by grind,f⟩,⟨by grind,g⟩,a⟩,c,h⟩
 .rintro ⟨⟨⟨c,f⟩,⟨h,g⟩,a⟩,i,j⟩;refine⟨⟨i,f⟩,⟨j,g⟩, ?_⟩;rw[H.ofs i (by grind)];exact a
theorem WP {b e:Rat}:∀{ps:kj Pc} {b:Rat},ps≠ [] ->sT b e ps->∃p∈ps,p.e=e
 | [],_,h,_=>absurd rfl h
 | [p],_,_,h=>⟨p,by simp,h.2⟩
 | p::q::ps,_,_,h=>by obtain⟨x,hx,e⟩:=WP (b:=b) (ps:=q::ps) (by simp) h.2;exact⟨x,by simp[hx],e⟩
theorem VX {M W:Nat}{m g k:Rat}(D:El cs ds d M W)(a:CI cs ds d (En cs ds d) m g)(h1:A4 cs ds<=k)(h2:k<=Ax cs ds):g<=Hm cs ds d k:=by
 by_cases h:k<Ax cs ds
 .have:=fM D a h1 h;unfold Hm;grind
 .have f:k=Ax cs ds:=by grind
  obtain⟨i,c,_⟩:=a.ex;obtain⟨p,hp,j⟩:=WP (b:=0) (List.ne_nil_of_mem c) (gr (NH D a).2.2);have l:=(D.pc p hp).lt;rcases a.le p hp k (by grind) (by grind) with z|⟨z,_⟩ <;> grind
theorem WQ {M W:Nat}(D:El cs ds d M W)(h:En cs ds d= []):¬A4 cs ds<Ax cs ds:=λz=>by obtain⟨p,hp,_⟩:=D.cover (m:=A4 cs ds) ABZ z;rw[h] at hp;cases hp
theorem UM {xs ys:kj BX}(h:xs=ys){Q:PV->Prop}(q:Q (.bl false)):KH (.tup (xs.map BW)) (.tup (ys.map BW)) Q:=by
 subst h;refine⟨⟨X8 27 _,X8 27 _⟩, ?_⟩;have e:HN (.tup (xs.map BW)) (.tup (xs.map BW))=true:=by have:=Vg xs xs;rw[ABQ rfl] at this;exact this
 rw[e];exact q
theorem Xn {g:Rat}{a:kj Rat}(h:g∈a){Q:PV->Prop}(q:Q (.bl true)):fC false (fr g) (.lst (a.map fr)) Q:=by
 refine⟨⟨rfl,GU λx hx=> ?_⟩, ?_⟩
 .obtain ⟨y,_,rfl⟩:=ABG.mp hx;rfl
 .rw [AAH (by decide)];have e:bZ (fr g) (a.map fr)=true:=by unfold bZ;rw[AEI];refine⟨fr g,ABG.mpr ⟨g,h,rfl⟩, ?_⟩;rw[Fx,ABQ rfl]
  rw[e];exact q
theorem LK:(En cs ds d).length<=cs.length+ds.length+1:=by
 unfold En;split
 .rw [OE];have:=NA (cs:=cs) (ds:=ds) (b:=A4 cs ds) (e:=Ax cs ds);unfold NV;omega
 .simp
def dM:kc (Rat×Rat)->PV
 | none=> .non
 | some x=> .tup [fr x.1,fr x.2]
def vX (hs ds:kj C4)(d:Rat×Rat):kc (Rat×Rat)->Prop
 | none=>¬A4 hs ds<Ax hs ds
 | some x=>CI hs ds d (En hs ds d) x.2 x.1/\Bd 4000 x.1
theorem Tt {M W:Nat}(D:El cs ds d M W)(hW:W<=440){Q:PV->Prop}(q:∀o,vX cs ds d o->Q (dM o)):Dh [Aq cs,Aq ds, .tup [fr d.1,fr d.2]] Q:=
 Jp D hW (.self _) (.self _) (.inl rfl) (λh=>q none (WQ D h)) λm g h _ a=>q (some (g,m)) ⟨h,a⟩
def kE (os:kj (kc (Rat×Rat))):kj Rat:=(os.filter (·.isSome)).map λo=>(o.getD (0,0)).1
theorem K8 {os:kj (kc (Rat×Rat))}{g:Rat}:g∈kE os↔∃m,some (g,m)∈os:=by
 unfold kE;rw[ABG];constructor
 .rintro ⟨o,a,rfl⟩;obtain⟨h1,h2⟩:=ABX.mp a;cases o with
  | none=>cases h2
  | some x=>exact⟨x.2,h1⟩
 .rintro ⟨m,h⟩;exact⟨some (g,m),ABX.mpr ⟨h,rfl⟩,rfl⟩
theorem e6 {X:Nat}{c ss:kj BX}{os:kj (kc (Rat×Rat))}{g m m0:Rat}{f h a:kc AV}{D:G6}(ok:∀s∈c,B4 X s)(j:c.length<=400)(k:X<=4000)(l:canon 1 c=canon 1 ss)(ol:os.length<=2)(n:∀x∈kE os,g<=x/\Bd 4000 x)(mem:g∈kE os)(u:Bd 4000 g)(q:D.rt (.bl true)):Ft D [some (.val (Aq cs)),some (.val (Aq ds)),some (.val (.tup [fr d.1,fr d.2])),some (.val (fr m0)),some (.val (.tup ((canon 1 ss).map BW))),some (.val (.tup [fr g,fr m])),f,some (.own (c.map BW)),some (.own (os.map dM)),h,a] :=by
 obtain⟨nx,rt,bk,ct⟩:=D;have q:rt (.bl true):=q;ac_rfl;refine EQ dM (λo=>fr (o.getD (0,0)).1) (λo=>o.isSome) (λ_=>True) (λo _ R N h1 h2=> ?_) os [] (λ_ _=>trivial) ?_
 .cases o with
  | none=> show Ah _ _ _;ac_rfl;exact h2 rfl
  | some x=> ac_rfl;exact h1 rfl
 .rw [ACE];have e:(os.filter (λo=>o.isSome)).map (λo=>fr (o.getD (0,0)).1)=(kE os).map fr:=by unfold kE;rw[ACa];rfl
  rw[e];have gl:(kE os).length<=2:=by unfold kE;rw[ABL];exact ABT (ACz _ _) ol
  generalize kE os=gs at *;ac_rfl;refine NU (.inr rfl) (R3 c) ok j k ?_;rw[l];ac_rfl;refine UM rfl ?_;ac_rfl;refine B6 fr (λp vs τ=>∃f i h a,τ= [some (.val (Aq cs)),some (.val (Aq ds)),some (.val (.tup [fr d.1,fr d.2])),some (.val (fr m0)),some (.val (.tup ((canon 1 ss).map BW))),some (.val (.tup [fr g,fr m])),f,i,some (.val (.lst (gs.map fr))),h,a]) ?_ ?_ ⟨_,_,_,_,rfl⟩
  .rintro τ ⟨f,i,h,a,rfl⟩;ac_rfl;exact Xn mem q
  .rintro p x vs r τ R t ⟨f,i,h,a,rfl⟩;obtain⟨v,w⟩:=n x (by rw[<-r];simp);ac_rfl
   .exfalso;rename_i z;have z:x<g:=z;grind
   .exact t _ ⟨_,_,_,_,rfl⟩
theorem N6 {W M i j:Nat}{m g h g':Rat}(D:El cs ds d M W)(l:El hs ds d j i)(H:Qp cs hs b e)(h1:Fy cs<=b)(h2:e<=lstM cs)(n:CI cs ds d (En cs ds d) m g)(a:CI hs ds d (En hs ds d) h g'):g<=g':=by obtain⟨c,f,o⟩:=NH l a;unfold A4 at c;unfold Ax at f;rw[H.fst,Hw] at c;rw[H.lst,V6] at f;rw[<-a.at_];have:=VX D n (k:=h) (by unfold A4;rw[Hw];grind) (by unfold Ax;rw[V6];grind);unfold Hm at this ⊢;rw[H.ofs c.1 f.1];exact this
theorem Te {W M j l:Nat}{m g n g':Rat}(D:El cs ds d M W)(f:El hs ds d l j)(H:Qp cs hs b e)(h1:Fy cs<=b)(h2:e<=lstM cs)(c:CI cs ds d (En cs ds d) m g)(a:CI hs ds d (En hs ds d) n g')(o:b<=m)(p:m<=e):g'=g:=by have r:=N6 D f H h1 h2 c a;obtain⟨h,i,s⟩:=NH D c;unfold A4 at h;unfold Ax at i;rw[Hw] at h;rw[V6] at i;have:=VX f a (k:=m) (by unfold A4;rw[H.fst,Hw];grind) (by unfold Ax;rw[H.lst,V6];grind);have at_:=c.at_;unfold Hm at this at_;rw[H.ofs o p,at_] at this;grind
end
section
variable {a l:C4}{r ds:kj C4}{d:Rat×Rat}
theorem oQ {W X:Nat}{ss:kj BX}{m g m0:Rat}(D:El (a::r) ds d 11 W)(p:EA (a::r))(p2:EA ds)(K:r≠ [])(C:(a::r).getLast?=some l)(b1:Bd 3 d.1)(b2:Bd 3 d.2)(g1:0<d.1)(g2:0<d.2)(n:ZD (a::r) ds d X ss)(o:CI (a::r) ds d (En (a::r) ds d) m g)(bg:Bd 4000 g)(s:a.1<=m0)(L:m0<l.1)(bm:Bd 17 m0){Q:PV->Prop}(q:Q (.bl true)):FB [Aq (a::r),Aq ds, .tup [fr d.1,fr d.2],fr m0, .tup ((canon 1 ss).map BW), .tup [fr g,fr m]] Q:=by
 have few:=p.ok.few;have P:=p.ok.bd a (by simp);have R:=p.ok.bd l (ACB C);have e:=tI p K C s L bm;have j:=e.duo p p2 b1 b2 g1 g2;have b:Fy (a::r)=a.1:=rfl;have c:lstM (a::r)=l.1:=Bn C;have f2:=p2.ok.few;obtain⟨E,G,i⟩:=NH D o;unfold A4 at E i;unfold Ax at G i;rw[b] at E i;rw[c] at G i;rw[Hw] at E;rw[V6] at G;rw[NM] at i;apply UN;unfold JK Iv Iw Iy;generalize eT:Ft=T;ac_rfl;refine Kq (BI.self _) p.ok.bd p.ok.ris K C (by omega) (M:=28) P.m (bm.mono (by decide)) P.m R.m (by decide) ?_;ac_rfl;refine Kq (BI.self _) p.ok.bd p.ok.ris K C (by omega) (M:=28) (bm.mono (by decide)) R.m P.m R.m (by decide) ?_;have e1:Rx (LI (a::r) (mx m0 a.1) (mn l.1 l.1))=Aq (DJ (a::r) m0 l.1):=by rw[show mx m0 a.1=m0 by unfold mx;split <;> grind,show mn l.1 l.1=l.1 by unfold mn;split <;> grind];unfold LI;rw[AAJ L];rfl
 rw[e1];by_cases ha:a.1<m0
 .have u:=tH p K C ha L bm;have N:=u.duo p p2 b1 b2 g1 g2;have S:Rx (LI (a::r) (mx a.1 a.1) (mn m0 l.1))=Aq (DJ (a::r) a.1 m0):=by rw[show mx a.1 a.1=a.1 by unfold mx;split <;> grind,show mn m0 l.1=m0 by unfold mn;split <;> grind];unfold LI;rw[AAJ ha];rfl
  rw[S];generalize DJ (a::r) a.1 m0=h1 at *;generalize DJ (a::r) m0 l.1=h2 at *;have tQ:=u.few;have rX:=e.few;have pl1:=LK (cs:=h1) (ds:=ds) (d:=d);have U:=LK (cs:=h2) (ds:=ds) (d:=d);repeat' array_get_dec
  refine C8 N (.self _) (.self _) (.inl rfl) λO n1=> ?_;have c1:=FJ (n:=1) (ss:=O);have d1:=n1.pf;repeat' array_get_dec
  refine Tt N (by decide) λY H=> ?_;repeat' array_get_dec
  refine C8 j (.self _) (.self _) (.inl rfl) λk I=> ?_;have c2:=FJ (n:=1) (ss:=k);have d2:=I.pf;repeat' array_get_dec
  refine Tt j (by decide) λA f=> ?_;repeat' array_get_dec
  subst eT;have t1:=n1.told;have t2:=I.told;have Z: [] ++ List.map BW (canon 1 O)++List.map BW (canon 1 k)=(canon 1 O++canon 1 k).map BW:=by simp
  have e4: [] ++ [dM Y] ++ [dM A] = [Y,A].map dM:=rfl;rw[Z,e4];have ok:∀x∈canon 1 O++canon 1 k,B4 (3*17+3*280+6) x:=λx hx=>by
   rcases ABI.mp hx with h|h
   .exact t1.ok x h
   .exact t2.ok x h
  refine e6 ok (by rw[AB9];omega) (by decide) (IV ok n.ok λt=> ?_) (by simp) (λx hx=> ?_) ?_ bg q
  .rw [AB6,AFR,ADI,t1.sem,t2.sem,n.sem,u.near (by rw[b];exact ABZ) (by rw[c];grind),e.near (by rw[b];exact s) (by rw[c];exact ABZ)];constructor
   .rintro (h|h) <;> exact h.1
   .intro h;have F:=h.1;have B:=h.2.1;unfold A4 at F;unfold Ax at B;rw[b,Hw] at F;rw[c,NM] at B;by_cases z:t<m0
    .exact .inl ⟨h,F.1,z⟩
    .exact .inr ⟨h,by grind,B.1⟩
  .obtain ⟨mm,J⟩:=K8.mp hx;simp only[AAK,ABR,ABS] at J;rcases J with h|h
   .rw [<-h] at H;exact⟨N6 D N u (by rw[b];exact ABZ) (by rw[c];grind) o H.1,H.2⟩
   .rw [<-h] at f;exact⟨N6 D j e (by rw[b];exact s) (by rw[c];exact ABZ) o f.1,f.2⟩
  .by_cases z:m<m0\/(m=m0/\mx a.1 (Fy ds)<m0)
   .cases Y with
    | none=>
      exfalso;refine H ?_;unfold A4 Ax;rw[u.fst,u.lst,NM];refine⟨?_,i.2⟩;rcases z with z|z
      .have:=(Hw (x:=a.1) (y:=Fy ds) (z:=m)).mpr E;grind
      .exact z.2
    | some x=> have:=Te D N u (by rw[b];exact ABZ) (by rw[c];grind) o H.1 E.1 (by grind);exact K8.mpr ⟨x.2,by rw[<-this];simp⟩
   .cases A with
    | none=>
      exfalso;refine f ?_;have w:=(Hw (x:=a.1) (y:=Fy ds) (z:=m)).mpr E;unfold A4 Ax;rw[e.fst,e.lst,NM];have y1:mx a.1 (Fy ds)<l.1:=i.1;have y2:mx a.1 (Fy ds)<lstM ds:=i.2;have y3:Fy ds<=mx a.1 (Fy ds):=(V9 _ _).2.2;have e5:∀v,m0<v->mx a.1 (Fy ds)<v->mx m0 (Fy ds)<v:=λv v1 v2=>by unfold mx;split <;> grind
      refine⟨e5 _ L y1, ?_⟩;by_cases z2:m=m0
      .refine e5 _ ?_ y2;grind
      .exact e5 _ (by grind) y2
    | some x=> have:=Te D j e (by rw[b];exact s) (by rw[c];exact ABZ) o f.1 (by grind) G.1;exact K8.mpr ⟨x.2,by rw[<-this];simp⟩
 .have ea:m0=a.1:=by grind
  have S:Rx (LI (a::r) (mx a.1 a.1) (mn m0 l.1))= .non:=by rw[show mx a.1 a.1=a.1 by unfold mx;split <;> grind,show mn m0 l.1=m0 by unfold mn;split <;> grind];unfold LI;rw[AAH ha];rfl
  rw[S];generalize DJ (a::r) m0 l.1=h2 at *;have rX:=e.few;have U:=LK (cs:=h2) (ds:=ds) (d:=d);repeat' array_get_dec
  refine C8 j (.self _) (.self _) (.inl rfl) λk I=> ?_;have c2:=FJ (n:=1) (ss:=k);have d2:=I.pf;repeat' array_get_dec
  refine Tt j (by decide) λA f=> ?_;repeat' array_get_dec
  subst eT;have t2:=I.told;have Z: [] ++ List.map BW (canon 1 k)=(canon 1 k).map BW:=rfl;have e4: [] ++ [dM A] = [A].map dM:=rfl;rw[Z,e4];refine e6 t2.ok (by omega) (by decide) (IV t2.ok n.ok λt=> ?_) (by simp) (λx hx=> ?_) ?_ bg q
  .rw [AB6,t2.sem,n.sem,e.near (by rw[b];exact s) (by rw[c];exact ABZ)];constructor
   .exact λh=>h.1
   .intro h;have F:=h.1;have B:=h.2.1;unfold A4 at F;unfold Ax at B;rw[b,Hw] at F;rw[c,NM] at B;exact⟨h,by grind,B.1⟩
  .obtain ⟨mm,J⟩:=K8.mp hx;simp only[AAK,ABR,ABS] at J;rw[<-J] at f;exact⟨N6 D j e (by rw[b];exact s) (by rw[c];exact ABZ) o f.1,f.2⟩
  .cases A with
   | none=> exfalso;refine f ?_;unfold A4 Ax;rw[e.fst,e.lst,NM,ea];exact i
   | some x=> have:=Te D j e (by rw[b];exact s) (by rw[c];exact ABZ) o f.1 (by grind) G.1;exact K8.mpr ⟨x.2,by rw[<-this];simp⟩
end
def cI {a b t:Rat}(ha:Mul 6 2000 a)(hb:Mul 6 2000 b)(hs:t=1/2\/t=0\/t=1/5):Bd 17 (a+(b-a)*t):=by
 obtain⟨_,k,rfl,hk⟩:=ha;obtain⟨_,j,rfl,hj⟩:=hb;have e:∀i:Int,Rat.divInt i ((6:Nat):Int)=(i:Rat)/6:=λi=>AEL ..;have go:∀c:Int,c.natAbs<=5->((k:Rat)/6+((j:Rat)/6-(k:Rat)/6)*((c:Rat)/10))=Rat.divInt (10*k+c*(j-k)) 60:=λc hc=>by rw[AEL,AFS,ADZ,ADZ,ADb];show _=((10:Rat)*(k:Rat)+(c:Rat)*((j:Rat)-(k:Rat)))/(60:Rat);grind
 have d:∀c:Int,c.natAbs<=5->Bd 17 (Rat.divInt (10*k+c*(j-k)) 60):=λc hc=>by
  refine .divInt (by decide) ?_ (by decide);have h1:(c*(j-k)).natAbs<=5*4000:=by rw[AFI];exact AE0 hc (by omega)
  have h2:(10*k).natAbs<=20000:=by omega
  have:=Int.natAbs_add_le (10*k) (c*(j-k));omega
 rw[e,e];rcases hs with rfl|rfl|rfl
 .rw [show (1/2:Rat)=((5:Int):Rat)/10 by decide +kernel,go 5 (by decide)];exact d 5 (by decide)
 .rw [show (0:Rat)=((0:Int):Rat)/10 by decide +kernel,go 0 (by decide)];exact d 0 (by decide)
 .rw [show (1/5:Rat)=((2:Int):Rat)/10 by decide +kernel,go 2 (by decide)];exact d 2 (by decide)
def Rl {cs ds:kj C4}{d:Rat×Rat}{m:Rat}:Hm ds cs d m=Hm cs ds d m:=by unfold Hm ofs;rw[Vk]
def mS {cs ds:kj C4}:NV ds cs=NV cs ds:=by
 have a:A4 ds cs=A4 cs ds:=by unfold A4;rw[OC]
 have b:Ax ds cs=Ax cs ds:=by unfold Ax;rw[OB]
 unfold NV;rw[a,b];refine OL Dm Dm λx=> ?_;have o:∀c:C4,(c∈ds\/c∈cs)↔(c∈cs\/c∈ds):=λc=>or_comm;rw[DH,DH];simp only[o]
def gt {cs ds:kj C4}{d:Rat×Rat}:(En ds cs d).map (λp=>(p.b,p.e))=(En cs ds d).map (λp=>(p.b,p.e)):=by
 unfold En;have a:A4 ds cs=A4 cs ds:=by unfold A4;rw[OC]
 have c:Ax ds cs=Ax cs ds:=by unfold Ax;rw[OB]
 rw[a,c,mS];split
 .unfold LJ;rw[ACa,ACa];rfl
 .rfl
def Zm {cs ds:kj C4}{d:Rat×Rat}{p:Pc}(h:p∈En ds cs d):∃q∈En cs ds d,q.b=p.b/\q.e=p.e:=by
 have:(p.b,p.e)∈(En cs ds d).map (λp=>(p.b,p.e)):=by rw[<-gt];exact ABG.mpr ⟨p,h,rfl⟩
 obtain⟨q,hq,e⟩:=ABG.mp this;simp at e;exact⟨q,hq,e.1,e.2⟩
def ay {cs ds:kj C4}{d:Rat×Rat}{m g:Rat}(h:CI ds cs d (En ds cs d) m g):CI cs ds d (En cs ds d) m g:=by obtain⟨p,hp,c,e⟩:=h.ex;obtain⟨q,hq,a,b⟩:=Zm hp;refine⟨⟨q,hq,by rw[a];exact c,by rw[b];exact e⟩,by rw[<-Rl];exact h.at_,λp hp k h1 h2=> ?_⟩;obtain⟨q,hq,a,b⟩:=Zm hp;rw[<-Rl];exact h.le q hq k (by rw[a];exact h1) (by rw[b];exact h2)
def eB {cs ds:kj C4}{d:Rat×Rat}{c:kj Pc}{m g k h:Rat}(a:CI cs ds d c m g)(b:CI cs ds d c k h):m=k/\g=h:=by obtain⟨p,hp,e,f⟩:=a.ex;obtain⟨q,hq,i,j⟩:=b.ex;have l:=a.le q hq k i j;have n:=b.le p hp m e f;rw[b.at_] at l;rw[a.at_] at n;grind
def c6 {P:Rat->Prop}{B C:Nat}{a:kj BX}(t:Told P B a)(h:B<=C):Told P C a:=⟨λs hs=>(t.ok s hs).mono h,t.fin,t.few,t.sem⟩
def k9 {Q:PV->Prop}(q:Q (.bl false)):KH .non .non Q:=q
section
variable {cs ds:kj C4}{d:Rat×Rat}
theorem uR {o:kc (Rat×Rat)}{Q:PV->Prop}(q:Q (.bl false)):KH (dM o) (dM o) Q:=by
 cases o with
 | none=>exact q
 | some x=> refine⟨⟨rfl,rfl⟩, ?_⟩;have e:HN (dM (some x)) (dM (some x))=(HN (fr x.1) (fr x.1)&&(HN (fr x.2) (fr x.2)&&true)):=rfl;rw[e,Fx,Fx,ABQ rfl,ABQ rfl];exact q
theorem pZ {o a:kc (Rat×Rat)}(h:vX cs ds d o)(h':vX cs ds d a){M W:Nat}(D:El cs ds d M W):o=a:=by
 cases o with
 | none=>
   cases a with
   | none=>rfl
   | some y=>exact absurd (NH D h'.1).2.2 h
 | some x=>
   cases a with
   | none=>exact absurd (NH D h.1).2.2 h'
   | some y=> obtain⟨b,c⟩:=eB h.1 h'.1;exact congrArg some (ADP (by first | exact c|exact b|exact c.symm|exact b.symm) (by first | exact b|exact c|exact b.symm|exact c.symm))
theorem UL {i j:Nat}{c e:C4}{cs:kj C4}(h:Et cs)(a:i<j)(hc:cs[i]? =some c)(he:cs[j]? =some e):c.1<e.1:=by obtain⟨b,rfl⟩:=ABc.mp hc;obtain⟨f,rfl⟩:=ABc.mp he;exact AFM.mp h i j b f a
theorem WU (w:JF cs)(p2:EA ds)(b1:Bd 3 d.1)(b2:Bd 3 d.2)(z:0<d.1)(A:0<d.2){Q:PV->Prop}(q:Q (.bl true)):Ck [.tape,Aq cs,Aq ds, .tup [fr d.1,fr d.2]] Q:=by
 have p:=w.y;have D:=sn p p2 b1 b2 z A;have b:=sn p2 p b1 b2 z A;have K:=p.ok.few;have two:=p.ok.two;have X:=LK (cs:=cs) (ds:=ds) (d:=d);have f2:=p2.ok.few;apply LS;ac_rfl;refine C8 D (.self _) (.self _) (.inl rfl) λss n=> ?_;have t:=n.told;have cl:=FJ (n:=1) (ss:=ss);have Y:=n.pf;ac_rfl;refine Jp D (by decide) (.self _) (.self _) (.inl rfl) (λh=> ?_) λm g c bm j=> ?_
 .have v:=WQ D h;ac_rfl;refine C8 b (.self _) (.self _) (.inl rfl) λL i=> ?_;ac_rfl;refine UM (IV i.ok n.ok λk=>by rw[AB6,i.sem,n.sem,Mc]) ?_;ac_rfl;refine Jp b (by decide) (.self _) (.self _) (.inl rfl) (λh'=> ?_) λm g c bm j=> ?_
  .have M:canon 1 ss= [] :=by
    cases e:canon 1 ss with
    | nil=>rfl
    | cons s Z=> rw[e] at t;obtain⟨x,hx⟩:=t.fin s (by simp);have:=Pi t hx;exact absurd (by have z1:=this.1;have z2:=this.2.1;grind) v
   rw[M];ac_rfl;refine k9 ?_;ac_rfl;exact gN D p.ok.bd p2.ok.bd (by decide) (by decide) v (by decide) (by decide) q
  .exfalso;have:=(NH b c).2.2;unfold A4 Ax at this v;rw[OC,OB] at this;exact v this
 .have C:vX ds cs d (some (g,m)):=⟨ay c,j⟩;ac_rfl;refine C8 b (.self _) (.self _) (.inl rfl) λL i=> ?_;ac_rfl;refine UM (IV i.ok n.ok λk=>by rw[AB6,i.sem,n.sem,Mc]) ?_;ac_rfl;refine Tt b (by decide) λo N=> ?_;have O:=pZ N C b;subst O;ac_rfl;refine uR (o:=some (g,m)) ?_;ac_rfl;refine dD D p p2 rfl (c6 t (by decide)) (by omega) c bm j (by decide) (by decide) ?_;ac_rfl;refine O2 D t c p.ok.bd p2.ok.bd (by decide) (by decide) ?_;ac_rfl;have t':Told (Bw ds cs d) (3*11+3*268+6) (canon 1 ss):=⟨t.ok,t.fin,t.few,λk=>by rw[t.sem,Mc]⟩;refine O2 b t' C.1 p2.ok.bd p.ok.bd (by decide) (by decide) ?_;ac_rfl
  .exact q
  refine F0 (xs:= [1/2,0,1/5]) (by assumption) (by assumption) λf xR=> ?_;have B:f=1/2\/f=0\/f=1/5:=by simpa using xR
  have P:Bd 3 f:=by rcases B with rfl|rfl|rfl <;> exact⟨by decide +kernel,by decide +kernel⟩
  have E:0<=f/\f<1:=by rcases B with rfl|rfl|rfl <;> exact⟨by decide +kernel,by decide +kernel⟩
  ac_rfl;rename_i F k0 k1 _ _ _ c1 G m1 c2 R m2 c3 H m3;rw[G] at H;cases H;have S:=w.mu c1 m1;have T:=w.mu c2 m2;have w1:=p.mm c1 m1;have w2:=p.mm c2 m2;have U:=cI S T B;have lt:c1.1<c2.1:=UL p.ok.ris (show F.toNat<(F+1).toNat by omega) G R;obtain⟨a,r,l,rfl,W,I⟩:=open2 two;have al:a.1<=c1.1:=by
   rcases AAK.mp m1 with rfl|h
   .exact ABZ
   .have:=(ABE.mp p.ok.ris).1 c1 h;grind
  have ll:c2.1<=l.1:=by
   obtain⟨u,hu⟩:=List.getLast?_eq_some_iff.mp I;rw[hu] at m2;rcases ABI.mp m2 with h|h
   .have J:=p.ok.ris;rw[hu] at J;have:=(ADk.mp J).2.2 c2 h l (by simp);grind
   .rcases ACU.mp h with rfl;exact ABZ
  have v1:=AC1 (show 0<=c2.1-c1.1 by grind) E.1;have v2:=ADq E.2 (show 0<c2.1-c1.1 by grind);ac_rfl;refine oQ D p p2 W I b1 b2 z A n c j (by grind) (by grind) U q
theorem gB (a:kj Int)(hn:a.length<=63):E4 [.scr a] λx=>x= .bl true:=by
 apply Wa;repeat' array_get_dec
 refine Za (λi τ=>∃b c e f g h j k,τ= [some (.val (.scr a)),b,c,e,f,g,h,j,k]) ?_ ?_ ⟨_,_,_,_,_,_,_,_,rfl⟩
 .rintro τ ⟨b,c,e,f,g,h,j,k,rfl⟩;repeat' array_get_dec
 .rintro i hi τ R l ⟨b,c,e,f,g,h,j,k,rfl⟩;have m:(0:Int)+i=i:=by omega
  rw[m];ac_rfl;refine eU (by omega) λcs ds d p p2 b1 b2 o r=> ?_;ac_rfl;refine kq p b1 b2 λes n=> ?_;repeat' array_get_dec
  refine WU p p2.y b1 b2 (by grind) (by grind) ?_;repeat' array_get_dec
  refine WU p n b1 b2 (by grind) (by grind) ?_;repeat' array_get_dec
  exact l _ ⟨_,_,_,_,_,_,_,_,rfl⟩
end
end PL.K85
section
namespace K85
open PySem L2 PL PL.K85 PyProof.Rows
def C9 {N Q:kj Str}{s:Scope}(a:s.kind= .function:=by rfl)(b:s.isCoroutine=false:=by rfl)(c:s.isGenerator=false:=by rfl)(d:N.Nodup:=by decide +kernel)(e:N.take Q.length=Q:=by rfl)(f:∀x∈Q,s.names.lookup x=some .local\/s.names.lookup x=some .cell:=by decide +kernel)(g:∀y∈s.names,y.2≠ .free:=by decide +kernel):Ev N Q s:=⟨a,b,c,d,e,f,g⟩
section
variable (P:Wf)(w:Tb)(K:AAG)(Z:Str->kc ki)(Y:Sr)(n:Nat)
abbrev Cc:=Has P w K Z Y n "_law_draw" ["_law_tape_here","_law_many"] (Cf K 2 BO)
abbrev TY:=Has P w K Z Y n "_law_apart" ["_law_tape_here"] (Cf K 1 DD)
abbrev Ei:=Has P w K Z Y n "_law_part" ["_law_top","_law_bottom"] (Cf K 2 BK)
abbrev ES:=Has P w K Z Y n "_law_sum" ["_law_one","_law_other"] (Cf K 2 Br)
abbrev TZ:=Has P w K Z Y n "_law_moved" ["_law_plan_here","_law_late","_law_by"] (Cf K 3 Bk)
abbrev PM:=Has P w K Z Y n "_law_off" ["_law_one","_law_other"] (Cf K 2 EE)
abbrev Gj:=Has P w K Z Y n "_law_place" ["_law_tape_here"] (Cf K 1 A5)
abbrev Ho:=Has P w K Z Y n "_law_span" ["_law_tape_here"] (Cf K 1 CV)
abbrev NK:=Has P w K Z Y n "_law_plan" ["_law_tape_here"] (Cf K 1 CJ)
abbrev Dy:=Has P w K Z Y n "_law_product" ["_law_one","_law_other"] (Cf K 2 Bg)
abbrev Q0:=Has P w K Z Y n "_law_beside" ["_law_tape_here","_law_plan_here","_law_apart_here"] (Cf K 3 DO)
abbrev Vo:=Has P w K Z Y n "_law_tape" ["_law_script","_law_k"] (Cf K 2 Ot)
abbrev Vm:=Has P w K Z Y n "_law_case" ["_law_script","_law_k"] (Cf K 2 Ec)
abbrev Vn:=Has P w K Z Y n "_law_mild" ["_law_tape_here","_law_plan_here","_law_apart_here"] (Cf K 3 Ed)
abbrev Fi:=Has P w K Z Y n "_law_less" ["_law_one","_law_other"] (Cf K 2 Aj)
abbrev B7:=Has P w K Z Y n "before" ["one","other"] (Cf K 2 Aj)
abbrev PP:=Has P w K Z Y n "gap_by_share" ["bottom","lines","share"] (Cf K 3 CK)
abbrev MS:=Has P w K Z Y n "meeting_shares" ["lines"] (Cf K 1 CL)
abbrev PN:=Has P w K Z Y n "common" ["one","other"] (Cf K 2 GH)
abbrev MT:=Has P w K Z Y n "part" ["top","bottom"] (Cf K 2 Gc)
abbrev N5:=Has P w K Z Y n "minus" ["one","other"] (Cf K 2 Ds)
abbrev Xi:=Has P w K Z Y n "plus" ["one","other"] (Cf K 2 Hf)
abbrev Td:=Has P w K Z Y n "times" ["one","other"] (Cf K 2 Fe)
abbrev Hq:=Has P w K Z Y n "moment_at" ["begin","end","share"] (Cf K 3 CY)
abbrev Xf:=Has P w K Z Y n "least_in" ["piece"] (Cf K 1 EG)
abbrev Ng:=Has P w K Z Y n "shared_bottom" ["numbers"] (Cf K 1 Cm)
abbrev Xg:=Has P w K Z Y n "lines_of" ["first","last"] (Cf K 2 FC)
abbrev Xh:=Has P w K Z Y n "over" ["one","other"] (Cf K 2 Gb)
abbrev Rr:=Has P w K Z Y n "size_of" ["apart","side"] (Cf K 2 EK)
abbrev PX:=Has P w K Z Y n "spot_between" ["former","latter","m"] (Cf K 3 Dt)
abbrev MU:=Has P w K Z Y n "spot_at" ["plan","m"] (Cf K 2 Di)
abbrev Rp:=Has P w K Z Y n "offs_at" ["one","other","apart","m"] (Cf K 4 EI)
abbrev MR:=Has P w K Z Y n "greater" ["one","other"] (Cf K 2 BR)
abbrev PR:=Has P w K Z Y n "lesser" ["one","other"] (Cf K 2 Eg)
abbrev Jl:=Has P w K Z Y n "together" ["one","other"] (Cf K 2 Cz)
abbrev Fj:=Has P w K Z Y n "corners_between" ["plan","begin","end"] (Cf K 3 Bj)
abbrev Q4:=Has P w K Z Y n "count_below" ["numbers","number"] (Cf K 2 DS)
abbrev Vr:=Has P w K Z Y n "rising" ["numbers"] (Cf K 1 GL)
abbrev Zf:=Has P w K Z Y n "turns" ["one","other","begin","end"] (Cf K 4 IR)
abbrev PU:=Has P w K Z Y n "pieces" ["one","other","apart"] (Cf K 3 FD)
abbrev Ro:=Has P w K Z Y n "nearest" ["one","other","apart"] (Cf K 3 Dh)
abbrev Vp:=Has P w K Z Y n "corner_at" ["plan","m"] (Cf K 2 Ee)
abbrev bU:=Has P w K Z Y n "part_of" ["plan","begin","end"] (Cf K 3 GK)
abbrev Xj:=Has P w K Z Y n "steps_of" ["stretches"] (Cf K 1 IQ)
abbrev fT:=Has P w K Z Y n "levels" ["stretches"] (Cf K 1 He)
abbrev bQ:=Has P w K Z Y n "counted" ["stretches","n"] (Cf K 2 E3)
abbrev PY:=Has P w K Z Y n "told_set" ["stretches"] (Cf K 1 EL)
abbrev bT:=Has P w K Z Y n "near_in" ["piece"] (Cf K 1 GJ)
abbrev Jm:=Has P w K Z Y n "too_near" ["one","other","apart"] (Cf K 3 C0)
abbrev Xe:=Has P w K Z Y n "_law_cut" ["_law_one","_law_other","_law_apart_here","_law_m","_law_near","_law_least"] (Cf K 6 FB)
abbrev Vq:=Has P w K Z Y n "gap_at" ["one","other","apart","m"] (Cf K 4 Ef)
abbrev bS:=Has P w K Z Y n "longest" ["bottom","lines"] (Cf K 2 E5)
abbrev fU:=Has P w K Z Y n "row_of" ["begin","end","at"] (Cf K 3 FE)
abbrev bV:=Has P w K Z Y n "rows_of" ["piece"] (Cf K 1 GM)
abbrev Zg:=Has P w K Z Y n "whole" ["n"] (Cf K 1 IS)
abbrev Rq:=Has P w K Z Y n "parting" ["one","other","apart"] (Cf K 3 E6)
abbrev kJ:=Has P w K Z Y n "holds" ["one","other","apart","row"] (Cf K 4 Ko)
abbrev PQ:=Has P w K Z Y n "is_whole" ["thing"] (Cf K 1 Cg)
abbrev bR:=Has P w K Z Y n "is_part" ["thing"] (Cf K 1 EF)
abbrev fS:=Has P w K Z Y n "is_row" ["thing"] (Cf K 1 GI)
abbrev HE:=Has P w K Z Y n "shows_parting" ["one","other","apart","paper"] (Cf K 4 B0)
abbrev Ta:=Has P w K Z Y n "_law_never" ["_law_one","_law_other","_law_apart_here","_law_near"] (Cf K 4 Dq)
abbrev Rn:=Has P w K Z Y n "_law_in" ["_law_found","_law_m"] (Cf K 2 E2)
abbrev K9:=Has P w K Z Y n "_law_told_apart" ["_law_one","_law_other","_law_apart_here","_law_near","_law_least"] (Cf K 5 Bi)
abbrev Q1:=Has P w K Z Y n "_law_middle" ["_law_one","_law_other"] (Cf K 2 DP)
abbrev Q2:=Has P w K Z Y n "_law_rising" ["_law_moments_here"] (Cf K 1 DQ)
abbrev PK:=Has P w K Z Y n "_law_moments" ["_law_tape_here","_law_one","_law_other","_law_near","_law_least"] (Cf K 5 B3)
abbrev Q3:=Has P w K Z Y n "_law_walked" ["_law_tape_here","_law_one","_law_other","_law_apart_here","_law_near","_law_least"] (Cf K 6 DR)
abbrev Tc:=Has P w K Z Y n "_law_right" ["_law_tape_here","_law_one","_law_other","_law_apart_here"] (Cf K 4 Ck)
end
section
variable {P:Wf}{w:Tb}{K:AAG}{Z:Str->kc ki}{Y:Sr}{n m:Nat}{f:kd}{U:FuncData}
theorem LX:Ev ["_law_tape_here","_law_many","_law_once","_law_found"] ["_law_tape_here","_law_many"] (BS Fo):=C9
theorem Tx (F:XD K "_law_draw" "_law_draw" Fo f U):FF P w K Z Y VL (n+1) f U ["_law_tape_here","_law_many"] (Cf K 2 BO):=by
 have l:=LX.nd;refine F.ok LX (λvs H Q E h=> ?_) (λv A outer s H vs Q E I h=> ?_)
 .obtain ⟨T,M,xs,y,_,_,r,hl,_⟩:=h;rw[r.length,hl] <;> rfl
 obtain⟨T,M,xs,y,va,_,r,hl,e,hQ⟩:=h;unfold BO at e;split at e <;> first | exact e.elim|skip
 rename_i m;obtain⟨⟨m0,m1⟩,e⟩:=e;cases r with
 | cons r k=>
 cases k with
 | cons r2 k=>
 cases k;cases r2;cases r with
 | tape tp=>
 rename_i p;obtain⟨d,x,hp,o,z,B⟩:=va.tp p tp;refine⟨_,(CA (Z9 (OH nI (NO Fk (pv 0) BF (λ_ _=>rfl)) BF (Bx _)) (CA (F3 (i:=3) l rfl (Or.inl rfl) (CN Gr (NO Fk (pv 0) BF (λ_ _=>rfl)) (pv 1)))
  (CA (UI (CN gf (NO Fk (pv 0) BF (λ_ _=>rfl)) (pv 1)) (YS (pv 0) BF QI))
  (Fm (Py (pv 3))))) OG)
  (CA (UI (CN Gr (CN Jt (CN IY (NO Fk (pv 0) BF (λ_ _=>rfl)) BF) BF) BF) (YS (pv 0) BF QI))
  (CA (F3 (i:=2) l rfl (Or.inl rfl) (CN Gr (CN IY (NO Fk (pv 0) BF (λ_ _=>rfl)) (CN Jt (CN Gr (NO Fk (pv 0) BF (λ_ _=>rfl)) BF) BF)) BF))
  (Fm (Py (CN Gr (CN Gr (CN IY (pv 2) (CN Jt (CN Gr (pv 2) BF) BF)) BF) (pv 1))))))), ?_⟩
 have g:∀(r d' j:Int),0<=r->r<m->0<=d'->0<=j->j<2147483647->Q (.int r) (upd H p (.lst [.int d', .int j])):=λr d' j C r1 a b c=>
  hQ _ (.int r) T _ (i8 va.tp tp a b c) (.int r) (e r C r1)
 refine⟨_,rfl,p,_,_,_,rfl,rfl,FY.of hp,rfl,_,_,rfl,rfl,_,rfl, ?_⟩;refine uB (λc=> ?_) (λc=> ?_)
 .refine ⟨_,rfl,p,_,_,_,rfl,rfl,FY.of hp,rfl,_,rfl,_,_,rfl,rfl,m0, ?_⟩;refine⟨_,rfl,p,_,_,_,rfl,rfl,FY.of hp,rfl,_,rfl,_,_,rfl,rfl,⟨m0,by omega⟩, ?_⟩;refine⟨_,rfl,p,_,_,_,rfl,rfl,hp,rfl, ?_⟩;exact⟨_,rfl,g _ _ _ (AEP _ (by omega)) (AEQ _ m0) (Int.ediv_nonneg o (by omega)) z B⟩
 .refine ⟨_,rfl,p,_,_,_,rfl,rfl,FY.of hp,rfl,_,_,rfl,rfl, .inl (.inr ⟨by decide,by decide⟩),_,_,rfl,rfl,_,_,rfl,rfl,(show (0:Int)<2147483647 by decide), ?_⟩;refine⟨_,rfl,p,_,_,_,rfl,rfl,hp,rfl, ?_⟩;have t:0<=(x*48271+12345) % 2147483647:=AEP _ (by decide);have y1:(x*48271+12345) % 2147483647<2147483647:=AEQ _ (by decide);have u:upd H p (.lst ([V.int d,V.int x].set (Int.toNat 1) (V.int ((x*48271+12345) % 2147483647)))) p=some (.lst [.int d, .int ((x*48271+12345) % 2147483647)]):=Al;have D:0<=(x*48271+12345) % 2147483647*((x*48271+12345) % 2147483647 % 1009+3) % 2147483629:=AEP _ (by decide);have G:(x*48271+12345) % 2147483647*((x*48271+12345) % 2147483647 % 1009+3) % 2147483629<2147483629:=AEQ _ (by decide);refine⟨_,rfl,p,_,_,_,rfl,rfl,FY.of u,rfl,_,rfl,p,_,_,_,rfl,rfl,FY.of u,rfl,_,_,rfl,rfl,(show (0:Int)<1009 by decide),_,_,rfl,rfl,_,_,rfl,rfl, .inl (.inl (QM t y1)),_,_,rfl,rfl,(show (0:Int)<2147483629 by decide), ?_⟩;refine⟨_,rfl,_,rfl,_,_,rfl,rfl,(show (0:Int)<997 by decide),_,_,rfl,rfl,_,_,rfl,rfl, .inl (.inl (QM D (Int.lt_trans G (by decide)))),_,_,rfl,rfl,(show (0:Int)<998244353 by decide),_,rfl,_,_,rfl,rfl,m0, ?_⟩;exact g _ _ _ (AEP _ (by omega)) (AEQ _ m0) o t y1
theorem DL {P:Wf}{w:Tb}{K:AAG}{Z:Str->kc ki}{Y:Sr}{x q:Str}{st:Stmt}{f:kd}{U:FuncData}{N:kj Str}{k n:Nat}{b:AS}(F:XD K x q st f U)(S:Ev N (N.take n) (BS st))(hn:n=(N.take n).length)(h:∀(v:ki) (A:Sl) (o:kj Env) (s:kf) (H:Hp) (E:XK),Room k (A.deeper (envOfC q (BS st) s.heap.objs.size f v))->N.Nodup->jI (Vf VL P w K Z Y N q (BS st) f v A o s H E).nox (EZ st) b):FF P w K Z Y VL (k+1) f U (N.take n) (Cf K n (Ap N.length b)):=
 j4 F S hn λv A o s H E r=>h v A o s H E r S.nd
abbrev Z1 (K:AAG)(x:Str)(s:Stmt)(f:kd)(d:FuncData):=XD K x x s f d
abbrev Z2 (P:Wf)(w:Tb)(K:AAG)(Z:Str->kc ki)(b:Sr)(n:Nat)(f:kd)(d:FuncData)(N:kj Str)(k:Nat)(F:AF):=FF P w K Z b VL (n+1) f d (N.take k) (Cf K k F)
theorem Q8 (F:Z1 K "_law_apart" Gu f U)(a:Cc P w K Z Y n):Z2 P w K Z Y n f U ["_law_tape_here","_law_some"] 1 DD:=DL F C9 rfl λ_ _ _ _ _ _ b c=>(AL (CC 1 c (CU (A8 (Aw (Ab (Ar AJ AJ)) (Aw (Ab (Ar AJ AJ)) (DA (Ab (Ar AJ AJ)) (Ab (Ar AJ AJ)) (Ab (Ar AJ AJ)))))))) (AN (AU (Ab (Ar (Aa (AH 1) (AK a b rfl (Ar (AH 0) AJ))) (Aa (AH 1) (AK a b rfl (Ar (AH 0) AJ))))))))
theorem T9 (F:Z1 K "_law_part" IF f U)(b:Z "abs" =none)(c:Z "int" =none):Z2 P w K Z Y n f U ["_law_top","_law_bottom","_law_sign","_law_one","_law_other"] 2 BK:=DL F C9 rfl λ_ _ _ _ _ _ _ a=>(AL (QQ (i:=3) (j:=4) rfl a rfl rfl (by decide) rfl rfl (Ar (BA M6 rfl b ADK (BZ (AH 0))) (BA M6 rfl b ADK (BZ (AH 1)))) rfl) (AL (Le ABN (DN R9 (AH 4) AJ) (AN (QQ (i:=3) (j:=4) rfl a rfl rfl (by decide) rfl rfl (Ar (AH 4) (Ad Yp (AH 3) (AH 4))) rfl))) (AL (CC 2 a (Ad Bt AJ (Ad BP AJ (BV Yj rfl c boot_int (BZ (CT Fq (AH 1) AJ (Bx _))))))) (AN (AU (Ab (Ar (Ad Ez (Ad BP (AH 2) (AH 0)) (AH 3)) (Ad Ez (Ad BP (AH 2) (AH 1)) (AH 3)))))))))
theorem WE (F:Z1 K "_law_sum" Jy f U)(a:Ei P w K Z Y n):Z2 P w K Z Y n f U ["_law_one","_law_other"] 2 Br:=DL F C9 rfl λ_ _ _ _ _ _ b _=>(AN (AU (AK a b rfl (Ar (Ad A2 (Ad BP (Aa (AH 0) AJ) (Aa (AH 1) AJ)) (Ad BP (Aa (AH 1) AJ) (Aa (AH 0) AJ))) (Ad BP (Aa (AH 0) AJ) (Aa (AH 1) AJ))))))
theorem Q9 (F:Z1 K "_law_moved" Gv f U)(c:ES P w K Z Y n)(g:Z "range" =none)(d:Z "tuple" =none):Z2 P w K Z Y n f U ["_law_plan_here","_law_late","_law_by"] 3 Bk:=by
 have a:(["_law_one","_law_late","_law_by"] :kj Str).Nodup:=by decide +kernel
 have b:(["_law_k","_law_one","_law_by"] :kj Str).Nodup:=by decide +kernel
 exact DL F C9 rfl λ_ _ _ _ _ _ e _=>(AN (AU (BV CS rfl d ABy (BZ (CU (iN rfl (DG (AH 0)) (ju (own:=1) (ix:= [1,2]) (N:= ["_law_one","_law_late" ,"_law_by" ]) "_law_one" rfl rfl (λ_ _=>rfl) (λ_=>rfl) rfl rfl rfl rfl rfl (λ_ _ _ _ _ _=>(aO (i:=0) a rfl (Or.inr rfl) (by decide))) (λ_ _ _ _ _ _=>CB) (λ_ _ _ _ _ _=>(Ad A2 (Ab (BZ (AK c e rfl (Ar (Aa (AH 0) AJ) (AH 1))))) (BV CS rfl d ABy (BZ (CU (DZ rfl (Wm rfl g (BZ AJ)) (Db (own:=1) (ix:= [0,2]) (N:= ["_law_k","_law_one" ,"_law_by" ]) rfl rfl rfl rfl rfl rfl (λ_ _ _ _ _ _=>(Nv 0 b)) (λ_ _ _ _ _ _=>CB) (λ_ _ _ _ _ _=>(AK c e rfl (Ar (Aa (AH 1) (Ad A2 (AH 0) AJ)) (Aa (AH 2) (AH 0)))))))))))))))))))
theorem WD (F:Z1 K "_law_off" Jx f U)(a:Ei P w K Z Y n):Z2 P w K Z Y n f U ["_law_one","_law_other"] 2 EE:=DL F C9 rfl λ_ _ _ _ _ _ b _=>(AN (AU (AK a b rfl (Ar (Ad Bt (Ad BP (Aa (AH 0) AJ) (Aa (AH 1) AJ)) (Ad BP (Aa (AH 1) AJ) (Aa (AH 0) AJ))) (Ad BP (Aa (AH 0) AJ) (Aa (AH 1) AJ))))))
theorem RB (F:Z1 K "_law_place" Gx f U)(b:Cc P w K Z Y n)(c:Ei P w K Z Y n):Z2 P w K Z Y n f U ["_law_tape_here","_law_kind"] 1 A5:=DL F C9 rfl λ_ _ _ _ _ _ a d=>(AL (CC 1 d (AK b a rfl (Ar (AH 0) AJ))) (AL (Au (DN Fq (AH 1) AJ) (AN (AU (Ab (Ar (Ad Bt (AK b a rfl (Ar (AH 0) AJ)) AJ) AJ)))) Ag) (AL (Au (DN (C5 a) (AH 1) AJ) (AN (AU (AK c a rfl (Ar (Ad Bt (AK b a rfl (Ar (AH 0) AJ)) AJ) AJ)))) Ag) (AN (AU (AK c a rfl (Ar (Ad Bt (AK b a rfl (Ar (AH 0) AJ)) AJ) AJ)))))))
theorem UB (F:Z1 K "_law_span" IH f U)(b:Cc P w K Z Y n)(c:Ei P w K Z Y n):Z2 P w K Z Y n f U ["_law_tape_here","_law_way"] 1 CV:=DL F C9 rfl λ_ _ _ _ _ _ a d=>(AL (CC 1 d (AK b a rfl (Ar (AH 0) AJ))) (AL (Au (DN Fq (AH 1) AJ) (AN (AU (Ab (Ar (Ad A2 AJ (AK b a rfl (Ar (AH 0) AJ))) AJ)))) Ag) (AN (AU (AK c a rfl (Ar (Ad A2 AJ (AK b a rfl (Ar (AH 0) AJ))) (Ad Bt (AH 1) AJ)))))))
theorem UA (F:Z1 K "_law_plan" IG f U)(d:Cc P w K Z Y n)(c:Gj P w K Z Y n)(e:Ho P w K Z Y n)(g:ES P w K Z Y n)(h:Z "len" =none)(j:Z "tuple" =none):Z2 P w K Z Y n f U ["_law_tape_here","_law_many","_law_m","_law_spot_here","_law_corners","_law_way"] 1 CJ:=DL F C9 rfl λ_ _ _ _ _ _ a b=>(AL (CC 1 b (Ad A2 AJ (AK d a rfl (Ar (AH 0) AJ)))) (AL (Au (DN (C5 a) (AK d a rfl (Ar (AH 0) AJ)) AJ) (AN (CC 1 b (Aa (CU (A8 (Aw AJ (DA AJ AJ AJ)))) (AK d a rfl (Ar (AH 0) AJ))))) Ag) (AL (CC 2 b (Ab (Ar (AK d a rfl (Ar (AH 0) AJ)) AJ))) (AL (CC 3 b (CU (A8 (DA (AK c a rfl (BZ (AH 0))) (AK c a rfl (BZ (AH 0))) (AK c a rfl (BZ (AH 0))))))) (AL (Dg (i:=4) b rfl (Or.inl rfl) (A8 (BZ (Ab (Aw (AH 2) (DA (Aa (AH 3) AJ) (Aa (AH 3) AJ) (Aa (AH 3) AJ))))))) (AL (Le ABN (DN Fq (BA D6 rfl h AB1 (BZ (AH 4))) (AH 1)) (AL (CC 2 b (AK g a rfl (Ar (AH 2) (AK e a rfl (BZ (AH 0)))))) (AL (CC 5 b (AK d a rfl (Ar (AH 0) AJ))) (AL (Au (DN R9 (AH 5) AJ) (AN (CC 3 b (CU (A8 (DA (AK c a rfl (BZ (AH 0))) (AK c a rfl (BZ (AH 0))) (AK c a rfl (BZ (AH 0)))))))) (AN (Au (DN R9 (AH 5) AJ) (AN (CC 3 b (Ad A2 (Ad A2 (JJ (AH 3) jP (jQ (Ad Bt (AH 5) AJ))) (CU (A8 (BZ (AK c a rfl (BZ (AH 0))))))) (JJ (AH 3) (jQ (AH 5)) jP)))) Ag))) (AN (Cj (i:=4) ACL ACN B2 (BZ (Ab (Aw (AH 2) (DA (Aa (AH 3) AJ) (Aa (AH 3) AJ) (Aa (AH 3) AJ))))))))))) (AN (AU (BV CS rfl j ABy (BZ (AH 4)))))))))))
theorem Nj (F:Z1 K "_law_product" FR f U)(a:Ei P w K Z Y n):Z2 P w K Z Y n f U ["_law_one","_law_other"] 2 Bg:=DL F C9 rfl λ_ _ _ _ _ _ b _=>(AN (AU (AK a b rfl (Ar (Ad BP (Aa (AH 0) AJ) (Aa (AH 1) AJ)) (Ad BP (Aa (AH 0) AJ) (Aa (AH 1) AJ))))))
theorem Pk (F:Z1 K "_law_beside" F4 f U)(c:Cc P w K Z Y n)(e:TZ P w K Z Y n)(l:PM P w K Z Y n)(g:Gj P w K Z Y n)(h:NK P w K Z Y n)(o:Dy P w K Z Y n)(j:Ho P w K Z Y n)(p:ES P w K Z Y n)(r:Z "int" =none)(k:Z "len" =none)(s:Z "reversed" =none)(t:Z "tuple" =none)(u:Z "zip" =none):Z2 P w K Z Y n f U ["_law_tape_here","_law_plan_here","_law_apart_here","_law_way","_law_by","_law_side","_law_other","_law_k","_law_spot_here"] 3 DO:=by
 have d:(["_law_one","_law_other"] :kj Str).Nodup:=by decide +kernel
 exact DL F C9 rfl λ_ _ _ _ _ _ a b=>(AL (CC 3 b (AK c a rfl (Ar (AH 0) AJ))) (AL (Dg (i:=4) b rfl (Or.inl rfl) (A8 (DA (Ab (Ar AJ AJ)) (Ab (Ar AJ AJ)) (Ab (Ar AJ AJ))))) (AL (CC 5 b (AK c a rfl (Ar (AH 0) AJ))) (AL (ie (i:=4) (AH 5) (Aa (AH 2) (BV Yj rfl r boot_int (BZ (CT (C5 a) (AH 5) AJ (Bx _)))))) (AL (Au (DN (C5 a) (AH 3) AJ) (AN (ie (i:=4) (AH 5) (UZ (AK o a rfl (Ar (Aa (AH 4) (AH 5)) (Aa (CU (A8 (DA (Ab (Ar AJ AJ)) (Ab (Ar (Dd AJ) AJ)) (Ab (Ar (Dd AJ) AJ))))) (AK c a rfl (Ar (AH 0) AJ)))))))) Ag) (AL (Au (DN Fq (AH 3) AJ) (AN (AU (AK e a rfl (DA (AH 1) (Ab (Ar AJ AJ)) (AH 4))))) Ag) (AL (Au (DN (C5 a) (AH 3) AJ) (AN (AU (AK e a rfl (DA (AH 1) (Aa (CU (A8 (Ar (AK j a rfl (BZ (AH 0))) (Ab (Ar AJ AJ))))) (AK c a rfl (Ar (AH 0) AJ))) (AH 4))))) Ag) (AL (Au (DN (C5 a) (AH 3) AJ) (AN (AU (BV CS rfl t ABy (BZ (CU (DZ rfl (u8 rfl u rfl s (AH 1) (AH 1)) (Db (own:=2) (ix:= []) (N:= ["_law_one","_law_other" ]) rfl rfl rfl rfl rfl rfl (λ_ _ _ _ _ _=>(M7 (n:=2) rfl (Cn (Nv 0 d) (Cn (Nv 1 d) Ic)))) (λ_ _ _ _ _ _=>CB) (λ_ _ _ _ _ _=>(Ad A2 (Ab (BZ (Aa (AH 0) AJ))) (JJ (AH 1) (jQ AJ) jP)))))))))) Ag) (AL (Au (DN (C5 a) (AH 3) AJ) (AL (CC 6 b (AK h a rfl (BZ (AH 0)))) (AN (AU (AK e a rfl (DA (AH 6) (AK l a rfl (Ar (Aa (Aa (AH 1) (Dd AJ)) AJ) (Aa (Aa (AH 6) AJ) AJ))) (CU (A8 (DA (Ab (Ar AJ AJ)) (Ab (Ar AJ AJ)) (Ab (Ar AJ AJ)))))))))) Ag) (AL (Au (DN (C5 a) (AH 3) AJ) (AL (CC 7 b (AK c a rfl (Ar (AH 0) (BA D6 rfl k AB1 (BZ (AH 1)))))) (AL (CC 8 b (Ab (DA (AK g a rfl (BZ (AH 0))) (AK g a rfl (BZ (AH 0))) (AK g a rfl (BZ (AH 0)))))) (AN (AU (Ad A2 (Ad A2 (JJ (AH 1) jP (jQ (AH 7))) (Ab (BZ (Ad A2 (JJ (Aa (AH 1) (AH 7)) jP (jQ AJ)) (AH 8))))) (JJ (AH 1) (jQ (Ad A2 (AH 7) AJ)) jP)))))) Ag) (AL (Au (DN (C5 a) (AH 3) AJ) (AL (CC 8 b (JJ (Aa (AH 1) (AK c a rfl (Ar (AH 0) (BA D6 rfl k AB1 (BZ (AH 1)))))) (jQ AJ) jP)) (AN (AU (Ab (Ar (Ad A2 (Ab (BZ (Aa (Aa (AH 1) AJ) AJ))) (AH 8)) (Ad A2 (Ab (BZ (AK p a rfl (Ar (Aa (Aa (AH 1) (Dd AJ)) AJ) (AK j a rfl (BZ (AH 0))))))) (AH 8))))))) Ag) (AN (AU (AK h a rfl (BZ (AH 0))))))))))))))))
theorem LY:Ev ["_law_script","_law_k","_law_cell","_law_digits"] ["_law_script","_law_k"] (BS Fp):=C9
theorem UC (F:XD K "_law_tape" "_law_tape" Fp f U)(o:Z "abs" =none)(u:Z "int" =none)(v:Z "len" =none):FF P w K Z Y VL (n+1) f U ["_law_script","_law_k"] (Cf K 2 Ot):=by
 have j:=LY.nd;refine F.ok LY (λvs H Q E h=> ?_) (λx A outer s H vs Q E B h=> ?_)
 .obtain ⟨T,M,xs,y,_,_,r,hl,_⟩:=h;rw[r.length,hl] <;> rfl
 obtain⟨T,M,xs,y,va,_,r,hl,e,hQ⟩:=h;unfold Ot at e;split at e <;> first | exact e.elim|skip
 rename_i d k;obtain⟨⟨C,D⟩,e⟩:=e;cases r with
 | cons r l=>
 cases l with
 | cons r2 l=>
 cases l;cases r2;obtain⟨a,rfl,t⟩:=iL r;refine⟨_,(CA (F3 (i:=2) j rfl (Or.inl rfl) BF)
  (CA (Z9 (OH nJ (pv 1) (LL K2 rfl v AB1 (Bf (pv 0) EU)) (Bx _)) (Fm (F3 (i:=2) j rfl (Or.inl rfl) (NO Fk (pv 0) (pv 1) (λ_ _=>rfl)))) OG)
  (CA (F3 (i:=3) j rfl (Or.inl rfl) (CN IY (LL O8 rfl o ADK (Bf (pv 2) EU)) (Mj Rf rfl u PyProof.Rows.boot_int (Bf (Z7 nH (LL O8 rfl o ADK (Bf (pv 2) EU)) (CN qC BF BF) (Bx _)) EU))))
  (Fm (Py (gx (Bf (pv 3) (Bf (CN Gr (CN IY (CN Gr (CN Jt (CN Jt (pv 2) (CN IY BF (pv 1))) BF) BF) BF) BF) EU)))))))), ?_⟩
 have hl:(d.map V.int).length=d.length:=ABL _;have g:∀(c:Int) (p:kd),H p=none->Q (.ref p) (upd H p (.lst [.int ((if c<0 then -c else c)*(if decide ((10:Int)^18<=(if c<0 then -c else c)) then 1 else 0)), .int ((c+7919*k+1) % 2147483647*48271 % 2147483647)])):=λc p hp=>
  hQ _ .tape (λb=>T b\/b=p) _ (iy va.tp hp (Int.mul_nonneg (by split <;> omega) (b01 _)) (AEP _ (by decide)) (AEQ _ (by decide))) (.tape (.inr rfl)) e
 refine⟨_,rfl,_,rfl,a,_,rfl, .inl t,_,_,rfl,rfl,_,rfl, ?_⟩;refine uB (λc=> ?_) (λc=> ?_)
 .have z:k<(((d.map V.int).length:Nat):Int):=ABx c;rw[hl] at z;have hk:k.toNat<d.length:=by omega
  have hv:Je (d.map V.int) k=some (.int d[k.toNat]):=by
   have q:Je (d.map V.int) ((k.toNat:Nat):Int)=some (.int d[k.toNat]):=DE (by rw[ABw,ABf hk] <;> rfl)
   rwa [show ((k.toNat:Nat):Int)=k by omega] at q
  refine⟨_,rfl,_,rfl,a,_,_,_,rfl,rfl,t,hv, ?_⟩;refine⟨_,rfl,_,rfl,_,rfl,_,rfl,_,_,rfl,rfl,⟨by decide,by decide,by decide⟩,_,_,rfl,rfl, .inr ⟨_,rfl,_,_,rfl,rfl, .inl (.inr (zV _)), ?_⟩⟩;exact⟨_,rfl,_,rfl,_,rfl,_,_,rfl,rfl, .inl (.inl ⟨by decide,by decide⟩),_,_,rfl,rfl,_,_,rfl,rfl,_,_,rfl,rfl,(show (0:Int)<2147483647 by decide),_,_,rfl,rfl, .inl (.inr ⟨by decide,by decide⟩),_,_,rfl,rfl,(show (0:Int)<2147483647 by decide),(show 2<=sizeLine by decide),λp hp=>g _ p hp⟩
 .refine ⟨_,rfl,_,rfl,_,rfl,_,rfl,_,_,rfl,rfl,⟨by decide,by decide,by decide⟩,_,_,rfl,rfl, .inr ⟨_,rfl,_,_,rfl,rfl, .inl (.inr (zV _)), ?_⟩⟩;exact⟨_,rfl,_,rfl,_,rfl,_,_,rfl,rfl, .inl (.inl ⟨by decide,by decide⟩),_,_,rfl,rfl,_,_,rfl,rfl,_,_,rfl,rfl,(show (0:Int)<2147483647 by decide),_,_,rfl,rfl, .inl (.inr ⟨by decide,by decide⟩),_,_,rfl,rfl,(show (0:Int)<2147483647 by decide),(show 2<=sizeLine by decide),λp hp=>g 0 p hp⟩
theorem Tw (F:Z1 K "_law_case" IC f U)(c:TY P w K Z Y n)(d:Q0 P w K Z Y n)(e:Cc P w K Z Y n)(g:NK P w K Z Y n)(h:Vo P w K Z Y n):Z2 P w K Z Y n f U ["_law_script","_law_k","_law_tape_here","_law_apart_here","_law_one","_law_other"] 2 Ec:=DL F C9 rfl λ_ _ _ _ _ _ a b=>(AL (CC 2 b (AK h a rfl (Ar (AH 0) (AH 1)))) (AL (CC 3 b (AK c a rfl (BZ (AH 2)))) (AL (CC 4 b (AK g a rfl (BZ (AH 2)))) (AL (CC 5 b (AK d a rfl (DA (AH 2) (AH 4) (AH 3)))) (AL (Au (DN (C5 a) (AK e a rfl (Ar (AH 2) AJ)) AJ) (AN (QQ (i:=4) (j:=5) rfl b rfl rfl (by decide) rfl rfl (Ar (AH 5) (AH 4)) rfl)) Ag) (AN (AU (Ab (Aw (AH 2) (DA (AH 4) (AH 5) (AH 3)))))))))))
theorem T8 (F:Z1 K "_law_mild" IE f U)(g:Cc P w K Z Y n)(h:Dy P w K Z Y n)(j:ES P w K Z Y n)(k:Z "int" =none)(d:Z "range" =none)(e:Z "tuple" =none):Z2 P w K Z Y n f U ["_law_tape_here","_law_plan_here","_law_apart_here","_law_corners","_law_corner","_law_by","_law_k","_law_far"] 3 Ed:=by
 have c:(["_law_k","_law_corner","_law_by"] :kj Str).Nodup:=by decide +kernel
 exact DL F C9 rfl λ_ _ _ _ _ _ b a=>(AL (Dg (i:=3) a rfl (Or.inl rfl) (A8 CQ)) (AL (Bc ABN rfl (DG (AH 1)) (LZ (i:=4) a rfl (Or.inr rfl)) (AL (Dg (i:=5) a rfl (Or.inr rfl) (A8 CQ)) (AL (Bc ABN rfl (Wm rfl d (BZ AJ)) (Cp 6 a) (AL (CC 7 a (Aa (CU (A8 (Aw (Ab (Ar AJ AJ)) (DA (Ab (Ar AJ AJ)) (Ab (Ar AJ AJ)) (Ab (Ar AJ AJ)))))) (AK g b rfl (Ar (AH 0) AJ)))) (AN (Cj (i:=5) ACL ACN B2 (BZ (AK h b rfl (Ar (AH 7) (Aa (AH 2) (BV Yj rfl k boot_int (BZ (CT (C5 b) (AH 6) AJ (Bx _)))))))))))) (AN (Cj (i:=3) ACL ACN B2 (BZ (UZ (Ad A2 (Ab (BZ (Aa (AH 4) AJ))) (BV CS rfl e ABy (BZ (CU (DZ rfl (Wm rfl d (BZ AJ)) (Db (own:=1) (ix:= [4,5]) (N:= ["_law_k","_law_corner" ,"_law_by" ]) rfl rfl rfl rfl rfl rfl (λ_ _ _ _ _ _=>(Nv 0 c)) (λ_ _ _ _ _ _=>CB) (λ_ _ _ _ _ _=>(AK j b rfl (Ar (Aa (AH 1) (Ad A2 (AH 0) AJ)) (Aa (AH 2) (AH 0)))))))))))))))))) (AN (AU (BV CS rfl e ABy (BZ (AH 3)))))))
theorem Tz (F:Z1 K "_law_less" ID f U):Z2 P w K Z Y n f U ["_law_one","_law_other"] 2 Aj:=DL F C9 rfl λ_ _ _ _ _ _ _ _=>(AN (AU (CT Fq (Ad BP (Aa (AH 0) AJ) (Aa (AH 1) AJ)) (Ad BP (Aa (AH 1) AJ) (Aa (AH 0) AJ)) (Bx _))))
theorem cP (F:Z1 K "before" P5 f U):Z2 P w K Z Y n f U ["one","other"] 2 Aj:=DL F C9 rfl λ_ _ _ _ _ _ _ _=>(AN (AU (CT Fq (Ad BP (Aa (AH 0) AJ) (Aa (AH 1) AJ)) (Ad BP (Aa (AH 1) AJ) (Aa (AH 0) AJ)) (Bx _))))
theorem Nk (F:Z1 K "gap_by_share" FS f U)(c:Z "max" =none):Z2 P w K Z Y n f U ["bottom","lines","share","heights","top","whole_way"] 3 CK:=by
 have a:(["low","high","top","whole_way"] :kj Str).Nodup:=by decide +kernel
 exact DL F C9 rfl λ_ _ _ _ _ _ _ b=>(AL (Er (AH 2) (Bo (n:=2) rfl (AW (LZ (i:=4) b rfl (Or.inr rfl)) (AW (LZ (i:=5) b rfl (Or.inr rfl)) BN)))) (AL (Wq (i:=3) rfl b rfl (Or.inl rfl) (DG (AH 1)) (Db (own:=2) (ix:= [4,5]) (N:= ["low","high" ,"top" ,"whole_way" ]) rfl rfl rfl rfl rfl rfl (λ_ _ _ _ _ _=>(M7 (n:=2) rfl (Cn (Nv 0 a) (Cn (Nv 1 a) Ic)))) (λ_ _ _ _ _ _=>CB) (λ_ _ _ _ _ _=>(Ad A2 (Ad BP (AH 0) (Ad Bt (AH 3) (AH 2))) (Ad BP (AH 1) (AH 2)))))) (AN (AU (Ab (Ar (BA (l7 rfl) rfl c boot_max (BZ (AH 3))) (Ad BP (AH 0) (AH 5))))))))
theorem LH (F:Z1 K "meeting_shares" EV f U):Z2 P w K Z Y n f U ["lines","told","low","high","base","peak"] 1 CL:=DL F C9 rfl λ_ _ _ _ _ _ _ a=>(AL (Dg (i:=1) a rfl (Or.inl rfl) (A8 CQ)) (AL (Bc ABN rfl (DG (AH 0)) (Bo (n:=2) rfl (AW (Cp 2 a) (AW (Cp 3 a) BN))) (AN (Bc ABN rfl (DG (AH 0)) (Bo (n:=2) rfl (AW (Cp 4 a) (AW (Cp 5 a) BN))) (AN (Au (EX (FU (DN Fq (AH 4) (AH 2)) (Eb (DN Fq (AH 3) (AH 5))))) (AN (Cj (i:=1) ACL ACN B2 (BZ (Ab (Ar (Ad Bt (AH 2) (AH 4)) (Ad Bt (Ad A2 (Ad Bt (AH 2) (AH 4)) (AH 5)) (AH 3))))))) Ag))))) (AN (AU (AH 1)))))
theorem cQ (F:Z1 K "common" P6 f U):Z2 P w K Z Y n f U ["one","other"] 2 GH:=DL F C9 rfl λ_ _ _ _ _ _ a b=>(AL (Le ABN (DN (Eu a) (AH 1) AJ) (AN (QQ (i:=0) (j:=1) rfl b rfl rfl (by decide) rfl rfl (Ar (AH 1) (Ad Yp (AH 0) (AH 1))) rfl))) (AN (AU (AH 0))))
theorem lK (F:Z1 K "part" Yh f U)(c:PN P w K Z Y n)(a:Z "abs" =none):Z2 P w K Z Y n f U ["top","bottom","shared"] 2 Gc:=DL F C9 rfl λ_ _ _ _ _ _ d b=>(AL (CC 2 b (AK c d rfl (Ar (BA M6 rfl a ADK (BZ (AH 0))) (BA M6 rfl a ADK (BZ (AH 1)))))) (AL (Au (DN Fq (AH 1) AJ) (AN (CC 2 b (Dd (AH 2)))) Ag) (AN (AU (Ab (Ar (Ad Ez (AH 0) (AH 2)) (Ad Ez (AH 1) (AH 2))))))))
theorem gT (F:Z1 K "minus" UU f U)(a:MT P w K Z Y n):Z2 P w K Z Y n f U ["one","other"] 2 Ds:=DL F C9 rfl λ_ _ _ _ _ _ b _=>(AN (AU (AK a b rfl (Ar (Ad Bt (Ad BP (Aa (AH 0) AJ) (Aa (AH 1) AJ)) (Ad BP (Aa (AH 1) AJ) (Aa (AH 0) AJ))) (Ad BP (Aa (AH 0) AJ) (Aa (AH 1) AJ))))))
theorem lM (F:Z1 K "plus" Yi f U)(a:MT P w K Z Y n):Z2 P w K Z Y n f U ["one","other"] 2 Hf:=DL F C9 rfl λ_ _ _ _ _ _ b _=>(AN (AU (AK a b rfl (Ar (Ad A2 (Ad BP (Aa (AH 0) AJ) (Aa (AH 1) AJ)) (Ad BP (Aa (AH 1) AJ) (Aa (AH 0) AJ))) (Ad BP (Aa (AH 0) AJ) (Aa (AH 1) AJ))))))
theorem gU (F:Z1 K "times" UV f U)(a:MT P w K Z Y n):Z2 P w K Z Y n f U ["one","other"] 2 Fe:=DL F C9 rfl λ_ _ _ _ _ _ b _=>(AN (AU (AK a b rfl (Ar (Ad BP (Aa (AH 0) AJ) (Aa (AH 1) AJ)) (Ad BP (Aa (AH 0) AJ) (Aa (AH 1) AJ))))))
theorem UE (F:Z1 K "moment_at" IJ f U)(b:N5 P w K Z Y n)(c:MT P w K Z Y n)(d:Xi P w K Z Y n)(e:Td P w K Z Y n):Z2 P w K Z Y n f U ["begin","end","share"] 3 CY:=DL F C9 rfl λ_ _ _ _ _ _ a _=>(AN (AU (AK d a rfl (Ar (AH 0) (AK e a rfl (Ar (AK c a rfl (Ar (Aa (AH 2) AJ) (Aa (AH 2) AJ))) (AK b a rfl (Ar (AH 1) (AH 0)))))))))
theorem WG (F:Z1 K "least_in" J0 f U)(c:B7 P w K Z Y n)(d:PP P w K Z Y n)(e:MS P w K Z Y n)(g:Hq P w K Z Y n)(h:MT P w K Z Y n):Z2 P w K Z Y n f U ["piece","best","least","share","begin","end","bottom","lines","gap"] 1 EG:=DL F C9 rfl λ_ _ _ _ _ _ b a=>(AL (Er (AH 0) (Bo (n:=4) rfl (AW (Cp 4 a) (AW (Cp 5 a) (AW (Cp 6 a) (AW (Cp 7 a) BN)))))) (AL (CC 1 a (Ab (Ar AJ AJ))) (AL (CC 2 a (AK d b rfl (DA (AH 6) (AH 7) (AH 1)))) (AL (Bc ABN rfl (DG (Ad A2 (AK e b rfl (BZ (AH 7))) (CU (A8 (BZ (Ab (Ar AJ AJ))))))) (Cp 3 a) (AL (CC 8 a (AK d b rfl (DA (AH 6) (AH 7) (AH 3)))) (AN (Au (EX (DK (A0 (AK c b rfl (Ar (AH 8) (AH 2)))) (C7 (EX (FU (Bp (A0 (AK c b rfl (Ar (AH 2) (AH 8))))) (Eb (A0 (AK c b rfl (Ar (AH 3) (AH 1)))))))))) (AL (CC 1 a (AH 3)) (AN (CC 2 a (AH 8)))) Ag)))) (AN (AU (Ab (Ar (AK h b rfl (Ar (Aa (AH 2) AJ) (Aa (AH 2) AJ))) (AK g b rfl (DA (AH 4) (AH 5) (AH 1)))))))))))
theorem Mf (F:Z1 K "shared_bottom" Eo f U)(b:PN P w K Z Y n):Z2 P w K Z Y n f U ["numbers","told","top","bottom"] 1 Cm:=DL F C9 rfl λ_ _ _ _ _ _ c a=>(AL (CC 1 a AJ) (AL (Bc ABN rfl (DG (AH 0)) (Bo (n:=2) rfl (AW (Cp 2 a) (AW (Cp 3 a) BN))) (AN (ia (i:=1) a rfl (Or.inl rfl) (Ad Ez (AH 3) (AK b c rfl (Ar (AH 1) (AH 3)))) qg))) (AN (AU (AH 1)))))
theorem WH (F:Z1 K "lines_of" J1 f U)(b:Ng P w K Z Y n)(c:Z "zip" =none):Z2 P w K Z Y n f U ["first","last","bottom","lines","former","latter","low","high"] 2 FC:=DL F C9 rfl λ_ _ _ _ _ _ d a=>(AL (CC 2 a (AK b d rfl (BZ (Ad A2 (AH 0) (AH 1))))) (AL (Dg (i:=3) a rfl (Or.inl rfl) (A8 CQ)) (AL (Bc ABN rfl (qh rfl c (Ar (AH 0) (AH 1))) (Bo (n:=2) rfl (AW (Cp 4 a) (AW (Cp 5 a) BN))) (AL (CC 6 a (Ad BP (Aa (AH 4) AJ) (Ad Ez (AH 2) (Aa (AH 4) AJ)))) (AL (CC 7 a (Ad BP (Aa (AH 5) AJ) (Ad Ez (AH 2) (Aa (AH 5) AJ)))) (AL (Cj (i:=3) ACL ACN B2 (BZ (Ab (Ar (AH 6) (AH 7))))) (AN (Cj (i:=3) ACL ACN B2 (BZ (Ab (Ar (Dd (AH 6)) (Dd (AH 7))))))))))) (AN (AU (Ab (Ar (AH 2) (AH 3))))))))
theorem lJ (F:Z1 K "over" Yg f U)(a:MT P w K Z Y n):Z2 P w K Z Y n f U ["one","other"] 2 Gb:=DL F C9 rfl λ_ _ _ _ _ _ b _=>(AN (AU (AK a b rfl (Ar (Ad BP (Aa (AH 0) AJ) (Aa (AH 1) AJ)) (Ad BP (Aa (AH 0) AJ) (Aa (AH 1) AJ))))))
theorem YL (F:Z1 K "size_of" M4 f U):Z2 P w K Z Y n f U ["apart","side"] 2 EK:=DL F C9 rfl λ_ _ _ _ _ _ a _=>(AN (AU (R5 (DN (C5 a) (AH 1) AJ) (Aa (AH 0) AJ) (Aa (AH 0) AJ))))
theorem Nm (F:Z1 K "spot_between" FT f U)(c:N5 P w K Z Y n)(d:Xh P w K Z Y n)(e:Xi P w K Z Y n)(g:Td P w K Z Y n)(h:Z "tuple" =none)(j:Z "zip" =none):Z2 P w K Z Y n f U ["former","latter","m","share"] 3 Dt:=by
 have b:(["low","high","share"] :kj Str).Nodup:=by decide +kernel
 exact DL F C9 rfl λ_ _ _ _ _ _ a k=>(AL (Ul (i:=3) k rfl (Or.inr rfl) (AK d a rfl (Ar (AK c a rfl (Ar (AH 2) (Aa (AH 0) AJ))) (AK c a rfl (Ar (Aa (AH 1) AJ) (Aa (AH 0) AJ)))))) (AN (AU (BV CS rfl h ABy (BZ (CU (DZ rfl (qh rfl j (Ar (JJ (AH 0) (jQ AJ) jP) (JJ (AH 1) (jQ AJ) jP))) (Db (own:=2) (ix:= [3]) (N:= ["low","high" ,"share" ]) rfl rfl rfl rfl rfl rfl (λ_ _ _ _ _ _=>(M7 (n:=2) rfl (Cn (Nv 0 b) (Cn (Nv 1 b) Ic)))) (λ_ _ _ _ _ _=>CB) (λ_ _ _ _ _ _=>(AK e a rfl (Ar (AH 0) (AK g a rfl (Ar (AH 2) (AK c a rfl (Ar (AH 1) (AH 0))))))))))))))))
theorem YM (F:Z1 K "spot_at" M5 f U)(b:B7 P w K Z Y n)(c:PX P w K Z Y n)(d:Z "len" =none)(e:Z "range" =none):Z2 P w K Z Y n f U ["plan","m","at"] 2 Di:=DL F C9 rfl λ_ _ _ _ _ _ a g=>(AL (Au (A0 (AK b a rfl (Ar (AH 1) (Aa (Aa (AH 0) AJ) AJ)))) (AN (AU Ba)) Ag) (AL (Bc ABN rfl (nS rfl e (Ar AJ (BA D6 rfl d AB1 (BZ (AH 0))))) (Cp 2 g) (AN (Au (Bp (A0 (AK b a rfl (Ar (Aa (Aa (AH 0) (AH 2)) AJ) (AH 1))))) (AN (AU (AK c a rfl (DA (Aa (AH 0) (Ad Bt (AH 2) AJ)) (Aa (AH 0) (AH 2)) (AH 1))))) Ag))) (AN (AU Ba))))
theorem YH (F:Z1 K "offs_at" My f U)(e:N5 P w K Z Y n)(g:Xh P w K Z Y n)(h:Rr P w K Z Y n)(c:MU P w K Z Y n)(j:Z "range" =none):Z2 P w K Z Y n f U ["one","other","apart","m","here","there"] 4 EI:=by
 have b:(["side","apart","here","there"] :kj Str).Nodup:=by decide +kernel
 exact DL F C9 rfl λ_ _ _ _ _ _ a d=>(AL (Ul (i:=4) d rfl (Or.inr rfl) (AK c a rfl (Ar (AH 0) (AH 3)))) (AL (Ul (i:=5) d rfl (Or.inr rfl) (AK c a rfl (Ar (AH 1) (AH 3)))) (AN (AU (CU (DZ rfl (Wm rfl j (BZ AJ)) (Db (own:=1) (ix:= [2,4,5]) (N:= ["side","apart" ,"here" ,"there" ]) rfl rfl rfl rfl rfl rfl (λ_ _ _ _ _ _=>(Nv 0 b)) (λ_ _ _ _ _ _=>CB) (λ_ _ _ _ _ _=>(AK g a rfl (Ar (AK e a rfl (Ar (Aa (AH 2) (AH 0)) (Aa (AH 3) (AH 0)))) (AK h a rfl (Ar (AH 1) (AH 0)))))))))))))
theorem YC (F:Z1 K "greater" Ms f U)(a:B7 P w K Z Y n):Z2 P w K Z Y n f U ["one","other"] 2 BR:=DL F C9 rfl λ_ _ _ _ _ _ b _=>(AN (AU (R5 (A0 (AK a b rfl (Ar (AH 0) (AH 1)))) (AH 1) (AH 0))))
theorem cT (F:Z1 K "lesser" P9 f U)(a:B7 P w K Z Y n):Z2 P w K Z Y n f U ["one","other"] 2 Eg:=DL F C9 rfl λ_ _ _ _ _ _ b _=>(AN (AU (R5 (A0 (AK a b rfl (Ar (AH 1) (AH 0)))) (AH 1) (AH 0))))
theorem WJ (F:Z1 K "together" J3 f U)(c:B7 P w K Z Y n)(d:MR P w K Z Y n)(e:PR P w K Z Y n):Z2 P w K Z Y n f U ["one","other","begin","end"] 2 Cz:=DL F C9 rfl λ_ _ _ _ _ _ a b=>(AL (CC 2 b (AK d a rfl (Ar (Aa (Aa (AH 0) AJ) AJ) (Aa (Aa (AH 1) AJ) AJ)))) (AL (CC 3 b (AK e a rfl (Ar (Aa (Aa (AH 0) (Dd AJ)) AJ) (Aa (Aa (AH 1) (Dd AJ)) AJ)))) (AN (AU (R5 (A0 (AK c a rfl (Ar (AH 2) (AH 3)))) (Ab (Ar (AH 2) (AH 3))) Ba)))))
theorem Jr (F:Z1 K "corners_between" D5 f U)(b:B7 P w K Z Y n)(d:Z "tuple" =none):Z2 P w K Z Y n f U ["plan","begin","end"] 3 Bj:=by
 have a:(["corner","begin","end"] :kj Str).Nodup:=by decide +kernel
 exact DL F C9 rfl λ_ _ _ _ _ _ c _=>(AN (AU (CU (DZ rfl (DG (AH 0)) (Db (own:=1) (ix:= [1,2]) (N:= ["corner","begin" ,"end" ]) rfl rfl rfl rfl rfl rfl (λ_ _ _ _ _ _=>(Nv 0 a)) (λ_ _ _ _ _ _=>(Uc (EX (FU (A0 (AK b c rfl (Ar (AH 1) (Aa (AH 0) AJ)))) (Eb (A0 (AK b c rfl (Ar (Aa (AH 0) AJ) (AH 2))))))))) (λ_ _ _ _ _ _=>(BV CS rfl d ABy (BZ (AH 0)))))))))
theorem Pp (F:Z1 K "count_below" F8 f U)(b:B7 P w K Z Y n)(c:Z "len" =none):Z2 P w K Z Y n f U ["numbers","number","low","high","middle"] 2 DS:=DL F C9 rfl λ_ _ _ _ _ _ d a=>(AL (CC 2 a AJ) (AL (CC 3 a (BA D6 rfl c AB1 (BZ (AH 0)))) (AL (Le ABN (DN Fq (AH 2) (AH 3)) (AL (CC 4 a (Ad Ez (Ad A2 (AH 2) (AH 3)) AJ)) (AN (Au (A0 (AK b d rfl (Ar (Aa (AH 0) (AH 4)) (AH 1)))) (AN (CC 2 a (Ad A2 (AH 4) AJ))) (AN (CC 3 a (AH 4))))))) (AN (AU (AH 2))))))
theorem cW (F:Z1 K "rising" QD f U)(c:Q4 P w K Z Y n)(d:Z "len" =none):Z2 P w K Z Y n f U ["numbers","told","number","at"] 1 GL:=DL F C9 rfl λ_ _ _ _ _ _ a b=>(AL (Dg (i:=1) b rfl (Or.inl rfl) (A8 CQ)) (AL (Bc ABN rfl (DG (AH 0)) (Cp 2 b) (AL (CC 3 b (UZ (AK c a rfl (Ar (AH 1) (AH 2))))) (AN (Au (Yq (EX (DK (DN (C5 a) (AH 3) (BA D6 rfl d AB1 (BZ (AH 1)))) (C7 (DN (Eu a) (Aa (AH 1) (AH 3)) (AH 2)))))) (AN (Cj (i:=1) AFp AFq R8 (Ar (AH 3) (AH 2)))) Ag)))) (AN (AU (AH 1)))))
theorem gW (F:Z1 K "turns" UW f U)(c:Fj P w K Z Y n)(d:Vr P w K Z Y n):Z2 P w K Z Y n f U ["one","other","begin","end","corners"] 4 IR:=by
 have a:(["corner"] :kj Str).Nodup:=by decide +kernel
 exact DL F C9 rfl λ_ _ _ _ _ _ b e=>(AL (CC 4 e (Ad A2 (AK c b rfl (DA (AH 0) (AH 2) (AH 3))) (AK c b rfl (DA (AH 1) (AH 2) (AH 3))))) (AN (AU (AK d b rfl (BZ (Ad A2 (CU (A8 (Ar (AH 2) (AH 3)))) (CU (DZ rfl (DG (AH 4)) (Db (own:=1) (ix:= []) (N:= ["corner"]) rfl rfl rfl rfl rfl rfl (λ_ _ _ _ _ _=>(Nv 0 a)) (λ_ _ _ _ _ _=>CB) (λ_ _ _ _ _ _=>(Aa (AH 0) AJ)))))))))))
theorem cV (F:Z1 K "pieces" QC f U)(d:Xg P w K Z Y n)(e:Rp P w K Z Y n)(g:Jl P w K Z Y n)(h:Zf P w K Z Y n)(j:Z "len" =none)(k:Z "range" =none):Z2 P w K Z Y n f U ["one","other","apart","span","moments","offs","told","at","bottom","lines"] 3 FD:=by
 have c:(["m","one","other","apart"] :kj Str).Nodup:=by decide +kernel
 exact DL F C9 rfl λ_ _ _ _ _ _ b a=>(AL (CC 3 a (AK g b rfl (Ar (AH 0) (AH 1)))) (AL (Au (DN G3 (AH 3) Ba) (AN (AU (CU (A8 CQ)))) Ag) (AL (CC 4 a (AK h b rfl (Aw (AH 0) (DA (AH 1) (Aa (AH 3) AJ) (Aa (AH 3) AJ))))) (AL (Wq (i:=5) rfl a rfl (Or.inl rfl) (DG (AH 4)) (Db (own:=1) (ix:= [0,1,2]) (N:= ["m","one" ,"other" ,"apart" ]) rfl rfl rfl rfl rfl rfl (λ_ _ _ _ _ _=>(Nv 0 c)) (λ_ _ _ _ _ _=>CB) (λ_ _ _ _ _ _=>(AK e b rfl (Aw (AH 1) (DA (AH 2) (AH 3) (AH 0))))))) (AL (Dg (i:=6) a rfl (Or.inl rfl) (A8 CQ)) (AL (Bc ABN rfl (nS rfl k (Ar AJ (BA D6 rfl j AB1 (BZ (AH 4))))) (Cp 7 a) (AL (Er (AK d b rfl (Ar (Aa (AH 5) (Ad Bt (AH 7) AJ)) (Aa (AH 5) (AH 7)))) (Bo (n:=2) rfl (AW (Cp 8 a) (AW (Cp 9 a) BN)))) (AN (Cj (i:=6) ACL ACN B2 (BZ (Ab (Aw (Aa (AH 4) (Ad Bt (AH 7) AJ)) (DA (Aa (AH 4) (AH 7)) (AH 8) (AH 9))))))))) (AN (AU (AH 6)))))))))
theorem YG (F:Z1 K "nearest" Mx f U)(c:B7 P w K Z Y n)(d:Xf P w K Z Y n)(e:PU P w K Z Y n):Z2 P w K Z Y n f U ["one","other","apart","told","piece","found"] 3 Dh:=DL F C9 rfl λ_ _ _ _ _ _ b a=>(AL (CC 3 a Ba) (AL (Bc ABN rfl (DG (AK e b rfl (DA (AH 0) (AH 1) (AH 2)))) (Cp 4 a) (AL (CC 5 a (AK d b rfl (BZ (AH 4)))) (AN (Au (EX (DK (DN G3 (AH 3) Ba) (C7 (A0 (AK c b rfl (Ar (Aa (AH 5) AJ) (Aa (AH 3) AJ))))))) (AN (CC 3 a (AH 5))) Ag)))) (AN (AU (AH 3)))))
theorem UD (F:Z1 K "corner_at" II f U)(a:MU P w K Z Y n):Z2 P w K Z Y n f U ["plan","m"] 2 Ee:=DL F C9 rfl λ_ _ _ _ _ _ b _=>(AN (AU (Ad A2 (Ab (BZ (AH 1))) (AK a b rfl (Ar (AH 0) (AH 1))))))
theorem YI (F:Z1 K "part_of" Mz f U)(d:B7 P w K Z Y n)(c:Vp P w K Z Y n)(e:Fj P w K Z Y n)(g:MR P w K Z Y n)(h:PR P w K Z Y n)(i:Z "tuple" =none):Z2 P w K Z Y n f U ["plan","begin","end","first","last","inner"] 3 GK:=DL F C9 rfl λ_ _ _ _ _ _ a b=>(AL (CC 3 b (AK g a rfl (Ar (AH 1) (Aa (Aa (AH 0) AJ) AJ)))) (AL (CC 4 b (AK h a rfl (Ar (AH 2) (Aa (Aa (AH 0) (Dd AJ)) AJ)))) (AL (Au (Bp (A0 (AK d a rfl (Ar (AH 3) (AH 4))))) (AN (AU Ba)) Ag) (AL (CC 5 b (AK e a rfl (DA (AH 0) (AH 3) (AH 4)))) (AN (AU (BV CS rfl i ABy (BZ (Ad A2 (Ad A2 (CU (A8 (BZ (AK c a rfl (Ar (AH 0) (AH 3)))))) (AH 5)) (CU (A8 (BZ (AK c a rfl (Ar (AH 0) (AH 4)))))))))))))))
theorem NQ:Ev ["stretches","steps","begin","held","end","first","last"] ["stretches"] (BS Gz):=C9
theorem WI (F:XD K "steps_of" "steps_of" Gz f U):FF P w K Z Y VL (n+1) f U ["stretches"] (Cf K 1 IQ):=by
 have a:=NQ.nd;refine F.ok NQ (λvs H Q E h=> ?_) (λb A outer s H vs Q E c h=> ?_)
 .obtain ⟨T,M,xs,d,_,_,r,hl,_⟩:=h;rw[r.length,hl] <;> rfl
 obtain⟨T,M,xs,d,va,_,r,hl,e,hQ⟩:=h;have hu:=lw c;obtain⟨x,ys,m,rfl,hx,hz,g,hq⟩:=XC e;cases r with
 | cons r j=> cases j;refine⟨_,(CA (F3 (i:=1) a rfl (Or.inl rfl) lW) (CA (g9 ABN rfl (YT (pv 0)) (YR rfl (Hy (LM (i:=2) a rfl (Or.inl rfl)) (Hy (LM (i:=3) a rfl (Or.inl rfl)) (Hy (LM (i:=4) a rfl (Or.inl rfl)) UH)))) (CA (F3 (i:=5) a rfl (Or.inl rfl) (Pu (Bf (pv 2) (Bf (CN YQ BF (pv 3)) EU)))) (CA (aA hu (pv 1) (pv 5) (CN Jt (WR hu (pv 1) (pv 5) BF ⟨rfl,rfl,rfl,rfl⟩) BF) rfl) (Fm (Z9 (OH Z0 (pv 4) gy (Bx _)) (CA (F3 (i:=6) a rfl (Or.inl rfl) (Pu (Bf (pv 4) (Bf BF EU)))) (Fm (aA hu (pv 1) (pv 6) (CN YQ (WR hu (pv 1) (pv 6) BF ⟨rfl,rfl,rfl,rfl⟩) BF) rfl))) OG))))) (Fm (Py (pv 1))))), ?_⟩;exact Yv va r hx hz g λp k ex l hp=>hQ _ (.dct m) T k (mK va ex) (lq va l hp) hq
theorem cU (F:Z1 K "levels" QA f U)(d:Vr P w K Z Y n)(e:Xj P w K Z Y n)(g:Z "list" =none):Z2 P w K Z Y n f U ["stretches","steps","told","count","moment","side"] 1 He:=by
 have b:(["moment","side"] :kj Str).Nodup:=by decide +kernel
 exact DL F C9 rfl λ_ _ _ _ _ _ c a=>(AL (CC 1 a (AK e c rfl (BZ (AH 0)))) (AL (Dg (i:=2) a rfl (Or.inl rfl) (A8 CQ)) (AL (CC 3 a AJ) (AL (Bc ABN rfl (DG (AK d c rfl (BZ (CU (DZ rfl (DG (CU (iO c rfl g boot_list (BZ (AH 1))))) (Db (own:=2) (ix:= []) (N:= ["moment","side" ]) rfl rfl rfl rfl rfl rfl (λ_ _ _ _ _ _=>(M7 (n:=2) rfl (Cn (Nv 0 b) (Cn (Nv 1 b) Ic)))) (λ_ _ _ _ _ _=>CB) (λ_ _ _ _ _ _=>(AH 0)))))))) (Cp 4 a) (AN (Bc ABN rfl (DG (Ab (Ar AJ AJ))) (Cp 5 a) (AN (Au (qm c (AH 4) (AH 5) (AH 1)) (AL (ia (i:=3) a rfl (Or.inl rfl) (mB c (AH 1) (AH 4) (AH 5) (λ_ _=>rfl)) qf) (AN (Cj (i:=2) ACL ACN B2 (BZ (Ab (DA (AH 4) (AH 5) (AH 3))))))) Ag))))) (AN (AU (AH 2)))))))
theorem YB (F:Z1 K "counted" Mr f U)(b:fT P w K Z Y n)(c:Z "tuple" =none):Z2 P w K Z Y n f U ["stretches","n","told","begin","moment","side","count"] 2 E3:=DL F C9 rfl λ_ _ _ _ _ _ d a=>(AL (Dg (i:=2) a rfl (Or.inl rfl) (A8 CQ)) (AL (CC 3 a Ba) (AL (Bc ABN rfl (DG (AK b d rfl (BZ (AH 0)))) (Bo (n:=3) rfl (AW (Cp 4 a) (AW (Cp 5 a) (AW (Cp 6 a) BN)))) (AN (Au (EX (FU (DN G3 (AH 3) Ba) (Eb (DN QN (AH 6) (AH 1))))) (AN (CC 3 a (Ab (Ar (AH 4) (Ad Bt AJ (AH 5)))))) (AN (Au (EX (FU (DN Fs (AH 3) Ba) (Eb (DN Fq (AH 6) (AH 1))))) (AL (Cj (i:=2) ACL ACN B2 (BZ (Ab (DA (Aa (AH 3) AJ) (Aa (AH 3) AJ) (AH 4))))) (AN (CC 3 a Ba))) Ag))))) (AL (Au (DN Fs (AH 3) Ba) (AN (Cj (i:=2) ACL ACN B2 (BZ (Ab (DA (Aa (AH 3) AJ) (Aa (AH 3) AJ) Ba))))) Ag) (AN (AU (BV CS rfl c ABy (BZ (AH 2)))))))))
theorem WK (F:Z1 K "told_set" J4 f U)(a:bQ P w K Z Y n):Z2 P w K Z Y n f U ["stretches"] 1 EL:=DL F C9 rfl λ_ _ _ _ _ _ b _=>(AN (AU (AK a b rfl (Ar (AH 0) AJ))))
theorem YF (F:Z1 K "near_in" Mw f U)(c:B7 P w K Z Y n)(e:PR P w K Z Y n)(d:Hq P w K Z Y n):Z2 P w K Z Y n f U ["piece","low","held","high","begin","end","bottom","lines","first","last","share"] 1 GJ:=DL F C9 rfl λ_ _ _ _ _ _ b a=>(AL (Er (AH 0) (Bo (n:=4) rfl (AW (Cp 4 a) (AW (Cp 5 a) (AW (Cp 6 a) (AW (Cp 7 a) BN)))))) (AL (CC 1 a (Ab (Ar AJ AJ))) (AL (CC 2 a AJ) (AL (CC 3 a (Ab (Ar AJ AJ))) (AL (Bc ABN rfl (DG (AH 7)) (Bo (n:=2) rfl (AW (Cp 8 a) (AW (Cp 9 a) BN))) (AL (Au (EX (FU (DN QN (AH 8) (AH 6)) (Eb (DN QN (AH 9) (AH 6))))) (AN (AU (CU (A8 CQ)))) Ag) (AN (Au (DN QN (AH 8) (AH 6)) (AL (CC 10 a (Ab (Ar (Ad Bt (AH 8) (AH 6)) (Ad Bt (AH 8) (AH 9))))) (AN (Au (Bp (A0 (AK c b rfl (Ar (AH 10) (AH 1))))) (AL (CC 1 a (AH 10)) (AN (CC 2 a AJ))) Ag))) (AN (Au (DN R9 (AH 9) (AH 6)) (AN (CC 3 a (AK e b rfl (Ar (AH 3) (Ab (Ar (Ad Bt (AH 6) (AH 8)) (Ad Bt (AH 9) (AH 8)))))))) Ag)))))) (AL (Au (Bp (A0 (AK c b rfl (Ar (AH 1) (AH 3))))) (AN (AU (CU (A8 CQ)))) Ag) (AN (AU (CU (A8 (BZ (Ab (DA (AK d b rfl (DA (AH 4) (AH 5) (AH 1))) (AH 2) (AK d b rfl (DA (AH 4) (AH 5) (AH 3))))))))))))))))
theorem WL (F:Z1 K "too_near" J5 f U)(c:bT P w K Z Y n)(d:PU P w K Z Y n)(e:PY P w K Z Y n):Z2 P w K Z Y n f U ["one","other","apart"] 3 C0:=by
 have a:(["stretch","piece"] :kj Str).Nodup:=by decide +kernel
 exact DL F C9 rfl λ_ _ _ _ _ _ b _=>(AN (AU (AK e b rfl (BZ (CU (Wk rfl (DG (AK d b rfl (DA (AH 0) (AH 1) (AH 2)))) (ZN (own:=2) (own2:=1) (ix:= []) (N:= ["stretch","piece" ]) rfl rfl rfl rfl rfl rfl (by decide) (λ_ _ _ _ _ _=>(Nv 1 a)) (λ_ _ _ _ _ _=>CB) (λ_ _ _ _ _ _=>(DG (AK c b rfl (BZ (AH 1))))) (λ_ _ _ _ _ _=>(Nv 0 a)) (λ_ _ _ _ _ _=>CB) (λ_ _ _ _ _ _=>(AH 0)))))))))
theorem WC (F:Z1 K "_law_cut" Jw f U)(e:Fi P w K Z Y n)(g:Ro P w K Z Y n)(d:bU P w K Z Y n)(h:PY P w K Z Y n)(j:Jm P w K Z Y n):Z2 P w K Z Y n f U ["_law_one","_law_other","_law_apart_here","_law_m","_law_near","_law_least","_law_halves","_law_some","_law_gaps","_law_half","_law_gap"] 6 FB:=by
 have c:(["_law_found"] :kj Str).Nodup:=by decide +kernel
 exact DL F C9 rfl λ_ _ _ _ _ _ a b=>(AL (CC 6 b (CU (A8 (Ar (AK d a rfl (DA (AH 0) (Aa (Aa (AH 0) AJ) AJ) (AH 3))) (AK d a rfl (DA (AH 0) (AH 3) (Aa (Aa (AH 0) (Dd AJ)) AJ))))))) (AL (Dg (i:=7) b rfl (Or.inl rfl) (A8 CQ)) (AL (Dg (i:=8) b rfl (Or.inl rfl) (A8 CQ)) (AL (Bc ABN rfl (DG (AH 6)) (Cp 9 b) (AN (Au (DN Fs (AH 9) Ba) (AL (Cj (i:=7) PySem.F.slot_list_extend PySem.F.type_list_extend Yo (BZ (AK j a rfl (DA (AH 9) (AH 1) (AH 2))))) (AN (Cj (i:=8) ACL ACN B2 (BZ (AK g a rfl (DA (AH 9) (AH 1) (AH 2))))))) Ag))) (AL (ib (i:=8) rfl b rfl (Or.inl rfl) (xt 8) (Db (own:=1) (ix:= []) (N:= ["_law_found"]) rfl rfl rfl rfl rfl rfl (λ_ _ _ _ _ _=>(Nv 0 c)) (λ_ _ _ _ _ _=>(Uc (DN Fs (AH 0) Ba))) (λ_ _ _ _ _ _=>(Aa (AH 0) AJ)))) (AL (Au (Yq (DN (Eu a) (AK h a rfl (BZ (AH 7))) (AH 4))) (AN (AU Ce)) Ag) (AL (ic 8 (Bc ABN rfl (DG (AH 8)) (Cp 10 b) (AN (Au (A0 (AK e a rfl (Ar (AH 10) (Aa (AH 5) AJ)))) (AN (AU Ce)) Ag)))) (AN (AU (CT (iW a) (Aa (AH 5) AJ) (AH 8) rfl))))))))))
theorem cR (F:Z1 K "gap_at" P7 f U)(c:B7 P w K Z Y n)(d:MR P w K Z Y n)(e:Rp P w K Z Y n)(g:Jl P w K Z Y n)(h:Z "abs" =none):Z2 P w K Z Y n f U ["one","other","apart","m","span","gap","top","bottom"] 4 Ef:=DL F C9 rfl λ_ _ _ _ _ _ a b=>(AL (CC 4 b (AK g a rfl (Ar (AH 0) (AH 1)))) (AL (Au (EX (DK (DN G3 (AH 4) Ba) (DK (A0 (AK c a rfl (Ar (AH 3) (Aa (AH 4) AJ)))) (C7 (Bp (A0 (AK c a rfl (Ar (AH 3) (Aa (AH 4) AJ))))))))) (AN (AU Ba)) Ag) (AL (CC 5 b (Ab (Ar AJ AJ))) (AL (Bc ABN rfl (DG (AK e a rfl (Aw (AH 0) (DA (AH 1) (AH 2) (AH 3))))) (Bo (n:=2) rfl (AW (Cp 6 b) (AW (Cp 7 b) BN))) (AN (CC 5 b (AK d a rfl (Ar (AH 5) (Ab (Ar (BA M6 rfl h ADK (BZ (AH 6))) (AH 7)))))))) (AN (AU (AH 5)))))))
theorem YE (F:Z1 K "longest" Mu f U)(b:B7 P w K Z Y n)(c:Z "enumerate" =none):Z2 P w K Z Y n f U ["bottom","lines","told","at","first","last","share"] 2 E5:=DL F C9 rfl λ_ _ _ _ _ _ d a=>(AL (CC 2 a Ba) (AL (Bc ABN rfl (xr rfl c (BZ (AH 1))) (Bo (n:=2) rfl (AW (Cp 3 a) (AW (Bo (n:=2) rfl (AW (Cp 4 a) (AW (Cp 5 a) BN))) BN))) (AN (Au (DN QN (AH 4) (AH 0)) (AL (CC 6 a (R5 (DN QN (AH 5) (AH 0)) (Ab (Ar AJ AJ)) (Ab (Ar (Ad Bt (AH 4) (AH 0)) (Ad Bt (AH 4) (AH 5)))))) (AN (Au (EX (DK (DN G3 (AH 2) Ba) (C7 (A0 (AK b d rfl (Ar (Aa (AH 2) AJ) (AH 6))))))) (AN (CC 2 a (Ab (Ar (AH 3) (AH 6))))) Ag))) Ag))) (AN (AU (AH 2)))))
theorem cX (F:Z1 K "row_of" QE f U):Z2 P w K Z Y n f U ["begin","end","at","sign"] 3 FE:=DL F C9 rfl λ_ _ _ _ _ _ a b=>(AL (CC 3 b (R5 (DN (C5 a) (Ad Yp (AH 2) AJ) AJ) AJ (Dd AJ))) (AN (AU (Ab (Aw (AH 0) (DA (AH 1) (Ad Ez (AH 2) AJ) (AH 3)))))))
theorem YK (F:Z1 K "rows_of" M3 f U)(e:bS P w K Z Y n)(g:Hq P w K Z Y n)(d:fU P w K Z Y n):Z2 P w K Z Y n f U ["piece","latter","cut","begin","end","bottom","lines","former","share"] 1 GM:=by
 have c:(["first","last"] :kj Str).Nodup:=by decide +kernel
 exact DL F C9 rfl λ_ _ _ _ _ _ b a=>(AL (Er (AH 0) (Bo (n:=4) rfl (AW (Cp 3 a) (AW (Cp 4 a) (AW (Cp 5 a) (AW (Cp 6 a) BN)))))) (AL (Er (AK e b rfl (Ar (AH 5) (AH 6))) (Bo (n:=2) rfl (AW (Cp 7 a) (AW (Cp 8 a) BN)))) (AL (Au (DN (C5 b) (AH 8) (Ab (Ar AJ AJ))) (AN (AU (CU (A8 (BZ (AK d b rfl (DA (AH 3) (AH 4) (AH 7)))))))) Ag) (AL (CC 1 a (Aa (AK e b rfl (Ar (AH 5) (CU (DZ rfl (DG (AH 6)) (Db (own:=2) (ix:= []) (N:= ["first","last" ]) rfl rfl rfl rfl rfl rfl (λ_ _ _ _ _ _=>(M7 (n:=2) rfl (Cn (Nv 0 c) (Cn (Nv 1 c) Ic)))) (λ_ _ _ _ _ _=>CB) (λ_ _ _ _ _ _=>(Ab (Ar (AH 1) (AH 0))))))))) AJ)) (AL (CC 2 a (AK g b rfl (DA (AH 3) (AH 4) (AH 8)))) (AN (AU (CU (A8 (Ar (AK d b rfl (DA (AH 3) (AH 2) (AH 7))) (AK d b rfl (DA (AH 2) (AH 4) (AH 1)))))))))))))
theorem gX (F:Z1 K "whole" UX f U):Z2 P w K Z Y n f U ["n"] 1 IS:=DL F C9 rfl λ_ _ _ _ _ _ _ _=>(AN (AU (Ab (Ar (AH 0) AJ))))
theorem YJ (F:Z1 K "parting" M0 f U)(d:Xh P w K Z Y n)(e:PU P w K Z Y n)(g:Xi P w K Z Y n)(h:bV P w K Z Y n)(i:Jm P w K Z Y n)(j:Zg P w K Z Y n)(k:Z "tuple" =none):Z2 P w K Z Y n f U ["one","other","apart","near","begin","held","end"] 3 E6:=by
 have b:(["row","piece"] :kj Str).Nodup:=by decide +kernel
 exact DL F C9 rfl λ_ _ _ _ _ _ a c=>(AL (CC 3 c (AK i a rfl (DA (AH 0) (AH 1) (AH 2)))) (AL (Au (qo (AH 3)) (AL (Er (Aa (AH 3) AJ) (Bo (n:=3) rfl (AW (Cp 4 c) (AW (Cp 5 c) (AW (Cp 6 c) BN))))) (AN (AU (Ab (Ar QG (AK d a rfl (Ar (AK g a rfl (Ar (AH 4) (AH 6))) (AK j a rfl (BZ AJ))))))))) Ag) (AN (AU (Ab (Ar QG (BV CS rfl k ABy (BZ (CU (Wk rfl (DG (AK e a rfl (DA (AH 0) (AH 1) (AH 2)))) (ZN (own:=2) (own2:=1) (ix:= []) (N:= ["row","piece" ]) rfl rfl rfl rfl rfl rfl (by decide) (λ_ _ _ _ _ _=>(Nv 1 b)) (λ_ _ _ _ _ _=>CB) (λ_ _ _ _ _ _=>(DG (AK h a rfl (BZ (AH 1))))) (λ_ _ _ _ _ _=>(Nv 0 b)) (λ_ _ _ _ _ _=>CB) (λ_ _ _ _ _ _=>(AH 0)))))))))))))
theorem gS (F:Z1 K "holds" UT f U)(d:B7 P w K Z Y n)(e:N5 P w K Z Y n)(g:Rr P w K Z Y n)(c:MU P w K Z Y n)(h:Td P w K Z Y n)(i:Zf P w K Z Y n)(j:Zg P w K Z Y n):Z2 P w K Z Y n f U ["one","other","apart","row","m","begin","end","side","sign","off"] 4 Ko:=DL F C9 rfl λ_ _ _ _ _ _ a b=>(AL (Er (AH 3) (Bo (n:=4) rfl (AW (Cp 5 b) (AW (Cp 6 b) (AW (Cp 7 b) (AW (Cp 8 b) BN)))))) (AL (Bc ABN rfl (DG (AK i a rfl (Aw (AH 0) (DA (AH 1) (AH 5) (AH 6))))) (Cp 4 b) (AL (CC 9 b (AK e a rfl (Ar (Aa (AK c a rfl (Ar (AH 0) (AH 4))) (AH 7)) (Aa (AK c a rfl (Ar (AH 1) (AH 4))) (AH 7))))) (AN (Au (A0 (AK d a rfl (Ar (AK h a rfl (Ar (AK j a rfl (BZ (AH 8))) (AH 9))) (AK g a rfl (Ar (AH 2) (AH 7)))))) (AN (AU Ce)) Ag)))) (AN (AU Ce))))
theorem WF (F:Z1 K "is_whole" Jz f U)(b:Z "bool" =none)(c:Z "int" =none)(a:Z "isinstance" =none):Z2 P w K Z Y n f U ["thing"] 1 Cg:=DL F C9 rfl λ_ _ _ _ _ _ _ _=>(AN (AU (IK (BA iK rfl a AER (Ar (AH 0) (nR (n:="int") rfl c boot_int rfl))) (J7 (qe (BA iK rfl a AER (Ar (AH 0) (nR (n:="bool") rfl b boot_bool rfl))))))))
theorem YD (F:Z1 K "is_part" Mt f U)(d:PN P w K Z Y n)(b:PQ P w K Z Y n)(e:Z "abs" =none)(g:Z "isinstance" =none)(h:Z "len" =none)(i:Z "list" =none)(j:Z "tuple" =none):Z2 P w K Z Y n f U ["thing","top","bottom"] 1 EF:=DL F C9 rfl λ_ _ _ _ _ _ a c=>(AL (Au (EX (DK (Bp (A0 (QF "tuple" "list" rfl g AER (AH 0) (Bf (Gs (v:= .ty "tuple") rfl j ABy rfl) (Bf (Gs (v:= .ty "list") rfl i boot_list rfl) EU)) Pd))) (C7 (DN (Eu a) (BA D6 rfl h AB1 (BZ (AH 0))) AJ)))) (AN (AU Ce)) Ag) (AL (Er (AH 0) (Bo (n:=2) rfl (AW (Cp 1 c) (AW (Cp 2 c) BN)))) (AL (Au (EX (DK (Bp (A0 (AK b a rfl (BZ (AH 1))))) (C7 (Bp (A0 (AK b a rfl (BZ (AH 2)))))))) (AN (AU Ce)) Ag) (AN (AU (IK (CT R9 (AH 2) AJ (Bx _)) (J7 (CT (C5 a) (AK d a rfl (Ar (BA M6 rfl e ADK (BZ (AH 1))) (AH 2))) AJ (Bx _)))))))))
theorem cS (F:Z1 K "is_row" P8 f U)(c:bR P w K Z Y n)(d:PQ P w K Z Y n)(e:Z "isinstance" =none)(g:Z "len" =none)(h:Z "list" =none)(i:Z "tuple" =none):Z2 P w K Z Y n f U ["thing","begin","end","side","sign"] 1 GI:=DL F C9 rfl λ_ _ _ _ _ _ a b=>(AL (Au (EX (DK (Bp (A0 (QF "tuple" "list" rfl e AER (AH 0) (Bf (Gs (v:= .ty "tuple") rfl i ABy rfl) (Bf (Gs (v:= .ty "list") rfl h boot_list rfl) EU)) Pd))) (C7 (DN (Eu a) (BA D6 rfl g AB1 (BZ (AH 0))) AJ)))) (AN (AU Ce)) Ag) (AL (Er (AH 0) (Bo (n:=4) rfl (AW (Cp 1 b) (AW (Cp 2 b) (AW (Cp 3 b) (AW (Cp 4 b) BN)))))) (AL (Au (EX (DK (Bp (A0 (AK c a rfl (BZ (AH 1))))) (DK (Bp (A0 (AK c a rfl (BZ (AH 2))))) (DK (Bp (A0 (AK d a rfl (BZ (AH 3))))) (C7 (Bp (A0 (AK d a rfl (BZ (AH 4)))))))))) (AN (AU Ce)) Ag) (AN (AU (IK (CT (iW a) (AH 3) (Ab (DA AJ AJ AJ)) rfl) (J7 (CT (iW a) (AH 4) (Ab (Ar AJ (Dd AJ))) rfl))))))))
theorem Mh (F:Z1 K "shows_parting" Ep f U)(d:B7 P w K Z Y n)(e:kJ P w K Z Y n)(g:fS P w K Z Y n)(h:Jl P w K Z Y n)(i:Z "isinstance" =none)(j:Z "len" =none)(k:Z "list" =none)(c:Z "tuple" =none):Z2 P w K Z Y n f U ["one","other","apart","paper","span","row","at","last","begin","end"] 4 B0:=DL F C9 rfl λ_ _ _ _ _ _ a b=>(AL (Au (Bp (A0 (QF "tuple" "list" rfl i AER (AH 3) (Bf (Gs (v:= .ty "tuple") rfl c ABy rfl) (Bf (Gs (v:= .ty "list") rfl k boot_list rfl) EU)) Pd))) (AN (AU Ce)) Ag) (AL (CC 4 b (AK h a rfl (Ar (AH 0) (AH 1)))) (AL (Au (DN G3 (AH 4) Ba) (AN (AU (CT (C5 a) (BA D6 rfl j AB1 (BZ (AH 3))) AJ (Bx _)))) Ag) (AL (Er (AH 4) (Bo (n:=2) rfl (AW (Cp 6 b) (AW (Cp 7 b) BN)))) (AL (Bc ABN rfl (DG (AH 3)) (Cp 5 b) (AL (Au (Bp (A0 (AK g a rfl (BZ (AH 5))))) (AN (AU Ce)) Ag) (AL (CC 8 b (BV CS rfl c ABy (BZ (Aa (AH 5) AJ)))) (AL (CC 9 b (BV CS rfl c ABy (BZ (Aa (AH 5) AJ)))) (AL (Au (EX (DK (DN (Eu a) (AH 8) (AH 6)) (DK (Bp (A0 (AK d a rfl (Ar (AH 8) (AH 9))))) (C7 (A0 (AK d a rfl (Ar (AH 7) (AH 9)))))))) (AN (AU Ce)) Ag) (AL (Au (Bp (A0 (AK e a rfl (Aw (AH 0) (DA (AH 1) (AH 2) (Ab (Aw (AH 8) (DA (AH 9) (Aa (AH 5) AJ) (Aa (AH 5) AJ))))))))) (AN (AU Ce)) Ag) (AN (CC 6 b (AH 9))))))))) (AN (AU (CT (C5 a) (AH 6) (AH 7) (Bx _)))))))))
theorem RA (F:Z1 K "_law_never" Gw f U)(b:Vq P w K Z Y n)(c:Rq P w K Z Y n)(d:HE P w K Z Y n):Z2 P w K Z Y n f U ["_law_one","_law_other","_law_apart_here","_law_near"] 4 Dq:=DL F C9 rfl λ_ _ _ _ _ _ a _=>(AL (Au (EX (DK (DN (Eu a) (AH 3) (Ab CQ)) (DK (DN (Eu a) (AK c a rfl (DA (AH 0) (AH 1) (AH 2))) (Ab (Ar QG (Ab CQ)))) (C7 (Bp (A0 (AK d a rfl (Aw (AH 0) (DA (AH 1) (AH 2) (Ab CQ)))))))))) (AN (AU Ce)) Ag) (AN (AU (IK (CT G3 (AK b a rfl (Aw (AH 0) (DA (AH 1) (AH 2) (Aa (Aa (AH 0) AJ) AJ)))) Ba (Bx _)) (J7 (CT G3 (AK b a rfl (Aw (AH 0) (DA (AH 1) (AH 2) (Aa (Aa (AH 1) AJ) AJ)))) Ba (Bx _)))))))
theorem X9 (F:Z1 K "_law_in" Mq f U)(c:Fi P w K Z Y n):Z2 P w K Z Y n f U ["_law_found","_law_m","_law_begin","_law_held","_law_end"] 2 E2:=DL F C9 rfl λ_ _ _ _ _ _ a b=>(AL (Bc ABN rfl (DG (AH 0)) (Bo (n:=3) rfl (AW (Cp 2 b) (AW (Cp 3 b) (AW (Cp 4 b) BN)))) (AN (Au (EX (FU (A0 (AK c a rfl (Ar (AH 1) (AH 4)))) (Eb (EX (DK (A0 (AK c a rfl (Ar (AH 2) (AH 1)))) (C7 (EX (FU (DN (C5 a) (AH 3) AJ) (Eb (DN (C5 a) (AH 2) (AH 1))))))))))) (AN (AU Ce)) Ag))) (AN (AU Ce)))
theorem Jq (F:Z1 K "_law_told_apart" D4 f U)(b:Rn P w K Z Y n)(c:Rq P w K Z Y n)(d:HE P w K Z Y n):Z2 P w K Z Y n f U ["_law_one","_law_other","_law_apart_here","_law_near","_law_least","_law_found"] 5 Bi:=DL F C9 rfl λ_ _ _ _ _ _ a e=>(AL (CC 5 e (AK c a rfl (DA (AH 0) (AH 1) (AH 2)))) (AL (Au (DN (Eu a) (AH 3) (Ab CQ)) (AN (AU (IK (CT (C5 a) (Aa (AH 5) AJ) QG (Bx _)) (IK (AK b a rfl (Ar (AH 3) (Aa (AH 5) AJ))) (J7 (CT Fq (Aa (Aa (AH 4) AJ) AJ) (Aa (Aa (AH 4) AJ) AJ) (Bx _))))))) Ag) (AL (Au (EX (DK (DN (Eu a) (Aa (AH 5) AJ) QG) (C7 (Bp (A0 (AK d a rfl (Aw (AH 0) (DA (AH 1) (AH 2) (Aa (AH 5) AJ))))))))) (AN (AU Ce)) Ag) (AN (AU (IK (CT QN (Aa (Aa (AH 4) AJ) AJ) (Aa (Aa (AH 4) AJ) AJ) (Bx _)) (J7 (CT (Eu a) (Aa (AH 5) AJ) (Ab CQ) (Bx _)))))))))
theorem Pm (F:Z1 K "_law_middle" F5 f U)(b:Dy P w K Z Y n)(c:ES P w K Z Y n):Z2 P w K Z Y n f U ["_law_one","_law_other"] 2 DP:=DL F C9 rfl λ_ _ _ _ _ _ a _=>(AN (AU (AK b a rfl (Ar (AK c a rfl (Ar (AH 0) (AH 1))) (Ab (Ar AJ AJ))))))
theorem Pn (F:Z1 K "_law_rising" F6 f U)(e:Fi P w K Z Y n)(d:Z "len" =none):Z2 P w K Z Y n f U ["_law_moments_here","_law_found","_law_m","_law_at"] 1 DQ:=by
 have a:(["_law_one","_law_m"] :kj Str).Nodup:=by decide +kernel
 exact DL F C9 rfl λ_ _ _ _ _ _ b c=>(AL (Dg (i:=1) c rfl (Or.inl rfl) (A8 CQ)) (AL (Bc ABN rfl (DG (AH 0)) (LZ (i:=2) c rfl (Or.inr rfl)) (AL (CC 3 c (UZ (BA D6 rfl d AB1 (BZ (CU (DZ rfl (DG (AH 1)) (Db (own:=1) (ix:= [2]) (N:= ["_law_one","_law_m" ]) rfl rfl rfl rfl rfl rfl (λ_ _ _ _ _ _=>(Nv 0 a)) (λ_ _ _ _ _ _=>(Uc (A0 (AK e b rfl (Ar (AH 0) (AH 1)))))) (λ_ _ _ _ _ _=>(AH 0))))))))) (AN (Au (Yq (EX (DK (DN (C5 b) (AH 3) (BA D6 rfl d AB1 (BZ (AH 1)))) (C7 (DN (Eu b) (Aa (AH 1) (AH 3)) (AH 2)))))) (AN (Cj (i:=1) AFp AFq R8 (Ar (AH 3) (AH 2)))) Ag)))) (AN (AU (AH 1)))))
theorem Ni (F:Z1 K "_law_moments" FQ f U)(e:Q1 P w K Z Y n)(g:Gj P w K Z Y n)(h:Q2 P w K Z Y n)(j:Ho P w K Z Y n)(k:Z "zip" =none):Z2 P w K Z Y n f U ["_law_tape_here","_law_one","_law_other","_law_near","_law_least","_law_found","_law_begin","_law_held","_law_end"] 5 B3:=by
 have d:(["_law_corner"] :kj Str).Nodup:=by decide +kernel
 have b:(["_law_m","_law_further"] :kj Str).Nodup:=by decide +kernel
 exact DL F C9 rfl λ_ _ _ _ _ _ c a=>(AL (Dg (i:=5) a rfl (Or.inl rfl) (iM (CU (DZ rfl (DG (Ad A2 (AH 1) (AH 2))) (Db (own:=1) (ix:= []) (N:= ["_law_corner"]) rfl rfl rfl rfl rfl rfl (λ_ _ _ _ _ _=>(Nv 0 d)) (λ_ _ _ _ _ _=>CB) (λ_ _ _ _ _ _=>(Aa (AH 0) AJ))))) (CU (A8 (Ar (AK g c rfl (BZ (AH 0))) (AK j c rfl (BZ (AH 0)))))))) (AL (Bc ABN rfl (DG (AH 3)) (Bo (n:=3) rfl (AW (Cp 6 a) (AW (Cp 7 a) (AW (Cp 8 a) BN)))) (AN (Dg (i:=5) a rfl (Or.inl rfl) (iM (AH 5) (CU (A8 (Ar (AH 6) (AH 8)))))))) (AL (Au (DN Fs (AH 4) Ba) (AN (Cj (i:=5) ACL ACN B2 (BZ (Aa (AH 4) AJ)))) Ag) (AL (ic 5 (CC 5 a (AK h c rfl (BZ (AH 5))))) (AN (AU (Ad A2 (AH 5) (CU (DZ rfl (qh rfl k (Ar (AH 5) (JJ (AH 5) (jQ AJ) jP))) (Db (own:=2) (ix:= []) (N:= ["_law_m","_law_further" ]) rfl rfl rfl rfl rfl rfl (λ_ _ _ _ _ _=>(M7 (n:=2) rfl (Cn (Nv 0 b) (Cn (Nv 1 b) Ic)))) (λ_ _ _ _ _ _=>CB) (λ_ _ _ _ _ _=>(AK e c rfl (Ar (AH 0) (AH 1))))))))))))))
theorem Po (F:Z1 K "_law_walked" F7 f U)(c:Rn P w K Z Y n)(d:Fi P w K Z Y n)(e:PK P w K Z Y n)(g:Vq P w K Z Y n):Z2 P w K Z Y n f U ["_law_tape_here","_law_one","_law_other","_law_apart_here","_law_near","_law_least","_law_ends","_law_m","_law_gap"] 6 DR:=DL F C9 rfl λ_ _ _ _ _ _ a b=>(AL (CC 6 b (CU (A8 (Ar (Aa (Aa (AH 1) (Dd AJ)) AJ) (Aa (Aa (AH 2) (Dd AJ)) AJ))))) (AL (Bc ABN rfl (DG (AK e a rfl (Aw (AH 0) (Aw (AH 1) (DA (AH 2) (AH 4) (AH 5)))))) (Cp 7 b) (AL (CC 8 b (AK g a rfl (Aw (AH 1) (DA (AH 2) (AH 3) (AH 7))))) (AL (Au (DN (Eu a) (IK (CT Fs (AH 8) Ba (Bx _)) (J7 (CT Fq (Aa (AH 8) AJ) (Aa (AH 8) AJ) (Bx _)))) (AK c a rfl (Ar (AH 4) (AH 7)))) (AN (AU Ce)) Ag) (AL (Au (EX (FU (DN Fs (AH 8) Ba) (Eb (A0 (AK d a rfl (Ar (AH 8) (Aa (AH 5) AJ))))))) (AN (AU Ce)) Ag) (AN (Au (EX (FU (DN (C5 a) (AH 7) (Aa (AH 5) AJ)) (FU (DN (Eu a) (AH 8) (Aa (AH 5) AJ)) (Eb (EX (DK (DN Fs (AH 8) Ba) (C7 (ig (ql a) (AH 7) (AH 6) rfl)))))))) (AN (AU Ce)) Ag)))))) (AN (AU Ce))))
theorem RC (F:Z1 K "_law_right" Gy f U)(h:Xe P w K Z Y n)(c:Cc P w K Z Y n)(k:Ta P w K Z Y n)(l:PM P w K Z Y n)(o:Dy P w K Z Y n)(p:ES P w K Z Y n)(d:K9 P w K Z Y n)(r:Q3 P w K Z Y n)(e:Ro P w K Z Y n)(g:Jm P w K Z Y n)(s:Z "len" =none):Z2 P w K Z Y n f U ["_law_tape_here","_law_one","_law_other","_law_apart_here","_law_k","_law_share","_law_m","_law_near","_law_least"] 4 Ck:=DL F C9 rfl λ_ _ _ _ _ _ a b=>(AL (QQ (i:=7) (j:=8) rfl b rfl rfl (by decide) rfl rfl (Ar (AK g a rfl (DA (AH 1) (AH 2) (AH 3))) (AK e a rfl (DA (AH 1) (AH 2) (AH 3)))) rfl) (AL (Au (EX (DK (DN (Eu a) (AK g a rfl (DA (AH 2) (AH 1) (AH 3))) (AH 7)) (C7 (DN (Eu a) (AK e a rfl (DA (AH 2) (AH 1) (AH 3))) (AH 8))))) (AN (AU Ce)) Ag) (AL (Au (DN G3 (AH 8) Ba) (AN (AU (AK k a rfl (Aw (AH 1) (DA (AH 2) (AH 3) (AH 7)))))) Ag) (AL (Au (Bp (A0 (AK r a rfl (Aw (AH 0) (Aw (AH 1) (Aw (AH 2) (DA (AH 3) (AH 7) (AH 8)))))))) (AN (AU Ce)) Ag) (AL (Au (EX (DK (Bp (A0 (AK d a rfl (Aw (AH 1) (Aw (AH 2) (DA (AH 3) (AH 7) (AH 8))))))) (C7 (Bp (A0 (AK d a rfl (Aw (AH 2) (Aw (AH 1) (DA (AH 3) (AH 7) (AH 8)))))))))) (AN (AU Ce)) Ag) (AL (Au (DN R9 (AK c a rfl (Ar (AH 0) AJ)) AJ) (AN (AU Ce)) Ag) (AL (CC 4 b (AK c a rfl (Ar (AH 0) (Ad Bt (BA D6 rfl s AB1 (BZ (AH 1))) AJ)))) (AL (CC 5 b (Aa (CU (A8 (DA (Ab (Ar AJ AJ)) (Ab (Ar AJ AJ)) (Ab (Ar AJ AJ))))) (AK c a rfl (Ar (AH 0) AJ)))) (AL (CC 6 b (AK p a rfl (Ar (Aa (Aa (AH 1) (AH 4)) AJ) (AK o a rfl (Ar (AK l a rfl (Ar (Aa (Aa (AH 1) (Ad A2 (AH 4) AJ)) AJ) (Aa (Aa (AH 1) (AH 4)) AJ))) (AH 5)))))) (AN (AU (AK h a rfl (Aw (AH 1) (Aw (AH 2) (Aw (AH 3) (DA (AH 6) (AH 7) (AH 8)))))))))))))))))
theorem pk (F:Z1 K "law" R4 f U)(c:Vm P w K Z Y n)(d:Vn P w K Z Y n)(e:Tc P w K Z Y n)(g:Z "len" =none)(h:Z "min" =none)(i:Z "range" =none):Z2 P w K Z Y n f U ["_law_script","_law_k","_law_beside_here","_law_tape_here","_law_one","_law_other","_law_apart_here","_law_first","_law_second"] 1 E4:=DL F C9 rfl λ_ _ _ _ _ _ b a=>(AL (Bc ABN rfl (Wm rfl i (BZ (Ad A2 AJ (BA (qd rfl) rfl h boot_min (Ar AJ (BA D6 rfl g AB1 (BZ (AH 0)))))))) (Cp 1 a) (AL (Er (AK c b rfl (Ar (AH 0) (AH 1))) (Bo (n:=4) rfl (AW (Cp 3 a) (AW (Cp 4 a) (AW (Cp 5 a) (AW (Cp 6 a) BN)))))) (AL (CC 2 a (AK d b rfl (DA (AH 3) (AH 4) (AH 6)))) (AN (Bc ABN rfl (DG (Ab (Ar (Ab (Ar (AH 4) (AH 5))) (Ab (Ar (AH 4) (AH 2)))))) (Bo (n:=2) rfl (AW (Cp 7 a) (AW (Cp 8 a) BN))) (AN (Au (Bp (A0 (AK e b rfl (Aw (AH 3) (DA (AH 7) (AH 8) (AH 6)))))) (AN (AU Ce)) Ag))))))) (AN (AU Ce)))
end
def oi {P:Wf}{w:Tb}{K:AAG}{Z:Str->kc ki}{Y:Sr}{k:Nat}{x:Str}{st:Stmt}{ps:kj Str}{sp:Sp}{f:kd}{U:FuncData}(F:XD K x x st f U)(b:Binds K U ps [])(m:Z x=some (.ref f))(G:FF P w K Z Y VL k f U ps sp):Has P w K Z Y k x ps sp:=⟨f,U,m,F.kp,b,G⟩
def uC {a:kj ki}(hl:a.length=1):∃b:ki,a= [b] :=by match a,hl with | [b],_=>exact⟨_,rfl⟩
def uD {a:kj ki}(hl:a.length=2):∃b c:ki,a= [b,c] :=by match a,hl with | [b,c],_=>exact⟨_,_,rfl⟩
def uE {a:kj ki}(hl:a.length=3):∃b c d:ki,a= [b,c,d] :=by match a,hl with | [b,c,d],_=>exact⟨_,_,_,rfl⟩
def uF {a:kj ki}(hl:a.length=4):∃b c d e:ki,a= [b,c,d,e] :=by match a,hl with | [b,c,d,e],_=>exact⟨_,_,_,_,rfl⟩
def uG {a:kj ki}(hl:a.length=5):∃b c d e f:ki,a= [b,c,d,e,f] :=by match a,hl with | [b,c,d,e,f],_=>exact⟨_,_,_,_,_,rfl⟩
def uH {a:kj ki}(hl:a.length=6):∃b c d e f g:ki,a= [b,c,d,e,f,g] :=by match a,hl with | [b,c,d,e,f,g],_=>exact⟨_,_,_,_,_,_,rfl⟩
def Cs (K:AAG)(x:Str)(st:Stmt)(f:kd):Prop:=PySem.W.nsIn K mainGlobals x=some (some (.ref f))/\∃U,XD K x x st f U
def at1 {K:AAG}{x:Str}{st:Stmt}{f:kd}{g:ki}{h i:kc kd}{d:Array (kc ki)}{kV e j b ct:ki}(a:PySem.W.nsIn K mainGlobals x=some (some (.ref f)))(l:K.lookup f=some ⟨g,h, .func (PySem.W.fnOf x x (Gh st) (EZ st) (BS st) .none kV e j i b ct),d⟩)(c:PySem.W.codeIn K b x=true)(k:PySem.W.keepIn K (.ref f)=true):Cs K x st f:=⟨a,_,fF l c k⟩
def xB {P:Wf}{w:Tb}{K:AAG}{h Y:Sr}{Z:Str->kc ki}{k:Nat}{x:Str}{st:Stmt}{ps:kj Str}{sp:Sp}{f:kd}(A:Cs K x st f)(X:K.In h)(G:h.Ns mainGlobals Z)(g:∀U,XD K x x st f U->Binds K U ps [] ->Z x=some (.ref f)->FF P w K Z Y VL k f U ps sp)(b:∀U,XD K x x st f U->Binds K U ps [] :=by exact λ_ F=>F.binds λ_ _ _ _ _ _ c hl=>by first | (obtain⟨_,rfl⟩:=uC hl;rfl)|(obtain⟨_,_,rfl⟩:=uD hl;rfl)|(obtain⟨_,_,_,rfl⟩:=uE hl;rfl)|(obtain⟨_,_,_,_,rfl⟩:=uF hl;rfl)|(obtain⟨_,_,_,_,_,rfl⟩:=uG hl;rfl)|(obtain⟨_,_,_,_,_,_,rfl⟩:=uH hl;rfl)):Has P w K Z Y k x ps sp:=
 let ⟨a,U,F⟩:=A;oi F (b U F) (AFT X G a) (g U F (b U F) (AFT X G a))
def all_mk {l:PySem.W.OpenLaw}{w:Tb}{K:AAG}{h:Sr}{Z:Str->kc ki}{fa f1 f2 f3 f4 f5 f6 f7 f8 f9 O P Q R S T f16 f17 f18 f19 f20 f21 f22 f23 f24 f25 f26 f27 f28 f29 f30 f31 f32 f33 f34 f35 f36 f37 f38 f39 f40 f41 f42 f43 f44 f45 f46 f47 f48 f49 f50 f51 f52 f53 f54 f55 f56 f57 f58 f59 f60 f61 f62 f63 f64 f65 f66 f67 f68 f69 f70:kd}(X:K.In h)(G:h.Ns mainGlobals Z)(hfa:Z "law" =some (.ref fa))(a1:Cs K "_law_draw" Fo f1)(a2:Cs K "_law_apart" Gu f2)(a3:Cs K "_law_part" IF f3)(a4:Cs K "_law_sum" Jy f4)(a5:Cs K "_law_moved" Gv f5)(a6:Cs K "_law_off" Jx f6)(a7:Cs K "_law_place" Gx f7)(a8:Cs K "_law_span" IH f8)(a9:Cs K "_law_plan" IG f9)(a10:Cs K "_law_product" FR O)(a11:Cs K "_law_beside" F4 P)(a12:Cs K "_law_tape" Fp Q)(a13:Cs K "_law_case" IC R)(a14:Cs K "_law_mild" IE S)(a15:Cs K "_law_less" ID T)(a16:Cs K "before" P5 f16)(a17:Cs K "gap_by_share" FS f17)(a18:Cs K "meeting_shares" EV f18)(a19:Cs K "common" P6 f19)(a20:Cs K "part" Yh f20)(a21:Cs K "minus" UU f21)(a22:Cs K "plus" Yi f22)(a23:Cs K "times" UV f23)(a24:Cs K "moment_at" IJ f24)(a25:Cs K "least_in" J0 f25)(a26:Cs K "shared_bottom" Eo f26)(a27:Cs K "lines_of" J1 f27)(a28:Cs K "over" Yg f28)(a29:Cs K "size_of" M4 f29)(a30:Cs K "spot_between" FT f30)(a31:Cs K "spot_at" M5 f31)(a32:Cs K "offs_at" My f32)(a33:Cs K "greater" Ms f33)(a34:Cs K "lesser" P9 f34)(a35:Cs K "together" J3 f35)(a36:Cs K "corners_between" D5 f36)(a37:Cs K "count_below" F8 f37)(a38:Cs K "rising" QD f38)(a39:Cs K "turns" UW f39)(a40:Cs K "pieces" QC f40)(a41:Cs K "nearest" Mx f41)(a42:Cs K "corner_at" II f42)(a43:Cs K "part_of" Mz f43)(a44:Cs K "steps_of" Gz f44)(a45:Cs K "levels" QA f45)(a46:Cs K "counted" Mr f46)(a47:Cs K "told_set" J4 f47)(a48:Cs K "near_in" Mw f48)(a49:Cs K "too_near" J5 f49)(a50:Cs K "_law_cut" Jw f50)(a51:Cs K "gap_at" P7 f51)(a52:Cs K "longest" Mu f52)(a53:Cs K "row_of" QE f53)(a54:Cs K "rows_of" M3 f54)(a55:Cs K "whole" UX f55)(a56:Cs K "parting" M0 f56)(a57:Cs K "holds" UT f57)(a58:Cs K "is_whole" Jz f58)(a59:Cs K "is_part" Mt f59)(a60:Cs K "is_row" P8 f60)(a61:Cs K "shows_parting" Ep f61)(a62:Cs K "_law_never" Gw f62)(a63:Cs K "_law_in" Mq f63)(a64:Cs K "_law_told_apart" D4 f64)(a65:Cs K "_law_middle" F5 f65)(a66:Cs K "_law_rising" F6 f66)(a67:Cs K "_law_moments" FQ f67)(a68:Cs K "_law_walked" F7 f68)(a69:Cs K "_law_right" Gy f69)(B:Cs K "law" R4 f70)(o:PySem.W.nsIn K mainGlobals "abs" =some none)(y_bool:PySem.W.nsIn K mainGlobals "bool" =some none)(b:PySem.W.nsIn K mainGlobals "enumerate" =some none)(p:PySem.W.nsIn K mainGlobals "int" =some none)(a:PySem.W.nsIn K mainGlobals "isinstance" =some none)(r:PySem.W.nsIn K mainGlobals "len" =some none)(k:PySem.W.nsIn K mainGlobals "list" =some none)(t:PySem.W.nsIn K mainGlobals "max" =some none)(u:PySem.W.nsIn K mainGlobals "min" =some none)(i:PySem.W.nsIn K mainGlobals "range" =some none)(c:PySem.W.nsIn K mainGlobals "reversed" =some none)(j:PySem.W.nsIn K mainGlobals "tuple" =some none)(x:PySem.W.nsIn K mainGlobals "zip" =some none):∃U:FuncData,(∀(s:kf) (v:ki),BindsTo s U ⟨[v], []⟩ [("_law_script",v)])/\∀Y:Sr,K.In Y->Y.Ns mainGlobals Z->FF l.prog w K Z Y VL 12 fa U ["_law_script"] (Cf K 1 E4):=by have e:=hfa.symm.trans (AFT X G B.1);cases e;obtain⟨aL,fdL,FL⟩:=B;obtain⟨⟨oc,od,kV,doc,pm,an,cdv,ct,osl,eL,lL,cL⟩,kL⟩:=FL;subst eL;have FL:=fF lL cL kL;have C:=ACG X G o;have Y4:=ACG X G y_bool;have IP:=ACG X G b;have D:=ACG X G p;have H:=ACG X G a;have f:=ACG X G r;have I:=ACG X G k;have jE:=ACG X G t;have jF:=ACG X G u;have y:=ACG X G i;have KD:=ACG X G c;have g:=ACG X G j;have J:=ACG X G x;refine⟨PySem.W.fnOf "law" "law" (Gh R4) (EZ R4) (BS R4) .none kV doc pm an cdv ct,λs v=> .of_eq rfl,λY _ _=> ?_⟩;have hs:= @xB l.prog w K h Y Z;have m:=hs a1 X G λ_ F _ _=>Tx (n:=0) F;have H2:=hs a2 X G λ_ F _ _=>Q8 (n:=1) F (A7 m);have E:=hs a3 X G λ_ F _ _=>T9 (n:=0) F C D;have z:=hs a4 X G λ_ F _ _=>WE (n:=1) F (A7 E);have H5:=hs a5 X G λ_ F _ _=>Q9 (n:=2) F (A7 z) y g;have H6:=hs a6 X G λ_ F _ _=>WD (n:=1) F (A7 E);have H7:=hs a7 X G λ_ F _ _=>RB (n:=1) F (A7 m) (A7 E);have H8:=hs a8 X G λ_ F _ _=>UB (n:=1) F (A7 m) (A7 E);have H9:=hs a9 X G λ_ F _ _=>UA (n:=2) F (A7 m) (A7 H7) (A7 H8) (A7 z) f g;have L:=hs a10 X G λ_ F _ _=>Nj (n:=1) F (A7 E);have rK:=hs a11 X G λ_ F _ _=>Pk (n:=3) F (A7 m) (A7 H5) (A7 H6) (A7 H7) (A7 H9) (A7 L) (A7 H8) (A7 z) D f KD g J;have H12:=hs a12 X G λ_ F _ _=>UC (n:=0) F C D f;have H13:=hs a13 X G λ_ F _ _=>Tw (n:=4) F (A7 H2) (A7 rK) (A7 m) (A7 H9) (A7 H12);have H14:=hs a14 X G λ_ F _ _=>T8 (n:=2) F (A7 m) (A7 L) (A7 z) D y g;have M:=hs a15 X G λ_ F _ _=>Tz (n:=0) F;have d:=hs a16 X G λ_ F _ _=>cP (n:=0) F;have H17:=hs a17 X G λ_ F _ _=>Nk (n:=0) F jE;have H18:=hs a18 X G λ_ F _ _=>LH (n:=0) F;have wM:=hs a19 X G λ_ F _ _=>cQ (n:=0) F;have A:=hs a20 X G λ_ F _ _=>lK (n:=1) F (A7 wM) C;have N:=hs a21 X G λ_ F _ _=>gT (n:=2) F (A7 A);have wN:=hs a22 X G λ_ F _ _=>lM (n:=2) F (A7 A);have wO:=hs a23 X G λ_ F _ _=>gU (n:=2) F (A7 A);have wP:=hs a24 X G λ_ F _ _=>UE (n:=3) F (A7 N) (A7 A) (A7 wN) (A7 wO);have H25:=hs a25 X G λ_ F _ _=>WG (n:=4) F (A7 d) (A7 H17) (A7 H18) (A7 wP) (A7 A);have H26:=hs a26 X G λ_ F _ _=>Mf (n:=1) F (A7 wM);have H27:=hs a27 X G λ_ F _ _=>WH (n:=2) F (A7 H26) J;have wQ:=hs a28 X G λ_ F _ _=>lJ (n:=2) F (A7 A);have y9:=hs a29 X G λ_ F _ _=>YL (n:=0) F;have H30:=hs a30 X G λ_ F _ _=>Nm (n:=3) F (A7 N) (A7 wQ) (A7 wN) (A7 wO) g J;have wR:=hs a31 X G λ_ F _ _=>YM (n:=4) F (A7 d) (A7 H30) f y;have zE:=hs a32 X G λ_ F _ _=>YH (n:=5) F (A7 N) (A7 wQ) (A7 y9) (A7 wR) y;have wS:=hs a33 X G λ_ F _ _=>YC (n:=1) F (A7 d);have wT:=hs a34 X G λ_ F _ _=>cT (n:=1) F (A7 d);have wU:=hs a35 X G λ_ F _ _=>WJ (n:=2) F (A7 d) (A7 wS) (A7 wT);have zG:=hs a36 X G λ_ F _ _=>Jr (n:=1) F (A7 d) g;have H37:=hs a37 X G λ_ F _ _=>Pp (n:=1) F (A7 d) f;have zH:=hs a38 X G λ_ F _ _=>cW (n:=2) F (A7 H37) f;have zI:=hs a39 X G λ_ F _ _=>gW (n:=3) F (A7 zG) (A7 zH);have wV:=hs a40 X G λ_ F _ _=>cV (n:=6) F (A7 H27) (A7 zE) (A7 wU) (A7 zI) f y;have zJ:=hs a41 X G λ_ F _ _=>YG (n:=7) F (A7 d) (A7 H25) (A7 wV);have H42:=hs a42 X G λ_ F _ _=>UD (n:=5) F (A7 wR);have H43:=hs a43 X G λ_ F _ _=>YI (n:=6) F (A7 d) (A7 H42) (A7 zG) (A7 wS) (A7 wT) g;have H44:=hs a44 X G λ_ F _ _=>WI (n:=0) F;have H45:=hs a45 X G λ_ F _ _=>cU (n:=3) F (A7 zH) (A7 H44) I;have H46:=hs a46 X G λ_ F _ _=>YB (n:=4) F (A7 H45) g;have zK:=hs a47 X G λ_ F _ _=>WK (n:=5) F (A7 H46);have H48:=hs a48 X G λ_ F _ _=>YF (n:=4) F (A7 d) (A7 wT) (A7 wP);have wW:=hs a49 X G λ_ F _ _=>WL (n:=7) F (A7 H48) (A7 wV) (A7 zK);have H50:=hs a50 X G λ_ F _ _=>WC (n:=8) F (A7 M) (A7 zJ) (A7 H43) (A7 zK) (A7 wW);have zL:=hs a51 X G λ_ F _ _=>cR (n:=6) F (A7 d) (A7 wS) (A7 zE) (A7 wU) C;have H52:=hs a52 X G λ_ F _ _=>YE (n:=1) F (A7 d) IP;have H53:=hs a53 X G λ_ F _ _=>cX (n:=0) F;have H54:=hs a54 X G λ_ F _ _=>YK (n:=4) F (A7 H52) (A7 wP) (A7 H53);have zM:=hs a55 X G λ_ F _ _=>gX (n:=0) F;have zN:=hs a56 X G λ_ F _ _=>YJ (n:=8) F (A7 wQ) (A7 wV) (A7 wN) (A7 H54) (A7 wW) (A7 zM) g;have H57:=hs a57 X G λ_ F _ _=>gS (n:=5) F (A7 d) (A7 N) (A7 y9) (A7 wR) (A7 wO) (A7 zI) (A7 zM);have zO:=hs a58 X G λ_ F _ _=>WF (n:=0) F Y4 D H;have H59:=hs a59 X G λ_ F _ _=>YD (n:=1) F (A7 wM) (A7 zO) C H f I g;have H60:=hs a60 X G λ_ F _ _=>cS (n:=2) F (A7 H59) (A7 zO) H f I g;have zP:=hs a61 X G λ_ F _ _=>Mh (n:=6) F (A7 d) (A7 H57) (A7 H60) (A7 wU) H f I g;have H62:=hs a62 X G λ_ F _ _=>RA (n:=9) F (A7 zL) (A7 zN) (A7 zP);have zQ:=hs a63 X G λ_ F _ _=>X9 (n:=1) F (A7 M);have H64:=hs a64 X G λ_ F _ _=>Jq (n:=9) F (A7 zQ) (A7 zN) (A7 zP);have H65:=hs a65 X G λ_ F _ _=>Pm (n:=2) F (A7 L) (A7 z);have H66:=hs a66 X G λ_ F _ _=>Pn (n:=1) F (A7 M) f;have H67:=hs a67 X G λ_ F _ _=>Ni (n:=3) F (A7 H65) (A7 H7) (A7 H66) (A7 H8) J;have H68:=hs a68 X G λ_ F _ _=>Po (n:=7) F (A7 zQ) (A7 M) (A7 H67) (A7 zL);have H69:=hs a69 X G λ_ F _ _=>RC (n:=10) F (A7 H50) (A7 m) (A7 H62) (A7 H6) (A7 L) (A7 z) (A7 H64) (A7 H68) (A7 zJ) (A7 wW) f;exact pk (n:=11) FL (A7 H13) (A7 H14) (A7 H69) f jF y
def walk {l:PySem.W.OpenLaw}{q:Wf}{loose:kj Str}{XP:(Str->kc ki)->Sr->Prop}{YP:Tb->Sr->Prop}{d:DefRec}{K:Params->AAG}(hn:l.most=some 63)(c:d.params.defaults= [])(e:∀(w:Tb) (h:Sr),YP w h->(K w.params).In h)(F:∀(w:Tb) (Z:Str->kc ki) (b:kd) (h:Sr),(K w.params).In h->h.Ns mainGlobals Z->Z d.name=some (.ref b)-> ∃U:FuncData,(∀(s:kf) (u:ki),BindsTo s U ⟨[u], []⟩ [("_law_script",u)])/\∀Y:Sr,(K w.params).In Y->Y.Ns mainGlobals Z->FF l.prog w (K w.params) Z Y VL 12 b U ["_law_script"] (Cf (K w.params) 1 E4)):PySem.W.WalkO q loose XP YP l.row.toRowW d [] (λf vs=>PySem.call f vs):=
 L2.walk_of (n:=63) (k:=12) (x:="_law_script") (CX:=λ_=>VL) (sp:=λw=>Cf (K w.params) 1 E4) hn (by decide) c ⟨rfl,by decide,by decide,rfl⟩ e F (λ_ _ a g hl _ i=>PL.law_sp i (gB g hl)) λ_ _ _ _ _ z=>z
def atK {K:AAG}{x:String}{s:Stmt}(m:String)(i c f:Nat)(a:PySem.W.nsIn K mainGlobals (Str.ofString x)=some (some (.ref f)):=by kernel_rfl)(l:K.lookup f=some (fO x s m i c):=by kernel_rfl)(d:PySem.W.codeIn K (.ref c) (Str.ofString x)=true:=by kernel_rfl)(k:PySem.W.keepIn K (.ref f)=true:=by kernel_rfl):Cs K (Str.ofString x) s f:=at1 a l d k
end K85
open PySem PySem.W PyProof.Rows
def K85.lg:LeftO PySem.Challenge.pw_skylanes_k85_whole_nearness K85.q [] (λs=>xlAt K85.q [] s&&recOk [] s) (λs=>K85.KA.map s.heap.get?) (λw=>(K85.KK w.params).map λp=>some p.2) 6000:=λw=>PL.map_pair (PL.map5 (K85.l0 w) (K85.l1 w) (K85.l2 w) (K85.l3 w) (K85.l4 w)) (K85.l5 w)
set_option maxRecDepth 100000 in
set_option maxHeartbeats 0 in
theorem PySem.Challenge.cw_skylanes_k85_whole_nearness_holds : PySem.Challenge.rw_skylanes_k85_whole_nearness.Holds := by
 refine ⟨K85.w1, ?_⟩
 refine PySem.W.holds_open (q:=K85.q) (loose:= []) (Xt:=λs=>xlAt K85.q [] s&&recOk [] s) (XP:=XL K85.q []) (YP:=InK K85.KK) (N:=6000) K85.lg (InK.of (as:=K85.KA) λ_=>by kernel_rfl) InK.keeps (λs e=>xl_of s (Bool.and_eq_true_iff.mp e).1) XL.keeps (by rfl) (by rfl) (by rfl) (λs e=>recFacts_of (Bool.and_eq_true_iff.mp e).2) (by rfl) K85.w0 (by decide +kernel) ⟨rfl,rfl,rfl,rfl,rfl,by decide +kernel⟩ ?hw ?hc
 (case hw=>w_witness2)
 case hc=>
 refine K85.walk (l:=PySem.Challenge.rw_skylanes_k85_whole_nearness) (K:=K85.KK) rfl rfl (λw h Y=>Y) ?F
 intro w mg fa h KX G tW
 exact K85.all_mk KX G tW (K85.atK K85.m0 623 322 323) (K85.atK K85.m0 623 392 393) (K85.atK K85.m0 623 329 330) (K85.atK K85.m0 623 343 344) (K85.atK K85.m0 623 402 403) (K85.atK K85.m0 623 350 351) (K85.atK K85.m0 623 371 372) (K85.atK K85.m0 623 378 379) (K85.atK K85.m0 623 385 386) (K85.atK K85.m0 623 357 358) (K85.atK K85.m0 623 407 408) (K85.atK K85.m0 623 315 316) (K85.atK K85.m0 623 414 415) (K85.atK K85.m0 623 438 439) (K85.atK K85.m0 623 336 337) (K85.atK K85.m1 187 76 77) (K85.atK K85.m2 400 237 238) (K85.atK K85.m2 400 232 233) (K85.atK K85.m1 187 27 28) (K85.atK K85.m1 187 34 35) (K85.atK K85.m1 187 55 56) (K85.atK K85.m1 187 48 49) (K85.atK K85.m1 187 62 63) (K85.atK K85.m2 400 225 226) (K85.atK K85.m2 400 244 245) (K85.atK K85.m1 187 104 105) (K85.atK K85.m2 400 213 214) (K85.atK K85.m1 187 69 70) (K85.atK K85.m2 400 194 195) (K85.atK K85.m3 316 123 124) (K85.atK K85.m3 316 130 131) (K85.atK K85.m2 400 199 200) (K85.atK K85.m1 187 90 91) (K85.atK K85.m1 187 83 84) (K85.atK K85.m2 400 182 183) (K85.atK K85.m3 316 142 143) (K85.atK K85.m1 187 111 112) (K85.atK K85.m1 187 118 119) (K85.atK K85.m2 400 187 188) (K85.atK K85.m2 400 218 219) (K85.atK K85.m2 400 251 252) (K85.atK K85.m3 316 137 138) (K85.atK K85.m3 316 149 150) (K85.atK K85.m4 359 156 157) (K85.atK K85.m4 359 161 162) (K85.atK K85.m4 359 168 169) (K85.atK K85.m4 359 175 176) (K85.atK K85.m2 400 258 259) (K85.atK K85.m2 400 263 264) (K85.atK K85.m0 623 469 470) (K85.atK K85.m2 400 206 207) (K85.atK K85.m5 543 277 278) (K85.atK K85.m5 543 270 271) (K85.atK K85.m5 543 282 283) (K85.atK K85.m1 187 41 42) (K85.atK K85.m5 543 287 288) (K85.atK K85.m5 543 301 302) (K85.atK K85.m1 187 20 21) (K85.atK K85.m1 187 97 98) (K85.atK K85.m5 543 294 295) (K85.atK K85.m5 543 308 309) (K85.atK K85.m0 623 450 451) (K85.atK K85.m0 623 433 434) (K85.atK K85.m0 623 464 465) (K85.atK K85.m0 623 426 427) (K85.atK K85.m0 623 419 420) (K85.atK K85.m0 623 443 444) (K85.atK K85.m0 623 457 458) (K85.atK K85.m0 623 476 477) (K85.atK K85.m0 623 483 484) (by kernel_rfl) (by kernel_rfl) (by kernel_rfl) (by kernel_rfl) (by kernel_rfl) (by kernel_rfl) (by kernel_rfl) (by kernel_rfl) (by kernel_rfl) (by kernel_rfl) (by kernel_rfl) (by kernel_rfl) (by kernel_rfl)
end
