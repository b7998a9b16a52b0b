import PyProof.Rows.All
import KE.KItem
import KE.KRevIter
import KE.IntBitsLaws
import PySem.Challenge.RW_skylanes_k25_partings
set_option Elab.async false
set_option linter.all false
set_option maxRecDepth 100000
set_option maxHeartbeats 4000000
abbrev km:=@List
abbrev kj:=PySem.Value
abbrev ki:=PySem.Shared
abbrev kf:=PySem.Addr
abbrev ke:=@Option
abbrev kd:=PySem.Expr
abbrev kc:=Bool
abbrev gn:=PySem.Program
abbrev fe:=PySem.World
abbrev da:=PySem.Heap
abbrev Wf:=PySem.Around
abbrev AAQ:=@PySem.wpAny_bind
abbrev AAR:=PySem.W.Frag
abbrev AAS:=@if_neg
abbrev AAT:=@PySem.wpAny_pure
abbrev AAU:=@if_pos
abbrev AAV:=@List.mem_cons
abbrev AAW:=@PySem.Heap.lt_size
abbrev AAX:=@PySem.Heap.get?_push_of_some
abbrev AAY:=@Nat.le_refl
abbrev AAZ:=@List.pairwise_cons
abbrev AAa:=@Nat.ne_of_lt
abbrev AAb:=@List.length_map
abbrev AAc:=@List.map_cons
abbrev AAd:=@PySem.Heap.get?_push_size
abbrev AAe:=@List.mem_map
abbrev AAf:=@PyProof.Rows.boot_tuple
abbrev AAg:=@Bool.false_ne_true
abbrev AAh:=@List.size_toArray
abbrev AAi:=@decide_eq_true
abbrev AAj:=@List.mem_append
abbrev AAk:=@List.map_append
abbrev AAl:=@PySem.PassesOwn.never
abbrev AAm:=@PySem.wpAny_field
abbrev AAn:=@Option.some.inj
abbrev AAo:=@List.mem_append_right
abbrev AAp:=@List.not_mem_nil
abbrev AAq:=@or_false
abbrev AAr:=@decide_eq_false
abbrev AAs:=@List.getElem?_eq_getElem
abbrev AAt:=@Nat.lt_of_lt_of_le
abbrev AAu:=@Nat.le_trans
abbrev AAv:=@List.length_cons
abbrev AAw:=@PySem.boot_len
abbrev AAx:=@if_false
abbrev AAy:=@List.getElem?_eq_some_iff
abbrev AA0:=@List.getElem?_map
abbrev AA8:=@List.length_append
abbrev AA9:=@List.mem_of_getElem?
abbrev ABA:=@PySem.isSubtype_type
abbrev ABB:=@PyProof.Rows.boot_isinstance
abbrev ABC:=@PySem.wpAny_seqItems
abbrev ABD:=@List.getElem?_set_ne
abbrev ABE:=@Nat.ne_of_gt
abbrev ABF:=@List.getElem?_append_left
abbrev ABG:=@List.nil_append
abbrev ABH:=@PySem.wpAny_call_entry
abbrev ABI:=@Bool.false_eq_true
abbrev ABJ:=@Bool.and_eq_true
abbrev ABK:=@if_true
abbrev ABL:=@PySem.wpAny_holding
abbrev ABM:=@PySem.wpAny_mono
abbrev ABN:=@PySem.wpAny_newObj_type
abbrev ABO:=@Nat.zero_le
abbrev ABP:=@List.any_cons
abbrev ABQ:=@Ne.symm
abbrev ABR:=@PySem.W.mg_none_of
abbrev ABS:=@PySem.wpAny_rule
abbrev ABU:=@PySem.Heap.size_push
abbrev ABV:=@List.getElem?_append_right
abbrev ABW:=@Nat.lt_of_le_of_lt
abbrev ABX:=@of_decide_eq_true
abbrev ABY:=@of_decide_eq_false
abbrev ABZ:=@List.filter_cons
abbrev ABa:=@PySem.wpAny_standAt
abbrev ABb:=@List.append_nil
abbrev ABc:=@PySem.wpAny_callSpecial?_slot
abbrev ABd:=@List.all_eq_true
abbrev ABe:=@PySem.wpAny_setField_rec
abbrev ABf:=@List.mem_of_getLast?
abbrev ABg:=@PySem.wpAny_specialOf
abbrev ABh:=@List.mem_cons_of_mem
abbrev ABi:=@Nat.lt_irrefl
abbrev ABj:=@List.of_mem_zip
abbrev ABk:=@Rat.num_divInt_den
abbrev ABn:=@Nat.le_of_ble_eq_true
abbrev ABo:=@List.foldl_cons
abbrev ABr:=@Bool.or_eq_true
abbrev ABs:=@List.mem_flatMap
abbrev ABt:=@Rat.intCast_lt_intCast
abbrev ABu:=@Rat.mul_pos
abbrev ABv:=@PyProof.Rows.boot_abs
abbrev ACI:=@PySem.F.slot_list_append
abbrev ACJ:=@PySem.F.type_list_append
abbrev ACK:=@Bool.not_true
abbrev ACL:=@PySem.wpAny_truthy_bool
abbrev ACN:=@List.mem_filter
abbrev ACO:=@List.length_replicate
abbrev ACP:=@PyProof.Rows.boot_int
abbrev ACQ:=@PySem.wpAny_isInstance
abbrev ACR:=@Bool.eq_iff_iff
abbrev ACS:=@PySem.Calls.spliced_cons
abbrev ACT:=@List.getElem?_replicate
abbrev ACU:=@PyProof.Rows.slot_tuple_getitem
abbrev ACV:=@PySem.wpAny_of_eq
abbrev ACW:=@PySem.F.slot_zip_next
abbrev ACX:=@List.map_map
abbrev ACY:=@List.find?_cons
abbrev ACZ:=@Rat.div_lt_iff
abbrev ACa:=@PyProof.Rows.boot_list
abbrev ACb:=@Array.length_toList
abbrev ACc:=@List.mem_cons_self
abbrev ACd:=@PySem.wpAny_passesOwn
abbrev ACe:=@PyProof.Rows.callWith_type1
abbrev ACf:=@PySem.Heap.get?_update_self
abbrev ACg:=@Nat.lt_trans
abbrev ACh:=@Int.fdiv_eq_ediv_of_nonneg
abbrev ACi:=@PySem.wpAny_onRaise
abbrev ACj:=@PySem.wpAny_attempt
abbrev ACk:=@List.drop_eq_getElem_cons
abbrev ACl:=@List.map_congr_left
abbrev ACm:=@decide_eq_decide
abbrev ACn:=@List.map_drop
abbrev ACo:=@List.set_cons_succ
abbrev ACp:=@Option.map_eq_some_iff
abbrev ACq:=@List.length_filter_le
abbrev ACr:=@Rat.intCast_le_intCast
abbrev ACs:=@Rat.mul_le_mul_of_nonneg_left
abbrev ACt:=@Int.toNat_natCast
abbrev ACu:=@Prod.ext
abbrev ACv:=@List.lookup_cons
abbrev ACw:=@List.forIn_cons
abbrev ACx:=@PySem.wpAny_letGo
abbrev ACy:=@Nat.gcd_comm
abbrev ACz:=@Nat.gcd_pos_of_pos_right
abbrev AC0:=@Rat.lt_iff
abbrev AC1:=@List.getElem?_drop
abbrev AC2:=@List.getLast?_eq_some_getLast
abbrev AC3:=@List.getLast?_cons_cons
abbrev AC4:=@List.append_assoc
abbrev AC5:=@List.map_id
abbrev AC6:=@List.mem_singleton
abbrev AC7:=@decide_eq_true_iff
abbrev AC8:=@Rat.le_refl
abbrev AC9:=@List.set_cons_zero
abbrev ADA:=@PySem.Paired.length
abbrev ADB:=@List.mem_append_left
abbrev ADC:=@List.mem_filterMap
abbrev ADD:=@List.any_eq_false
abbrev ADE:=@PySem.Calls.spliced_nil
abbrev ADF:=@PySem.codeAny_mono
abbrev ADG:=@PySem.mem_of_lookup
abbrev ADH:=@PySem.wpAny_typeOf
abbrev ADI:=@PySem.Heap.get?_update_other
abbrev ADJ:=@List.map_nil
abbrev ADK:=@PySem.wpAny_setField
abbrev ADL:=@PySem.Heap.SameBut.update
abbrev ADM:=@PySem.Obj.data_mapFields
abbrev ADN:=@List.forIn_nil
abbrev ADO:=@PySem.wpAny_updateSeq_pair
abbrev ADP:=@decide_eq_true_eq
abbrev ADQ:=@List.drop_eq_nil_of_le
abbrev ADR:=@Nat.div_le_self
abbrev ADS:=@Int.natAbs_neg
abbrev ADT:=@Nat.gcd_dvd_right
abbrev ADU:=@Int.natCast_ediv
abbrev ADV:=@List.sum_cons
abbrev ADW:=@Int.mul_assoc
abbrev ADX:=@List.map_take
abbrev ADY:=@Nat.le_succ
abbrev ADZ:=@List.length_nil
abbrev ADa:=@Option.isSome_map
abbrev ADb:=@PySem.F.slot_dict_keyiterator_next
abbrev ADc:=@Bool.or_false
abbrev ADd:=@List.pairwise_map
abbrev ADe:=@List.foldl_append
abbrev ADf:=@List.flatMap_cons
abbrev ADg:=@Rat.lt_div_iff
abbrev ADh:=@Rat.not_lt
abbrev ADi:=@Rat.mul_lt_mul_of_pos_left
abbrev ADj:=@Int.emod_nonneg
abbrev ADk:=@Int.emod_lt_of_pos
abbrev ADl:=@PySem.F.slot_tuple_hash
abbrev ADm:=@PySem.wpAny_forIn_list
abbrev ADn:=@PySem.F.slot_tuple_eq
abbrev ADo:=@List.mem_range
abbrev ADp:=@Nat.le_of_lt
abbrev ADq:=@List.filterMap_cons
abbrev ADr:=@PySem.wpAny_execs_nil
abbrev ADs:=@Int.mul_one
abbrev ADt:=@Int.fmod_eq_emod_of_nonneg
abbrev ADu:=@PySem.wpAny_Call_Name_kw
abbrev ADv:=@List.nodup_cons
abbrev ADw:=@List.reverse_cons
abbrev ADx:=@PySem.codeAny_loop
abbrev ADy:=@PySem.wpAny_noted
abbrev ADz:=@PySem.wpAny_comprehension_free
abbrev AD0:=@List.getElem_mem
abbrev AD1:=@PySem.wpAny_pyIter_list
abbrev AD2:=@List.take_of_length_le
abbrev AD3:=@PySem.F.slot_tuple_iterator_next
abbrev AD4:=@List.zipIdx_cons
abbrev AD5:=@List.zipIdx_nil
abbrev AD6:=@PySem.F.entry_zip_next
abbrev AD7:=@PySem.F.args_zip_next_1
abbrev AD8:=@PySem.wpAny_pyIter_zip
abbrev AD9:=@List.getElem?_set
abbrev AEA:=@List.take_succ_cons
abbrev AEB:=@Rat.num_divInt
abbrev AEC:=@Rat.divInt_mul_divInt
abbrev AED:=@Rat.div_def
abbrev AEE:=@Nat.le_of_dvd
abbrev AEF:=@Int.natCast_mul
abbrev AEG:=@List.pairwise_append
abbrev AEH:=@PySem.typeLookup_type
abbrev AEI:=@PySem.builtinLookup_eq_fast
abbrev AEJ:=@PySem.wpAny_typeNameOfWhole_keyiter
abbrev AEK:=@List.pairwise_singleton
abbrev AEL:=@Bool.eq_false_iff
abbrev AEM:=@Int.natAbs_natCast
abbrev AEN:=@Rat.intCast_mul
abbrev AEO:=@Rat.intCast_sub
abbrev AEP:=@Rat.intCast_neg
abbrev AEQ:=@List.any_append
abbrev AER:=@PySem.wpAny_tupleItemsOf
abbrev AES:=@Array.forIn_toList
abbrev AET:=@Nat.add_assoc
abbrev AEU:=@PySem.isSubtype_tuple_tuple
abbrev AEV:=@beq_eq_false_iff_ne
abbrev AEW:=@Bool.false_and
abbrev AEX:=@List.length_take
abbrev AEY:=@PySem.noFill_tuple_add
abbrev AEZ:=@PySem.F.slot_tuple_add
abbrev AEa:=@PySem.F.entry_tuple_add
abbrev AEb:=@PySem.F.args_tuple_add_2
abbrev AEc:=@List.length_singleton
abbrev AEd:=@PySem.codeAny_compStart_list
abbrev AEe:=@List.mem_iff_getElem
abbrev AEf:=@List.getD_eq_getElem?_getD
abbrev AEg:=@PySem.Obj.isFreed_of_fields
abbrev AEh:=@Rat.den_divInt
abbrev AEi:=@Rat.divInt_add_divInt
abbrev AEj:=@Int.sign_eq_one_of_pos
abbrev AEk:=@Rat.divInt_eq_divInt_iff
abbrev AEl:=@Int.mul_comm
abbrev AEm:=@List.pairwise_iff_getElem
abbrev AEn:=@List.cons_append
abbrev AEo:=@PySem.wpAny_dictEntries
abbrev AEp:=@PySem.wpAny_dictEpoch
abbrev AEq:=@PySem.wpAny_updateSeq
abbrev AEr:=@Prod.mk.injEq
abbrev AEs:=@List.any_eq_true
abbrev AEt:=@Rat.mul_lt_mul_of_pos_right
abbrev AEu:=@forall_eq_or_imp
abbrev AEv:=@List.tail_cons
abbrev AEw:=@List.zip_cons_cons
abbrev AEx:=@List.filter_append
abbrev AEy:=@Int.mul_nonneg
abbrev AEz:=@List.flatMap_map
abbrev AE0:=@Classical.byContradiction
abbrev AE1:=@PySem.W.mg_of
abbrev AE2:=@List.getElem?_eq_none_iff
abbrev AE3:=@List.getElem?_set_self
abbrev AE4:=@PySem.W.cellsFrom_some
abbrev AE5:=@PyProof.Rows.callWith_builtin1
abbrev AE6:=@PyProof.noPylong_of_log2
abbrev AE7:=@PySem.F.entry_tuple_iterator_next
abbrev AE8:=@PySem.F.args_tuple_iterator_next_1
abbrev AE9:=@List.getElem?_zipWith
abbrev AFA:=@Int.gcd_eq_natAbs_gcd_natAbs
abbrev AFB:=@Int.fdiv_eq_ediv_of_dvd
abbrev AFC:=@Int.sign_eq_neg_one_of_neg
abbrev AFD:=@List.getLast?_eq_getElem?
abbrev AFE:=@PySem.F.slot_dict_get
abbrev AFF:=@PySem.F.entry_dict_keyiterator_next
abbrev AFG:=@PySem.F.args_dict_keyiterator_next_1
abbrev AFH:=@Array.getElem?_eq_getElem
abbrev AFI:=@List.getElem?_eq_none
abbrev AFJ:=@List.filter_eq_nil_iff
abbrev AFK:=@Int.mul_nonneg_of_nonpos_of_nonpos
abbrev AFL:=@List.length_filterMap_le
abbrev AFM:=@List.exists_cons_of_ne_nil
abbrev AFN:=@PySem.F.slot_list_insert
abbrev AFO:=@PySem.F.type_list_insert
section
namespace L2
open PySem
def G7 (s:Stmt):Arguments:=match s with
 | .FunctionDef _ a _ _ _ _ _ _ _ _=>a
 | _=>{posonlyargs:= [],args:= [],vararg:=none,kwonlyargs:= [],kw_defaults:= [],kwarg:=none,defaults:= [] }
def Ex (s:Stmt):km Stmt:=match s with
 | .FunctionDef _ _ b _ _ _ _ _ _ _=>b
 | _=> []
def BY (s:Stmt):Scope:=match s with
 | .FunctionDef _ _ _ _ _ _ sc _ _ _=>sc
 | _=>{kind:= .function,names:= [],isGenerator:=false,isCoroutine:=false}
end L2
namespace K25
open PySem L2 PyProof.Rows
def top (i:Nat):Stmt:=PySem.Challenge.pw_skylanes_k25_partings.main.body.getD i (.Pass ⟨0,0,0,0⟩)
abbrev F3:Stmt:=top 45
abbrev HE:Stmt:=top 55
abbrev Ic:Stmt:=top 46
abbrev Kr:Stmt:=top 48
abbrev HG:Stmt:=top 57
abbrev Kq:Stmt:=top 49
abbrev HH:Stmt:=top 52
abbrev Ig:Stmt:=top 53
abbrev Ie:Stmt:=top 54
abbrev Fn:Stmt:=top 50
abbrev GC:Stmt:=top 58
abbrev F4:Stmt:=top 44
abbrev IZ:Stmt:=top 59
abbrev Ia:Stmt:=top 47
abbrev HI:Stmt:=top 51
abbrev Ih:Stmt:=top 56
abbrev Ko:Stmt:=top 60
abbrev Fm:Stmt:=top 67
abbrev Dz:Stmt:=top 75
abbrev GG:Stmt:=top 69
abbrev GE:Stmt:=top 70
abbrev Ib:Stmt:=top 63
abbrev GH:Stmt:=top 61
abbrev HK:Stmt:=top 64
abbrev HM:Stmt:=top 62
abbrev HF:Stmt:=top 65
abbrev GF:Stmt:=top 66
abbrev FB:Stmt:=top 68
abbrev GD:Stmt:=top 71
abbrev Ep:Stmt:=top 72
abbrev HL:Stmt:=top 73
abbrev GI:Stmt:=top 76
abbrev Qi:Stmt:=top 2
abbrev Yl:Stmt:=top 3
abbrev Yk:Stmt:=top 8
abbrev FC:Stmt:=top 13
abbrev Kv:Stmt:=top 30
abbrev Uk:Stmt:=top 6
abbrev NV:Stmt:=top 28
abbrev Qg:Stmt:=top 9
abbrev Ym:Stmt:=top 5
abbrev Ul:Stmt:=top 7
abbrev Fo:Stmt:=top 17
abbrev NW:Stmt:=top 18
abbrev NR:Stmt:=top 29
abbrev NN:Stmt:=top 11
abbrev Qk:Stmt:=top 10
abbrev Kx:Stmt:=top 26
abbrev EX:Stmt:=top 19
abbrev GJ:Stmt:=top 14
abbrev Qn:Stmt:=top 15
abbrev Um:Stmt:=top 27
abbrev Qm:Stmt:=top 31
abbrev NP:Stmt:=top 37
abbrev Ii:Stmt:=top 32
abbrev Qo:Stmt:=top 36
abbrev NU:Stmt:=top 38
abbrev NQ:Stmt:=top 33
abbrev HN:Stmt:=top 21
abbrev Ql:Stmt:=top 22
abbrev NM:Stmt:=top 23
abbrev Ky:Stmt:=top 24
abbrev Kz:Stmt:=top 34
abbrev Uo:Stmt:=top 4
abbrev NT:Stmt:=top 39
abbrev Uj:Stmt:=top 41
abbrev Ku:Stmt:=top 1
abbrev NO:Stmt:=top 12
abbrev Qj:Stmt:=top 40
abbrev FD:Stmt:=top 42
abbrev HJ:Stmt:=top 77
abbrev Er:Stmt:=top 74
abbrev Se:Stmt:=top 78
def m0:String:="law_skylanes_k25_partings"
def m1:String:="skylanes.fractions"
def m2:String:="skylanes.nearness"
def m3:String:="skylanes.plans"
def m4:String:="skylanes.partings"
def m5:String:="skylanes.stretches"
def eN (P:Params)(x:String)(i:Nat)(v:kj):DictEntry:=⟨PyData.keyHash P (Str.ofString x), .str (Str.ofString x) i,v⟩
abbrev eR (P:Params)(x:String)(i f:Nat):=eN P x i (.ref f)
def fO (x:String)(s:Stmt)(m:String)(i c:Nat):Obj:=⟨.type "function",none, .func (PySem.W.fnOf (Str.ofString x) (Str.ofString x) (G7 s) (Ex s) (BY s) .none .none .none (.str (Str.ofString m) i) none (.ref c) .none), #[]⟩
def rV:Nat->kj
 | 0=> .none
 | n+1=> .ref (n+1)
def fc (x:String)(s:Stmt)(m:String)(a c f i l n g b d e h j u:Nat)(r:AAR):AAR:=
 (c,⟨.type "code",none, .fields #[.str (Str.ofString x) i, .str (Str.ofString x) (i+1), .str (Str.ofString "/claim/cut.py") (i+2), .int l 0, .int n 0, .int 0 0, .int 0 0, .int g 0,rV b, .bool true, .int 181 0,rV d, .none,rV e,rV h,rV j, .int u 0, .int l 0, .str (Str.ofString "/claim/cut.py") (u+1)], #[]⟩) ::
 (f,fO x s m a c)::r
def wv (P:Params):Obj:=⟨.type "dict",none, .dict #[eN P "__name__" 165 (.str (Str.ofString "law_skylanes_k25_partings") 544),eN P "__doc__" 166 .none,eN P "__package__" 167 .none,eN P "__loader__" 168 (.builtin "__main__.__loader__#opaque"),eN P "__spec__" 169 .none,eR P "__annotations__" 170 6,eR P "__builtins__" 171 4,eN P "__file__" 173 (.str (Str.ofString "/claim/cut.py") 172),eN P "__cached__" 174 .none,eR P "is_whole" 195 21,eR P "common" 203 28,eR P "part" 212 35,eR P "whole" 219 42,eR P "plus" 227 49,eR P "minus" 235 56,eR P "times" 243 63,eR P "over" 251 70,eR P "before" 259 77,eR P "lesser" 267 84,eR P "greater" 275 91,eR P "is_part" 284 98,eR P "shared_bottom" 294 105,eR P "count_below" 305 112,eR P "rising" 315 119,eR P "spot_between" 323 124,eR P "spot_at" 332 131,eR P "corners_between" 338 136,eR P "steps_of" 353 143,eR P "levels" 359 148,eR P "counted" 372 155,eR P "told_set" 379 162,eR P "together" 391 169,eR P "turns" 397 174,eR P "size_of" 405 181,eR P "offs_at" 411 186,eR P "lines_of" 425 193,eR P "pieces" 431 198,eR P "moment_at" 440 205,eR P "near_in" 457 212,eR P "too_near" 463 217,eR P "row_of" 475 224,eR P "longest" 488 231,eR P "rows_of" 494 236,eR P "parting" 500 241,eR P "is_row" 511 248,eR P "holds" 527 255,eR P "shows_parting" 543 262,eR P "_law_tape" 555 269,eR P "_law_draw" 565 276,eR P "_law_part" 576 283,eR P "_law_less" 584 290,eR P "_law_sum" 592 297,eR P "_law_off" 600 304,eR P "_law_product" 608 311,eR P "_law_ratio" 616 318,eR P "_law_place" 624 325,eR P "_law_span" 632 332,eR P "_law_plan" 644 339,eR P "_law_apart" 652 346,eR P "_law_spot" 658 351,eR P "_law_moved" 664 356,eR P "_law_beside" 670 361,eR P "_law_case" 682 368,eR P "_law_gap" 698 375,eR P "_law_rising" 704 380,eR P "_law_turns" 710 385,eR P "_law_offs" 716 390,eR P "_law_share" 727 397,eR P "_law_marks" 745 404,eR P "_law_middle" 753 411,eR P "_law_is_near" 764 418,eR P "_law_near_set" 779 425,eR P "_law_number" 786 432,eR P "_law_lowest" 793 439,eR P "_law_is_row" 800 446,eR P "_law_row_holds" 806 451,eR P "_law_shows" 812 456,eR P "_law_wide_pair" 818 461,eR P "_law_listed" 824 466,eR P "_law_tupled" 830 471,eR P "_law_right" 840 478,eR P "law" 846 483] 82, #[]⟩
def KK (P:Params):AAR:=(3,wv P)::(fc "_law_draw" F3 m0 544 275 276 556 226 2 3 270 271 272 273 274 563 <| fc "_law_apart" HE m0 544 345 346 645 278 1 3 340 341 342 343 344 650 <| fc "_law_part" Ic m0 544 282 283 566 234 2 3 277 278 279 280 281 574 <| fc "_law_sum" Kr m0 544 296 297 585 242 2 3 291 292 293 294 295 590 <| fc "_law_moved" HG m0 544 355 356 659 290 3 3 352 353 0 0 354 662 <| fc "_law_off" Kq m0 544 303 304 593 244 2 3 298 299 300 301 302 598 <| fc "_law_place" HH m0 544 324 325 617 250 1 3 319 320 321 322 323 622 <| fc "_law_span" Ig m0 544 331 332 625 257 1 3 326 327 328 329 330 630 <| fc "_law_plan" Ie m0 544 338 339 633 262 1 3 333 334 335 336 337 642 <| fc "_law_product" Fn m0 544 310 311 601 246 2 3 305 306 307 308 309 606 <| fc "_law_beside" GC m0 544 360 361 665 292 3 3 357 358 0 0 359 668 <| fc "_law_tape" F4 m0 544 268 269 546 220 2 3 263 264 265 266 267 553 <| fc "_law_case" IZ m0 544 367 368 671 316 2 3 362 363 364 365 366 680 <| fc "_law_less" Ia m0 544 289 290 577 240 2 3 284 285 286 287 288 582 <| fc "_law_ratio" HI m0 544 317 318 609 248 2 3 312 313 314 315 316 614 <| fc "_law_spot" Ih m0 544 350 351 653 281 2 3 347 348 0 0 349 656 <| fc "_law_gap" Ko m0 544 374 375 683 324 5 3 369 370 371 372 373 696 <| fc "_law_is_near" Fm m0 544 417 418 754 373 4 3 412 413 414 415 416 762 <| fc "_law_listed" Dz m0 544 465 466 819 434 1 3 462 463 0 0 464 822 <| fc "_law_number" GG m0 544 431 432 780 389 1 3 426 427 428 429 430 784 <| fc "_law_lowest" GE m0 544 438 439 787 391 1 3 433 434 435 436 437 791 <| fc "_law_offs" Ib m0 544 389 390 711 352 4 3 386 387 0 0 388 714 <| fc "_law_rising" GH m0 544 379 380 699 338 1 3 376 377 0 0 378 702 <| fc "_law_share" HK m0 544 396 397 717 356 4 3 391 392 393 394 395 725 <| fc "_law_turns" HM m0 544 384 385 705 345 2 3 381 382 0 0 383 708 <| fc "_law_marks" HF m0 544 403 404 728 361 3 3 398 399 400 401 402 743 <| fc "_law_middle" GF m0 544 410 411 746 371 2 3 405 406 407 408 409 751 <| fc "_law_near_set" FB m0 544 424 425 765 376 3 3 419 420 421 422 423 777 <| fc "_law_is_row" GD m0 544 445 446 794 397 1 3 440 441 442 443 444 798 <| fc "_law_row_holds" Ep m0 544 450 451 801 403 4 3 447 448 0 0 449 804 <| fc "_law_shows" HL m0 544 455 456 807 411 4 3 452 453 0 0 454 810 <| fc "_law_tupled" GI m0 544 470 471 825 438 1 3 467 468 0 0 469 828 <| fc "common" Qi m1 187 27 28 196 4 2 3 22 23 24 25 26 201 <| fc "part" Yl m1 187 34 35 204 8 2 3 29 30 31 32 33 210 <| fc "over" Yk m1 187 69 70 244 21 2 3 64 65 66 67 68 249 <| fc "shared_bottom" FC m1 187 104 105 285 36 1 3 99 100 101 102 103 292 <| fc "lines_of" Kv m2 380 192 193 412 119 2 3 187 188 189 190 191 423 <| fc "minus" Uk m1 187 55 56 228 17 2 3 50 51 52 53 54 233 <| fc "size_of" NV m2 380 180 181 398 113 2 3 175 176 177 178 179 403 <| fc "before" Qg m1 187 76 77 252 23 2 3 71 72 73 74 75 257 <| fc "plus" Ym m1 187 48 49 220 15 2 3 43 44 45 46 47 225 <| fc "times" Ul m1 187 62 63 236 19 2 3 57 58 59 60 61 241 <| fc "spot_between" Fo m3 316 123 124 318 59 3 3 120 121 0 0 122 321 <| fc "spot_at" NW m3 316 130 131 324 62 2 3 125 126 127 128 129 330 <| fc "offs_at" NR m2 380 185 186 406 115 4 3 182 183 0 0 184 409 <| fc "greater" NN m1 187 90 91 268 27 2 3 85 86 87 88 89 273 <| fc "lesser" Qk m1 187 83 84 260 25 2 3 78 79 80 81 82 265 <| fc "together" Kx m2 380 168 169 382 106 2 3 163 164 165 166 167 389 <| fc "corners_between" EX m3 316 135 136 333 69 3 3 132 133 0 0 134 336 <| fc "count_below" GJ m1 187 111 112 295 41 2 3 106 107 108 109 110 303 <| fc "rising" Qn m1 187 118 119 306 51 1 3 113 114 115 116 117 313 <| fc "turns" Um m2 380 173 174 392 110 4 3 170 171 0 0 172 395 <| fc "pieces" Qm m2 380 197 198 426 128 3 3 194 195 0 0 196 429 <| fc "longest" NP m4 464 230 231 476 165 2 3 225 226 227 228 229 486 <| fc "moment_at" Ii m2 380 204 205 432 139 3 3 199 200 201 202 203 438 <| fc "row_of" Qo m4 464 223 224 466 162 3 3 218 219 220 221 222 473 <| fc "rows_of" NU m4 464 235 236 489 173 1 3 232 233 0 0 234 492 <| fc "near_in" NQ m2 380 211 212 441 141 1 3 206 207 208 209 210 455 <| fc "steps_of" HN m5 339 142 143 341 72 1 3 137 138 139 140 141 351 <| fc "levels" Ql m5 339 147 148 354 81 1 3 144 145 0 0 146 357 <| fc "counted" NM m5 339 154 155 360 91 2 3 149 150 151 152 153 370 <| fc "told_set" Ky m5 339 161 162 373 103 1 3 156 157 158 159 160 377 <| fc "too_near" Kz m2 380 216 217 458 159 3 3 213 214 0 0 215 461 <| fc "whole" Uo m1 187 41 42 213 13 1 3 36 37 38 39 40 217 <| fc "parting" NT m4 464 240 241 495 181 3 3 237 238 0 0 239 498 <| fc "holds" Uj m4 464 254 255 512 194 4 3 249 250 251 252 253 525 <| fc "is_whole" Ku m1 187 20 21 189 2 1 3 15 16 17 18 19 193 <| fc "is_part" NO m1 187 97 98 276 29 1 3 92 93 94 95 96 282 <| fc "is_row" Qj m4 464 247 248 501 187 1 3 242 243 244 245 246 509 <| fc "shows_parting" FD m4 464 261 262 528 201 4 3 256 257 258 259 260 541 <| fc "_law_right" HJ m0 544 477 478 831 442 3 3 472 473 474 475 476 838 <| fc "_law_wide_pair" Er m0 544 460 461 813 422 2 3 457 458 0 0 459 816 <| fc "law" Se m0 544 482 483 841 455 1 3 479 480 0 0 481 844 <| [])
def KA:km kf:= [3,275,276,345,346,282,283,296,297,355,356,303,304,324,325,331,332,338,339,310,311,360,361,268,269,367,368,289,290,317,318,350,351,374,375,417,418,465,466,431,432,438,439,389,390,379,380,396,397,384,385,403,404,410,411,424,425,445,446,450,451,455,456,470,471,27,28,34,35,69,70,104,105,192,193,55,56,180,181,76,77,48,49,62,63,123,124,130,131,185,186,90,91,83,84,168,169,135,136,111,112,118,119,173,174,197,198,230,231,204,205,223,224,235,236,211,212,142,143,147,148,154,155,161,162,216,217,41,42,240,241,254,255,20,21,97,98,247,248,261,262,477,478,460,461,482,483]
def q:gn:={PySem.Challenge.pw_skylanes_k25_partings with main:={PySem.Challenge.pw_skylanes_k25_partings.main with body:= [top 1,top 2,top 3,top 4,top 5,top 6,top 7,top 8,top 9,top 10,top 11,top 12,top 13,top 14,top 15,top 17,top 18,top 19,top 21,top 22,top 23,top 24,top 26,top 27,top 28,top 29,top 30,top 31,top 32,top 33,top 34,top 36,top 37,top 38,top 39,top 40,top 41,top 42,top 44,top 45,top 46,top 47,top 48,top 49,top 50,top 51,top 52,top 53,top 54,top 55,top 56,top 57,top 58,top 59,top 60,top 61,top 62,top 63,top 64,top 65,top 66,top 67,top 68,top 69,top 70,top 71,top 72,top 73,top 74,top 75,top 76,top 77,top 78] }}
end K25
open PySem PySem.W PyProof.Rows
set_option maxRecDepth 100000 in
set_option maxHeartbeats 0 in
def K25.se (s:ki):=openSeen K25.q [] (importedModules (PySem.Challenge.pw_skylanes_k25_partings).main.body) (λs=>xlAt K25.q [] s&&recOk [] s) true s
def K25.go:=openGood K25.q []
def K25.rn (w:fe):=openEnds treeTable PySem.Challenge.pw_skylanes_k25_partings w 6000
set_option maxRecDepth 100000 in
set_option maxHeartbeats 0 in
def K25.l0:∀w,(K25.rn w).map (λs=>(K25.se s).1)=some (K25.go.1):=by intro w;kernel_rfl
set_option maxRecDepth 100000 in
set_option maxHeartbeats 0 in
def K25.l1:∀w,(K25.rn w).map (λs=>(K25.se s).2.1)=some (K25.go.2.1):=by intro w;kernel_rfl
set_option maxRecDepth 100000 in
set_option maxHeartbeats 0 in
def K25.l2:∀w,(K25.rn w).map (λs=>(K25.se s).2.2.1)=some (K25.go.2.2.1):=by intro w;kernel_rfl
set_option maxRecDepth 100000 in
set_option maxHeartbeats 0 in
def K25.l3:∀w,(K25.rn w).map (λs=>(K25.se s).2.2.2.1)=some (K25.go.2.2.2.1):=by intro w;kernel_rfl
set_option maxRecDepth 100000 in
set_option maxHeartbeats 0 in
def K25.l4:∀w,(K25.rn w).map (λs=>(K25.se s).2.2.2.2)=some (K25.go.2.2.2.2):=by intro w;kernel_rfl
set_option maxRecDepth 100000 in
set_option maxHeartbeats 0 in
def K25.l5:∀w,(K25.rn w).map (λs=>K25.KA.map s.heap.get?)=some ((K25.KK w.params).map λp=>some p.2):=by intro w;kernel_rfl
set_option maxRecDepth 100000 in
set_option maxHeartbeats 0 in
def K25.w1:PySem.Challenge.rw_skylanes_k25_partings.wellSaid=true:=by
 kernel_rfl
set_option maxRecDepth 100000 in
set_option maxHeartbeats 0 in
def K25.w0:PySem.Challenge.rw_skylanes_k25_partings.row.wellSaid=true:=by
 kernel_rfl
end
namespace PySem
open Sem (wp)
abbrev FK:=(Int×Int)×Int
section
variable {prog:gn}{w:fe}
def KC (prog:gn)(w:fe)(h:da)(k:FK)(a:kf):Prop:=∃o items n b u,h.get? a=some o/\o.cls= .type "tuple" /\o.data= .seq items n/\items.toList= [.ref b, .int k.2 u] /\IsTupleKey (intKind prog w) h [k.1.1,k.1.2] b
def KC.typeIs {s:ki}{k:FK}{a:kf}(x:KC prog w s.heap k a):s.TypeIs (.ref a) "tuple" :=let ⟨o,_,_,_,_,b,hc,_⟩:=x;⟨o,b,hc⟩
def KC.inj {h:da}{a:kf}{x y:FK}(hx:KC prog w h x a)(hy:KC prog w h y a):x=y:=by obtain⟨o,items,n,b,u,j,_,hd,hi,hk⟩:=hx;obtain⟨k,c,m,p,r,l,_,f,g,e⟩:=hy;obtain rfl:o=k:=AAn (j.symm.trans l);rw[hd] at f;injection f with h1 _;subst h1;rw[hi] at g;injection g with h1 h2;injection h1 with h1;subst h1;injection h2 with h2 _;injection h2 with h2 _;have:=hk.inj e;obtain⟨⟨s,t⟩,v⟩:=x;obtain⟨⟨y1,y2⟩,y3⟩:=y;injection this with i d;injection d with d _;simp only at h2 i d;subst h2;subst i;subst d;rfl
def KC.keeps {h h':da}{k:FK}{a d:kf}{o:Obj}{es ep}(x:KC prog w h k a)(e:h.get? d=some o)(hd:o.data= .dict es ep)(hs:Heap.SameBut d h h'):KC prog w h' k a:=by
 obtain⟨f,items,n,b,u,g,hc,c,hi,hk⟩:=x;have i:a≠d:=by rintro rfl;obtain rfl:f=o:=AAn (g.symm.trans e);rw[hd] at c;exact nomatch c
 exact⟨f,items,n,b,u,(hs.2 a i).trans g,hc,c,hi,hk.keeps e hd hs⟩
def Xr (prog:gn)(w:fe)(k:FK):Int:=reduceHash (Builtin.Tuple.tupleHashOf [tupleKeyHash (intKind prog w) [k.1.1,k.1.2],hashInt k.2])
variable {A:Wf}{E:kj->ki->Prop}{s:ki}
def OZ {k:FK}{a:kf}{Q:Int->ki->Prop}(hu:A.units+1<cLine)(hk:KC prog w s.heap k a)(h:Q (Xr prog w k) {s with toks:=s.toks+5}):wpAny (model prog w) A (pyHash (.ref a)) Q E s:=by
 have f:=hk.typeIs;obtain⟨o,items,n,b,u,i,_,hd,hi,j⟩:=hk;unfold pyHash;first | unfold pyHashByItsType|skip
 first | refine AAQ (wpAny_cRoomFor_or (.inr (by omega)) ?_)|skip
 refine AAQ (ABg f ADl.lookup ?_);show wpAny _ _ (if (some (Value.builtin "tuple.__hash__")==some Value.none)=true then _ else _) Q E s;rw[AAS (by rw[beq_builtin_none];exact AAg)];refine AAQ (ABg f ADl.lookup ?_);show wpAny _ _ (callSpecialIfBoundUnlessNone? (.ref a) "__hash__" _ >>= _) Q E s;refine AAQ (wpAny_callSpecialIfBoundUnlessNone?_slot f ADl (ABH ADl f F.entry_tuple_hash ?_ (F.args_tuple_hash_1 _)));show wpAny _ _ (Builtin.Tuple.tupleItemsOf (.ref a) >>= _) _ _ s;refine AAQ (AER i hd ?_);refine AAQ ?_;rw[<-AES,hi];refine ADm _
  (λrest (r:Array Int) d=>(rest= [.ref b, .int k.2 u] /\r.toList= [] /\d=s)\/(rest= [.int k.2 u] /\r.toList= [tupleKeyHash (intKind prog w) [k.1.1,k.1.2]] /\d={s with toks:=s.toks+3})\/
    (rest= [] /\r.toList= [tupleKeyHash (intKind prog w) [k.1.1,k.1.2],hashInt k.2] /\d={s with toks:=s.toks+4}))
  _ ?_ ?_ _ _ (.inl ⟨rfl,rfl,rfl⟩)
 .rintro x rest r d (⟨c,e,rfl⟩|⟨c,e,rfl⟩|⟨c,_⟩)
  .cases c;refine AAQ (wpAny_pyHash_tuple (knd:=intKind prog w) (by first | exact hu|omega) j ?_);exact AAT (.inr (.inl ⟨rfl,by simp[e],rfl⟩))
  .cases c;refine AAQ (wpAny_pyHash_int ?_);exact AAT (.inr (.inr ⟨rfl,by simp[e],by simp[AET]⟩))
  .cases c
 .rintro r d (⟨c,_⟩|⟨c,_⟩|⟨_,e,rfl⟩)
  .cases c
  .cases c
  .show wpAny _ _ (retInt (Builtin.Tuple.tupleHashOf r.toList)) _ _ _;rw[e];refine wpAny_ret_mkInt ?_;show wpAny _ _ (if (decide (-(2:Int)^63<=Builtin.Tuple.tupleHashOf [tupleKeyHash (intKind prog w) [k.1.1,k.1.2],hashInt k.2])&&decide (Builtin.Tuple.tupleHashOf [tupleKeyHash (intKind prog w) [k.1.1,k.1.2],hashInt k.2] < 2^63))=true then _ else _) Q E _;unfold Xr reduceHash at h;by_cases g:(decide (-(2:Int)^63<=Builtin.Tuple.tupleHashOf [tupleKeyHash (intKind prog w) [k.1.1,k.1.2],hashInt k.2])&&decide (Builtin.Tuple.tupleHashOf [tupleKeyHash (intKind prog w) [k.1.1,k.1.2],hashInt k.2] < 2^63))=true
   .rw [AAU g];rw[AAU g] at h;exact AAT (by simpa[AET] using h)
   .rw [AAS g];rw[AAS g] at h;exact AAQ (ABS (AAT (by simpa[AET] using h)))
def Xs {x y:FK}{a b:kf}{P:Fin->ki->Prop}(hu:A.units<cLine)(hx:KC prog w s.heap x a)(hy:KC prog w s.heap y b)(h:P (.done (.ret (.bool (decide (x=y))))) s):wpAny (model prog w) A (Builtin.«tuple.__eq__» ⟨[.ref a, .ref b], []⟩) P E s:=by
 have j:=hy.typeIs;obtain⟨Q,xs,R,I,D,k,_,l,F,m⟩:=hx;obtain⟨S,ys,T,J,G,n,_,hdb,H,o⟩:=hy;have K:xs.size=2:=by rw[<-ACb,F];rfl
 have L:ys.size=2:=by rw[<-ACb,H];rfl
 obtain⟨⟨e,f⟩,c⟩:=x;obtain⟨⟨y1,y2⟩,y3⟩:=y;show wpAny _ _ (isInstance (.ref b) (.type "tuple") >>= _) _ _ s;refine AAQ (ACQ j AEU ?_);simp only[ACK,ABI,AAx];refine AAQ (AER k l ?_);refine AAQ (AER n hdb ?_);refine AAQ ?_;rw[F,H];refine ADm _
  (λrest r g=>r.1=none/\g=s/\(rest= [(.ref I, .ref J),(.int c D, .int y3 G)] \/(rest= [(.int c D, .int y3 G)] /\e=y1/\f=y2)\/(rest= [] /\e=y1/\f=y2/\c=y3)))
  _ ?_ ?_ _ _ ⟨rfl,rfl, .inl rfl⟩
 .rintro ⟨u,v⟩ rest r g ⟨p,rfl,(hz|⟨hz,t,B⟩|⟨hz,_⟩)⟩
  .cases hz;refine AAQ (wpAny_eqBool_tuple (knd:=intKind prog w) (by first | exact hu|omega) m o ?_);by_cases hk:e=y1/\f=y2
   .rw [AAi (by rw[hk.1,hk.2])];simp only[ACK,ABI,AAx];exact AAT ⟨rfl,rfl, .inr (.inl ⟨by first | trivial|rfl,hk⟩)⟩
   .rw [AAr (by intro z;injection z with i d;injection d with d _;exact hk ⟨i,d⟩)];simp only[Bool.not_false,ABK];have C:decide ((((e,f),c):FK)=((y1,y2),y3))=false:=by apply AAr;intro z;injection z with i d;injection i with M N;exact hk ⟨M,N⟩
    rw[C] at h;exact AAQ (AAT (AAT (AAT h)))
  .cases hz;refine AAQ (wpAny_eqBool_int ?_);by_cases hk:c=y3
   .rw [show (c==y3)=true by simp[hk]];simp only[ACK,ABI,AAx];exact AAT ⟨rfl,rfl, .inr (.inr ⟨by first | trivial|rfl,t,B,hk⟩)⟩
   .rw [show (c==y3)=false by simp[hk]];simp only[Bool.not_false,ABK];have C:decide ((((e,f),c):FK)=((y1,y2),y3))=false:=by apply AAr;intro z;injection z with i d;exact hk d
    rw[C] at h;exact AAQ (AAT (AAT (AAT h)))
  .cases hz
 .rintro ⟨r1,r2⟩ g ⟨p,rfl,(hz|⟨hz,_⟩|⟨_,t,B,O⟩)⟩
  .cases hz
  .cases hz
  .simp only at p;subst p;refine AAT ?_;show P (.done (.ret (.bool (xs.size==ys.size)))) g;rw[K,L];rw[AAi (by rw[t,B,O])] at h;exact h
def OY {x y:FK}{a b:kf}{Q:kc->ki->Prop}(hu:A.units+1<cLine)(hx:KC prog w s.heap x a)(hy:KC prog w s.heap y b)(h:Q (decide (x=y)) s):wpAny (model prog w) A (eqBool (.ref a) (.ref b)) Q E s:=by
 unfold eqBool;try with_reducible refine ABL ?_
 show wpAny _ _ (if (Value.ref a==Value.ref b)=true then _ else _) Q E s;by_cases c:(Value.ref a==Value.ref b)=true
 .rw [AAU c];have e:a=b:=by have:=eq_of_beq c;injection this
  subst e;obtain rfl:=hx.inj hy;exact AAQ (ABS (AAT (by simpa using h)))
 .rw [AAS c];exact AAQ (wpAny_richCompare_same_room (op:= .Eq) hx.typeIs hy.typeIs ADn
   (ABH ADn hx.typeIs F.entry_tuple_eq (Xs (by first | exact hu|omega) hx hy ⟨_,rfl,(λe=>nomatch e),ACL h⟩) (F.args_tuple_eq_2 _ _)) (by omega))
def HW {K:Type}[DecidableEq K]{knd:KeyKind prog w K}{g:km K}{a:kf}{Q:kc->ki->Prop}(m:Nat)(hk:IsTupleKey knd s.heap g a)(h:Q true s):wpAny (model prog w) A (eqIsQuiet (m+1) (.ref a)) Q E s:=by
 have e:=hk.typeIs;obtain⟨o,items,n,i,_,hd,hi⟩:=hk;unfold eqIsQuiet;refine AAQ (ABg e ADn.lookup ?_);show wpAny _ _ (isInstance (.ref a) (.type "tuple") >>= _) _ _ s;refine AAQ (ACQ e AEU ?_);simp only[ACK,ABI,AAx];refine AAQ (ABC i hd ?_);refine AAQ ?_;show wpAny _ _ (forIn items _ _) _ _ s;rw[<-AES];refine ADm _ (λrest r b=>r.1=none/\b=s/\∀v∈rest,carriedByValue v=true) _ ?_ ?_ _ _ ⟨rfl,rfl,hi.byValue⟩
 .rintro v rest r b ⟨c,rfl,f⟩;rw[eqIsQuiet_byValue _ (f v ACc)];refine AAQ (AAT ?_);simp only[ACK,ABI,AAx];exact AAT ⟨rfl,rfl,λu d=>f u (ABh _ d)⟩
 .rintro ⟨r1,r2⟩ b ⟨c,rfl,_⟩;simp only at c;subst c;exact AAT h
def K6 {k:FK}{a:kf}{Q:kc->ki->Prop}(hk:KC prog w s.heap k a)(h:Q true s):wpAny (model prog w) A (eqIsQuiet 8 (.ref a)) Q E s:=by
 have e:=hk.typeIs;obtain⟨o,items,n,b,u,f,_,hd,hi,g⟩:=hk;unfold eqIsQuiet;refine AAQ (ABg e ADn.lookup ?_);show wpAny _ _ (isInstance (.ref a) (.type "tuple") >>= _) _ _ s;refine AAQ (ACQ e AEU ?_);simp only[ACK,ABI,AAx];refine AAQ (ABC f hd ?_);refine AAQ ?_;show wpAny _ _ (forIn items _ _) _ _ s;rw[<-AES,hi];refine ADm _ (λrest r c=>r.1=none/\c=s/\(rest= [.ref b, .int k.2 u] \/rest= [.int k.2 u] \/rest= [])) _ ?_ ?_ _ _ ⟨rfl,rfl, .inl rfl⟩
 .rintro v rest r c ⟨d,rfl,(hz|hz|hz)⟩
  .cases hz;refine AAQ (HW (knd:=intKind prog w) 6 g ?_);simp only[ACK,ABI,AAx];exact AAT ⟨rfl,rfl, .inr (.inl (by first | trivial|rfl))⟩
  .cases hz;rw[eqIsQuiet_byValue _ rfl];refine AAQ (AAT ?_);simp only[ACK,ABI,AAx];exact AAT ⟨rfl,rfl, .inr (.inr (by first | trivial|rfl))⟩
  .cases hz
 .rintro ⟨r1,r2⟩ c ⟨d,rfl,_⟩;simp only at d;subst d;exact AAT h
end
def fkKind (prog:gn)(w:fe):HeapKind prog w FK where
 is:=KC prog w
 hash:=Xr prog w
 draws:=λ_=>5
 room:=λA=>A.units+1<cLine
 inj:=λhx hy=>hx.inj hy
 keeps:=λx a hd hs=>x.keeps a hd hs
 pyHash:=λhu hk h=>OZ hu hk h
 eqBool:=λhu hx hy h=>OY hu hx hy h
 quiet:=λhk h=>K6 hk h
def D1 {prog:gn}{w:fe}{A:Wf}(h:A.units+2<cLine):(fkKind prog w).room A.in1:=by show A.units+1+1<cLine;omega
end PySem
namespace L2
open PySem PySem.Spec PyProof.Rows
abbrev GL:=Sum Int Str
def mE:GL->kj->kc
 | .inl k,v=>Value.isInt k v
 | .inr x,v=>Value.isStrOf x v
def wV (w:fe):GL->Int
 | .inl k=>hashInt k
 | .inr x=>hashStr w x
def Ca:∀{k:GL} {v:kj},mE k v=true->(∃i t,k=Sum.inl i/\v=Value.int i t)\/(∃x t,k=Sum.inr x/\v=Value.str x t)
 | .inl i,v,h=>by obtain⟨t,e⟩:=Value.isInt_shape (k:=i) (v:=v) h;exact .inl ⟨i,t,rfl,e⟩
 | .inr x,v,h=>by obtain⟨t,e⟩:=Value.isStrOf_shape (x:=x) (v:=v) h;exact .inr ⟨x,t,rfl,e⟩
def oD (a b:Int):decide ((Sum.inl a:GL)=Sum.inl b)=(a==b):=by
 by_cases e:a=b
 .subst e;simp
 .have h:¬(Sum.inl a:GL)=Sum.inl b:=λq=>e (Sum.inl.inj q);rw[AAr h];exact(AEV.mpr e).symm
def oG (a b:Str):decide ((Sum.inr a:GL)=Sum.inr b)=decide (a=b):=by
 by_cases e:a=b
 .subst e;simp
 .have h:¬(Sum.inr a:GL)=Sum.inr b:=λq=>e (Sum.inr.inj q);rw[AAr h,AAr e]
def oE (a:Int)(b:Str):decide ((Sum.inl a:GL)=Sum.inr b)=false:=AAr (λq=>nomatch q)
def oF (a:Str)(b:Int):decide ((Sum.inr a:GL)=Sum.inl b)=false:=AAr (λq=>nomatch q)
def UI (prog:gn)(w:fe):PySem.KeyKind prog w GL where
 is:=mE
 hash:=wV w
 inj:=λv a b ha hb=>by
  rcases Ca ha with⟨i,t,rfl,rfl⟩|⟨x,t,rfl,rfl⟩
  .rcases Ca hb with⟨j,u,rfl,e⟩|⟨y,u,rfl,e⟩
   .injection e with c _;rw[c]
   .exact nomatch e
  .rcases Ca hb with⟨j,u,rfl,e⟩|⟨y,u,rfl,e⟩
   .exact nomatch e
   .injection e with c _;rw[c]
 byValue:=λk v h=>by rcases Ca h with⟨i,t,rfl,rfl⟩|⟨x,t,rfl,rfl⟩ <;> rfl
 pyHash:=λhv h=>by
  rcases Ca hv with⟨i,t,rfl,rfl⟩|⟨x,t,rfl,rfl⟩
  .exact wpAny_pyHash_int h
  .exact wpAny_pyHash_str h
 eqBool:=λhu hv h=>by
  rcases Ca hu with⟨i,t,rfl,rfl⟩|⟨x,t,rfl,rfl⟩
  .rcases Ca hv with⟨j,u,rfl,rfl⟩|⟨y,u,rfl,rfl⟩
   .rw [oD] at h;exact wpAny_eqBool_int h
   .rw [oE] at h;exact SeqAt.EqAt.int_str i t y u _ _ _ _ h
  .rcases Ca hv with⟨j,u,rfl,rfl⟩|⟨y,u,rfl,rfl⟩
   .rw [oF] at h;exact SeqAt.EqAt.str_int x t j u _ _ _ _ h
   .rw [oG] at h;exact wpAny_eqBool_str h
 «strs»:=λk x t v h=>by
  rcases Ca h with⟨i,u,rfl,e⟩|⟨y,u,rfl,e⟩
  .exact nomatch e
  .injection e with c _;subst c;cases v <;> rfl
inductive V where
 | non|bl (b:Bool)|int (i:Int)|str (x:Str)|byt (b:Array UInt8)|flt (b:UInt64)|ref (a:Addr)|ty (n:String)
 deriving DecidableEq
def RelV:V->kj->Prop
 | .non,u=>u=Value.none
 | .bl b,u=>u=Value.bool b
 | .int i,u=>∃t,u=Value.int i t
 | .str x,u=>∃t,u=Value.str x t
 | .byt b,u=>∃t,u=Value.bytes b t
 | .flt b,u=>∃t,u=Value.float b t
 | .ref a,u=>u=Value.ref a
 | .ty n,u=>u=Value.type n
abbrev A6:km V->km kj->Prop:=Paired RelV
def A6.length {xs:km V}{a:km kj}(r:A6 xs a):xs.length=a.length:=ADA r
theorem A6.get:∀{xs:km V} {a:km kj} {i:Nat} {x:V},A6 xs a->xs[i]? =some x->∃u,a[i]? =some u/\RelV x u
 | _,_,_,_, .nil,e=>by simp at e
 | _,_,0,_, .cons r _,e=>by simp at e;subst e;exact⟨_,rfl,r⟩
 | _,_,i+1,x, .cons _ t,e=>by obtain⟨u,h1,h2⟩:=A6.get (i:=i) (x:=x) t (by simpa using e);exact⟨u,by simpa using h1,h2⟩
theorem A6.set {x:V}{u:kj}(r:RelV x u):∀{xs:km V} {a:km kj} (i:Nat),A6 xs a->A6 (xs.set i x) (a.set i u)
 | _,_,_, .nil=> .nil
 | _,_,0, .cons _ t=> .cons r t
 | _,_,i+1, .cons q t=> .cons q (A6.set r i t)
theorem A6.append:∀{xs ys:km V} {a b:km kj},A6 xs a->A6 ys b->A6 (xs++ys) (a++b)
 | _,_,_,_, .nil,s=>s
 | _,_,_,_, .cons r t,s=> .cons r (A6.append t s)
theorem A6.take:∀{xs:km V} {a:km kj} (n:Nat),A6 xs a->A6 (xs.take n) (a.take n)
 | _,_,0,_=> .nil
 | _,_,_+1, .nil=> .nil
 | _,_,n+1, .cons r t=> .cons r (A6.take n t)
theorem A6.drop:∀{xs:km V} {a:km kj} (n:Nat),A6 xs a->A6 (xs.drop n) (a.drop n)
 | _,_,0,r=>r
 | _,_,_+1, .nil=> .nil
 | _,_,n+1, .cons _ t=>A6.drop n t
def A6.none_of:∀{xs:km V} {a:km kj} {i:Nat},A6 xs a->xs[i]? =none->a[i]? =none:=λ{xs a i} r e=>by have h1:=r.length;have h2:xs.length<=i:=AE2.mp e;exact AE2.mpr (by omega)
def LR:ke V->ke kj->Prop
 | some v,some u=>RelV v u
 | none,none=>True
 | _,_=>False
def KV {a:Type}:km (a×V)->km (a×kj)->Prop:=Paired λ(p:a×V) (q:a×kj)=>p.1=q.1/\RelV p.2 q.2
def kV:GL->V
 | .inl i=> .int i
 | .inr x=> .str x
inductive HO where
 | lst (xs:List V)
 | tup (xs:List V)
 | dK (kvs:List (GL×V))|dT (kvs:List (List GL×V))|dN (K:AAR) (kvs:List (PySem.FK×V))
 | set (S:Int->Bool) (n:Nat)
 | ins (C dx:Addr) (fs:List (Str×V))
 | own (x:Addr)
 | xd (fs:List (Str×V))
 | met (f x:Addr)
 | rng (lo hi:Int)
 | frz (o:Obj) (u:HO)
 | tbl (ps:Array Value)
 | ext (φ:Heap->Prop)
abbrev Hp:=kf->ke HO
def upd (H:Hp)(a:kf)(o:HO):Hp:=λb=>if b=a then some o else H b
def Au {H:Hp}{a:kf}{o:HO}:upd H a o a=some o:=by unfold upd;rw[AAU rfl]
def Aq {H:Hp}{a b:kf}{o:HO}(h:b≠a):upd H a o b=H b:=by unfold upd;rw[AAS h]
def sU {H:Hp}{a b:kf}{o u:HO}(h:H a=some o)(h':H b=some u)(d:o≠u):a≠b:=by intro e;subst e;rw[h] at h';exact d (AAn h')
def A4 {H:Hp}{a b:kf}{o:HO}(h:H a=some o)(h':H b=none):a≠b:=by intro e;subst e;rw[h] at h';cases h'
def dY (K:AAR)(H:Hp)(b:kf)(t d:Int):Prop:=H b=some (.tup [.int t, .int d])\/∃(o:Obj) (a:Array kj) (n:Nat),K.lookup b=some o/\o.cls= .type "tuple" /\o.data= .seq a n/\A6 [.int t, .int d] a.toList
def G2 (K:AAR)(H:Hp)(a:kf)(k:PySem.FK):Prop:=∃b,H a=some (.tup [.ref b, .int k.2])/\dY K H b k.1.1 k.1.2
def G2.stay {K:AAR}{H c:Hp}{a:kf}{k:PySem.FK}(x:G2 K H a k)(d:∀b xs,H b=some (.tup xs)->c b=some (.tup xs)):G2 K c a k:=let ⟨b,h1,h2⟩:=x;⟨b,d _ _ h1,h2.elim (λz=> .inl (d _ _ z)) .inr⟩
section
variable (P:gn)(w:fe)
def Dd (H:Hp)(h:da)(a:kf):HO->Prop
 | .lst xs=>xs.length<=sizeLine/\∃(c:km kj) (n:Nat),A6 xs c/\h.get? a=some {cls:= .type "list",data:= .seq c.toArray n}
 | .tup xs=>xs.length<=sizeLine/\∃c:km kj,A6 xs c/\IsTup h a c.toArray
 | .dK b=>b.length<=sizeLine/\(a==sysModules)=false/\∃vs,KV b vs/\h.DictOf (UI P w) a vs
 | .dT b=>b.length<=sizeLine/\(a==sysModules)=false/\∃xs:km (km GL×kf×kj),
     Paired (λ(p:km GL×V) (q:km GL×kf×kj)=>p.1=q.1/\H q.2.1=some (.tup (p.1.map kV))/\RelV p.2 q.2.2) b xs/\
     ∃o es ep,h.get? a=some o/\o.ExactDict/\o.data= .dict es ep/\es.toList=xs.map (entryOfKey (tupleKind (UI P w)))/\(xs.map (·.1)).Nodup
 | .dN K b=>b.length<=sizeLine/\(a==sysModules)=false/\∃xs:km (PySem.FK×kf×kj),Paired (λ(p:PySem.FK×V) (q:PySem.FK×kf×kj)=>p.1=q.1/\G2 K H q.2.1 p.1/\RelV p.2 q.2.2) b xs/\∃o es ep,h.get? a=some o/\o.ExactDict/\o.data= .dict es ep/\es.toList=xs.map (entryOfKey (PySem.fkKind P w))/\(xs.map (·.1)).Nodup
 | .set S n=>h.SetOf (intKind P w) a S n
 | .ins C g e=>H g=some (.own a)/\e.length<=1000/\g≠a/\h.get? a=some (PySem.W.instObj C g)/\
     ∃d,h.Ns1 g d/\(∀f,LR (e.lookup f) (d f))/\PySem.Within d (e.map (·.1))
 | .own _=>∃o,h.get? a=some o
 | .xd e=>∃d,h.Ns1 a d/\∀f,LR (e.lookup f) (d f)
 | .rng lo hi=>∃t u v,h.get? a=some {cls:= .type "range",data:= .fields #[.int lo t, .int hi u, .int 1 v] }
 | .frz o u=>h.get? a=some o/\Dd H h a u
 | .tbl j=>h.get? a=some {cls:= .none,data:= .fields j}
 | .met f x=>h.get? a=some (PySem.W.methodObj (.ref f) (.ref x))
 | .ext i=>i h/\(∃o,h.get? a=some o)/\∀h1 h2:da,i h1->(∀o,h1.get? a=some o->h2.get? a=some o)->i h2
def OG (H:Hp)(h:da):Prop:=∀a o,H a=some o->Dd P w H h a o
end
section
variable {P:gn}{w:fe}{H H':Hp}{h h':da}{a:kf}{o:HO}
def Dd.lt (x:Dd P w H h a o):a<h.objs.size:=by
 cases o with
 | lst xs=>obtain⟨_,_,_,_,e⟩:=x;exact AAW e
 | tup xs=>obtain⟨_,_,_,p⟩:=x;exact p.lt
 | dK b=>obtain⟨_,_,_,_,o,_,_,e,_⟩:=x;exact AAW e
 | dT b=>obtain⟨_,_,_,_,o,_,_,e,_⟩:=x;exact AAW e
 | dN K b=>obtain⟨_,_,_,_,o,_,_,e,_⟩:=x;exact AAW e
 | set S n=>obtain⟨o,_,_,_,e,_⟩:=x;exact AAW e
 | ins C d c=>obtain⟨_,_,_,e,_⟩:=x;exact AAW e
 | own y=>obtain⟨_,e⟩:=x;exact AAW e
 | xd c=>obtain⟨_,⟨_,_,_,e,_⟩,_⟩:=x;exact AAW e
 | rng lo hi=>obtain⟨_,_,_,e⟩:=x;exact AAW e
 | frz g u=>obtain⟨e,_⟩:=x;exact AAW e
 | tbl i=>exact AAW (show h.get? a=some _ from x)
 | met f y=>exact AAW (show h.get? a=some _ from x)
 | ext j=>obtain⟨_,⟨_,e⟩,_⟩:=x;exact AAW e
theorem Paired.mapP {d e:Type}{F G:d->e->Prop}:∀{l₁:km d} {c:km e},Paired F l₁ c->(∀a b,F a b->G a b)->Paired G l₁ c
 | _,_, .nil,_=> .nil
 | _,_, .cons r t,f=> .cons (f _ _ r) (Paired.mapP t f)
def Dd.stay (x:Dd P w H h a o)(k:∀b u,(b=a\/H b=some (.own a))->h.get? b=some u->h'.get? b=some u)(B:∀b,H b=some (.own a)->H' b=some (.own a))(s:∀b xs,H b=some (.tup xs)->H' b=some (.tup xs)):Dd P w H' h' a o:=by
 induction o with
 | lst xs=>obtain⟨z,i,n,r,e⟩:=x;exact⟨z,i,n,r,k _ _ (.inl rfl) e⟩
 | tup xs=>obtain⟨z,i,r,g,e,c⟩:=x;exact⟨z,i,r,g,k _ _ (.inl rfl) e,c⟩
 | dK j=>obtain⟨z,y,vs,r,g,es,ep,e,c⟩:=x;exact⟨z,y,vs,r,g,es,ep,k _ _ (.inl rfl) e,c⟩
 | dT j=> obtain⟨z,y,xs,r,g,es,ep,e,c⟩:=x;exact⟨z,y,xs,Paired.mapP r λp q z=>⟨z.1,s _ _ z.2.1,z.2.2⟩,g,es,ep,k _ _ (.inl rfl) e,c⟩
 | dN K j=> obtain⟨z,y,xs,r,g,es,ep,e,c⟩:=x;exact⟨z,y,xs,Paired.mapP r λp q z=>⟨z.1,z.2.1.stay s,z.2.2⟩,g,es,ep,k _ _ (.inl rfl) e,c⟩
 | set S n=>obtain⟨g,es,ep,t,e,c⟩:=x;exact⟨g,es,ep,t,k _ _ (.inl rfl) e,c⟩
 | ins C G D=> obtain⟨d,z,E,e,l,⟨m,es,ep,F,c⟩,r⟩:=x;exact⟨B _ d,z,E,k _ _ (.inl rfl) e,l,⟨m,es,ep,k _ _ (.inr d) F,c⟩,r⟩
 | own y=>obtain⟨g,e⟩:=x;exact⟨g,k _ _ (.inl rfl) e⟩
 | xd D=>obtain⟨l,⟨m,es,ep,e,c⟩,r⟩:=x;exact⟨l,⟨m,es,ep,k _ _ (.inl rfl) e,c⟩,r⟩
 | rng lo hi=>obtain⟨t,u,v,e⟩:=x;exact⟨t,u,v,k _ _ (.inl rfl) e⟩
 | frz g u ih=>obtain⟨e,q⟩:=x;exact⟨k _ _ (.inl rfl) e,ih q⟩
 | tbl A=> have e:h.get? a=some {cls:= .none,data:= .fields A}:=x;show h'.get? a=some {cls:= .none,data:= .fields A};exact k a _ (.inl rfl) e
 | met f y=> have e:h.get? a=some (PySem.W.methodObj (.ref f) (.ref y)):=x;show h'.get? a=some (PySem.W.methodObj (.ref f) (.ref y));exact k a _ (.inl rfl) e
 | ext I=>obtain⟨p,⟨o,e⟩,st⟩:=x;exact⟨st _ _ p λo q=>k _ _ (.inl rfl) q,⟨o,k _ _ (.inl rfl) e⟩,st⟩
def OG.lt (x:OG P w H h)(e:H a=some o):a<h.objs.size:=(x a o e).lt
def OG.fresh (x:OG P w H h)(e:h.objs.size<=a):H a=none:=by
 cases q:H a with
 | none=>rfl
 | some u=>exact absurd (AAt (x.lt q) e) (ABi _)
def OG.kept (x:OG P w H h)(k:∀b u,h.get? b=some u->h'.get? b=some u):OG P w H h':=λa o e=>
 (x a o e).stay (λb u _ q=>k b u q) (λ_ q=>q) λ_ _ q=>q
def OG.laid (x:OG P w H h)(k:∀b u,h.get? b=some u->h'.get? b=some u)(hp:h.objs.size<=a)(new:Dd P w (upd H a o) h' a o):OG P w (upd H a o) h':=λb u e=>by
 have hn:=x.fresh hp;by_cases hb:b=a
 .subst hb;rw[Au] at e;cases e;exact new
 .rw [Aq hb] at e;exact(x b u e).stay (λc v _ q=>k c v q) (λc q=>by rw[Aq (A4 q hn)];exact q) λc xs q=>by rw[Aq (A4 q hn)];exact q
end
def Rd (H:Hp)(a:kf)(u:HO):Prop:=H a=some u\/∃o,H a=some (.frz o u)
def Rd.of {H:Hp}{a:kf}{u:HO}(h:H a=some u):Rd H a u:= .inl h
def Rd.ok {P:gn}{w:fe}{H:Hp}{h:da}{a:kf}{u:HO}(r:Rd H a u)(x:OG P w H h):Dd P w H h a u:=by
 rcases r with r|⟨o,r⟩
 .exact x a u r
 .obtain ⟨_,q⟩:=x a _ r;exact q
def qq:ke HO->Prop
 | some (.lst _)=>True
 | some (.dK _)=>True
 | some (.dT _)=>True
 | some (.dN _ _)=>True
 | some (.set _ _)=>True
 | some (.ins _ _ _)=>True
 | some (.ext _)=>True
 | _=>False
section
variable {P:gn}{w:fe}{H:Hp}{h h':da}{x e:kf}{o':HO}
def OG.write (ok:OG P w H h)(f:qq (H x))(he:e=x\/H e=some (.own x))(k:∀b u,b≠e->h.get? b=some u->h'.get? b=some u)(j:∃u,h'.get? e=some u)(new:Dd P w (upd H x o') h' x o'):OG P w (upd H x o') h':=λb u q=>by
 have a:∀c y,H c=some (.own y)->c≠x:=λc y r z=>by subst z;rw[r] at f;exact f
 have d:∀c xs,H c=some (.tup xs)->c≠x:=λc xs r z=>by subst z;rw[r] at f;exact f
 by_cases hb:b=x
 .subst hb;rw[Au] at q;cases q;exact new
 .rw [Aq hb] at q;by_cases g:b=e
  .have i:H b=some (.own x):=by
    rcases he with z|z
    .exact absurd (g.trans z) hb
    .rw [g];exact z
   rw[q] at i;cases i;obtain⟨v,hv⟩:=j;exact⟨v,by rw[g];exact hv⟩
  .refine (ok b u q).stay (λc v hc r=>k c v ?_ r) (λc r=>by rw[Aq (a c b r)];exact r) λc xs r=>by rw[Aq (d c xs r)];exact r
   rcases hc with rfl|hc
   .exact g
   .rintro rfl;rcases he with z|z
    .exact a c b hc z
    .rw [hc] at z;cases z;exact hb rfl
end
structure Un (fs ex:List Addr) (H H':Hp) (h h':Heap):Prop where
 keep:∀b o,h.get? b=some o->H b=none->b ∉ fs->b ∉ ex->h'.get? b=some o
 slot:∀b o,h.get? b=some o->H b=none->b∈fs->b ∉ ex->∃sl,h'.get? b=some {o with slots:=sl}
 free:∀b o,h.get? b=some o->H b=none->b ∉ ex->H' b=none
 there:∀b o,h.get? b=some o->b ∉ ex->∃o',h'.get? b=some o'
 tups:∀b xs,H b=some (.tup xs)->H' b=some (.tup xs)
 frzs:∀b o u,H b=some (.frz o u)->H' b=some (.frz o u)
 tbls:∀b ps,H b=some (.tbl ps)->∃more,H' b=some (.tbl (ps++more))
section
variable {fs fs' ex ex':km kf}{H H1 H2:Hp}{h h1 h2 h':da}{a x e:kf}{o:HO}
def Un.any (u:Un fs ex H H1 h h1){b:kf}{c:Obj}(q:h.get? b=some c)(n:H b=none)(hx:b ∉ ex):∃d,h1.get? b=some {c with slots:=d}:=by
 by_cases hb:b∈fs
 .exact u.slot b c q n hb hx
 .exact ⟨c.slots,u.keep b c q n hb hx⟩
def Un.trans (a:Un fs ex H H1 h h1)(b:Un fs ex H1 H2 h1 h2):Un fs ex H H2 h h2 where
 keep:=λc d q n hc hx=>b.keep c d (a.keep c d q n hc hx) (a.free c d q n hx) hc hx
 slot:=λc d q n hc hx=>by obtain⟨l,f⟩:=a.slot c d q n hc hx;obtain⟨g,i⟩:=b.slot c _ f (a.free c d q n hx) hc hx;exact⟨g,i⟩
 free:=λc d q n hx=>by obtain⟨j,f⟩:=a.there c d q hx;exact b.free c j f (a.free c d q n hx) hx
 there:=λc d q hx=>by obtain⟨j,f⟩:=a.there c d q hx;exact b.there c j f hx
 tups:=λc xs q=>b.tups c xs (a.tups c xs q)
 frzs:=λc d xs q=>b.frzs c d xs (a.frzs c d xs q)
 tbls:=λc k q=>by obtain⟨m1,f⟩:=a.tbls c k q;obtain⟨m2,i⟩:=b.tbls c _ f;exact⟨m1++m2,by rw[i,Array.append_assoc]⟩
def Un.kept (k:∀b u,h.get? b=some u->h'.get? b=some u):Un fs ex H H h h':=
 ⟨λb c q _ _ _=>k b c q,λb c q _ _ _=>⟨c.slots,k b c q⟩,λ_ _ _ n _=>n,λb c q _=>⟨c,k b c q⟩,λ_ _ q=>q,λ_ _ _ q=>q,λ_ d q=>⟨#[],by rw[q];simp⟩⟩
def Un.refl:Un fs ex H H h h:=Un.kept λ_ _ q=>q
def Un.laid (k:∀b u,h.get? b=some u->h'.get? b=some u)(hp:h.objs.size<=a)(hn:H a=none):Un fs ex H (upd H a o) h h' where
 keep:=λb u q _ _ _=>k b u q
 slot:=λb u q _ _ _=>⟨u.slots,k b u q⟩
 free:=λb u q n _=>by rw[Aq (AAa (AAt (AAW q) hp))];exact n
 there:=λb u q _=>⟨u,k b u q⟩
 tups:=λb xs q=>by rw[Aq (A4 q hn)];exact q
 frzs:=λb u xs q=>by rw[Aq (A4 q hn)];exact q
 tbls:=λb c q=>⟨#[],by rw[Aq (A4 q hn),q];simp⟩
def Un.write (c:qq (H x))(he:e=x\/H e=some (.own x))(k:∀b u,b≠e->h.get? b=some u->h'.get? b=some u)(g:∃u,h'.get? e=some u):Un fs ex H (upd H x o) h h':=by
 have hx:∀b,H b=none->b≠x:=λb n z=>by subst z;rw[n] at c;exact c
 have hb:∀b,H b=none->b≠e:=λb n z=>by
  subst z;rcases he with r|r
  .exact hx b n r
  .rw [n] at r;cases r
 have d:∀b u,H b=some u->¬qq (some u)->b≠x:=λb u q i z=>by subst z;rw[q] at c;exact i c
 refine⟨λb u q n _ _=>k b u (hb b n) q,λb u q n _ _=>⟨u.slots,k b u (hb b n) q⟩,λb u q n _=>by rw[Aq (hx b n)];exact n,λb u q _=> ?_,
  λb xs q=>by rw[Aq (d b _ q λz=>z)];exact q,λb u xs q=>by rw[Aq (d b _ q λz=>z)];exact q,λb j q=>⟨#[],by rw[Aq (d b _ q λz=>z),q];simp⟩⟩
 by_cases f:b=e
 .subst f;exact g
 .exact ⟨u,k b u f q⟩
def Un.mono (u:Un fs ex H H1 h h1)(hs:∀b∈fs,b∈fs')(hx:∀b∈ex,b∈ex'):Un fs' ex' H H1 h h1:=
 ⟨λb c q n hb he=>u.keep b c q n (λz=>hb (hs b z)) λz=>he (hx b z),λ_ _ q n _ he=>u.any q n λz=>he (hx _ z),λb c q n he=>u.free b c q n λz=>he (hx b z),λb c q he=>u.there b c q λz=>he (hx b z),u.tups,u.frzs,u.tbls⟩
end
def u0 (h:da)(H:Hp):km kf:=(List.range h.objs.size).filter λa=>(H a).isSome
def Tx (h:da)(H:Hp):da:=PySem.W.hideAll h (u0 h H)
def bJ (h:da)(H:Hp):(Tx h H).objs.size=h.objs.size:=PySem.W.hideAll_size _ _
def e7 {h:da}{H:Hp}{b:kf}{o:Obj}(e:h.get? b=some o)(n:H b=none):(Tx h H).get? b=some o:=
 PySem.W.hideAll_get _ e λa=>by have q:(H b).isSome=true:=(ACN.mp a).2;rw[n] at q;simp at q
def jv {h:da}{H:Hp}{b:kf}{o:Obj}(e:(Tx h H).get? b=some o):h.get? b=some o/\H b=none:=by
 have a:h.get? b=some o:=PySem.W.of_hideAll (u0 h H) e;refine⟨a, ?_⟩;cases q:H b with
 | none=>rfl
 | some x=> have c:b∈u0 h H:=ACN.mpr ⟨ADo.mpr (AAW a),by simp[q]⟩;have z:(Tx h H).get? b=none:=PySem.W.hideAll_none (u0 h H) c;rw[z] at e;cases e
def jB (g h:da)(L:kf):km (kf×Obj):=(List.range h.objs.size).filterMap λa=>if a=L\/(g.get? a).isSome=true then none else (h.get? a).map λo=>(a,o)
def rest (g h:da)(L d:kf):km (kf×Obj):=(jB g h L).filter λp=>decide (p.1≠d)
structure Mod (K:AAR) (mg:Str->Option Value) (base:Heap):Prop where
 kin:K.In base
 glob:base.Ns mainGlobals mg
 blt:∃mb,base.Ns builtinsNs mb/\∀x:Str,x≠"__name__" ->mb x=bootBuiltins x
 nolimit:base.NoLimit
structure Cx where
 prog:Program
 w:World
 K:AAR
 mg:Str->Option Value
 base:Heap
 A:Around
 N:List Str
 s₀:Shared
 H₀:Hp
 env:Env
 outer:List Env
 stack:List Env
 ex:List Addr
 fn:Str->Bool
 calm:Bool
 pn:List (Addr×Obj)
 xe:Value->Shared->Prop
def cx (l:km Env):km kf:=l.filterMap (·.frame)
abbrev Cx.fs (X:Cx):km kf:=cx X.outer
def nA (sc:Scope)(x:Str):Prop:=sc.names.lookup x=some .local\/sc.names.lookup x=some .cell\/sc.names.lookup x=some .free
def Loc (sc:Scope)(x:Str):Prop:=sc.names.lookup x=some .local\/sc.names.lookup x=some .cell
def Look (env:Env)(h:da)(m:Str->ke kj)(x:Str)(u:kj):Prop:=
 (env.kindOf x=some .local/\m x=some u)\/((env.kindOf x=some .cell\/env.kindOf x=some .free)/\∃c,env.cells.lookup x=some c/\h.IsCell c (some u))
structure Cx.Ok (X:Cx):Prop where
 mod:Mod X.K X.mg X.base
 kind:X.env.scope.kind= .function
 glob:X.env.globals=mainGlobals
 blt:X.env.builtins=builtinsNs
 above:X.s₀.heap.objs.size<=X.env.locals
 inj:∀x y c,X.env.cells.lookup x=some c->X.env.cells.lookup y=some c->x=y
 has:∀x,(X.env.kindOf x=some .cell\/X.env.kindOf x=some .free)->∃c,X.env.cells.lookup x=some c
 cab:∀x c,X.fn x=true->X.env.cells.lookup x=some c->X.s₀.heap.objs.size<=c
 hd:X.calm=true->X.A.handled=none
 frames:X.A.frames=some X.stack
 stk:X.stack=X.outer\/(X.stack=X.env::X.outer/\X.env.frame=some X.env.locals)
 exf:∀b∈X.ex,b≠X.env.locals/\∀x c,X.env.cells.lookup x=some c->c≠b
 bs:∀b o,X.base.get? b=some o->X.s₀.heap.get? b=some o/\X.H₀ b=none
 bsz:X.base.objs.size<=X.s₀.heap.objs.size
 noex:∀b o,X.base.get? b=some o->b ∉ X.ex
 exfs:∀b∈X.ex,b ∉ X.fs
 funs:X.s₀.heap.FunFrames X.base X.outer
 frf:∀b∈X.fs,X.H₀ b=none
structure Inv (X:Cx) (Tb:List (Addr×Obj)) (σ:List (Option V)) (H:Hp) (s:Shared):Prop where
 ok:X.Ok
 os:s.os=X.s₀.os
 bare:AllBare s.gens
 base:Un X.fs X.ex X.H₀ H X.s₀.heap s.heap
 loc:∃m,s.heap.Ns X.env.locals m/\∀(i:Nat) (x:Str) (v:V),X.N[i]? =some x->σ[i]? =some (some v)->nA X.env.scope x->∃u,RelV v u/\Look X.env s.heap m x u
 cell:∀x c,X.env.cells.lookup x=some c->∃v,s.heap.IsCell c v
 free:H X.env.locals=none
 freeC:∀x c,X.env.cells.lookup x=some c->H c=none
 pin:∀p∈X.pn++Tb,s.heap.get? p.1=some p.2/\H p.1=none/\p.1≠X.env.locals/\p.1 ∉ X.fs/\∀v,p.2.data≠ .cell v
 hok:OG X.prog X.w H s.heap
 len:σ.length=X.N.length
section
variable {X:Cx}{Tb:km (kf×Obj)}{σ:km (ke V)}{H H':Hp}{s:ki}{h':da}
def Cx.Ok.nofr (ok:X.Ok){b:kf}{o:Obj}(e:X.base.get? b=some o):b ∉ X.fs:=λhb=>by have:=(ok.funs.mem hb).1;rw[e] at this;cases this
def Inv.bs (I:Inv X Tb σ H s):∀b o,X.base.get? b=some o->s.heap.get? b=some o/\H b=none:=λb o e=>
 ⟨I.base.keep b o (I.ok.bs b o e).1 (I.ok.bs b o e).2 (I.ok.nofr e) (I.ok.noex b o e),I.base.free b o (I.ok.bs b o e).1 (I.ok.bs b o e).2 (I.ok.noex b o e)⟩
def Inv.bk (I:Inv X Tb σ H s):∀b o,X.base.get? b=some o->s.heap.get? b=some o:=λb o e=>(I.bs b o e).1
def Inv.mod (I:Inv X Tb σ H s):Mod X.K X.mg X.base:=I.ok.mod
def Inv.kIn (I:Inv X Tb σ H s):X.K.In s.heap:=I.ok.mod.kin.keeps I.bk
def Inv.nolimit (I:Inv X Tb σ H s):s.heap.NoLimit:=I.ok.mod.nolimit.keeps I.bk
def Inv.fr (I:Inv X Tb σ H s):∃m,Fr X.base X.env.locals s.heap m:=
 let ⟨m,hn,_⟩:=I.loc
 ⟨m,hn,I.bk,AAu I.ok.bsz I.ok.above⟩
def Inv.lt (I:Inv X Tb σ H s):X.env.locals<s.heap.objs.size:=let ⟨_,hn,_⟩:=I.loc;hn.lt
def Inv.sz (I:Inv X Tb σ H s):X.s₀.heap.objs.size<=s.heap.objs.size:=AAu I.ok.above (ADp I.lt)
def Inv.nofs (I:Inv X Tb σ H s){a:kf}(h:s.heap.objs.size<=a):a ∉ X.fs:=λhb=>by obtain⟨_,o,b,_⟩:=I.ok.funs.mem hb;exact absurd (AAt (AAW b) (AAu I.sz h)) (ABi _)
def Inv.cne (I:Inv X Tb σ H s):∀x c,X.env.cells.lookup x=some c->c≠X.env.locals:=λx c e z=>by obtain⟨v,o,a,hd⟩:=I.cell x c e;obtain⟨m,⟨f,es,ep,b,d,_⟩,_⟩:=I.loc;rw[z,b] at a;cases a;rw[d] at hd;cases hd
def Inv.funs (I:Inv X Tb σ H s):s.heap.FunFrames X.base X.outer:=by
 have all:∀(l:km Env),(∀b∈cx l,b∈X.fs)->X.s₀.heap.FunFrames X.base l->s.heap.FunFrames X.base l:=by
  intro l;induction l with
  | nil=>intro _ _;trivial
  | cons env r ih=> intro hs hl;obtain⟨hk,⟨L,o,a,hn,d,hd⟩,f⟩:=hl;have c:L∈X.fs:=hs L (by unfold cx;rw[ADq,a];exact ACc);obtain⟨g,e⟩:=I.base.slot L o d (I.ok.frf L c) c λz=>I.ok.exfs L z c;exact⟨hk,⟨L,_,a,hn,e,hd⟩,ih (λb hb=>hs b (by unfold cx;rw[ADq,a];exact ABh _ hb)) f⟩
 exact all X.outer (λ_ hb=>hb) I.ok.funs
def Inv.stack (I:Inv X Tb σ H s):s.heap.FunFrames X.base X.stack:=by
 rcases I.ok.stk with e|⟨e,a⟩
 .rw [e];exact I.funs
 .rw [e];obtain⟨m,hn,_⟩:=I.loc;refine .cons (by rw[I.ok.kind];decide) a hn ?_ I.funs;exact Heap.get?_none_of_le (AAu I.ok.bsz I.ok.above)
def Inv.stkSub (I:Inv X Tb σ H s):∀b∈cx X.stack,b∈X.env.locals::X.fs:=λb hb=>by
 rcases I.ok.stk with e|⟨e,a⟩
 .rw [e] at hb;exact ABh _ hb
 .rw [e] at hb;unfold cx at hb;rw[ADq,a] at hb;exact hb
def Inv.stkFree (I:Inv X Tb σ H s):∀b∈cx X.stack,H b=none:=λb hb=>by
 rcases AAV.mp (I.stkSub b hb) with e|hb
 .rw [e];exact I.free
 .obtain ⟨_,o,a,_⟩:=I.ok.funs.mem hb;exact I.base.free b o a (I.ok.frf b hb) λz=>I.ok.exfs b z hb
def Inv.step {g':Array GenState}{t':Nat}{d':Drawn}{ch:km kf}(I:Inv X Tb σ H s)(j:∀b∈ch,(b∈X.ex\/X.s₀.heap.objs.size<=b)/\b≠X.env.locals/\(∀x c,X.env.cells.lookup x=some c->c≠b)/\∀p∈X.pn++Tb,p.1≠b)(keep:∀b o,b≠X.env.locals->b ∉ X.fs->b ∉ ch->s.heap.get? b=some o->H b=none->h'.get? b=some o)(slot:∀b o,b≠X.env.locals->b∈X.fs->b ∉ ch->s.heap.get? b=some o->H b=none->∃C,h'.get? b=some {o with slots:=C})(free:∀b o,b ∉ ch->s.heap.get? b=some o->H b=none->H' b=none)(there:∀b o,b ∉ ch->s.heap.get? b=some o->∃t,h'.get? b=some t)(tups:∀b xs,H b=some (.tup xs)->H' b=some (.tup xs))(frzs:∀b o u,H b=some (.frz o u)->H' b=some (.frz o u))(tbls:∀b B,H b=some (.tbl B)->∃more,H' b=some (.tbl (B++more)))(G:∀m,s.heap.Ns X.env.locals m->h'.Ns X.env.locals m)(hok:OG X.prog X.w H' h')(J:AllBare g'):Inv X Tb σ H' {s with heap:=h',gens:=g',drawn:=d',toks:=t'}:=by
 have y:∀b o,X.s₀.heap.get? b=some o->b≠X.env.locals:=λb o e=>AAa (AAt (AAW e) I.ok.above);have f:∀b o,X.s₀.heap.get? b=some o->b ∉ X.ex->b ∉ ch:=λb o e hx hb=>by
  rcases (j b hb).1 with z|z
  .exact hx z
  .exact absurd (AAt (AAW e) z) (ABi _)
 have cellK:∀x c,X.env.cells.lookup x=some c->∀v,s.heap.IsCell c v->h'.IsCell c v:=λx c e v ⟨o,h,hd⟩=>by
  have a:c ∉ ch:=λz=>(j c z).2.2.1 x c e rfl;by_cases hc:c∈X.fs
  .obtain ⟨C,q⟩:=slot c o (I.cne x c e) hc a h (I.freeC x c e);exact⟨_,q,hd⟩
  .exact ⟨o,keep c o (I.cne x c e) hc a h (I.freeC x c e),hd⟩
 refine⟨I.ok,I.os,J,⟨λb o e n hb hx=> ?_,λb o e n hb hx=> ?_,λb o e n hx=> ?_,λb o e hx=> ?_,λb xs e=>tups b xs (I.base.tups b xs e),λb o xs e=>frzs b o xs (I.base.frzs b o xs e),λb B e=> ?_⟩, ?_,λx c e=> ?_, ?_,λx c e=> ?_,λp hp=> ?_,hok,I.len⟩
 .exact keep b o (y b o e) hb (f b o e hx) (I.base.keep b o e n hb hx) (I.base.free b o e n hx)
 .obtain ⟨C,g⟩:=I.base.slot b o e n hb hx;obtain⟨D,A⟩:=slot b _ (y b o e) hb (f b o e hx) g (I.base.free b o e n hx);exact⟨D,A⟩
 .obtain ⟨t,g⟩:=I.base.there b o e hx;exact free b t (f b o e hx) g (I.base.free b o e n hx)
 .obtain ⟨t,g⟩:=I.base.there b o e hx;exact there b t (f b o e hx) g
 .obtain ⟨m1,g⟩:=I.base.tbls b B e;obtain⟨m2,A⟩:=tbls b _ g;exact⟨m1++m2,by rw[A,Array.append_assoc]⟩
 .obtain ⟨m,hn,hl⟩:=I.loc;refine⟨m,G m hn,λi x v g A K=> ?_⟩;obtain⟨u,r,l⟩:=hl i x v g A K;refine⟨u,r, ?_⟩;rcases l with l|⟨k,c,e,z⟩
  .exact .inl l
  .exact .inr ⟨k,c,e,cellK x c e _ z⟩
 .obtain ⟨v,z⟩:=I.cell x c e;exact⟨v,cellK x c e v z⟩
 .obtain ⟨m,⟨o,_,_,h,_⟩,_⟩:=I.loc;exact free _ o (λz=>(j _ z).2.1 rfl) h I.free
 .obtain ⟨v,o,h,hd⟩:=I.cell x c e;exact free c o (λz=>(j c z).2.2.1 x c e rfl) h (I.freeC x c e)
 .obtain ⟨e,n,E,F,d⟩:=I.pin p hp;have a:p.1 ∉ ch:=λz=>(j p.1 z).2.2.2 p hp rfl;exact⟨keep p.1 p.2 E F a e n,free p.1 p.2 a e n,E,F,d⟩
def Inv.un {t':Nat}(I:Inv X Tb σ H s)(u:Un X.fs [] H H' s.heap h')(hok:OG X.prog X.w H' h'):Inv X Tb σ H' {s with heap:=h',toks:=t'}:=by
 obtain⟨m,⟨o,es,ep,d,r⟩,_⟩:=id I.loc;obtain⟨j,g⟩:=u.any d I.free (by simp);exact I.step (g':=s.gens) (d':=s.drawn) (ch:= []) (λ_ z=>nomatch z) (λb o _ hb _ e n=>u.keep b o e n hb (by simp)) (λb o _ hb _ e n=>u.slot b o e n hb (by simp)) (λb o _ e n=>u.free b o e n (by simp)) (λb o _ e=>u.there b o e (by simp)) u.tups u.frzs u.tbls (λk h=>by
  obtain⟨l,a,c,f,i⟩:=h;rw[d] at f;cases f;exact⟨_,a,c,g,i⟩) hok I.bare
def Inv.call {g':Array GenState}{t':Nat}{d':Drawn}{ch:km kf}(I:Inv X Tb σ H s)(u:Un (cx X.stack) ch H H' s.heap h')(hok:OG X.prog X.w H' h')(j:AllBare g')(g:∀b∈ch,(b∈X.ex\/X.s₀.heap.objs.size<=b)/\b≠X.env.locals/\(∀x c,X.env.cells.lookup x=some c->c≠b)/\∀p∈X.pn++Tb,p.1≠b):Inv X Tb σ H' {s with heap:=h',gens:=g',drawn:=d',toks:=t'}:=by
 obtain⟨m,⟨o,es,ep,h,r⟩,_⟩:=id I.loc;obtain⟨t,a⟩:=u.any h I.free λz=>(g _ z).2.1 rfl;exact I.step (ch:=ch) g (λb o a hb hc e n=>u.keep b o e n (λz=>(AAV.mp (I.stkSub b z)).elim a hb) hc) (λb o _ _ hc e n=>u.any e n hc) (λb o hc e n=>u.free b o e n hc) (λb o hc e=>u.there b o e hc) u.tups u.frzs u.tbls (λv k=>by
  obtain⟨y,d,f,i,l⟩:=k;rw[h] at i;cases i;exact⟨_,d,f,a,l⟩) hok j
def Inv.turned {t':Nat}{it:kf}(I:Inv X Tb σ H s)(k:∀b o,b≠it->s.heap.get? b=some o->h'.get? b=some o)(hn:H it=none)(d:it≠X.env.locals)(h1:it∈X.ex\/X.s₀.heap.objs.size<=it)(h2:∀x c,X.env.cells.lookup x=some c->c≠it)(f:∀p∈X.pn++Tb,p.1≠it):Inv X Tb σ H {s with heap:=h',toks:=t'}:=by
 have a:∀b u,H b=some u->b≠it:=λb u e z=>by rw[z,hn] at e;cases e
 refine I.step (g':=s.gens) (d':=s.drawn) (ch:= [it]) (λb hb=> ?_) (λb o _ _ hc e _=>k b o (λz=>hc (by simp[z])) e) (λb o _ _ hc e _=>⟨o.slots,k b o (λz=>hc (by simp[z])) e⟩) (λ_ _ _ _ n=>n)
  (λb o hc e=>⟨o,k b o (λz=>hc (by simp[z])) e⟩) (λ_ _ e=>e) (λ_ _ _ e=>e) (λb i e=>⟨#[],by rw[e];simp⟩) (λm g=> ?_) (λb u e=> ?_) I.bare
 .have e:b=it:=by simpa using hb
  subst e;exact⟨h1,d,h2,f⟩
 .obtain ⟨o,es,ep,h,r⟩:=g;exact⟨o,es,ep,k _ o (ABQ d) h,r⟩
 .refine (I.hok b u e).stay (λc v hc q=>k c v ?_ q) (λ_ q=>q) λ_ _ q=>q;rcases hc with z|z
  .rw [z];exact a b u e
  .exact a c _ z
def Inv.tok (I:Inv X Tb σ H s)(t:Nat):Inv X Tb σ H {s with toks:=t}:=I.un (h':=s.heap) (t':=t) Un.refl I.hok
def Inv.kept {t':Nat}(I:Inv X Tb σ H s)(k:∀b u,s.heap.get? b=some u->h'.get? b=some u):Inv X Tb σ H {s with heap:=h',toks:=t'}:=I.un (Un.kept k) (I.hok.kept k)
def Inv.laid {a:kf}{o:HO}{t':Nat}(I:Inv X Tb σ H s)(k:∀b u,s.heap.get? b=some u->h'.get? b=some u)(hp:s.heap.objs.size<=a)(new:Dd X.prog X.w (upd H a o) h' a o):Inv X Tb σ (upd H a o) {s with heap:=h',toks:=t'}:=I.un (Un.laid k hp (I.hok.fresh hp)) (I.hok.laid k hp new)
def Inv.write {x e:kf}{o:HO}{t':Nat}(I:Inv X Tb σ H s)(a:qq (H x))(he:e=x\/H e=some (.own x))(k:∀b u,b≠e->s.heap.get? b=some u->h'.get? b=some u)(c:∃u,h'.get? e=some u)(new:Dd X.prog X.w (upd H x o) h' x o):Inv X Tb σ (upd H x o) {s with heap:=h',toks:=t'}:=I.un (Un.write a he k c) (I.hok.write a he k c new)
def Inv.weak {a:km (ke V)}(I:Inv X Tb σ H s)(hl:a.length=σ.length)(w:∀(i:Nat) v,a[i]? =some (some v)->σ[i]? =some (some v)):Inv X Tb a H s:=
 ⟨I.ok,I.os,I.bare,I.base,let ⟨m,hn,b⟩:=I.loc;⟨m,hn,λi x v c d e=>b i x v c (w i v d) e⟩,I.cell,I.free,I.freeC,I.pin,I.hok,hl.trans I.len⟩
def Inv.pins_of {a:km (kf×Obj)}(I:Inv X Tb σ H s)(h:∀p∈a,s.heap.get? p.1=some p.2/\H p.1=none/\p.1≠X.env.locals/\p.1 ∉ X.fs/\∀v,p.2.data≠ .cell v):Inv X a σ H s:=
 ⟨I.ok,I.os,I.bare,I.base,I.loc,I.cell,I.free,I.freeC,λp hp=>(AAj.mp hp).elim (λz=>I.pin p (ADB _ z)) (h p),I.hok,I.len⟩
def WR {N:km Str}(hN:N.Nodup){i j:Nat}{x:Str}(a:N[i]? =some x)(b:N[j]? =some x):i=j:=by obtain⟨h1,c⟩:=AAy.mp a;obtain⟨h2,d⟩:=AAy.mp b;exact(List.getElem_inj hN).mp (c.trans d.symm)
def So {M:Model}{A:Wf}{E:kj->ki->Prop}{i:Nat}{x:Str}{v:V}{u:kj}{Q:Unit->ki->Prop}(I:Inv X Tb σ H s)(hN:X.N.Nodup)(hi:X.N[i]? =some x)(hx:Loc X.env.scope x)(r:RelV v u)(h:∀F,Inv X Tb (σ.set i (some v)) H F->(∃a,Heap.SameBut a s.heap F.heap/\(a=X.env.locals\/X.env.cells.lookup x=some a))->Q () F)(hf:X.fn x=true\/X.env.scope.names.lookup x=some .local:=by first | exact .inl rfl|exact .inr rfl|assumption):wpAny M A (storeName X.env x u) Q E s:=by
 obtain⟨m,hn,hl⟩:=id I.loc;have v3:(X.env.scope.kind == .class||(X.env.scope.kind == .module&&X.env.locals != X.env.globals))=false:=by rw[I.ok.kind];rfl
 have l:i<σ.length:=by rw[I.len];exact(AAy.mp hi).1
 have t:=I.cne;have tracked:∀{a:kf} {h':da},(∃o,s.heap.get? a=some o/\H a=none)->Heap.SameBut a s.heap h'->OG X.prog X.w H h':=λ{a h'} ha hs b ob e=>by
  obtain⟨_,_,W⟩:=ha;refine(I.hok b ob e).stay (λc B hc q=>(hs.2 c ?_).trans q) (λ_ q=>q) λ_ _ q=>q;rintro rfl;rcases hc with rfl|hc
  .rw [W] at e;cases e
  .rw [W] at hc;cases hc
 rcases hx with hk|hk
 .refine wpAny_storeName_local hk hn (λh' G hs=> ?_) v3;obtain⟨oL,_,_,J,_⟩:=id hn;refine h _ ⟨I.ok,I.os,I.bare,⟨λb o e n hb hx=> ?_,λb o e n hb hx=> ?_,I.base.free,λb o e hx=> ?_,I.base.tups,I.base.frzs,I.base.tbls⟩,⟨_,G,λj y K f g L=> ?_⟩,λy c e=> ?_,I.free,I.freeC,λp hp=> ?_,tracked ⟨oL,J,I.free⟩ hs,by simpa using I.len⟩ ⟨_,hs, .inl rfl⟩
  .exact (hs.2 b (AAa (AAt (AAW e) I.ok.above))).trans (I.base.keep b o e n hb hx)
  .obtain ⟨O,f⟩:=I.base.slot b o e n hb hx;exact⟨O,(hs.2 b (AAa (AAt (AAW e) I.ok.above))).trans f⟩
  .obtain ⟨P,f⟩:=I.base.there b o e hx;exact⟨P,(hs.2 b (AAa (AAt (AAW e) I.ok.above))).trans f⟩
  .by_cases hj:j=i
   .subst hj;rw[hi] at f;cases f;rw[AE3 l] at g;cases g;exact⟨u,r, .inl ⟨hk,by simp⟩⟩
   .rw [ABD (ABQ hj)] at g;obtain⟨R,S,q⟩:=hl j y K f g L;refine⟨R,S, ?_⟩;rcases q with⟨k,e⟩|⟨k,c,e,z⟩
    .refine .inl ⟨k, ?_⟩;have:y≠x:=λe=>hj (WR hN f (e ▸ hi));simp[this,e]
    .exact .inr ⟨k,c,e,z.sameBut hs (t y c e)⟩
  .obtain ⟨B,z⟩:=I.cell y c e;exact⟨B,z.sameBut hs (t y c e)⟩
  .obtain ⟨e,n,C,T,d⟩:=I.pin p hp;exact⟨(hs.2 p.1 C).trans e,n,C,T,d⟩
 .have U:X.fn x=true:=by
   rcases hf with z|z
   .exact z
   .rw [z] at hk;cases hk
  obtain⟨c,hc⟩:=I.ok.has x (.inl hk);obtain⟨B,z⟩:=I.cell x c hc;refine wpAny_storeName_cell I.ok.kind hk hc z (λh' Y hs=> ?_);obtain⟨Z,yb,wH⟩:=id z;refine h {s with heap:=h'} ⟨I.ok,I.os,I.bare,⟨λb o e n hb hx=> ?_,λb o e n hb hx=> ?_,I.base.free,λb o e hx=> ?_,I.base.tups,I.base.frzs,I.base.tbls⟩,⟨m,hn.sameBut hs (ABQ (t x c hc)),λj y K f g L=> ?_⟩,λy D e=> ?_,I.free,I.freeC,λp hp=> ?_,tracked ⟨Z,yb,I.freeC x c hc⟩ hs,by simpa using I.len⟩ ⟨c,hs, .inr hc⟩
  .exact (hs.2 b (AAa (AAt (AAW e) (I.ok.cab x c U hc)))).trans (I.base.keep b o e n hb hx)
  .obtain ⟨O,f⟩:=I.base.slot b o e n hb hx;exact⟨O,(hs.2 b (AAa (AAt (AAW e) (I.ok.cab x c U hc)))).trans f⟩
  .obtain ⟨P,f⟩:=I.base.there b o e hx;exact⟨P,(hs.2 b (AAa (AAt (AAW e) (I.ok.cab x c U hc)))).trans f⟩
  .by_cases hj:j=i
   .subst hj;rw[hi] at f;cases f;rw[AE3 l] at g;cases g;exact⟨u,r, .inr ⟨.inl hk,c,hc,Y⟩⟩
   .rw [ABD (ABQ hj)] at g;obtain⟨R,S,q⟩:=hl j y K f g L;refine⟨R,S, ?_⟩;rcases q with q|⟨k,D,e,z'⟩
    .exact .inl q
    .refine .inr ⟨k,D,e,z'.sameBut hs ?_⟩;rintro rfl;exact hj (WR hN f (I.ok.inj _ _ _ e hc ▸ hi))
  .by_cases uf:D=c
   .subst uf;exact⟨_,Y⟩
   .obtain ⟨w2,z2⟩:=I.cell y D e;exact⟨w2,z2.sameBut hs uf⟩
  .obtain ⟨e,n,C,T,d⟩:=I.pin p hp;refine⟨(hs.2 p.1 ?_).trans e,n,C,T,d⟩;intro q;rw[q,yb] at e;have q':Z=p.2:=AAn e;exact d B (by rw[<-q'];exact wH)
def Ir {M:Model}{A:Wf}{E:kj->ki->Prop}{i:Nat}{x:Str}{v:V}{u:kj}{Q:Unit->ki->Prop}(I:Inv X Tb σ H s)(hN:X.N.Nodup)(hi:X.N[i]? =some x)(hx:Loc X.env.scope x)(r:RelV v u)(h:∀a,Inv X Tb (σ.set i (some v)) H a->Q () a)(b:X.fn x=true\/X.env.scope.names.lookup x=some .local:=by first | exact .inl rfl|exact .inr rfl|assumption):wpAny M A (storeName X.env x u) Q E s:=
 So I hN hi hx r (λa c _=>h a c) b
def Inv.call' {a:ki}{ch:km kf}(I:Inv X Tb σ H s)(d:a.os=s.os)(u:Un (cx X.stack) ch H H' s.heap a.heap)(hok:OG X.prog X.w H' a.heap)(f:AllBare a.gens)(g:∀b∈ch,(b∈X.ex\/X.s₀.heap.objs.size<=b)/\b≠X.env.locals/\(∀x c,X.env.cells.lookup x=some c->c≠b)/\∀p∈X.pn++Tb,p.1≠b):Inv X Tb σ H' a:=by obtain⟨h',g',d',t',h⟩:=a;have e:h=s.os:=d;subst e;exact I.call (g':=g') (t':=t') (d':=d') u hok f g
end
abbrev XK:=kj->ke kf->Hp->Prop
abbrev St:=km (ke V)
abbrev VK:=V->Hp->Prop
abbrev TE:=St->Hp->VK->Prop
abbrev TT:=St->Hp->(kc->Hp->Prop)->Prop
abbrev TA:=St->Hp->(km V->Hp->Prop)->Prop
structure Pd where
 nx:St->Hp->Prop
 rt:VK
 bk:St->Hp->Prop:=λ_ _=>False
 ct:St->Hp->Prop:=λ_ _=>False
abbrev TS:=Pd->St->Hp->Prop
def EP (X:Cx)(Tb:km (kf×Obj))(b:St)(Q:VK)(u:kj)(c:ki):Prop:=∃v a,Inv X Tb b a c/\RelV v u/\Q v a
def TP (X:Cx)(Tb:km (kf×Obj))(c:St)(Q:kc->Hp->Prop)(b:kc)(d:ki):Prop:=∃a,Inv X Tb c a d/\Q b a
def AP (X:Cx)(Tb:km (kf×Obj))(b:St)(Q:km V->Hp->Prop)(c:km kj)(d:ki):Prop:=∃vs a,Inv X Tb b a d/\A6 vs c/\Q vs a
def SP (X:Cx)(Tb:km (kf×Obj))(D:Pd)(f:Flow)(c:ki):Prop:=
 match f with
 | .next=>∃a b,Inv X Tb a b c/\D.nx a b
 | .brk=>∃a b,Inv X Tb a b c/\D.bk a b
 | .cont=>∃a b,Inv X Tb a b c/\D.ct a b
 | .ret u=>∃v a b,Inv X Tb a b c/\RelV v u/\D.rt v b
def PE (X:Cx)(e:kd)(t:TE):Prop:=
 ∀(Tb:km (kf×Obj)) (s:ki) (a:St) (H:Hp) (Q:VK),Inv X Tb a H s->t a H Q->wpAny (model X.prog X.w) X.A (eval e X.env) (EP X Tb a Q) X.xe s
def PT (X:Cx)(e:kd)(t:TT):Prop:=
 ∀(Tb:km (kf×Obj)) (s:ki) (a:St) (H:Hp) (Q:kc->Hp->Prop),Inv X Tb a H s->t a H Q->wpAny (model X.prog X.w) X.A (isTrue e X.env (eval e X.env)) (TP X Tb a Q) X.xe s
def PW (X:Cx)(e:kd)(t:TT):Prop:=
 ∀(whole:Sem kj) (Tb:km (kf×Obj)) (s:ki) (a:St) (H:Hp) (Q:kc->Hp->Prop),Inv X Tb a H s->t a H Q->wpAny (model X.prog X.w) X.A (isTrue e X.env whole) (TP X Tb a Q) X.xe s
def PW.pt {X:Cx}{e:kd}{t:TT}(h:PW X e t):PT X e t:=h _
def PA (X:Cx)(es:km kd)(t:TA):Prop:=
 ∀(a:Pos) (Tb:km (kf×Obj)) (s:ki) (b:St) (H:Hp) (Q:km V->Hp->Prop),Inv X Tb b H s->t b H Q->wpAny (model X.prog X.w) X.A (spliced (backTo a (starEach es X.env))) (AP X Tb b Q) X.xe s
def PS (X:Cx)(st:Stmt)(t:TS):Prop:=
 ∀(Tb:km (kf×Obj)) (s:ki) (a:St) (H:Hp) (D:Pd),Inv X Tb a H s->t D a H->wpAny (model X.prog X.w) X.A (exec st X.env) (SP X Tb D) X.xe s
def ZA (X:Cx)(st:km Stmt)(t:TS):Prop:=
 ∀(Tb:km (kf×Obj)) (s:ki) (a:St) (H:Hp) (D:Pd),Inv X Tb a H s->t D a H->wpAny (model X.prog X.w) X.A (execs st X.env) (SP X Tb D) X.xe s
def Bk {b:Type}{t:Sem b}{Q c:b->ki->Prop}{M:Model}{A:Wf}{E:kj->ki->Prop}{s:ki}(h:wpAny M A t Q E s)(hQ:∀a s,Q a s->c a s):wpAny M A t c E s:=ABM h hQ λ_ _ x=>x
section
variable {X:Cx}
def Gr (i:Nat):TE:=λa H Q=>∃v,a[i]? =some (some v)/\Q v H
def tC (v:V):TE:=λ_ H Q=>Q v H
def UZ {i:Nat}{x:Str}{b:Pos}(hN:X.N[i]? =some x)(hv:nA X.env.scope x)(hd:(x==("__debug__" :Str))=false:=by decide)(f:(x==("__classdict__" :Str))=false:=by decide):PE X (.Name x b) (Gr i):=by
 intro Tb s g H Q I h;obtain⟨v,e,h⟩:=h;obtain⟨m,hn,hl⟩:=I.loc;obtain⟨u,r,l⟩:=hl i x v hN e hv;have a:EP X Tb g Q u s:=⟨v,H,I,r,h⟩;rcases l with⟨hk,j⟩|⟨hk,c,hc,d⟩
 .exact wpAny_Name (wpAny_loadName_local I.ok.kind hk hn j a) hd
 .rcases hk with hk|hk
  .exact wpAny_Name (wpAny_loadName_cell I.ok.kind hk hc d a) hd
  .exact wpAny_Name (wpAny_loadName_free I.ok.kind hk hc d a f) hd
def BO {i j pos}:PE X (.Constant (.int i) j pos) (tC (.int i)):=λ_ _ _ H _ I h=>wpAny_Constant_int ⟨.int i,H,I.tok _,⟨_,rfl⟩,h⟩
def tD {b j pos}:PE X (.Constant (.bool b) j pos) (tC (.bl b)):=λ_ _ _ H _ I h=>Constant_bool ⟨.bl b,H,I,rfl,h⟩
def gQ {j pos}:PE X (.Constant .none j pos) (tC .non):=λ_ _ _ H _ I h=>Constant_none ⟨.non,H,I,rfl,h⟩
def pA {x j pos}:PE X (.Constant (.str x) j pos) (tC (.str x)):=λ_ _ _ H _ I h=>Calls.Constant_str ⟨.str x,H,I.tok _,⟨_,rfl⟩,h⟩
def Gl (X:Cx)(x:Str):Prop:=X.env.kindOf x=some .globalImplicit
def jl {E:kj->ki->Prop}{Tb:km (kf×Obj)}{s:ki}{b:St}{H:Hp}{x:Str}{u:kj}{a:Pos}{Q:kj->ki->Prop}(I:Inv X Tb b H s)(c:Gl X x)(d:X.mg x=some u)(h:Q u s)(hd:(x==("__debug__" :Str))=false:=by decide):wpAny (model X.prog X.w) X.A (eval (.Name x a) X.env) Q E s:=
 Calls.Name_function_global I.ok.kind c (Calls.loadGlobal_global (by rw[I.ok.glob];exact I.mod.glob.keeps I.bk) d h) hd
def F9 {E:kj->ki->Prop}{Tb:km (kf×Obj)}{s:ki}{b:St}{H:Hp}{x:Str}{u:kj}{a:Pos}{Q:kj->ki->Prop}(I:Inv X Tb b H s)(c:Gl X x)(d:X.mg x=none)(hv:bootBuiltins x=some u)(h:Q u s)(hn:x≠"__name__" :=by decide)(hd:(x==("__debug__" :Str))=false:=by decide):wpAny (model X.prog X.w) X.A (eval (.Name x a) X.env) Q E s:=by obtain⟨e,h1,h2⟩:=I.mod.blt;exact Calls.Name_function_global I.ok.kind c (Calls.loadGlobal_builtin (by rw[I.ok.glob];exact I.mod.glob.keeps I.bk) d (by rw[I.ok.blt];exact h1.keeps I.bk) ((h2 x hn).trans hv) h) hd
def Dc {x:Str}{v:V}{u:kj}{a:Pos}(b:Gl X x)(c:X.mg x=none)(hv:bootBuiltins x=some u)(r:RelV v u)(hn:x≠"__name__" :=by decide)(hd:(x==("__debug__" :Str))=false:=by decide):PE X (.Name x a) (tC v):=
 λ_ _ _ H _ I h=>F9 I b c hv ⟨v,H,I,r,h⟩ hn hd
variable {a b:kd}{ta tb:TE}{pos:Pos}
def PC (X:Cx)(op:CmpOp)(a b:kd)(t:TE):Prop:=
 ∀(Tb:km (kf×Obj)) (s:ki) (e:St) (H:Hp) (Q:VK),Inv X Tb e H s->t e H Q->
  wpAny (model X.prog X.w) X.A (eval a X.env) (λv c=>wpAny (model X.prog X.w) X.A (eval b X.env) (λu d=>wpAny (model X.prog X.w) X.A (compareOp op v u) (EP X Tb e Q) X.xe d) X.xe c) X.xe s
def fk (b:kd){op:CmpOp}(h:op≠ .In)(h2:op≠ .NotIn):behindInMarks op b=false:=by
 have c:(op==CmpOp.In)=false:=by cases op <;> first | rfl|exact absurd rfl h
 have d:(op==CmpOp.NotIn)=false:=by cases op <;> first | rfl|exact absurd rfl h2
 cases b <;> simp[behindInMarks,c,d]
def tB (t:TE):TT:=λd H Q=>t d H λx e=>∃c,x= .bl c/\Q c e
def pD {op:CmpOp}{t:TE}(h:PC X op a b t)(h1:behindInMarks op b=false:=by first | exact fk _ (by decide) (by decide)|rfl):PT X (.Compare a [op] [b] pos) (tB t):=by intro Tb s e H Q I hw;refine wpAny_isTrue_Compare1 (Bk (h Tb s e H _ I hw) λv j h1=>Bk h1 λu k h2=>Bk h2 λc l ⟨x,f,g,r1,i⟩=> ?_) h1;obtain⟨d,rfl,q⟩:=i;cases r1;exact ACL ⟨f,g,q⟩
def pF {e:kd}{t:TE}(h:PE X e t)(he:∀whole,isTrue e X.env whole=(do let v <-whole;standAt e.pos;holding [v] (truthy v)):=by intro _;rfl):PT X e (tB t):=by intro Tb s c H Q I hw;refine isTrue_plain (Bk (h Tb s c H _ I hw) λv j ⟨x,f,g,r1,i⟩=> ?_) (he _);obtain⟨d,rfl,q⟩:=i;cases r1;exact ACL ⟨f,g,q⟩
variable {tA tB':TT}{rest:km kd}
def wm (t u:TT):TT:=λd H Q=>t d H λc e=>if c=true then u d e Q else Q false e
def tOr (t u:TT):TT:=λd H Q=>t d H λc e=>if c=true then Q true e else u d e Q
def wr (t:TT):TT:=λd H Q=>t d H λc e=>Q (!c) e
def kS (ha:PT X a tA):PW X (.BoolOp .And [a] pos) tA:=by
 intro f Tb s d H Q I h;refine isTrue_and (Bk (ha Tb s d H Q I h) λc g e=> ?_);cases c with
 | true=>exact isTrue_and_nil e
 | false=>exact e
def pH (ha:PT X a tA):PW X (.BoolOp .Or [a] pos) tA:=by
 intro f Tb s d H Q I h;refine isTrue_or (Bk (ha Tb s d H Q I h) λc g e=> ?_);cases c with
 | false=>exact isTrue_or_nil e
 | true=>exact e
def pG (ha:PT X a tA)(hb:PW X (.BoolOp .And (b::rest) pos) tB'):PW X (.BoolOp .And (a::b::rest) pos) (wm tA tB'):=by
 intro i Tb s d H Q I h;refine isTrue_and (Bk (ha Tb s d H _ I h) λc j ⟨e,f,g⟩=> ?_);cases c with
 | true=>exact hb i Tb j d e Q f g
 | false=>exact⟨e,f,g⟩
def tG (ha:PT X a tA)(hb:PW X (.BoolOp .Or (b::rest) pos) tB'):PW X (.BoolOp .Or (a::b::rest) pos) (tOr tA tB'):=by
 intro i Tb s d H Q I h;refine isTrue_or (Bk (ha Tb s d H _ I h) λc j ⟨e,f,g⟩=> ?_);cases c with
 | true=>exact⟨e,f,g⟩
 | false=>exact hb i Tb j d e Q f g
def pE (ha:PT X a tA):PT X (.UnaryOp .Not a pos) (wr tA):=by intro Tb s d H Q I h;exact isTrue_not (ha Tb s d H (λc e=>Q (!c) e) I h)
def uA (ta tb:TE):TE:=λd H Q=>ta d H λx e=>∃c,x= .bl c/\if c=true then tb d e Q else Q (.bl false) e
def uG (ta:TE):TE:=λd H Q=>ta d H λx e=>∃c,x= .bl c/\Q (.bl (!c)) e
def o8 {op}{t:TE}(h:PE X a t):PE X (.BoolOp op [a] pos) t:=λTb s c H Q I hw=>BoolOp_one (h Tb s c H Q I hw)
def oz (ha:PE X a ta)(hb:PE X (.BoolOp .And (b::rest) pos) tb):PE X (.BoolOp .And (a::b::rest) pos) (uA ta tb):=by
 intro Tb s e H Q I h;refine BoolOp_and (Bk (ha Tb s e H _ I h) λv i ⟨x,f,g,r1,d⟩=> ?_);obtain⟨c,rfl,d⟩:=d;cases r1;refine ACL ?_;cases c with
 | true=>exact hb Tb i e f Q g d
 | false=>exact⟨.bl false,f,g,rfl,d⟩
def o7 (ha:PE X a ta):PE X (.UnaryOp .Not a pos) (uG ta):=by intro Tb s e H Q I h;refine UnaryOp_ (Bk (ha Tb s e H _ I h) λv i ⟨x,f,g,r1,d⟩=> ?_);obtain⟨c,rfl,d⟩:=d;cases r1;exact not_of (ACL ⟨.bl (!c),f,g,rfl,d⟩)
def tIf (t:TT)(ta tb:TE):TE:=λd H Q=>t d H λc e=>if c=true then ta d e Q else tb d e Q
def gO {c:kd}(hc:PT X c tA)(ha:PE X a ta)(hb:PE X b tb):PE X (.IfExp c a b pos) (tIf tA ta tb):=by
 intro Tb s e H Q I h;refine wpAny_IfExp (Bk (hc Tb s e H _ I h) λd f ⟨g,i,j⟩=> ?_);cases d with
 | true=>exact ha Tb f e g Q i j
 | false=>exact hb Tb f e g Q i j
end
def Fs (K:AAR)(H:Hp)(a:kf)(xs:km V):Prop:=
 Rd H a (.lst xs)\/
  ∃(o:Obj) (b:Array kj) (n:Nat),K.lookup a=some o/\o.cls= .type "list" /\o.dict=none/\o.data= .seq b n/\b.size<=sizeLine/\A6 xs b.toList
def LW (K:AAR)(H:Hp)(a:kf)(xs:km V):Prop:=
 Rd H a (.tup xs)\/
  ∃(o:Obj) (b:Array kj) (n:Nat),K.lookup a=some o/\o.cls= .type "tuple" /\o.data= .seq b n/\b.size<=sizeLine/\A6 xs b.toList
def vZ:kj->ke V
 | .none=>some .non
 | .bool b=>some (.bl b)
 | .int i _=>some (.int i)
 | .str x _=>some (.str x)
 | .bytes b _=>some (.byt b)
 | .float b _=>some (.flt b)
 | .ref a=>some (.ref a)
 | .type n=>some (.ty n)
 | _=>none
def RelV.abs {x:V}{u:kj}(r:RelV x u):vZ u=some x:=by
 cases x with
 | non=>cases r;rfl
 | bl _=>cases r;rfl
 | int _=>obtain⟨t,rfl⟩:=r;rfl
 | str _=>obtain⟨t,rfl⟩:=r;rfl
 | byt _=>obtain⟨t,rfl⟩:=r;rfl
 | flt _=>obtain⟨t,rfl⟩:=r;rfl
 | ref _=>cases r;rfl
 | ty _=>cases r;rfl
def RelV.inj {x y:V}{u:kj}(r:RelV x u)(q:RelV y u):x=y:=AAn (r.abs.symm.trans q.abs)
theorem A6.inj:∀{xs ys:km V} {a:km kj},A6 xs a->A6 ys a->xs=ys
 | _,_,_, .nil, .nil=>rfl
 | _,_,_, .cons r t, .cons b t'=>by rw[r.inj b,A6.inj t t']
section
variable {X:Cx}{Tb:km (kf×Obj)}{σ:St}{H:Hp}{s:ki}{a:kf}{xs ys:km V}
def Fs.of {K:AAR}(h:H a=some (.lst xs)):Fs K H a xs:= .inl (.inl h)
def LW.of {K:AAR}(h:H a=some (.tup xs)):LW K H a xs:= .inl (.inl h)
def Inv.list (I:Inv X Tb σ H s)(h:Fs X.K H a xs):∃b:km kj,A6 xs b/\PlainL s.heap a b.toArray/\xs.length<=sizeLine:=by
 rcases h with h|⟨o,b,n,hk,hc,hd,hs,hz,r⟩
 .obtain ⟨z,b,n,r,e⟩:=h.ok I.hok;exact⟨b,r,⟨_,n,e,rfl,rfl,rfl⟩,z⟩
 .refine ⟨b.toList,r,⟨o,n,I.kIn a o hk,hc,hd,by simpa using hs⟩, ?_⟩;have e:=r.length;simp only[ACb] at e;omega
def Inv.tuple (I:Inv X Tb σ H s)(h:LW X.K H a xs):∃b:km kj,A6 xs b/\IsTup s.heap a b.toArray/\xs.length<=sizeLine:=by
 rcases h with h|⟨o,b,n,hk,hc,hs,hz,r⟩
 .obtain ⟨z,b,r,p⟩:=h.ok I.hok;exact⟨b,r,p,z⟩
 .refine ⟨b.toList,r,⟨o,I.kIn a o hk,hc,n,by simpa using hs⟩, ?_⟩;have e:=r.length;simp only[ACb] at e;omega
def Inv.list_inj (I:Inv X Tb σ H s)(h:Fs X.K H a xs)(h':Fs X.K H a ys):xs=ys:=by
 obtain⟨b,r,⟨o,n,e,_,_,d⟩,_⟩:=I.list h;obtain⟨its',f,⟨i,j,c,_,_,d'⟩,_⟩:=I.list h';rw[e] at c;cases c;rw[d] at d';injection d' with g _;have:b=its':=by simpa using congrArg Array.toList g
 subst this;exact r.inj f
def Inv.tuple_inj (I:Inv X Tb σ H s)(h:LW X.K H a xs)(h':LW X.K H a ys):xs=ys:=by
 obtain⟨b,r,⟨o,e,_,n,d⟩,_⟩:=I.tuple h;obtain⟨its',f,⟨i,c,_,j,d'⟩,_⟩:=I.tuple h';rw[e] at c;cases c;rw[d] at d';injection d' with g _;have:b=its':=by simpa using congrArg Array.toList g
 subst this;exact r.inj f
end
abbrev Cx.wish (X:Cx)(E:kj->ki->Prop):Cx:={X with xe:=E}
abbrev Cx.nox (X:Cx):Cx:=X.wish λ_ _=>False
def Cx.Ok.wish {X:Cx}(ok:X.Ok)(E:kj->ki->Prop):(X.wish E).Ok:=
 ⟨ok.mod,ok.kind,ok.glob,ok.blt,ok.above,ok.inj,ok.has,ok.cab,ok.hd,ok.frames,ok.stk,ok.exf,ok.bs,ok.bsz,ok.noex,ok.exfs,ok.funs,ok.frf⟩
def Cx.Ok.unwish {X:Cx}{E:kj->ki->Prop}(ok:(X.wish E).Ok):X.Ok:=
 ⟨ok.mod,ok.kind,ok.glob,ok.blt,ok.above,ok.inj,ok.has,ok.cab,ok.hd,ok.frames,ok.stk,ok.exf,ok.bs,ok.bsz,ok.noex,ok.exfs,ok.funs,ok.frf⟩
section
variable {X:Cx}{Tb:km (kf×Obj)}{σ:St}{H:Hp}{s:ki}{E:kj->ki->Prop}
def Inv.wish (I:Inv X Tb σ H s)(E:kj->ki->Prop):Inv (X.wish E) Tb σ H s:=⟨I.ok.wish E,I.os,I.bare,I.base,I.loc,I.cell,I.free,I.freeC,I.pin,I.hok,I.len⟩
def Inv.unwish (I:Inv (X.wish E) Tb σ H s):Inv X Tb σ H s:=⟨I.ok.unwish,I.os,I.bare,I.base,I.loc,I.cell,I.free,I.freeC,I.pin,I.hok,I.len⟩
def SP.unwish {D:Pd}{f:Flow}{c:ki}(h:SP (X.wish E) Tb D f c):SP X Tb D f c:=by
 cases f with
 | next=>obtain⟨a,b,I,q⟩:=h;exact⟨a,b,I.unwish,q⟩
 | brk=>obtain⟨a,b,I,q⟩:=h;exact⟨a,b,I.unwish,q⟩
 | cont=>obtain⟨a,b,I,q⟩:=h;exact⟨a,b,I.unwish,q⟩
 | ret u=>obtain⟨v,a,b,I,r,q⟩:=h;exact⟨v,a,b,I.unwish,r,q⟩
def PE.nox {e:kd}{t:TE}(h:PE X.nox e t):PE X e t:=λTb s σ H Q I hw=>
 ABM (h Tb s σ H Q (I.wish _) hw) (λ_ _ ⟨v,a,b,r,q⟩=>⟨v,a,b.unwish,r,q⟩) λ_ _ z=>False.elim z
def PT.nox {e:kd}{t:TT}(h:PT X.nox e t):PT X e t:=λTb s σ H Q I hw=>
 ABM (h Tb s σ H Q (I.wish _) hw) (λ_ _ ⟨a,b,q⟩=>⟨a,b.unwish,q⟩) λ_ _ z=>False.elim z
def ZA.nox {st:km Stmt}{t:TS}(h:ZA X.nox st t):ZA X st t:=λTb s σ H D I hw=>
 ABM (h Tb s σ H D (I.wish _) hw) (λ_ _ q=>q.unwish) λ_ _ z=>False.elim z
end
section
variable {X:Cx}{st:Stmt}{rest:km Stmt}{t u:TS}{e:kd}{te:TE}{pos:Pos}
def mU:TS:=λD a H=>D.nx a H
def cY (t u:TS):TS:=λD a H=>t {D with nx:=u D} a H
def Op:ZA X [] mU:=λ_ _ a H _ I h=>ADr ⟨a,H,I,h⟩
def Cc (h1:PS X st t)(h2:ZA X rest u):ZA X (st::rest) (cY t u):=by
 intro Tb s b H D I h;refine wpAny_execs_cons (Bk (h1 Tb s b H {D with nx:=u D} I h) λf c q=> ?_);cases f with
 | next=> obtain⟨a,d,g,q⟩:=q;exact h2 Tb c a d D g q
 | ret v=>exact q
 | brk=>exact q
 | cont=>exact q
def F1 (h1:PS X st t):ZA X [st] t:=by
 intro Tb s a H D I h;refine wpAny_execs_cons (Bk (h1 Tb s a H D I h) λf b q=> ?_);cases f with
 | next=>exact ADr q
 | ret v=>exact q
 | brk=>exact q
 | cont=>exact q
def Inv.quiet {Tb:km (kf×Obj)}{a:St}{H:Hp}{s:ki}(I:Inv X Tb a H s):interactive X.env=false:=by simp[interactive,I.ok.kind]
def mS (te:TE):TS:=λD a H=>te a H λ_ b=>D.nx a b
def kR (he:PE X e te)(hs:swapsWith e none pos.line X.env=pure false:=by rfl):PS X (.Expr e pos) (mS te):=by intro Tb s a H D I h;exact wpAny_Expr_any (Bk (he Tb s a H _ I h) λv f ⟨x,b,c,r1,d⟩=>⟨a,b,c,d⟩) I.quiet hs
def iM (te:TE):TS:=λD a H=>te a H D.rt
def QY (he:PE X e te):PS X (.Return (some e) pos) (iM te):=by intro Tb s a H D I h;exact wpAny_Return_some (Bk (he Tb s a H _ I h) λv f ⟨x,b,c,r1,d⟩=>⟨x,a,b,c,r1,d⟩)
def uC (c:TT)(t u:TS):TS:=λD a H=>c a H λb d=>if b=true then t D a d else u D a d
def Zv {c:kd}{a b:km Stmt}{g:TT}(hc:PT X c g)(ha:ZA X a t)(hb:ZA X b u):PS X (.If c a b pos) (uC g t u):=by
 intro Tb s f H D I h;refine wpAny_If (Bk (hc Tb s f H _ I h) λd i ⟨j,k,l⟩=> ?_);cases d with
 | true=>exact ha Tb i f j D k l
 | false=>exact hb Tb i f j D k l
end
abbrev TG:=V->St->Hp->(St->Hp->Prop)->Prop
abbrev XZ:=km V->St->Hp->(St->Hp->Prop)->Prop
def PG (X:Cx)(target:kd)(t:TG):Prop:=
 ∀(Tb:km (kf×Obj)) (s:ki) (b:St) (H:Hp) (v:V) (u:kj) (Q:St->Hp->Prop),Inv X Tb b H s->RelV v u->t v b H Q->
  wpAny (model X.prog X.w) X.A (assign target X.env u) (λ_ d=>∃a c,Inv X Tb a c d/\Q a c) X.xe s
def qD (X:Cx)(ts:km kd)(t:XZ):Prop:=
 ∀(Tb:km (kf×Obj)) (s:ki) (b:St) (H:Hp) (vs:km V) (c:km kj) (Q:St->Hp->Prop),Inv X Tb b H s->A6 vs c->t vs b H Q->
  wpAny (model X.prog X.w) X.A (assignInOrder ((assignEach ts X.env).map (·.2)) c) (λ_ e=>∃a d,Inv X Tb a d e/\Q a d) X.xe s
abbrev m9:=V->V->V->Hp->(Hp->Prop)->Prop
def qr (X:Cx)(t:m9):Prop:=
 ∀(Tb:km (kf×Obj)) (s:ki) (a:St) (H:Hp) (o i v:V) (b c u:kj) (Q:Hp->Prop),Inv X Tb a H s->RelV o b->RelV i c->RelV v u->t o i v H Q->
  wpAny (model X.prog X.w) X.A (setItem b c u) (λ_ e=>∃d,Inv X Tb a d e/\Q d) X.xe s
abbrev qu:=V->V->Hp->VK->Prop
def qE (X:Cx)(op:Operator)(t:qu):Prop:=
 ∀(Tb:km (kf×Obj)) (s:ki) (a:St) (H:Hp) (x y:V) (v u:kj) (Q:VK),Inv X Tb a H s->RelV x v->RelV y u->t x y H Q->
  wpAny (model X.prog X.w) X.A (inplaceOp op v u) (EP X Tb a Q) X.xe s
section
variable {X:Cx}{pos:Pos}
def Dv (i:Nat):TG:=λv a H Q=>Q (a.set i (some v)) H
def L5 {i:Nat}{x:Str}(hN:X.N.Nodup)(hi:X.N[i]? =some x)(hx:Loc X.env.scope x)(a:X.fn x=true\/X.env.scope.names.lookup x=some .local:=by first | exact .inl rfl|exact .inr rfl|assumption):PG X (.Name x pos) (Dv i):=by intro Tb s c H v u Q I r h;exact wpAny_assign_Name (Ir I hN hi hx r (λd b=>⟨_,H,b,h⟩) a)
def V3:XZ:=λvs a H Q=>vs= [] /\Q a H
def Fy (t:TG)(u:XZ):XZ:=λvs b H Q=>∃v r,vs=v::r/\t v b H λa c=>u r a c Q
def Ua:qD X [] V3:=by intro Tb s a H vs b Q I r h;obtain⟨e,h⟩:=h;subst e;cases r;exact assignInOrder_nil ⟨a,H,I,h⟩
def IW {e:kd}{es:km kd}{t:TG}{u:XZ}(h1:PG X e t)(h2:qD X es u)(hs:(assignEach (e::es) X.env).map (·.2)=assign e X.env::(assignEach es X.env).map (·.2):=by rfl):qD X (e::es) (Fy t u):=by
 intro Tb s b H vs k Q I r h;obtain⟨v,l,c,h⟩:=h;subst c;cases r with
 | cons r d=> rw[hs];refine assignInOrder_cons (Bk (h1 Tb s b H _ _ _ I r h) λ_ f ⟨a,g,i,j⟩=> ?_);exact h2 Tb f a g _ _ Q i d j
def vi (b c:TE)(t:m9):TG:=λv a H Q=>b a H λo d=>c a d λi e=>t o i v e λf=>Q a f
def Ya {o i:kd}{d e:TE}{t:m9}(f:PE X o d)(hi:PE X i e)(hs:qr X t)(ha:∀v,assign (.Subscript o i pos) X.env v=(do
   let a <-holding [v] (eval o X.env);let b <-holding [v,a] (eval i X.env)
   standAt pos
   holding [v,a,b] (setItem a b v)
   release [v,a,b] []):=by intro _;rfl):PG X (.Subscript o i pos) (vi d e t):=by intro Tb s c H v u Q I r h;rw[ha];refine AAQ (ABL (Bk (f Tb s c H _ I h) λa g ⟨x,j,k,r1,l⟩=> ?_));refine AAQ (ABL (Bk (hi Tb g c j _ k l) λb m ⟨y,n,p,r2,w⟩=> ?_));refine AAQ (ABa (AAQ (ABL (Bk (hs Tb m c n x y v a b u _ p r1 r2 r w) λ_ C ⟨z,A,B⟩=> ?_))));exact wpAny_release ⟨c,z,A,B⟩
def W6 (te:TE)(g:TG):TS:=λD a H=>te a H λx b=>g x a b D.nx
def Ub {a e:kd}{te:TE}{g:TG}(he:PE X e te)(c:PG X a g)(hs:swapsWithSole [a] e pos.line X.env=pure false:=by rfl)(hw:swappedStores [a] e X.env=pure none:=by rfl)(h1:(assignEach [a] X.env).map (·.2)= [assign a X.env] :=by rfl):PS X (.Assign [a] e pos) (W6 te g):=by intro Tb s b H D I h;refine wpAny_Assign_stores (Bk (he Tb s b H _ I h) λv d ⟨x,f,i,r1,j⟩=> ?_) hs hw;rw[h1];exact Bk (c Tb d b f x v _ i r1 j) λ_ k q=>q
def GB {i:Nat}{x:Str}{e:kd}{te:TE}{pos':Pos}(hN:X.N.Nodup)(hi:X.N[i]? =some x)(hx:Loc X.env.scope x)(he:PE X e te)(hs:swapsWith e (some (.Name x pos')) pos.line X.env=pure false:=by rfl)(a:X.fn x=true\/X.env.scope.names.lookup x=some .local:=by first | exact .inl rfl|exact .inr rfl|assumption):PS X (.Assign [.Name x pos'] e pos) (W6 te (Dv i)):=by intro Tb s b H D I h;refine wpAny_Assign_Name (Bk (he Tb s b H _ I h) λv j ⟨y,c,d,r1,f⟩=> ?_) hs;exact Ir d hN hi hx r1 (λk g=>⟨_,c,g,f⟩) a
def wt (i j:Nat)(b:TA):TS:=λD a H=>b a H λvs c=>∃v w,vs= [v,w] /\D.nx ((a.set i (some v)).set j (some w)) c
def pC {i j:Nat}{x y:Str}{a b:kd}{r:TA}{g k l:Pos}{kt k2 pt2}(hc:X.calm=true)(hN:X.N.Nodup)(hi:X.N[i]? =some x)(hj:X.N[j]? =some y)(B:i≠j)(hx:X.env.scope.names.lookup x=some .local)(hy:X.env.scope.names.lookup y=some .local)(ha:PA X [a,b] r)(hw:swappedStores [.Tuple [.Name x g, .Name y k] kt l] (.Tuple [a,b] k2 pt2) X.env=pure (some [x,y]))(hs:swapsWithSole [.Tuple [.Name x g, .Name y k] kt l] (.Tuple [a,b] k2 pt2) pos.line X.env=pure false:=by rfl):PS X (.Assign [.Tuple [.Name x g, .Name y k] kt l] (.Tuple [a,b] k2 pt2) pos) (wt i j r):=by
 intro Tb s t H D I h;rw[exec_Assign_arm];refine AAQ (ABa ?_);rw[hs];refine AAQ (AAT ?_);rw[AAS (by decide)];refine AAQ (Tuple_ (Bk (ha _ Tb s t H _ I h) λC c ⟨vs,u,E,r1,m⟩=> ?_));obtain⟨v,w,F,m⟩:=m;subst F;obtain⟨d,f,rfl,rv,n⟩:∃d f,C= [d,f] /\RelV v d/\RelV w f:=by
  cases r1 with
  | cons p q=>
    cases q with
    | cons G J=> cases J;exact⟨_,_,rfl,p,G⟩
 refine ABN ?_ (by show 2<=sizeLine;decide);have K:Inv X Tb t u {c with heap:=c.heap.push {cls:= .type "tuple",data:= .seq [d,f].toArray}}:=E.kept (t':=c.toks) λb o e=>AAX _ e;rw[hw];refine AAQ (AAT ?_);show wpAny (model X.prog X.w) X.A (do rule "assign.swapped-stores";let items <-unpackItems (.ref c.heap.objs.size) 2 none;assignInOrder [λv=>bindName X.env y v,λv=>bindName X.env x v] items.reverse;pure Flow.next) _ _ _;refine AAQ (ABS (AAQ (unpackItems_tuple (items:= #[d,f]) (I.ok.hd hc) (IsTup.new c.heap _) λh' L=> ?_)));have M:=K.kept (h':=h') (t':=c.toks) λb o e=>L b o (AAa (AAW e)) e;show wpAny _ _ (assignInOrder [λv=>bindName X.env y v,λv=>bindName X.env x v] [f,d] >>= λ_=>pure Flow.next) _ _ _;refine AAQ (assignInOrder_cons (wpAny_bindName (Ir M hN hj (.inl hy) n (λP O=> ?_) (.inr hy))));refine assignInOrder_cons (wpAny_bindName (Ir O hN hi (.inl hx) rv (λQ z=>assignInOrder_nil (AAT ?_)) (.inr hx)));rw[List.set_comm _ _ (ABQ B)] at z;exact⟨_,u,z,m⟩
def wn (i:Nat)(te:TE)(b:qu):TS:=λD a H=>∃x,a[i]? =some (some x)/\te a H λy c=>b x y c λz d=>D.nx (a.set i (some z)) d
def pB {i:Nat}{x:Str}{e:kd}{te:TE}{op:Operator}{f:qu}{pos':Pos}(hN:X.N.Nodup)(hi:X.N[i]? =some x)(hx:Loc X.env.scope x)(he:PE X e te)(j:qE X op f)(n:X.fn x=true\/X.env.scope.names.lookup x=some .local:=by first | exact .inl rfl|exact .inr rfl|assumption):PS X (.AugAssign (.Name x pos') op e pos) (wn i te f):=by
 intro Tb s g H D I h;obtain⟨v,o,h⟩:=h;obtain⟨m,hn,hl⟩:=I.loc;have d:nA X.env.scope x:=by rcases hx with k|k;exact .inl k;exact .inr (.inl k)
 obtain⟨u,r,l⟩:=hl i x v hi o d;refine wpAny_AugAssign_Name ?_;have go:wpAny (model X.prog X.w) X.A (eval e X.env) (λw a=>wpAny (model X.prog X.w) X.A (inplaceOp op u w) (λr b=>wpAny (model X.prog X.w) X.A (storeName X.env x r) (λ_=>SP X Tb D .next) X.xe b) X.xe a) X.xe s:=by refine Bk (he Tb s g H _ I h) λw p ⟨y,t,B,r1,C⟩=> ?_;refine Bk (j Tb p g t v y u w _ B r r1 C) λz M ⟨O,E,F,r2,G⟩=> ?_;exact Ir F hN hi hx r2 (λP J=>⟨_,E,J,G⟩) n
 rcases l with⟨hk,K⟩|⟨hk,c,hc,L⟩
 .exact wpAny_loadName_local I.ok.kind hk hn K go
 .rcases hk with hk|hk
  .exact wpAny_loadName_cell I.ok.kind hk hc L go
  .rcases hx with k|k
   .have:X.env.scope.names.lookup x=some .free:=hk;rw[k] at this;cases this
   .have:X.env.scope.names.lookup x=some .free:=hk;rw[k] at this;cases this
def wU (f:Int->Int->Int):qu:=λx y H Q=>∃i j,x= .int i/\y= .int j/\Q (.int (f i j)) H
def n6:qE X .Add (wU λi j=>i+j):=by intro Tb s c H x y v u Q I r1 r2 h;obtain⟨i,j,a,b,q⟩:=h;subst a;subst b;obtain⟨t,rfl⟩:=r1;obtain⟨t',rfl⟩:=r2;exact iadd_int ⟨.int _,H,I.tok _,⟨_,rfl⟩,q⟩
def pj (c:TT)(h:TS):TS:=λD a H=>∃W:Nat->St->Hp->Prop,(∃m,W m a H)/\∀m a H,W m a H->
 c a H λb e=>if b=true then ∃N:St->Hp->Prop,(∀d f,N d f->∃g,g<m/\W g d f)/\h {D with nx:=N,ct:=N,bk:=D.nx} a e else D.nx a e
def gW {c:kd}{body:km Stmt}{r:TT}{t:TS}(hp:PassesOwn (model X.prog X.w) X.A X.env X.xe)(hc:PT X c r)(hb:ZA X body t):PS X (.While c body [] pos) (pj r t):=by
 intro Tb s B H D I h;obtain⟨W,⟨m0,C⟩,turn⟩:=h;refine wpAny_While (codeAny_whileLoop (λn E=>∃e u,Inv X Tb e u E/\W n e u) ?_ m0 ⟨B,H,I,C⟩);rintro n F ⟨d,x,G,J⟩;refine ACd hp (Bk (hc Tb F d x _ G (turn n d x J)) λb K ⟨y,z,i⟩=> ?_);cases b with
 | true=>
   obtain⟨N,hN,i⟩:=i;rw[AAU rfl];refine ACd hp (Bk (hb Tb K d y _ z i) λf L j=> ?_);cases f with
   | next=> obtain⟨a,g,k,l⟩:=j;obtain⟨m,o,p⟩:=hN a g l;exact⟨m,o,a,g,k,p⟩
   | cont=> obtain⟨a,g,k,l⟩:=j;obtain⟨m,o,p⟩:=hN a g l;exact⟨m,o,a,g,k,p⟩
   | brk=>exact j
   | ret v=>exact j
 | false=> rw[AAS AAg];exact ADr ⟨d,y,z,i⟩
end
structure It where
 go:Nat->Hp->Prop
 yld:Nat->Hp->V->Hp->Prop
 stop:Nat->Hp->Prop
def Ej (X:Cx)(Tb:km (kf×Obj))(H:Hp)(b:kf):Prop:=
 H b=none/\b≠X.env.locals/\b ∉ X.fs/\(b∈X.ex\/X.s₀.heap.objs.size<=b)/\(∀x c,X.env.cells.lookup x=some c->c≠b)/\∀p∈X.pn++Tb,p.1≠b
def Inv.fpOk {X:Cx}{Tb:km (kf×Obj)}{d:St}{H a:Hp}{s:ki}{b:kf}(I:Inv X Tb d H s)(hb:s.heap.objs.size<=b)(hn:a b=none):Ej X Tb a b:=by
 refine⟨hn,ABE (AAt I.lt hb),I.nofs hb, .inr (AAu I.sz hb),λx c e z=> ?_,λp hp z=> ?_⟩
 .obtain ⟨v,q⟩:=I.cell x c e;exact absurd (AAt q.lt (by rw[z];exact hb)) (ABi _)
 .exact absurd (AAt (AAW (I.pin p hp).1) (by rw[z];exact hb)) (ABi _)
structure LX (P:Program) (w:World) (K:AAR) (tg:Expr) (J:It) (fp:List Addr) (it:Addr) (tn:Nat->Heap->Prop):Prop where
 mem:it∈fp
 obj:∀i h,tn i h->∀b∈fp,∃o,h.get? b=some o/\∀v,o.data≠ .cell v
 keep:∀i h h',tn i h->(∀b∈fp,∀o,h.get? b=some o->h'.get? b=some o)->tn i h'
 item:∀(X:Cx),X.prog=P->X.w=w->X.K=K->X.calm=true->∀(i:Nat) (Tb:List (Addr×Obj)) (s:Shared) (σ:St) (H:Hp) (E:Value->Shared->Prop),Inv X Tb σ H s->(∀b∈fp,Ej X Tb H b)->tn i s.heap->J.go i H->
  wpAny (model P w) X.A (pyNext (.ref it)) (λr s1=>∃u,r=some u/\
   wpAny (model P w) X.A (letOwnedTupleGo tg (.ref it) u) (λ_ s2=>∃x H',Inv X Tb σ H' s2/\RelV x u/\J.yld i H x H'/\tn (i+1) s2.heap/\∀b∈fp,H' b=none) E s1) E s
 done:∀(X:Cx),X.prog=P->X.w=w->X.K=K->X.calm=true->∀(i:Nat) (Tb:List (Addr×Obj)) (s:Shared) (σ:St) (H:Hp) (E:Value->Shared->Prop),Inv X Tb σ H s->(∀b∈fp,Ej X Tb H b)->tn i s.heap->J.stop i H->
  wpAny (model P w) X.A (pyNext (.ref it)) (λr s1=>r=none/\Inv X Tb σ H s1) E s
 self:∀(A:Around) (i:Nat) (s:Shared) (Q:Value->Shared->Prop) (E:Value->Shared->Prop),tn i s.heap->Q (.ref it) s->wpAny (model P w) A (pyIter (.ref it)) Q E s
abbrev TI:=St->Hp->(It->Hp->Prop)->Prop
def yL (X:Cx)(Tb:km (kf×Obj))(f:St)(g:kd)(R:It->Hp->Prop)(a:kj)(d:ki):Prop:=
 ∃(it:kf) (e:km kf) (tn:Nat->da->Prop) (J:It) (c:Hp),a= .ref it/\Inv X Tb f c d/\LX X.prog X.w X.K g J e it tn/\tn 0 d.heap/\(∀b∈e,Ej X Tb c b)/\R J c
def PI (X:Cx)(b iter:kd)(c:TI):Prop:=
 ∀(Tb:km (kf×Obj)) (s:ki) (a:St) (H:Hp) (R:It->Hp->Prop),Inv X Tb a H s->c a H R->
  wpAny (model X.prog X.w) X.A (eval iter X.env) (λv d=>wpAny (model X.prog X.w) X.A (pyIter v) (yL X Tb a b R) X.xe d) X.xe s
def eU {M:Model}{A:Wf}{E:kj->ki->Prop}{s:ki}{a:kd}{it:kf}{u:kj}{o:Obj}{n:String}{vs:Array kj}{Q:Unit->ki->Prop}(b:s.heap.get? it=some o)(hc:o.cls= .type n)(hd:o.data= .fields vs)(hn: ["enumerate","zip","dict_itemiterator","dict_reverseitemiterator","odict_iterator","itertools.zip_longest","itertools.pairwise"].contains n=false)(hQ:Q () s):wpAny M A (letOwnedTupleGo a (.ref it) u) Q E s:=by
 unfold letOwnedTupleGo;cases a <;> first
  | exact AAT hQ
  | (cases u <;> first
      | exact AAT hQ
      | (refine AAQ (wpAny_load b ?_)
         rw[hc,hd];show wpAny M A (if (["enumerate","zip","dict_itemiterator","dict_reverseitemiterator","odict_iterator","itertools.zip_longest","itertools.pairwise"].contains n&&vs[0]?==some (rawInt _))=true then _ else _) Q E s;rw[AAS (by intro h;rw[hn,AEW] at h;cases h)];exact AAT hQ))
def vP (K:AAR)(a:kf):It:=
 ⟨λi H=>∃xs x,Fs K H a xs/\xs[i]? =some x,λi H x b=>b=H/\∀xs,Fs K H a xs->xs[i]? =some x,λi H=>∃xs,Fs K H a xs/\xs.length<=i⟩
def vQ (K:AAR)(a:kf):It:=
 ⟨λi H=>∃xs x,LW K H a xs/\xs[i]? =some x,λi H x b=>b=H/\∀xs,LW K H a xs->xs[i]? =some x,λi H=>∃xs,LW K H a xs/\xs.length<=i⟩
def qk (lo:Int)(n:Nat):It:=⟨λi _=>i<n,λi H x a=>a=H/\x= .int (lo+i),λi _=>n<=i⟩
def ci {P:gn}{w:fe}{K:AAR}{B:kd}(a it:kf):LX P w K B (vP K a) [it] it (λi h=>h.IsListIter it a i) where
 mem:=by simp
 obj:=λi h st b hb=>by
  have e:b=it:=by simpa using hb
  subst e;obtain⟨o,e,c,d⟩:=st;exact⟨o,e,λv z=>by rw[d] at z;cases z⟩
 keep:=λi h h' st k=>st.at λo e=>k it (by simp) o e
 item:=by intro X j hw l hc i Tb s A H E I g st m;subst j hw l;obtain⟨xs,x,hq,hx⟩:=m;obtain⟨n,rv,p,hz⟩:=I.list hq;obtain⟨u,hu,C⟩:=rv.get hx;obtain⟨f0,f1,f2,r,t,y⟩:=g it (by simp);refine wpAny_pyNext_list_item st p.isList (x:=u) (by simpa using hu) λh' f D=> ?_;have F:Inv X Tb A H {s with heap:=h'}:=I.turned (t':=s.toks) (λb o hb e=>(D.2 b hb).trans e) f0 f1 r t y;obtain⟨o,e,c,d⟩:=id f;exact⟨u,rfl,eU (s:={s with heap:=h'}) e c d (by decide) ⟨x,H,F,C,⟨rfl,λys hy=>by rw[I.list_inj hy hq];exact hx⟩,f,λb hb=>(g b hb).1⟩⟩
 done:=by intro X j hw l hc i Tb s A H E I g st m;subst j hw l;obtain⟨xs,hq,hx⟩:=m;obtain⟨n,rv,p,hz⟩:=I.list hq;obtain⟨f0,f1,f2,r,t,y⟩:=g it (by simp);have hl:=rv.length;exact wpAny_pyNext_list_end (I.ok.hd hc) st p.isList (by simp;omega) λh' G=>⟨rfl,I.turned (t':=s.toks) (λb o hb e=>G b o hb e) f0 f1 r t y⟩
 self:=λ_ _ _ _ _ st h=>wpAny_pyIter_listiter st h
def Y0 {P:gn}{w:fe}{K:AAR}{B:kd}(a it:kf):LX P w K B (vQ K a) [it] it (λi h=>h.IsTupleIter it a i) where
 mem:=by simp
 obj:=λi h st b hb=>by
  have e:b=it:=by simpa using hb
  subst e;obtain⟨o,e,c,d⟩:=st;exact⟨o,e,λv z=>by rw[d] at z;cases z⟩
 keep:=λi h h' st k=>st.at λo e=>k it (by simp) o e
 item:=by intro X l hw m hc i Tb s A H E I j st n;subst l hw m;obtain⟨xs,x,hq,hx⟩:=n;obtain⟨f,rv,p,hz⟩:=I.tuple hq;obtain⟨u,hu,C⟩:=rv.get hx;obtain⟨f0,f1,f2,r,t,y⟩:=j it (by simp);refine wpAny_pyNext_tuple_item st (show s.heap.IsTuple a f.toArray from p) (x:=u) (by simpa using hu) λh' g D=> ?_;have F:Inv X Tb A H {s with heap:=h'}:=I.turned (t':=s.toks) (λb o hb e=>(D.2 b hb).trans e) f0 f1 r t y;obtain⟨o,e,c,d⟩:=id g;exact⟨u,rfl,eU (s:={s with heap:=h'}) e c d (by decide) ⟨x,H,F,C,⟨rfl,λys hy=>by rw[I.tuple_inj hy hq];exact hx⟩,g,λb hb=>(j b hb).1⟩⟩
 done:=by intro X l hw m hc i Tb s A H E I j st n;subst l hw m;obtain⟨xs,hq,hx⟩:=n;obtain⟨f,rv,p,hz⟩:=I.tuple hq;obtain⟨f0,f1,f2,r,t,y⟩:=j it (by simp);have hl:=rv.length;exact wpAny_pyNext_tuple_end (I.ok.hd hc) st (show s.heap.IsTuple a f.toArray from p) (by simp;omega) λh' G=>⟨rfl,I.turned (t':=s.toks) (λb o hb e=>G b o hb e) f0 f1 r t y⟩
 self:=λ_ _ _ _ _ st h=>wpAny_pyIter_tupleiter st h
def Yz {P:gn}{w:fe}{K:AAR}{u:kd}(it:kf)(lo:Int)(n:Nat):LX P w K u (qk lo n) [it] it (λi h=>IsRangeIter h it (lo+(i:Nat)*1) ((n:Int)-(i:Nat)) 1) where
 mem:=by simp
 obj:=λi h st b hb=>by
  have e:b=it:=by simpa using hb
  subst e;exact⟨_,st,λv z=>by
   have x:Data.fields _=Data.cell v:=z;cases x⟩
 keep:=λi h h' st k=>k it (by simp) _ st
 item:=by intro X d hw f hc i Tb s p H E I c st g;subst d hw f;obtain⟨f0,f1,f2,j,l,m⟩:=c it (by simp);have W:=Walks.range (prog:=X.prog) (w:=X.w) (I.ok.hd hc) it lo 1 n;refine W.item i s _ _ g st λv h' r hv a y=> ?_;obtain⟨t,rfl⟩:=hv;have A:Inv X Tb p H {s with heap:=h',toks:=r}:=I.turned (λb o hb e=>y b o (by simpa using hb) e) f0 f1 j l m;refine⟨_,rfl,eU (s:={s with heap:=h',toks:=r}) (n:="range_iterator") a rfl rfl (by decide) ⟨.int (lo+i),H,A,⟨t, ?_⟩,⟨rfl,rfl⟩,a,λb hb=>(c b hb).1⟩⟩;rw[ADs]
 done:=by intro X d hw f hc i Tb s p H E I c st g;subst d hw f;obtain⟨f0,f1,f2,j,l,m⟩:=c it (by simp);exact wpAny_pyNext_range_end (I.ok.hd hc) st (by have:n<=i:=g;omega) λh' B=>⟨rfl,I.turned (t':=s.toks) (λb o hb e=>B b o hb e) f0 f1 j l m⟩
 self:=λ_ _ _ _ _ st h=>wpAny_pyIter_rangeiter st h
section
variable {X:Cx}{tg:kd}
def Wh {Tb:km (kf×Obj)}{a:St}{H:Hp}{s:ki}{R:It->Hp->Prop}{E:kj->ki->Prop}{lo hi:Int}{t u v:Tok}{c:Nat}(I:Inv X Tb a H s)(h1: -(2^62)<=lo)(h2:lo<2^62)(f: -(2^62)<=hi)(g:hi<2^62)(q:R (qk lo (hi-lo).toNat) H):wpAny (model X.prog X.w) X.A (pyIter (.ref s.heap.objs.size)) (yL X Tb a tg R) E {s with heap:=s.heap.push {cls:= .type "range",data:= .fields #[.int lo t, .int hi u, .int 1 v] },toks:=c}:=by
 refine wpAny_pyIter_range (IsRange.new ..) (small_one h1 h2 f g) ?_;have d:Inv X Tb a H {s with heap:=s.heap.push {cls:= .type "range",data:= .fields #[.int lo t, .int hi u, .int 1 v] },toks:=c}:=I.kept λb o e=>AAX _ e;refine⟨(s.heap.push {cls:= .type "range",data:= .fields #[.int lo t, .int hi u, .int 1 v] }).objs.size, [(s.heap.push {cls:= .type "range",data:= .fields #[.int lo t, .int hi u, .int 1 v] }).objs.size],_,_,H,rfl,
  d.kept (t':=c) λb o e=>AAX _ e,Yz _ lo (hi-lo).toNat, ?_,λb hb=> ?_,q⟩
 .have h:lo+((0:Nat):Int)*1=lo:=by simp
  have i:(((hi-lo).toNat:Nat):Int)-((0:Nat):Int)=Builtin.Range.rangeSize lo hi 1:=by rw[rangeSize_one];split <;> omega
  show IsRangeIter _ _ (lo+((0:Nat):Int)*1) ((((hi-lo).toNat:Nat):Int)-((0:Nat):Int)) 1;rw[h,i];exact AAd _ rfl
 .have e:b=(s.heap.push {cls:= .type "range",data:= .fields #[.int lo t, .int hi u, .int 1 v] }).objs.size:=by simpa using hb
  subst e;exact d.fpOk (AAY _) (d.hok.fresh (AAY _))
def r9 (a:TA):TI:=λb H R=>a b H λvs c=>∃j:Int,vs= [.int j] /\ -(2^62)<=j/\j<2^62/\R (qk 0 j.toNat) c
def sA (a:TA):TI:=λb H R=>a b H λvs c=>∃i j:Int,vs= [.int i, .int j] /\(-(2^62)<=i/\i<2^62/\ -(2^62)<=j/\j<2^62)/\R (qk i (j-i).toNat) c
def cG {a:kd}{d:TA}{p b:Pos}(f:Gl X "range")(g:X.mg "range" =none)(ha:PA X [a] d)(hs:starEach [a] X.env= [(false,eval a X.env)] :=by rfl):PI X tg (.Call (.Name "range" p) [a] [] b) (r9 d):=by
 intro Tb s i H R I h;refine Call_ (F9 I f g boot_range (ACe (Bk (ha b Tb s i H _ I h) λn o ⟨vs,u,k,r1,c⟩=> ?_) hs rfl));obtain⟨j,e,c,l,q⟩:=c;subst e;cases r1 with
 | cons r m=> cases m;obtain⟨t,rfl⟩:=r;exact call_range_1 (Wh k (by omega) (by omega) c l (by simpa using q))
def cH {a b:kd}{g:TA}{p c:Pos}(l:Gl X "range")(m:X.mg "range" =none)(ha:PA X [a,b] g)(hs:starEach [a,b] X.env= [(false,eval a X.env),(false,eval b X.env)] :=by rfl)(k:starEach [b] X.env= [(false,eval b X.env)] :=by rfl):PI X tg (.Call (.Name "range" p) [a,b] [] c) (sA g):=by
 intro Tb s n H R I h;refine Call_ (F9 I l m boot_range (ACe (Bk (ha c Tb s n H _ I h) λy z ⟨vs,A,o,r1,d⟩=> ?_) (by rw[hs,k]) (by rw[k];rfl)));obtain⟨i,j,e,⟨d,u,v,w⟩,q⟩:=d;subst e;cases r1 with
 | cons r f=>
   cases f with
   | cons x f=> cases f;obtain⟨t,rfl⟩:=r;obtain⟨t',rfl⟩:=x;exact call_range_2 (Wh o d u v w q)
def uB (f:TI)(g:TG)(h:TS):TS:=λD a H=>f a H λJ j=>∃W:Nat->Nat->St->Hp->Prop,(∃m,W 0 m a j)/\∀i m a H,W i m a H->
 (J.stop i H/\D.nx a H)\/(J.go i H/\∃N:St->Hp->Prop,(∀b c,N b c->∃e,e<m/\W (i+1) e b c)/\∀x c,J.yld i H x c->g x a c λd k=>h {D with nx:=N,ct:=N,bk:=D.nx} d k)
def GA (a:km kf)(h:da):km (kf×Obj):=a.filterMap λb=>(h.get? b).map λo=>(b,o)
def Cd {a:km kf}{h:da}{b:kf}{o:Obj}(hb:b∈a)(e:h.get? b=some o):(b,o)∈GA a h:=ADC.mpr ⟨b,hb,by rw[e];rfl⟩
def bj {a:km kf}{h:da}{p:kf×Obj}(hp:p∈GA a h):p.1∈a/\h.get? p.1=some p.2:=by
 obtain⟨b,hb,e⟩:=ADC.mp hp;cases q:h.get? b with
 | none=>rw[q] at e;cases e
 | some o=> rw[q] at e;have c:(b,o)=p:=AAn e;subst c;exact⟨hb,q⟩
def Inv.pinned {Tb:km (kf×Obj)}{c:St}{H:Hp}{s:ki}{a:km kf}(I:Inv X Tb c H s)(g:∀b∈a,Ej X Tb H b)(h:∀b∈a,∃o,s.heap.get? b=some o/\∀v,o.data≠ .cell v):Inv X (Tb++GA a s.heap) c H s:=
 I.pins_of λp hp=>(AAj.mp hp).elim (λz=>I.pin p (AAo _ z)) λz=>by obtain⟨hb,e⟩:=bj z;obtain⟨f0,f1,f2,_⟩:=g p.1 hb;obtain⟨o,f,d⟩:=h p.1 hb;rw[e] at f;cases f;exact⟨e,f0,f1,f2,d⟩
def Inv.unpinned {Tb b:km (kf×Obj)}{a:St}{H:Hp}{s:ki}(I:Inv X (Tb++b) a H s):Inv X Tb a H s:=I.pins_of λp hp=>I.pin p (AAo _ (ADB _ hp))
def gU {iter:kd}{body:km Stmt}{S:TI}{g:TG}{U:TS}{K:Pos}(hp:PassesOwn (model X.prog X.w) X.A X.env X.xe)(hc:X.calm=true)(hi:PI X tg iter S)(hg:PG X tg g)(hb:ZA X body U)(hs:∀x,foldedSetIterable iter X.env x=pure x:=by intro _;rfl):PS X (.For tg iter body [] K) (uB S g U):=by
 intro Tb s Y H D I h;refine wpAny_For (Bk (hi Tb s Y H _ I h) λv s1 h1=>Bk h1 λitv s2 h2=> ?_) hs;obtain⟨it,B,tn,J,H2,e,I2,T,L,f2,W,⟨m0,w0⟩,turn⟩:=h2;subst e;have c:∀{t:Hp},(∀b∈B,t b=none)->∀b∈B,Ej X Tb t b:=λhn b hb=>⟨hn b hb,(f2 b hb).2⟩;refine codeAny_forLoop_any (λn Z=>∃i j t,Inv X Tb j t Z/\tn i Z.heap/\(∀b∈B,t b=none)/\W i n j t) ?_ m0 ⟨0,Y,H2,I2,L,λb hb=>(f2 b hb).1,w0⟩;rintro n s3 ⟨i,k,G,I3,C,E,w3⟩;rcases turn i n k G w3 with⟨stop,qn⟩|⟨go,N,hN,step⟩
 .refine ACd hp (Bk (T.done X rfl rfl rfl hc i Tb s3 k G X.xe I3 (c E) C stop) λr s4 ⟨M,I4⟩=> ?_);subst M;exact ADr ⟨k,G,I4,qn⟩
 .refine ACd hp (Bk (T.item X rfl rfl rfl hc i Tb s3 k G X.xe I3 (c E) C go) λr s4 ⟨u,M,h4⟩=> ?_);subst M;refine ACd hp (Bk h4 λ_ s5 ⟨x,H5,I5,r5,y5,z,O⟩=> ?_);have P:=I5.pinned (c O) (T.obj _ _ z);refine ACd hp (Bk (hg _ s5 k H5 x u _ P r5 (step x H5 y5)) λ_ s6 ⟨Q,H6,I6,q6⟩=> ?_);refine ACd hp (Bk (hb _ s6 Q H6 _ I6 q6) λf R y=> ?_);have again:∀{a:St} {l:Hp},Inv X (Tb++GA B s5.heap) a l R->N a l->∃m,m<n/\∃i j t,Inv X Tb j t R/\tn i R.heap/\(∀b∈B,t b=none)/\W i m j t:=λ{a l} p F=>by obtain⟨m',hm,w7⟩:=hN a l F;refine⟨m',hm,i+1,a,l,p.unpinned,T.keep _ _ _ z λb hb o e=>(p.pin (b,o) (AAo _ (AAo _ (Cd hb e)))).1,λb hb=> ?_,w7⟩;obtain⟨o,e,d⟩:=T.obj _ _ z b hb;exact(p.pin (b,o) (AAo _ (AAo _ (Cd hb e)))).2.1
  cases f with
  | next=>obtain⟨a,l,p,F⟩:=y;exact again p F
  | cont=>obtain⟨a,l,p,F⟩:=y;exact again p F
  | brk=>obtain⟨a,l,p,y⟩:=y;exact⟨a,l,p.unpinned,y⟩
  | ret v=>obtain⟨x7,a,l,p,r7,y⟩:=y;exact⟨x7,a,l,p.unpinned,r7,y⟩
end
abbrev R2:=V->V->Hp->VK->Prop
def ET (X:Cx)(f:kj->kj->Sem kj)(r:R2):Prop:=
 ∀(Tb:km (kf×Obj)) (s:ki) (a:St) (H:Hp) (x y:V) (v u:kj) (Q:VK),Inv X Tb a H s->RelV x v->RelV y u->r x y H Q->
  wpAny (model X.prog X.w) X.A (f v u) (EP X Tb a Q) X.xe s
def vX (X:Cx)(f:kj->Sem kj)(r:V->Hp->VK->Prop):Prop:=
 ∀(Tb:km (kf×Obj)) (s:ki) (a:St) (H:Hp) (x:V) (v:kj) (Q:VK),Inv X Tb a H s->RelV x v->r x H Q->
  wpAny (model X.prog X.w) X.A (f v) (EP X Tb a Q) X.xe s
def DE (X:Cx)(f:kj)(r:km V->Hp->VK->Prop):Prop:=
 ∀(Tb:km (kf×Obj)) (s:ki) (a:St) (H:Hp) (xs:km V) (b:km kj) (Q:VK),Inv X Tb a H s->A6 xs b->r xs H Q->
  wpAny (model X.prog X.w) X.A (call f b) (EP X Tb a Q) X.xe s
def vW (X:Cx)(r:V->Hp->(kc->Hp->Prop)->Prop):Prop:=
 ∀(Tb:km (kf×Obj)) (s:ki) (a:St) (H:Hp) (x:V) (v:kj) (Q:kc->Hp->Prop),Inv X Tb a H s->RelV x v->r x H Q->
  wpAny (model X.prog X.w) X.A (truthy v) (TP X Tb a Q) X.xe s
def lM (r:R2)(b c:TE):TE:=λa H Q=>b a H λx d=>c a d λy e=>r x y e Q
def tUn (r:V->Hp->VK->Prop)(a:TE):TE:=λb H Q=>a b H λx c=>r x c Q
def rI (C:Int->Int->Prop)(g:Int->Int->V):R2:=λx y H Q=>∃i j,x= .int i/\y= .int j/\C i j/\Q (g i j) H
def QZ (g:Int->Int->V):R2:=λx y H Q=>∃i j,x= .int i/\y= .int j/\Q (g i j) H
def rU (g:Int->V):V->Hp->VK->Prop:=λx H Q=>∃i,x= .int i/\Q (g i) H
section
variable {X:Cx}{a b c:kd}{ta tb tc:TE}{pos:Pos}
def nG (ha:PE X a ta)(hb:PE X b tb){Tb:km (kf×Obj)}{s:ki}{d:St}{H:Hp}{R:V->V->Hp->Prop}(I:Inv X Tb d H s)(h:ta d H λx k=>tb d k λy e=>R x y e){Q:kj->ki->Prop}{f:kj->kj->Sem kj}(l:∀v u j x y e,Inv X Tb d e j->RelV x v->RelV y u->R x y e->wpAny (model X.prog X.w) X.A (f v u) Q X.xe j):wpAny (model X.prog X.w) X.A (eval a X.env) (λv g=>wpAny (model X.prog X.w) X.A (eval b X.env) (λu i=>wpAny (model X.prog X.w) X.A (f v u) Q X.xe i) X.xe g) X.xe s:=by refine Bk (ha Tb s d H _ I h) λv m ⟨x,k,n,r1,o⟩=> ?_;refine Bk (hb Tb m d k _ n o) λu j ⟨y,e,p,r2,r⟩=> ?_;exact l v u j x y e p r1 r2 r
def Cr {op:Operator}{r:R2}(d:ET X (binaryOp op) r)(ha:PE X a ta)(hb:PE X b tb):PE X (.BinOp a op b pos) (lM r ta tb):=by intro Tb s e H Q I h;exact wpAny_BinOp (nG ha hb I h λv u f x y g i j k q=>d Tb f e g x y v u Q i j k q)
def tF {op:UnaryOp}{r:V->Hp->VK->Prop}(e:vX X (unaryOp op) r)(ha:PE X a ta):PE X (.UnaryOp op a pos) (tUn r ta):=by intro Tb s d H Q I h;exact UnaryOp_ (Bk (ha Tb s d H _ I h) λv f ⟨x,g,i,r1,j⟩=>e Tb f d g x v Q i r1 j)
def oY {f:kj->kj->Sem kj}{C:Int->Int->Prop}{g:Int->Int->Int}(rule:∀(i j:Int) (t u:Tok) (s:ki) (Q:kj->ki->Prop) (E:kj->ki->Prop),C i j->Q (.int (g i j) s.toks) {s with toks:=s.toks+1}->wpAny (model X.prog X.w) X.A (f (.int i t) (.int j u)) Q E s):ET X f (rI C λi j=> .int (g i j)):=by intro Tb s k H x y v u Q I d e h;obtain⟨i,j,rfl,rfl,hc,q⟩:=h;obtain⟨t,rfl⟩:=d;obtain⟨t',rfl⟩:=e;exact rule i j t t' s _ _ hc ⟨.int (g i j),H,I.tok _,⟨_,rfl⟩,q⟩
def sZ {f:kj->kj->Sem kj}{g:Int->Int->Int}(rule:∀(i j:Int) (t u:Tok) (s:ki) (Q:kj->ki->Prop) (E:kj->ki->Prop),Q (.int (g i j) s.toks) {s with toks:=s.toks+1}->wpAny (model X.prog X.w) X.A (f (.int i t) (.int j u)) Q E s):ET X f (QZ λi j=> .int (g i j)):=by intro Tb s k H x y v u Q I d e h;obtain⟨i,j,rfl,rfl,q⟩:=h;obtain⟨t,rfl⟩:=d;obtain⟨t',rfl⟩:=e;exact rule i j t t' s _ _ ⟨.int (g i j),H,I.tok _,⟨_,rfl⟩,q⟩
def j7 {f:kj->kj->Sem kj}{g:Int->Int->kc}(rule:∀(i j:Int) (t u:Tok) (s:ki) (Q:kj->ki->Prop) (E:kj->ki->Prop),Q (.bool (g i j)) s->wpAny (model X.prog X.w) X.A (f (.int i t) (.int j u)) Q E s):ET X f (QZ λi j=> .bl (g i j)):=by intro Tb s k H x y v u Q I d e h;obtain⟨i,j,rfl,rfl,q⟩:=h;obtain⟨t,rfl⟩:=d;obtain⟨t',rfl⟩:=e;exact rule i j t t' s _ _ ⟨.bl (g i j),H,I,rfl,q⟩
def vI (i j:Int):Prop:=0<=j/\j<=1000000/\i.natAbs<2^64
def PX (i j:Int):Prop:=(-(2^64)<i/\i<2^64)\/(-(2^64)<j/\j<2^64)
def PX.ok {i j:Int}(h:PX i j):IntMulOk i j:=by
 rcases h with⟨h1,h2⟩|⟨h1,h2⟩
 .exact .of_left (intBits_le_64 h1 h2)
 .exact .of_right (intBits_le_64 h1 h2)
def KW:ET X (binaryOp .Add) (QZ λi j=> .int (i+j)):=sZ λ_ _ _ _ _ _ _ q=>add_int q
def YX:ET X (binaryOp .Sub) (QZ λi j=> .int (i-j)):=sZ λ_ _ _ _ _ _ _ q=>sub_int q
def HD:ET X (binaryOp .Mod) (rI (λ_ j=>0<j) λi j=> .int (i % j)):=oY λi j _ _ _ _ _ hc q=>by have h1:(0:Int)<j:=hc;exact mod_int' (by omega) (by rw[ADt i (by omega)];exact q)
def j9:ET X (binaryOp .Mod) (rI (λ_ j=>j≠0) λi j=> .int (i.fmod j)):=oY λ_ _ _ _ _ _ _ hc q=>mod_int' hc q
def oo:ET X (binaryOp .Pow) (rI vI λi j=> .int (i^j.toNat)):=oY λ_ _ _ _ _ _ _ hc q=>pow_int_small hc.1 hc.2.1 hc.2.2 q
def unI {f:kj->Sem kj}{g:Int->Int}(rule:∀(i:Int) (t:Tok) (s:ki) (Q:kj->ki->Prop) (E:kj->ki->Prop),Q (.int (g i) s.toks) {s with toks:=s.toks+1}->wpAny (model X.prog X.w) X.A (f (.int i t)) Q E s):vX X f (rU λi=> .int (g i)):=by intro Tb s e H x v Q I d h;obtain⟨i,rfl,q⟩:=h;obtain⟨t,rfl⟩:=d;exact rule i t s _ _ ⟨.int (g i),H,I.tok _,⟨_,rfl⟩,q⟩
def pz:vX X (unaryOp .USub) (rU λi=> .int (-i)):=unI λ_ _ _ _ _ q=>neg_int q
end
def kg:V->V->kc
 | .non, .non=>true | .non, .int _=>true | .int _, .non=>true | .non, .bl _=>true | .bl _, .non=>true | .non, .str _=>true | .str _, .non=>true
 | .int _, .int _=>true | .bl _, .bl _=>true | .str _, .str _=>true | .byt _, .byt _=>true
 | .int _, .str _=>true | .str _, .int _=>true | .bl _, .str _=>true | .str _, .bl _=>true
 | _,_=>false
def yz:R2:=λx y H Q=>kg x y=true/\Q (.bl (decide (x=y))) H
def y6:R2:=λx y H Q=>kg x y=true/\Q (.bl (!decide (x=y))) H
def ZO {i j:Int}:decide (V.int i=V.int j)=(i==j):=by rw[ACR];simp
def d9 {i j:kc}:decide (V.bl i=V.bl j)=(i==j):=by rw[ACR];simp
def ZP {i j:Str}:decide (V.str i=V.str j)=(i==j):=by rw[ACR];simp
def ZN {i j:Array UInt8}:decide (V.byt i=V.byt j)=(i.toList==j.toList):=by rw[ACR];cases i;cases j;simp
section
variable {X:Cx}{a b c:kd}{ta tb tc:TE}{pos:Pos}
def BL {Tb:km (kf×Obj)}{d:St}{H:Hp}{s:ki}{Q:VK}{k f:kc}(I:Inv X Tb d H s)(q:Q (.bl k) H)(e:k=f):EP X Tb d Q (.bool f) s:=by subst e;exact⟨.bl k,H,I,rfl,q⟩
def sf:ET X (compareOp .Eq) yz:=by
 intro Tb s f H x y v u Q I e d h;obtain⟨hs,q⟩:=h;cases x with
 | non=>
   cases e;cases y with
   | non=>cases d;exact PySem.EqNone.eq_none_none (BL I q (by simp))
   | bl j=>cases d;exact PySem.EqNone.eq_none_bool (BL I q (by simp))
   | int j=>obtain⟨t',rfl⟩:=d;exact PySem.EqNone.eq_none_int (BL I q (by simp))
   | str j=>obtain⟨t',rfl⟩:=d;exact PySem.EqNone.eq_none_str (BL I q (by simp))
   | _=>exact absurd (show false=true from hs) AAg
 | bl i=>
   cases e;cases y with
   | non=>cases d;exact PySem.EqNone.eq_bool_none (BL I q (by simp))
   | bl j=>cases d;exact eq_bool (BL I q d9)
   | str j=>obtain⟨t',rfl⟩:=d;exact PySem.EqMixed.eq_bool_str (BL I q (by simp))
   | _=>exact absurd (show false=true from hs) AAg
 | int i=>
   obtain⟨t,rfl⟩:=e;cases y with
   | non=>cases d;exact PySem.EqNone.eq_int_none (BL I q (by simp))
   | int j=>obtain⟨t',rfl⟩:=d;exact eq_int (BL I q ZO)
   | str j=>obtain⟨t',rfl⟩:=d;exact PySem.EqMixed.eq_int_str (BL I q (by simp))
   | _=>exact absurd (show false=true from hs) AAg
 | str i=>
   obtain⟨t,rfl⟩:=e;cases y with
   | non=>cases d;exact PySem.EqNone.eq_str_none (BL I q (by simp))
   | bl j=>cases d;exact PySem.EqMixed.eq_str_bool (BL I q (by simp))
   | int j=>obtain⟨t',rfl⟩:=d;exact PySem.EqMixed.eq_str_int (BL I q (by simp))
   | str j=>obtain⟨t',rfl⟩:=d;exact eq_str (BL I q ZP)
   | _=>exact absurd (show false=true from hs) AAg
 | byt i=>
   obtain⟨t,rfl⟩:=e;cases y with
   | byt j=>obtain⟨t',rfl⟩:=d;exact PySem.W.eq_bytes (BL I q ZN)
   | _=>exact absurd (show false=true from hs) AAg
 | _=>cases y <;> exact absurd (show false=true from hs) AAg
def sn:ET X (compareOp .NotEq) y6:=by
 intro Tb s f H x y v u Q I e d h;obtain⟨hs,q⟩:=h;cases x with
 | non=>
   cases e;cases y with
   | non=>cases d;exact PySem.EqNone.ne_none_none (BL I q (by simp))
   | bl j=>cases d;exact PySem.EqNone.ne_none_bool (BL I q (by simp))
   | int j=>obtain⟨t',rfl⟩:=d;exact PySem.EqNone.ne_none_int (BL I q (by simp))
   | str j=>obtain⟨t',rfl⟩:=d;exact PySem.EqNone.ne_none_str (BL I q (by simp))
   | _=>exact absurd (show false=true from hs) AAg
 | bl i=>
   cases e;cases y with
   | non=>cases d;exact PySem.EqNone.ne_bool_none (BL I q (by simp))
   | bl j=>cases d;exact ne_bool (BL I q (congrArg not d9))
   | str j=>obtain⟨t',rfl⟩:=d;exact PySem.EqMixed.ne_bool_str (BL I q (by simp))
   | _=>exact absurd (show false=true from hs) AAg
 | int i=>
   obtain⟨t,rfl⟩:=e;cases y with
   | non=>cases d;exact PySem.EqNone.ne_int_none (BL I q (by simp))
   | int j=>obtain⟨t',rfl⟩:=d;exact ne_int (BL I q (congrArg not ZO))
   | str j=>obtain⟨t',rfl⟩:=d;exact PySem.EqMixed.ne_int_str (BL I q (by simp))
   | _=>exact absurd (show false=true from hs) AAg
 | str i=>
   obtain⟨t,rfl⟩:=e;cases y with
   | non=>cases d;exact PySem.EqNone.ne_str_none (BL I q (by simp))
   | bl j=>cases d;exact PySem.EqMixed.ne_str_bool (BL I q (by simp))
   | int j=>obtain⟨t',rfl⟩:=d;exact PySem.EqMixed.ne_str_int (BL I q (by simp))
   | str j=>obtain⟨t',rfl⟩:=d;exact ne_str (BL I q (congrArg not ZP))
   | _=>exact absurd (show false=true from hs) AAg
 | byt i=>
   obtain⟨t,rfl⟩:=e;cases y with
   | byt j=>obtain⟨t',rfl⟩:=d;exact PySem.W.ne_bytes (BL I q (congrArg not ZN))
   | _=>exact absurd (show false=true from hs) AAg
 | _=>cases y <;> exact absurd (show false=true from hs) AAg
def mK:ET X (compareOp .Lt) (QZ λi j=> .bl (decide (i<j))):=j7 λ_ _ _ _ _ _ _ q=>lt_int q
def sj:ET X (compareOp .LtE) (QZ λi j=> .bl (decide (i<=j))):=j7 λ_ _ _ _ _ _ _ q=>le_int q
def mJ:ET X (compareOp .Gt) (QZ λi j=> .bl (decide (j<i))):=j7 λ_ _ _ _ _ _ _ q=>gt_int q
def mI:ET X (compareOp .GtE) (QZ λi j=> .bl (decide (j<=i))):=j7 λ_ _ _ _ _ _ _ q=>ge_int q
def oj:ET X (compareOp .Is) (λx y H Q=>y= .non/\Q (.bl (decide (x= .non))) H):=by
 intro Tb s f H x y v u Q I d e h;obtain⟨rfl,q⟩:=h;cases e;refine is_none_gen (BL I q ?_);cases x <;> first
  | (cases d;rfl)
  | (obtain⟨t,rfl⟩:=d;rfl)
def Zr:ET X (compareOp .IsNot) (λx y H Q=>y= .non/\Q (.bl (!decide (x= .non))) H):=by
 intro Tb s f H x y v u Q I d e h;obtain⟨rfl,q⟩:=h;cases e;refine isnot_none_gen (BL I q ?_);cases x <;> first
  | (cases d;rfl)
  | (obtain⟨t,rfl⟩:=d;rfl)
def ET.or {f:kj->kj->Sem kj}{r d:R2}(h:ET X f r)(h':ET X f d):ET X f (λx y H Q=>r x y H Q\/d x y H Q):=by
 intro Tb s e H x y v u Q I g i q;rcases q with q|q
 .exact h Tb s e H x y v u Q I g i q
 .exact h' Tb s e H x y v u Q I g i q
def Bx (b:kd){op:CmpOp}(h:op≠ .In:=by decide)(h2:op≠ .NotIn:=by decide):behindInMarks op b=false:=by
 have d:(op==CmpOp.In)=false:=by cases op <;> first | rfl|exact absurd rfl h
 have e:(op==CmpOp.NotIn)=false:=by cases op <;> first | rfl|exact absurd rfl h2
 cases b <;> simp[behindInMarks,d,e]
def Zu {op:CmpOp}{r:R2}(d:ET X (compareOp op) r)(ha:PE X a ta)(hb:PE X b tb)(e:behindInMarks op b=false):PE X (.Compare a [op] [b] pos) (lM r ta tb):=by intro Tb s f H Q I h;exact wpAny_Compare1 (nG ha hb I h λv u g x y i j k l q=>d Tb g f i x y v u Q j k l q) e
def aJ (t:TE):TT:=λd H Q=>t d H λx e=>∃k,x= .bl k/\Q k e
def Oq {op:CmpOp}{r:R2}(f:ET X (compareOp op) r)(ha:PE X a ta)(hb:PE X b tb)(g:behindInMarks op b=false):PT X (.Compare a [op] [b] pos) (aJ (lM r ta tb)):=by
 intro Tb s d H Q I h;refine wpAny_isTrue_Compare1 (Bk (ha Tb s d H _ I h) λv i ⟨x,j,l,r1,m⟩=>Bk (hb Tb i d j _ l m) λu n ⟨y,o,p,r2,t⟩=>
  Bk (f Tb n d o x y v u _ p r1 r2 t) λc D ⟨z,w,A,B,k,e,C⟩=> ?_) g
 subst e;cases B;exact ACL ⟨w,A,C⟩
def iJ (r f:R2)(ta tb tc:TE):TE:=λd H Q=>ta d H λx g=>tb d g λy h=>r x y h λz e=>∃k,z= .bl k/\
 (if k=true then tc d e λi j=>f y i j Q else Q (.bl false) e)
def gX {op f:CmpOp}{r i:R2}(n:ET X (compareOp op) r)(o:ET X (compareOp f) i)(ha:PE X a ta)(hb:PE X b tb)(hc:PE X c tc)(p:lastMarks [op,f] [b,c] =false:=by with_unfolding_all rfl):PT X (.Compare a [op,f] [b,c] pos) (aJ (iJ r i ta tb tc)):=by
 intro Tb s g H Q I h;refine isTrue_chain (Bk (ha Tb s g H _ I h) λv t ⟨x,w,A,r1,B⟩=>test_link (Bk (hb Tb t g w _ A B) λu C ⟨y,D,E,r2,F⟩=>
  Bk (n Tb C g D x y v u _ E r1 r2 F) λd G ⟨z,j,l,J,k,e,m⟩=> ?_)) p
 subst e;cases J;refine ACL ?_;cases k with
 | false=> obtain⟨k',K,L⟩:=m;cases K;exact ite_ff ⟨j,l,L⟩
 | true=> refine ite_tt (test_last (Bk (hc Tb G g j _ l m) λM N ⟨O,P,R,S,T⟩=>Bk (o Tb N g P y O u M _ R r2 S T) λd' s5 ⟨z2,U,W,Y,k2,Z,q5⟩=> ?_));subst Z;cases Y;exact ACL ⟨U,W,q5⟩
def qv (K:AAR)(x:V)(H:Hp)(k:kc):Prop:=
 match x with
 | .non=>k=false
 | .bl b=>k=b
 | .int i=>k=(i != 0)
 | .str y=>y.length<=sizeLine/\k=((y.length:Int) != 0)
 | .byt y=>y.size<=sizeLine/\k=((y.size:Int) != 0)
 | .ref p=>(∃xs,Fs K H p xs/\k= !xs.isEmpty)\/(∃xs,LW K H p xs/\k= !xs.isEmpty)\/∃d,H p=some (.dK d)/\k= !d.isEmpty
 | _=>False
def X4 {e:Type}{d:km (e×V)}{vs:km (e×kj)}(r:KV d vs):(!vs.isEmpty)= !d.isEmpty:=by cases r <;> rfl
def QA {xs:km V}{d:km kj}(r:A6 xs d):(!d.toArray.isEmpty)= !xs.isEmpty:=by cases r <;> simp
def NA:(sizeLine:Nat)<2^63:=by rw[sizeLine_eq];decide
def pk:vW X (λx H Q=>∃k,qv X.K x H k/\Q k H):=by
 intro Tb s u H x v Q I g h;obtain⟨k,e,q⟩:=h;have hl:=NA;have hs:sizeLine=16777216:=sizeLine_eq;cases x with
 | non=> cases g;have d:k=false:=e;subst d;exact truthy_none ⟨H,I,q⟩
 | bl b=> cases g;have d:k=b:=e;subst d;exact ACL ⟨H,I,q⟩
 | int i=> obtain⟨t,rfl⟩:=g;have d:k=(i != 0):=e;subst d;exact PySem.P.truthy_int ⟨H,I,q⟩
 | str y=> obtain⟨t,rfl⟩:=g;obtain⟨hy,d⟩:y.length<=sizeLine/\k=((y.length:Int) != 0):=e;subst d;exact PySem.P.truthy_str (by omega) ⟨H,I.tok _,q⟩
 | byt y=> obtain⟨t,rfl⟩:=g;obtain⟨hy,d⟩:y.size<=sizeLine/\k=((y.size:Int) != 0):=e;subst d;exact PySem.W.truthy_bytes (by omega) ⟨H,I.tok _,q⟩
 | ref p=>
   cases g;have d:(∃xs,Fs X.K H p xs/\k= !xs.isEmpty)\/(∃xs,LW X.K H p xs/\k= !xs.isEmpty)\/∃f,H p=some (.dK f)/\k= !f.isEmpty:=e;rcases d with⟨xs,hx,d⟩|⟨xs,hx,d⟩|⟨f,hx,d⟩
   .subst d;obtain⟨j,r,l,hz⟩:=I.list hx;have n:=r.length;exact wpAny_truthy_list l.isList (by simp only[AAh];omega) ⟨H,I.tok _,by rw[QA r];exact q⟩
   .subst d;obtain⟨j,r,l,hz⟩:=I.tuple hx;have n:=r.length;exact truthy_tuple l (by simp only[AAh];omega) ⟨H,I.tok _,by rw[QA r];exact q⟩
   .subst d;obtain⟨hz,o,vs,r,m⟩:f.length<=sizeLine/\(p==sysModules)=false/\∃vs,KV f vs/\s.heap.DictOf (UI X.prog X.w) p vs:=I.hok p _ hx;have n:f.length=vs.length:=ADA r;exact wpAny_truthy_dict o m (by omega) ⟨H,I.tok _,by rw[X4 r];exact q⟩
 | _=>exact(show False from e).elim
def gY (ha:PE X a ta)(he:∀whole,isTrue a X.env whole=(do let v <-whole;standAt a.pos;holding [v] (truthy v))):
 PT X a (λd H Q=>ta d H λx e=>∃k,qv X.K x e k/\Q k e):=by intro Tb s d H Q I h;exact isTrue_plain (Bk (ha Tb s d H _ I h) λv f ⟨x,g,i,r1,j⟩=>pk Tb f d g x v Q i r1 j) (he _)
def vals1 {x:V}{d:km kj}(r:A6 [x] d):∃u,d= [u] /\RelV x u:=by
 cases r with
 | cons r1 r2=>cases r2;exact⟨_,rfl,r1⟩
def vals2 {x y:V}{d:km kj}(r:A6 [x,y] d):∃u e,d= [u,e] /\RelV x u/\RelV y e:=by
 cases r with
 | cons r1 r2=>
   cases r2 with
   | cons f g=>cases g;exact⟨_,_,rfl,r1,f⟩
def Pr:DE X (.builtin "abs") (λxs H Q=>∃i,xs= [.int i] /\Q (.int (if i<0 then -i else i)) H):=by intro Tb s d H xs e Q I r h;obtain⟨i,rfl,q⟩:=h;obtain⟨u,rfl,t,rfl⟩:=vals1 r;exact call_abs_int λu f=>⟨.int (if i<0 then -i else i),H,I.tok _,⟨_,rfl⟩,q⟩
def aj (hc:X.calm=true):DE X (.builtin "min") (λxs H Q=>∃i j,xs= [.int i, .int j] /\Q (.int (if j<i then j else i)) H):=by
 intro Tb s d H xs e Q I r h;obtain⟨i,j,rfl,q⟩:=h;obtain⟨u,f,rfl,⟨t,rfl⟩,⟨t',rfl⟩⟩:=vals2 r;refine min_two_ints (I.ok.hd hc) λh' g k=>⟨_,H,I.kept k, ?_,q⟩;by_cases hj:j<i
 .rw [AAU hj,AAU hj];exact⟨_,rfl⟩
 .rw [AAS hj,AAS hj];exact⟨_,rfl⟩
def SC:DE X (.type "int") (λxs H Q=>(∃i,xs= [.int i] /\Q (.int i) H)\/∃k,xs= [.bl k] /\Q (.int (if k then 1 else 0)) H):=by
 intro Tb s d H xs e Q I r h;rcases h with⟨i,rfl,q⟩|⟨k,rfl,q⟩
 .obtain ⟨u,rfl,t,rfl⟩:=vals1 r;exact call_int_int ⟨.int i,H,I,⟨_,rfl⟩,q⟩
 .obtain ⟨u,rfl,r1⟩:=vals1 r;cases r1;exact call_int_bool ⟨.int (if k then 1 else 0),H,I.tok _,⟨_,rfl⟩,q⟩
end
structure mw (h:Heap) (x dx C:Addr) (mA:Str->Option Value):Prop where
 obj:h.get? x=some (PySem.W.instObj C dx)
 ns:h.Ns1 dx mA
 ne:dx≠x
def bW {h:da}{b:kf}{c:Str->ke kj}(n:h.Ns1 b c):∃d,h.get? b=some d/\∀name,PySem.W.lookIn name d=some (c name):=by
 obtain⟨o,es,ep,f,hd,hk,_,g⟩:=n;refine⟨o,f,λname=> ?_⟩;have e:=g name;unfold nsFind findBy at e;rw[<-Array.find?_toList] at e;unfold PySem.W.lookIn;rw[hd];dsimp only;split
 .rename_i y q;rw[q] at e;exact congrArg some e
 .rename_i q;rw[q] at e;have a:es.toList.any (·.refKey)=false:=by rw[ADD];intro y hy;obtain⟨z,t,i⟩:=hk y (Array.mem_toList_iff.mp hy);simp[DictEntry.refKey,i]
  have j:¬es.toList.any (·.refKey)=true:=by rw[a];exact AAg
  rw[AAS j];exact congrArg some e
def mw.look {h:da}{x b C:kf}{c:Str->ke kj}(I:mw h x b C c):∃a,PySem.W.InstAt h x (PySem.W.instObj C b) C (some a)/\∀name,PySem.W.lookIn name a=some (c name):=
 let ⟨a,d,hl⟩:=bW I.ns
 ⟨a,⟨I.obj,rfl,rfl,d⟩,hl⟩
section
variable {prog:gn}{w:fe}{A:Wf}{E:kj->ki->Prop}{s:ki}{K:AAR}{x dx C f:kf}{mA:Str->ke kj}{name:Str}{v:kj}
def HA {expr:kc}{Q:kj->ki->Prop}(X:K.In s.heap)(I:mw s.heap x dx C mA)(a:PySem.W.plainGet K C name=true)(b:PySem.W.hasDictIn K C=true)(ha:PySem.W.findIn K (.ref C) name=some none)(hv:mA name=some v)(c:PySem.W.handedIn v=true)(h:Q v {s with toks:=s.toks+1}):wpAny (model prog w) A (getAttr (.ref x) name expr) Q E s:=by obtain⟨d,J,hl⟩:=I.look;exact PySem.W.get_value X J (PySem.W.plainGet_of a).1 (PySem.W.findObj_own b ha rfl (by rw[hl,hv])) c h
end
def LR.some_of {v:V}{o:ke kj}(r:LR (some v) o):∃u,o=some u/\RelV v u:=by
 cases o with
 | none=>exact(show False from r).elim
 | some u=>exact⟨u,rfl,r⟩
def LR.none_of {o:ke kj}(r:LR none o):o=none:=by
 cases o with
 | none=>rfl
 | some u=>exact(show False from r).elim
structure vJ (K:AAR) (C:Addr):Prop where
 pg:PySem.W.plainGet K C Str.empty=true
 hd:PySem.W.hasDictIn K C=true
 po:PySem.W.plainOver K C=true
 sa:PySem.W.findIn K (.ref C) "__setattr__" =some (some (.builtin "object.__setattr__"))
def vJ.get {K:AAR}{C:kf}(c:vJ K C)(f:Str):PySem.W.plainGet K C f=true:=c.pg
structure Con (K:AAR) (C:Addr) (f:Str) (v:V) (u:Value):Prop where
 at_:PySem.W.findIn K (.ref C) f=some (some u)
 rel:RelV v u
 get:PySem.W.specialIn K u "__get__" =some none
 cp:PySem.W.copiedNames.contains f=false
structure AAz (K:AAR) (C:Addr) (m:Str) (f:Addr):Prop where
 at_:PySem.W.findIn K (.ref C) m=some (some (.ref f))
 fn:PySem.W.isFn K (.ref f)=true
 kp:PySem.W.keepIn K (.ref f)=true
section
variable {X:Cx}{Tb:km (kf×Obj)}{σ:St}{H:Hp}{s:ki}{a C dx:kf}{fs:km (Str×V)}{f:Str}{v:V}{A:Wf}{E:kj->ki->Prop}
def Inv.made (I:Inv X Tb σ H s):Inv X Tb σ (upd (upd H s.heap.objs.size (.own (s.heap.objs.size+1))) (s.heap.objs.size+1) (.ins C s.heap.objs.size [])) {s with heap:=(s.heap.push PySem.W.emptyDict).push (PySem.W.instObj C s.heap.objs.size)}:=by
 have c:(s.heap.push PySem.W.emptyDict).get? s.heap.objs.size=some PySem.W.emptyDict:=AAd s.heap rfl;have g:((s.heap.push PySem.W.emptyDict).push (PySem.W.instObj C s.heap.objs.size)).get? (s.heap.objs.size+1)=some (PySem.W.instObj C s.heap.objs.size):=by
  have:=AAd (s.heap.push PySem.W.emptyDict) (o:=PySem.W.instObj C s.heap.objs.size) rfl
  rwa [ABU] at this
 have h:(s.heap.push PySem.W.emptyDict).Ns s.heap.objs.size (λ_=>none):=⟨PySem.W.emptyDict, #[],_,c,rfl,(λe he=>absurd he (by simp)),λ_=>rfl⟩;have i:=I.laid (a:=s.heap.objs.size) (o:= .own (s.heap.objs.size+1)) (h':=s.heap.push PySem.W.emptyDict) (t':=s.toks) (λb u q=>AAX _ q) (AAY _) ⟨_,c⟩;refine i.laid (a:=s.heap.objs.size+1) (o:= .ins C s.heap.objs.size []) (t':=s.toks) (λb u q=>AAX _ q) (Nat.le_of_eq (ABU _ _)) ?_;have d:s.heap.objs.size≠s.heap.objs.size+1:=AAa (Nat.lt_succ_self _);refine⟨by rw[Aq d,Au],ABO _,d,g,λ_=>none,(Heap.Ns1.of_empty h).at λo q=>AAX _ q,λ_=>True.intro,λy hy=>absurd rfl hy⟩
end
section
variable {X:Cx}{Tb:km (kf×Obj)}{σ:St}{H:Hp}{s:ki}{A:Wf}{E:kj->ki->Prop}{Q:kj->ki->Prop}{c:kj}{b:kc}
inductive Pk (K:AAR) (H:Hp):V->Value->Prop where
 | non:Pk K H .non (.type "NoneType")
 | bl (x:Bool):Pk K H (.bl x) (.type "bool")
 | int (i:Int):Pk K H (.int i) (.type "int")
 | str (x:Str):Pk K H (.str x) (.type "str")
 | flt (x:UInt64):Pk K H (.flt x) (.type "float")
 | lst {a:Addr} {xs:List V} (e:H a=some (.lst xs)):Pk K H (.ref a) (.type "list")
 | frz {a:Addr} {o:Obj} {xs:List V} (e:H a=some (.frz o (.lst xs))):Pk K H (.ref a) (.type "list")
 | tup {a:Addr} {xs:List V} (e:H a=some (.tup xs)):Pk K H (.ref a) (.type "tuple")
 | dK {a:Addr} {kvs:List (GL×V)} (e:H a=some (.dK kvs)):Pk K H (.ref a) (.type "dict")
 | dT {a:Addr} {kvs:List (List GL×V)} (e:H a=some (.dT kvs)):Pk K H (.ref a) (.type "dict")
 | ins {a C dx:Addr} {fs:List (Str×V)} (e:H a=some (.ins C dx fs)) (cl:vJ K C) (ha:PySem.W.findIn K (.ref C) "__class__" =some (some (.builtin "object.__class__")))
    (hn:PySem.W.specialIn K (.builtin "object.__class__") "__get__" =some (some (.builtin "getset_descriptor.__get__"))) (htk:PySem.W.takesIn K (.builtin "object.__class__")=some true)
    (hm:PySem.W.mroIn K C (.type "object")=some true):Pk K H (.ref a) (.ref C)
end
structure Room (k:Nat) (A:Around):Prop where
 hd:A.handled=none
 dp:A.depth+3*k+5<recursionLimit
 un:A.units+16*k+200<cLine
 gd:A.guards=some []
def Room.mono {j k:Nat}{A:Wf}(r:Room k A)(h:j<=k):Room j A:=⟨r.hd,by have:=r.dp;omega,by have:=r.un;omega,r.gd⟩
def Room.deeper {k:Nat}{A:Wf}(r:Room (k+1) A)(env:Env):Room k (A.deeper env):=
 ⟨r.hd,by have:=r.dp;show A.depth+1+3*k+5<_;omega,by have:=r.un;show A.units+3+16*k+200<_;omega,r.gd⟩
def Room.in1 {k:Nat}{A:Wf}(r:Room (k+1) A):Room k A.in1:=
 ⟨r.hd,by have:=r.dp;show A.depth+3*k+5<_;omega,by have:=r.un;show A.units+1+16*k+200<_;omega,r.gd⟩
def YA {A:Wf}{C:kf}{a:km kj}{b:km (Str×kj)}:(A.under (.builtin "type.__call__" ⟨.ref C::a,b⟩)).depth=A.depth+1:=by first | rfl|simp[Around.under,Code.weight,Code.isCreation,Code.isGuard,Code.isCaller,Code.frames,Code.isFrame,guardIds]
def YB {A:Wf}{C:kf}{a:km kj}{b:km (Str×kj)}:(A.under (.builtin "type.__call__" ⟨.ref C::a,b⟩)).units=A.units+1:=by first | rfl|simp[Around.under,Code.cUnits,Code.frames,Code.isFrame]
def Room.make {k:Nat}{A:Wf}(r:Room (k+1) A)(C:kf)(a:km kj)(b:km (Str×kj)):Room k (A.under (.builtin "type.__call__" ⟨.ref C::a,b⟩)):=
 ⟨r.hd,by have:=r.dp;rw[YA];omega,by have:=r.un;rw[YB];omega,by first | exact r.gd|simpa[Around.under,pushGuards,Code.guards,Code.isGuard,guardIds] using r.gd⟩
def Room.depth {k:Nat}{A:Wf}(r:Room k A):A.depth<recursionLimit:=by have:=r.dp;omega
def Room.units {k:Nat}{A:Wf}(r:Room k A):A.units+64<cLine:=by have:=r.un;omega
def iL:TA:=λ_ H Q=>Q [] H
def MM (b:TE)(c:TA):TA:=λa H Q=>b a H λx d=>c a d λxs e=>Q (x::xs) e
section
variable {X:Cx}{e:kd}{es:km kd}{te:TE}{t:TA}{pos:Pos}
def Dj:PA X [] iL:=λ_ _ _ _ H Q I h=>ADE ⟨[],H,I, .nil,h⟩
def BM (ha:PE X e te)(b:PA X es t)(hs:starEach (e::es) X.env=(false,eval e X.env)::starEach es X.env:=by rfl):PA X (e::es) (MM te t):=by intro pos Tb s a H Q I h;rw[hs];show wpAny _ _ (spliced ((false,eval e X.env)::backTo pos (starEach es X.env))) _ _ s;refine ACS (Bk (ha Tb s a H _ I h) λu c ⟨x,d,f,r1,g⟩=> ?_);exact Bk (b pos Tb c a d _ f g) λl m ⟨xs,i,j,r2,k⟩=>⟨x::xs,i,j, .cons r1 r2,k⟩
def lN (t:TA):TE:=λb H Q=>t b H λxs a=>xs.length<=sizeLine/\∀p,a p=none->Q (.ref p) (upd a p (.tup xs))
def wq (t:TA):TE:=λb H Q=>t b H λxs a=>xs.length<=sizeLine/\∀p,a p=none->Q (.ref p) (upd a p (.lst xs))
def QW {x1}(h:PA X es t):PE X (.Tuple es x1 pos) (lN t):=by intro Tb s f H Q I hq;refine wpAny_Tuple_spliced (Bk (h pos Tb s f H _ I hq) λg a ⟨xs,c,d,r,z,q⟩=>⟨by rw[<-r.length];exact z, ?_⟩);have i:c a.heap.objs.size=none:=d.hok.fresh (AAY _);refine⟨.ref a.heap.objs.size,upd c a.heap.objs.size (.tup xs),d.laid (t':=a.toks) (λb u e=>AAX _ e) (AAY _) ?_,rfl,q _ i⟩;exact⟨z,g,r,⟨_,AAd _ rfl,rfl,_,rfl⟩⟩
def gP (h:PA X es t):PE X (.List es pos) (wq t):=by intro Tb s f H Q I hq;refine wpAny_List_spliced (Bk (h pos Tb s f H _ I hq) λg a ⟨xs,c,d,r,z,q⟩=>⟨by rw[<-r.length];exact z, ?_⟩);have i:c a.heap.objs.size=none:=d.hok.fresh (AAY _);refine⟨.ref a.heap.objs.size,upd c a.heap.objs.size (.lst xs),d.laid (t':=a.toks) (λb u e=>AAX _ e) (AAY _) ?_,rfl,q _ i⟩;exact⟨z,g,0,r,AAd _ rfl⟩
end
abbrev Sp:=km V->Hp->VK->XK->Prop
abbrev aT:=km Env->Hp->ki->XK->kj->ki->Prop
structure RI (P:Program) (w:World) (K:AAR) (mg:Str->Option Value) (base:Heap) (A:Around) (outer:List Env) (s:Shared) (H:Hp):Prop where
 frames:A.frames=some outer
 mod:Mod K mg base
 bs:∀b o,base.get? b=some o->s.heap.get? b=some o/\H b=none
 bsz:base.objs.size<=s.heap.objs.size
 funs:s.heap.FunFrames base outer
 frf:∀b∈cx outer,H b=none
 hok:OG P w H s.heap
 bare:AllBare s.gens
def CE (outer:km Env)(P:gn)(w:fe)(H:Hp)(s:ki)(Q:VK)(u:kj)(a:ki):Prop:=
 ∃v b,a.os=s.os/\AllBare a.gens/\Un (cx outer) [] H b s.heap a.heap/\OG P w b a.heap/\RelV v u/\Q v b
def CR (CX:aT)(outer:km Env)(P:gn)(w:fe)(H:Hp)(s:ki)(Q:VK)(E:XK)(r:Result)(a:ki):Prop:=
 match r with
 | .ok (.ret u)=>CE outer P w H s Q u a
 | .ok _=>False
 | .error e=>CX outer H s E e a
structure FA (P:Program) (w:World) (K:AAR) (mg:Str->Option Value) (base:Heap) (CX:aT) (k:Nat) (f:Addr) (fd:FuncData) (ps:List Str) (sp:Sp):Prop where
 len:∀vs H Q E,sp vs H Q E->vs.length=ps.length
 run:∀(A:Around) (outer:List Env) (s:Shared) (H:Hp) (args:Args) (us:List Value) (vs:List V) (Q:VK) (E:XK),Room k A->RI P w K mg base A outer s H->BindsTo s fd args (ps.zip us)->A6 vs us->sp vs H Q E->
  codeAny (model P w) A (.call (.ref f) args) (CR CX outer P w H s Q E) s
def FA.mono {P:gn}{w:fe}{K:AAR}{mg:Str->ke kj}{base:da}{CX:aT}{j k:Nat}{f:kf}{a:FuncData}{b:km Str}{sp:Sp}(F:FA P w K mg base CX j f a b sp)(h:j<=k):FA P w K mg base CX k f a b sp:=⟨F.len,λA outer s H args c vs Q E d=>F.run A outer s H args c vs Q E (d.mono h)⟩
def FA.imp {P:gn}{w:fe}{K:AAR}{mg:Str->ke kj}{base:da}{CX:aT}{k:Nat}{f:kf}{b:FuncData}{c:km Str}{sp a:Sp}(F:FA P w K mg base CX k f b c sp)(h:∀vs H Q E,a vs H Q E->sp vs H Q E):FA P w K mg base CX k f b c a:=
 ⟨λvs H Q E q=>F.len vs H Q E (h _ _ _ _ q),λA outer s H args d vs Q E e he hb hv hs=>F.run A outer s H args d vs Q E e he hb hv (h _ _ _ _ hs)⟩
def RI.make {P:gn}{w:fe}{K:AAR}{mg:Str->ke kj}{base:da}{A:Wf}{outer:km Env}{s:ki}{H:Hp}(e:RI P w K mg base A outer s H)(C:kf)(a:km kj)(b:km (Str×kj)):RI P w K mg base (A.under (.builtin "type.__call__" ⟨.ref C::a,b⟩)) outer s H:=⟨by first | exact e.frames|(simpa[Around.under,Code.envs,Code.isFrame,pushEnvs] using e.frames),e.mod,e.bs,e.bsz,e.funs,e.frf,e.hok,e.bare⟩
def RI.in1 {P:gn}{w:fe}{K:AAR}{mg:Str->ke kj}{base:da}{A:Wf}{outer:km Env}{s:ki}{H:Hp}(e:RI P w K mg base A outer s H):RI P w K mg base A.in1 outer s H:=⟨e.frames,e.mod,e.bs,e.bsz,e.funs,e.frf,e.hok,e.bare⟩
section
variable {X:Cx}{Tb:km (kf×Obj)}{σ:St}{H:Hp}{s s':ki}
def Inv.env0 (I:Inv X Tb σ H s):RI X.prog X.w X.K X.mg X.base X.A X.stack s H:=
 ⟨I.ok.frames,I.ok.mod,I.bs,AAu I.ok.bsz I.sz,I.stack,I.stkFree,I.hok,I.bare⟩
def Inv.after {Q:VK}{u:kj}(I:Inv X Tb σ H s)(h:CE X.stack X.prog X.w H s Q u s'):EP X Tb σ Q u s':=by obtain⟨v,c,os,bare,un,hok,r,q⟩:=h;obtain⟨e,g,d,t,a⟩:=s';obtain rfl:a=s.os:=os;exact⟨v,c,I.call (h':=e) (g':=g) (d':=d) (t':=t) (ch:= []) un hok bare (λb z=>absurd z (by simp)),r,q⟩
end
def mR (sp:Sp)(a:km V)(E:XK)(t:TA):TE:=λb H Q=>t b H λvs c=>sp (vs++a) c Q E
def Binds (K:AAR)(c:FuncData)(b:km Str)(ds:km kj):Prop:=
 ∀(s:ki) (a:km kj),K.In s.heap->(a++ds).length=b.length->BindsTo s c ⟨a, []⟩ (b.zip (a++ds))
def Binds.all {K:AAR}{c:FuncData}{b:km Str}(h:∀a:km kj,a.length=b.length->bindArgs c ⟨a, []⟩=pure (b.zip a)):Binds K c b [] :=λs a _ hl=>by rw[ABb] at hl ⊢;exact .of_eq (h a hl)
def Passes (CX:aT)(X:Cx)(E:XK):Prop:=∀(Tb:km (kf×Obj)) (b:St) (H:Hp) (s:ki) (e:kj) (a:ki),Inv X Tb b H s->CX X.stack H s E e a->X.xe e a
section
variable {X:Cx}{CX:aT}{k:Nat}{f C:kf}{fd:FuncData}{ps:km Str}{sp:Sp}{dvs:km V}{ds:km kj}{E:XK}{x m:Str}{p pos apos:Pos}{e o:kd}{es:km kd}{ta:TE}{t:TA}
theorem pM {Tb:km (kf×Obj)}{b:St}{H:Hp}{s:ki}{Q:VK}{a:km kj}{vs:km V}(F:FA X.prog X.w X.K X.mg X.base CX k f fd ps sp)(c:Room k X.A)(hb:Binds X.K fd ps ds)(hd:A6 dvs ds)(hx:Passes CX X E)(I:Inv X Tb b H s)(r:A6 vs a)(h:sp (vs++dvs) H Q E):wpAny (model X.prog X.w) X.A (call (.ref f) a) (EP X Tb b Q) X.xe s:=by
 have r2:A6 (vs++dvs) (a++ds):=r.append hd;have hl:(a++ds).length=ps.length:=by rw[<-r2.length];exact F.len _ _ _ _ h
 refine wpAny_call (ADF (F.run X.A X.stack s H ⟨a, []⟩ (a++ds) (vs++dvs) Q E c I.env0 (hb s a I.kIn hl) r2 h) λr d hq=> ?_);cases r with
 | error e=>exact hx Tb b H s e d I hq
 | ok g=>
   cases g with
   | ret u=>exact I.after hq
   | next=>exact False.elim hq
   | brk=>exact False.elim hq
   | cont=>exact False.elim hq
theorem kC (F:FA X.prog X.w X.K X.mg X.base CX k f fd ps sp)(b:Room k X.A)(c:Gl X x)(d:X.mg x=some (.ref f))(hk:PySem.W.keepIn X.K (.ref f)=true)(hb:Binds X.K fd ps ds)(hd:A6 dvs ds)(hx:Passes CX X E)(ha:PA X (e::es) t)(hdb:(x==("__debug__" :Str))=false:=by decide)(he:starEach (e::es) X.env=(false,eval e X.env)::starEach es X.env:=by rfl)(hpl:(backTo pos (starEach es X.env)).any (·.1)=false:=by rfl):PE X (.Call (.Name x p) (e::es) [] pos) (mR sp dvs E t):=by intro Tb s g H Q I h;refine ADu (jl I c d ?_ hdb);refine PySem.W.callWith_K (h₀:=X.base) I.ok.mod.kin hk (Bk (ha pos Tb s g H _ I h) λi j ⟨vs,l,a,r,q⟩=>⟨a.kIn, ?_⟩) he hpl;exact pM F b hb hd hx a r q
structure Mk (K:AAR) (C f:Addr):Prop where
 makes:PySem.W.makesIn K C=true
 init:PySem.W.findIn K (.ref C) "__init__" =some (some (.ref f))
 fn:PySem.W.isFn K (.ref f)=true
 kp:PySem.W.keepIn K (.ref C)=true
end
section
variable {X:Cx}{CX:aT}{k:Nat}{f C:kf}{fd:FuncData}{ps ks:km Str}{sp:Sp}{E:XK}{x m:Str}{p pos apos kpos:Pos}{e o:kd}{es:km kd}{kws:km Keyword}{te ta:TE}{t tk:TA}{nm:ke Str}
structure vT (K:AAR) (fd:FuncData) (ps ks:List Str) (g:List Value->List Value->List Value) (gV:List V->List V->List V):Prop where
 to:∀(s:Shared) (us ws:List Value),K.In s.heap->(g us ws).length=ps.length->BindsTo s fd ⟨us,ks.zip ws⟩ (ps.zip (g us ws))
 rel:∀{vs:List V} {us:List Value} {zs:List V} {ws:List Value},A6 vs us->A6 zs ws->A6 (gV vs zs) (g us ws)
variable {g:km kj->km kj->km kj}{gV:km V->km V->km V}
end
structure Ev (N P:List Str) (sc:Scope):Prop where
 kind:sc.kind= .function
 co:sc.isCoroutine=false
 gen:sc.isGenerator=false
 nd:N.Nodup
 pre:N.take P.length=P
 par:∀x∈P,sc.names.lookup x=some .local\/sc.names.lookup x=some .cell
 nofree:∀y∈sc.names,y.2≠ .free
theorem SB {kindOf:Str->ke NameKind}{x:Str}:∀{binds:km (Str×kj)} {m:Str->ke kj},(∀v,(x,v) ∉ binds)->bindL kindOf binds m x=m x
 | [],_,_=>rfl
 | (n,v)::r,m,h=>by
   unfold bindL;rw[SB λw hw=>h w (ABh _ hw)];split
   .have:x≠n:=by rintro rfl;exact h v ACc
    simp[this]
   .rfl
theorem R8 {kindOf:Str->ke NameKind}{x:Str}:∀{binds:km (Str×kj)} {m:Str->ke kj},(∀v,(x,v) ∉ binds)->bindC kindOf binds m x=m x
 | [],_,_=>rfl
 | (n,v)::r,m,h=>by
   unfold bindC;rw[R8 λw hw=>h w (ABh _ hw)];split
   .rfl
   .have:x≠n:=by rintro rfl;exact h v ACc
    simp[this]
theorem R9 {kindOf:Str->ke NameKind}{x:Str}{v:kj}:∀{P:km Str} {vs:km kj} {i:Nat} {m:Str->ke kj},P.Nodup->P[i]? =some x->vs[i]? =some v->kindOf x=some .local-> bindL kindOf (P.zip vs) m x=some v
 | [],_,_,_,_,h,_,_=>by simp at h
 | _::_, [],_,_,_,_,h,_=>by simp at h
 | p::P,w::vs,0,m,nd,h1,h2,hk=>by simp at h1 h2;subst h1;subst h2;show bindL kindOf ((p,w)::P.zip vs) m p=_;unfold bindL;rw[SB λv hv=>(ADv.mp nd).1 (ABj hv).1,AAU hk];simp
 | p::P,w::vs,i+1,m,nd,h1,h2,hk=>by show bindL kindOf ((p,w)::P.zip vs) m x=_;unfold bindL;exact R9 (i:=i) (ADv.mp nd).2 (by simpa using h1) (by simpa using h2) hk
theorem R7 {kindOf:Str->ke NameKind}{x:Str}{v:kj}:∀{P:km Str} {vs:km kj} {i:Nat} {m:Str->ke kj},P.Nodup->P[i]? =some x->vs[i]? =some v->kindOf x≠some .local-> bindC kindOf (P.zip vs) m x=some v
 | [],_,_,_,_,h,_,_=>by simp at h
 | _::_, [],_,_,_,_,h,_=>by simp at h
 | p::P,w::vs,0,m,nd,h1,h2,hk=>by simp at h1 h2;subst h1;subst h2;show bindC kindOf ((p,w)::P.zip vs) m p=_;unfold bindC;rw[R8 λv hv=>(ADv.mp nd).1 (ABj hv).1,AAS hk];simp
 | p::P,w::vs,i+1,m,nd,h1,h2,hk=>by show bindC kindOf ((p,w)::P.zip vs) m x=_;unfold bindC;exact R7 (i:=i) (ADv.mp nd).2 (by simpa using h1) (by simpa using h2) hk
def start (N:km Str)(vs:km V):St:=vs.map some++List.replicate (N.length-vs.length) none
def V0 (CX:aT)(P:gn)(w:fe)(K:AAR)(mg:Str->ke kj)(base:da)(N:km Str)(qual:Str)(scope:Scope)(f:kf)(b:kj)(A:Wf)(outer:km Env)(s:ki)(H:Hp)(E:XK):Cx where
 prog:=P
 w:=w
 K:=K
 mg:=mg
 base:=base
 A:=A.deeper (envOfC qual scope s.heap.objs.size f b)
 N:=N
 s₀:=s
 H₀:=H
 env:=envOfC qual scope s.heap.objs.size f b
 outer:=outer
 stack:=envOfC qual scope s.heap.objs.size f b::outer
 ex:= []
 calm:=true
 fn:=λ_=>true
 pn:= []
 xe:=λe c=>wpAny (model P w) (A.deeper (envOfC qual scope s.heap.objs.size f b)) (leaving (envOfC qual scope s.heap.objs.size f b) e) (λ_ a=>CX outer H s E e a) (λd a=>CX outer H s E d a) c
def Vv {sc:Scope}{n:Nat}{x:Str}(h:sc.names.lookup x=some .cell):∃c,(cellsFrom n sc.names []).lookup x=some c:=by have q:=AE4 sc.names n [] (.inl h);exact Option.isSome_iff_exists.mp q
def bM {CX:aT}{P:gn}{w:fe}{K:AAR}{mg:Str->ke kj}{base:da}{N g:km Str}{qual:Str}{scope:Scope}{f:kf}{m:kj}{A:Wf}{outer:km Env}{s t:ki}{H:Hp}{E:XK}{o:km kj}{vs:km V}(S:Ev N g scope)(hd:A.handled=none)(d:RI P w K mg base A outer s H)(hl:vs.length=g.length)(r:A6 vs o)(x:InCallC s s.heap.objs.size (bindL (envOfC qual scope s.heap.objs.size f m).kindOf (g.zip o) λ_=>none) (cellsFrom (s.heap.objs.size+1) scope.names []) (bindC (envOfC qual scope s.heap.objs.size f m).kindOf (g.zip o) λ_=>none) t):Inv (V0 CX P w K mg base N qual scope f m A outer s H E) [] (start N vs) H t:=by
 have hpl:g.length<=N.length:=by have:=congrArg List.length S.pre;rw[AEX] at this;omega
 obtain⟨h1,B,rfl,hk⟩:=x.done;have j:∀b:kf,b ∉ (V0 CX P w K mg base N qual scope f m A outer s H E).ex:=λb z=>absurd (show b∈([] :km kf) from z) (by simp);refine⟨⟨d.mod,S.kind,rfl,rfl,AAY _,λy z c h1 h2=> ?_,λy hy=> ?_,λy c _ h=> ?_,λ_=>hd,Around.frames_deeper d.frames, .inr ⟨rfl,rfl⟩,λb z=>absurd z (j b),d.bs,d.bsz,λb _ _=>j b,λb z=>absurd z (j b),d.funs,d.frf⟩,
  rfl,d.bare,Un.kept hk,⟨_,x.toInCall.ns,λi y v h1 h2 C=> ?_⟩,λy c h=>⟨_,x.cell y c h⟩,d.hok.fresh (AAY _),λy c h=> ?_,λp hp=>absurd (show p∈([] :km (kf×Obj)) from hp) (by simp),d.hok.kept hk, ?_⟩
 .exact name_of_addr x.apart (ADG h1) (ADG h2)
 .have hy:scope.names.lookup y=some .cell\/scope.names.lookup y=some .free:=hy;rcases hy with hy|hy
  .exact Vv hy
  .exact absurd rfl (S.nofree _ (ADG hy))
 .exact ADp (x.above y c (ADG h))
 .have hi:i<vs.length:=by
   unfold start at h2;by_cases hi:i<vs.length
   .exact hi
   .rw [ABV (by simpa using hi)] at h2;rw[ACT] at h2;split at h2 <;> cases h2
  have ha:vs[i]? =some v:=by
   unfold start at h2;rw[ABF (by simpa using hi),AA0] at h2;cases e:vs[i]? with
   | none=>rw[e] at h2;cases h2
   | some a=>rw[e] at h2;cases h2;rfl
  obtain⟨u,hu,rv⟩:=r.get ha;have hp:g[i]? =some y:=by rw[<-S.pre,List.getElem?_take_of_lt (by omega)];exact h1
  have l:g.Nodup:=by rw[<-S.pre];exact S.nd.sublist (List.take_sublist _ _)
  refine⟨u,rv, ?_⟩;rcases S.par y (AA9 hp) with k|k
  .exact .inl ⟨k,R9 l hp hu k⟩
  .obtain ⟨c,e⟩:=Vv (n:=s.heap.objs.size+1) k;refine .inr ⟨.inl k,c,e, ?_⟩;have q:=x.cell y c e;rw[R7 l hp hu (by show scope.names.lookup y≠_;rw[k];decide)] at q;exact q
 .exact d.hok.fresh (ADp (x.above y c (ADG h)))
 .unfold start;show _=N.length;rw[AA8,AAb,ACO];omega
def rE {CX:aT}{P:gn}{w:fe}{K:AAR}{mg:Str->ke kj}{base:da}{k:Nat}{f:kf}{name qual:Str}{params:Arguments}{body:km Stmt}{scope:Scope}{B kV g C a ct M:kj}{D O:ke kf}{l:Array (ke kj)}{N j:km Str}{sp:Sp}(R:K.lookup f=some ⟨M,O, .func (PySem.W.fnOf name qual params body scope B kV g C D a ct),l⟩)(T:PySem.W.codeIn K a qual=true)(S:Ev N j scope)(len:∀vs H Q E,sp vs H Q E->vs.length=j.length)(U:∀(A:Wf) (outer:km Env) (s:ki) (H:Hp) (vs:km V) (Q:VK) (E:XK),Room k (A.deeper (envOfC qual scope s.heap.objs.size f a))->sp vs H Q E-> ∃t,ZA (V0 CX P w K mg base N qual scope f a A outer s H E) body t/\t {nx:=λ_ d=>Q .non d,rt:=Q} (start N vs) H):FA P w K mg base CX (k+1) f (PySem.W.fnOf name qual params body scope B kV g C D a ct) j sp:=by
 refine⟨len,λA outer s H args X vs Q E m h hb r F=> ?_⟩;have hl:=len _ _ _ _ F;have G:K.In s.heap:=h.mod.kin.keeps λb o e=>(h.bs b o e).1;have p:s.heap.NoLimit:=h.mod.nolimit.keeps λb o e=>(h.bs b o e).1;have Y:∀y∈j.zip X,scope.names.lookup y.1=some .local\/(scope.names.lookup y.1=some .cell/\((cellsFrom (s.heap.objs.size+1) scope.names []).lookup y.1).isSome=true):=λ⟨n,v⟩ hy=>by
  rcases S.par n (ABj hy).1 with q|q
  .exact .inl q
  .exact .inr ⟨q,AE4 _ _ _ (.inl q)⟩
 refine codeAny_call_function m.depth (G _ _ R) rfl S.co S.gen rfl (PySem.W.codeRec_of G T) (hb _ _ _ _ ?_);refine wpAny_newFunctionEnv_cells S.kind Y λenv he L x=> ?_;subst he;refine⟨p.keeps x.toInCall.keep,codeAny_func ?_⟩;obtain⟨t,Z,hq⟩:=U A outer s H vs Q E (m.deeper _) F;have I:Inv (V0 CX P w K mg base N qual scope f a A outer s H E) [] (start N vs) H L:=bM S m.hd h hl r x;refine ABM (Z [] L (start N vs) H _ I hq) (λfl z hs=> ?_) λe z hs=>hs;have i:∀{c:St} {d:Hp} {v:V} {u:kj},Inv (V0 CX P w K mg base N qual scope f a A outer s H E) [] c d z->RelV v u->Q v d->CE outer P w H s Q u z:=
  λ{c d v u} J rv q=>⟨v,d,J.os,J.bare,J.base,J.hok,rv,q⟩
 cases fl with
 | ret u=> obtain⟨v,c,d,J,rv,q⟩:=hs;exact i J rv q
 | next=> obtain⟨c,d,J,q⟩:=hs;exact i (v:=V.non) (u:=Value.none) J rfl q
 | brk=> obtain⟨_,_,_,q⟩:=hs;exact False.elim q
 | cont=> obtain⟨_,_,_,q⟩:=hs;exact False.elim q
section
variable {X:Cx}{x:Str}{p pos:Pos}{e:kd}{es:km kd}{t:TA}{id T:String}{r:km V->Hp->VK->Prop}
def wo (r:km V->Hp->VK->Prop)(t:TA):TE:=λa H Q=>t a H λvs b=>r vs b Q
def L4 (hc:DE X (.builtin id) r)(b:Gl X x)(c:X.mg x=none)(hv:bootBuiltins x=some (.builtin id))(ha:PA X (e::es) t)(hn:x≠"__name__" :=by decide)(hdb:(x==("__debug__" :Str))=false:=by decide)(he:starEach (e::es) X.env=(false,eval e X.env)::starEach es X.env:=by rfl)(hpl:(backTo pos (starEach es X.env)).any (·.1)=false:=by rfl):PE X (.Call (.Name x p) (e::es) [] pos) (wo r t):=by intro Tb s a H Q I h;refine ADu (F9 I b c hv ?_ hn hdb);exact AE5 (Bk (ha pos Tb s a H _ I h) λd f ⟨vs,g,i,r1,j⟩=>hc Tb f a g vs d Q i r1 j) he hpl
def JI (hc:DE X (.type T) r)(b:Gl X x)(c:X.mg x=none)(hv:bootBuiltins x=some (.type T))(ha:PA X (e::es) t)(hn:x≠"__name__" :=by decide)(hdb:(x==("__debug__" :Str))=false:=by decide)(he:starEach (e::es) X.env=(false,eval e X.env)::starEach es X.env:=by rfl)(hpl:(backTo pos (starEach es X.env)).any (·.1)=false:=by rfl):PE X (.Call (.Name x p) (e::es) [] pos) (wo r t):=by intro Tb s a H Q I h;refine ADu (F9 I b c hv ?_ hn hdb);exact ACe (Bk (ha pos Tb s a H _ I h) λd f ⟨vs,g,i,r1,j⟩=>hc Tb f a g vs d Q i r1 j) he hpl
end
end L2
namespace HT
open PySem PyProof.Rows
section
variable {prog:gn}{w:fe}{A:Wf}{E:kj->ki->Prop}{s:ki}
def cat_tup {t b:kf}{vs a:km kj}{Q:kj->ki->Prop}(o:IsTup s.heap t vs.toArray)(hb:IsTup s.heap b a.toArray)(hv:vs≠ [])(h1:a= [] ->Q (.ref t) s)(h2:a≠ [] ->Q (.ref s.heap.objs.size) {s with heap:=s.heap.push {cls:= .type "tuple",data:= .seq (vs++a).toArray}})(hsz:vs.length+a.length<=sizeLine):wpAny (model prog w) A (binaryOp .Add (.ref t) (.ref b)) Q E s:=by
 obtain⟨⟨cls,h,data,i⟩,f,hc,n,hd⟩:=id o;obtain⟨⟨j,c,data2,d⟩,g,k,l,m⟩:=id hb;simp only at hc hd k m;subst hc hd k m;have e:vs.toArray++a.toArray=(vs++a).toArray:=by simp
 by_cases hw:a= []
 .exact concat_meets ⟨_,f,rfl⟩ ⟨_,g,rfl⟩ AEY seq_tuple_add AEZ AEa (AEb _ _)
   (tuple_addW1 t b vs.toArray a.toArray n l h c i d (by simpa using hv) (by simp[hw])) ⟨f,g,h1 hw⟩
 .refine concat_meets ⟨_,f,rfl⟩ ⟨_,g,rfl⟩ AEY seq_tuple_add AEZ AEa (AEb _ _)
   (tuple_addW2 t b vs.toArray a.toArray n l h c i d (by simpa using hv) (by simpa using hw) (by rw[AAh,AAh];exact hsz)) ⟨f,g, ?_⟩
  rw[e];exact h2 hw
def sIx (n d:Nat):ke Int->Nat
 | none=>d
 | some v=>if v<0 then (v+(n:Int)).toNat else min v.toNat n
def sIx_none (n d:Nat):sIx n d none=d:=rfl
def sIx_nat (n d k:Nat):sIx n d (some (k:Int))=min k n:=by show (if (k:Int)<0 then ((k:Int)+(n:Int)).toNat else min (k:Int).toNat n)=min k n;rw[AAS (by omega),ACt]
def pN (n d:Nat)(hd:d<=n)(o:ke Int):sIx n d o<=n:=by
 cases o with
 | none=>exact hd
 | some v=>
   show (if v<0 then (v+(n:Int)).toNat else min v.toNat n)<=n;by_cases hv:v<0
   .rw [AAU hv];omega
   .rw [AAS hv];exact Nat.min_le_right _ _
def ZJ (v:Int)(n d:Nat):(if v<0 then max (v+(n:Int)) 0 else min v (n:Int))=((sIx n d (some v):Nat):Int):=by
 show (if v<0 then max (v+(n:Int)) 0 else min v (n:Int))=(((if v<0 then (v+(n:Int)).toNat else min v.toNat n):Nat):Int);by_cases hv:v<0
 .simp only[AAU hv];omega
 .simp only[AAS hv];omega
def Xc (lo hi:ke Int)(n:Nat):Builtin.Slice.sliceAdjust lo hi 1 (n:Int)=(((sIx n 0 lo:Nat):Int),((sIx n n hi:Nat):Int)):=by
 have h1:¬((1:Int)<0):=by omega
 unfold Builtin.Slice.sliceAdjust;simp only[h1,AAx];refine ACu ?_ ?_
 .cases lo with
  | none=>rfl
  | some v=>exact ZJ v n 0
 .cases hi with
  | none=>rfl
  | some v=>exact ZJ v n n
def Yb (i j:Nat):Builtin.Slice.slicePlaces (i:Int) (j:Int) 1=j-i:=by
 unfold Builtin.Slice.slicePlaces;have h1:(1:Int)>0:=by omega
 simp only[h1,ABK,Int.ediv_one];split <;> omega
def Qv {v:kj}{o:ke Int}{Q:ke Int->ki->Prop}(p:IsPart v o)(h:Q o s):wpAny (model prog w) A (Builtin.Slice.slicePartIndex v) Q E s:=by
 cases p with
 | none=>exact slicePart_none h
 | int i t=>exact slicePart_int h
def sliceApplied_gen {e:kf}{a b:kj}{lo hi:ke Int}{n:Nat}{Q:Int×Int×Nat->ki->Prop}(hs:s.heap.IsSliceOf e a b .none)(f:IsPart a lo)(g:IsPart b hi)(h:Q (((sIx n 0 lo:Nat):Int),1,sIx n n hi-sIx n 0 lo) s):wpAny (model prog w) A (Builtin.Slice.sliceApplied (.ref e) (pure (n:Int))) Q E s:=by obtain⟨os,c,i,d⟩:=id hs;unfold Builtin.Slice.sliceApplied Builtin.Slice.sliceFields;refine AAQ (AAQ (AAm c d (x:=a) rfl (AAQ (AAm c d (x:=b) rfl (AAQ (AAm c d (x:= .none) rfl (AAT ?_)))))));refine AAQ (slicePart_none ?_);show wpAny _ _ (if ((1:Int)==0)=true then _ else _) _ _ s;rw[AAS (by decide)];refine AAQ (Qv f (AAQ (Qv g (AAQ (AAT ?_)))));show wpAny _ _ (match Builtin.Slice.sliceAdjust lo hi 1 (n:Int) with | (lo,hi)=>pure (lo,(1:Int),Builtin.Slice.slicePlaces lo hi 1)) _ _ s;rw[Xc lo hi n];show wpAny _ _ (pure (((sIx n 0 lo:Nat):Int),(1:Int),Builtin.Slice.slicePlaces ((sIx n 0 lo:Nat):Int) ((sIx n n hi:Nat):Int) 1)) _ _ s;rw[Yb];exact AAT h
def gT (xs:Array kj)(i k:Nat):((List.range k).filterMap λ(m:Nat)=>xs[((i:Int)+(m:Int)*1).toNat]?).toArray=((xs.toList.drop i).take k).toArray:=by
 have e:(λ(m:Nat)=>xs[((i:Int)+(m:Int)*1).toNat]?)=λm=>xs[i+m]? :=by
  funext m
  have:((i:Int)+(m:Int)*1).toNat=i+m:=by omega
  rw[this]
 rw[e];have:=pick_run xs i k;rw[List.filterMap_map] at this;have a:((λx=>xs[x]?) ∘ λx=>i+x)=λm=>xs[i+m]? :=rfl;rw[a] at this;rw[this]
def getItem_tuple_cut {t c:kf}{items:Array kj}{d e:kj}{lo hi:ke Int}{Q:kj->ki->Prop}(a:IsTup s.heap t items)(hs:s.heap.IsSliceOf c d e .none)(f:IsPart d lo)(g:IsPart e hi)(hw:¬(sIx items.size 0 lo=0/\sIx items.size items.size hi=items.size))(h:Q (.ref s.heap.objs.size) {s with heap:=s.heap.push {cls:= .type "tuple",data:= .seq ((items.toList.drop (sIx items.size 0 lo)).take (sIx items.size items.size hi-sIx items.size 0 lo)).toArray}})(hsz:items.size<=sizeLine):wpAny (model prog w) A (getItem (.ref t) (.ref c)) Q E s:=by
 have b:sizeOk (.seq ((items.toList.drop (sIx items.size 0 lo)).take (sIx items.size items.size hi-sIx items.size 0 lo)).toArray):=by show ((items.toList.drop (sIx items.size 0 lo)).take (sIx items.size items.size hi-sIx items.size 0 lo)).toArray.size<=sizeLine;rw[AAh,AEX,List.length_drop,ACb];omega
 have hj:sIx items.size items.size hi<=items.size:=pN _ _ (AAY _) hi;obtain⟨os,i,j,n⟩:=id hs;have k:s.TypeIs (.ref c) "slice" :=⟨os,i,j⟩;unfold getItem;try with_reducible refine ABL ?_
 first | refine AAQ (AAT ?_)|skip
 refine AAQ (wpAny_sequenceKey a.typeIs (by decide) ?_);refine AAQ (ABc (name:=Str.ofString "__getitem__") a.typeIs ACU
  (ABH ACU a.typeIs entry_tuple_getitem ?_ (args_tuple_getitem _ _)))
 show wpAny _ _ (Builtin.Tuple.tupleItemsOf (.ref t) >>= _) _ _ s;refine AAQ (tupleItemsOf_ a ?_);refine AAQ (ADH k ?_);rw[AAU (by decide)];refine AAQ (sliceApplied_gen hs f g ?_);have l:¬((((sIx items.size 0 lo:Nat):Int)==0&&(1:Int)==1&&(sIx items.size items.size hi-sIx items.size 0 lo)==items.size)=true):=by intro q;rw[ABJ,ABJ] at q;have o:((sIx items.size 0 lo:Nat):Int)=0:=eq_of_beq q.1.1;have p:sIx items.size items.size hi-sIx items.size 0 lo=items.size:=eq_of_beq q.2;exact hw ⟨by omega,by omega⟩
 show wpAny _ _ (if (((sIx items.size 0 lo:Nat):Int)==0&&(1:Int)==1&&(sIx items.size items.size hi-sIx items.size 0 lo)==items.size)=true then _ else _) _ _ s;rw[AAS l,gT];first
  | exact AAQ (m:=Builtin.Tuple.tupleExact _) (ABN (AAT ⟨_,rfl,AAT h⟩) b)
  | exact AAQ (m:=Builtin.Tuple.tupleExact _) (ABN (AAQ (AAT (AAT ⟨_,rfl,AAT h⟩))) b)
  | exact AAQ (AAQ (m:=Builtin.Tuple.tupleExact _) (ABN (AAT (AAT ⟨_,rfl,AAT h⟩)) b))
  | exact AAQ (AAQ (m:=Builtin.Tuple.tupleExact _) (ABN (AAT ⟨_,rfl,AAT h⟩) b))
end
end HT
namespace L2
open PySem PySem.Spec PyProof.Rows
abbrev TO:=St->Hp->(ke Int->Hp->Prop)->Prop
def PO (X:Cx)(e:ke kd)(t:TO):Prop:=
 ∀(Tb:km (kf×Obj)) (s:ki) (a:St) (H:Hp) (Q:ke Int->Hp->Prop),Inv X Tb a H s->t a H Q->
  wpAny (model X.prog X.w) X.A (evalPart e X.env) (λu c=>∃o b,Inv X Tb a b c/\IsPart u o/\Q o b) X.xe s
def lK:TO:=λ_ H Q=>Q none H
def uH (t:TE):TO:=λa H Q=>t a H λx b=>∃i,x= .int i/\Q (some i) b
section
variable {X:Cx}{e:kd}{te:TE}{lo hi:ke kd}{tl th:TO}{pos p2:Pos}
def kO:PO X none lK:=by intro Tb s a H Q I h;rw[evalPart_none];exact AAT ⟨none,H,I, .none,h⟩
def kP (h:PE X e te):PO X (some e) (uH te):=by intro Tb s a H Q I hw;rw[evalPart_some];refine Bk (h Tb s a H _ I hw) λu f ⟨x,b,c,r1,d⟩=> ?_;obtain⟨i,rfl,q⟩:=d;obtain⟨t,rfl⟩:=r1;exact⟨some i,b,c, .int i t,q⟩
def lZ (X:Cx)(r:V->ke Int->ke Int->Hp->VK->Prop):Prop:=
 ∀(Tb:km (kf×Obj)) (s:ki) (a:St) (H:Hp) (x:V) (v b c:kj) (lo hi:ke Int) (d:kf) (Q:VK),Inv X Tb a H s->RelV x v->s.heap.IsSliceOf d b c .none->IsPart b lo->IsPart c hi->r x lo hi H Q->
  ∃T id,typeLookup (.type T) "__getitem__" =pure (some (.builtin id))/\s.TypeIs v T/\wpAny (model X.prog X.w) X.A (getItem v (.ref d)) (EP X Tb a Q) X.xe s
def lZ.or {r a:V->ke Int->ke Int->Hp->VK->Prop}(h:lZ X r)(h':lZ X a):lZ X (λx lo hi H Q=>r x lo hi H Q\/a x lo hi H Q):=by
 intro Tb s b H x v c d lo hi f Q I g hs i j q;rcases q with q|q
 .exact h Tb s b H x v c d lo hi f Q I g hs i j q
 .exact h' Tb s b H x v c d lo hi f Q I g hs i j q
def tSl (r:V->ke Int->ke Int->Hp->VK->Prop)(te:TE)(tl th:TO):TE:=λa H Q=>te a H λx b=>tl a b λl c=>th a c λu d=>r x l u d Q
def gR {r:V->ke Int->ke Int->Hp->VK->Prop}(i:lZ X r)(he:PE X e te)(hl:PO X lo tl)(hu:PO X hi th):PE X (.Subscript e (.Slice lo hi none p2) pos) (tSl r te tl th):=by intro Tb s c H Q I h;refine Subscript_ (Bk (he Tb s c H _ I h) λv j ⟨x,k,m,r1,n⟩=> ?_);refine wpAny_Slice (Bk (hl Tb j c k _ m n) λd o ⟨l,p,t,y,z⟩=>Bk (hu Tb o c p _ t z) λf a ⟨u,g,B,C,D⟩=> ?_);rw[evalPart_none];refine AAT ?_;have E:Inv X Tb c g {a with heap:=a.heap.push {cls:= .type "slice",data:= .fields #[d,f, .none] }}:=B.kept (t':=a.toks) λb K q=>AAX _ q;obtain⟨T,id,F,G,J⟩:=i Tb {a with heap:=a.heap.push {cls:= .type "slice",data:= .fields #[d,f, .none] }} c g x v d f l u a.heap.objs.size Q E r1 (Heap.IsSliceOf.new ..) y C D;show wpAny (model X.prog X.w) X.A (subscriptTail e (.Slice lo hi none p2) v (.ref a.heap.objs.size)) (EP X Tb c Q) X.xe {a with heap:=a.heap.push {cls:= .type "slice",data:= .fields #[d,f, .none] }};exact tail_any (ops:= [.ref a.heap.objs.size,v]) G F J (by with_unfolding_all rfl)
def RP (xs:km V)(lo hi:ke Int):km V:=(xs.drop (HT.sIx xs.length 0 lo)).take (HT.sIx xs.length xs.length hi-HT.sIx xs.length 0 lo)
def Nk (xs:km V)(lo hi:ke Int):(RP xs lo hi).length<=xs.length:=by unfold RP;rw[AEX,List.length_drop];omega
def wd (K:AAR):V->ke Int->ke Int->Hp->VK->Prop:=λx lo hi H Q=>∃a xs,x= .ref a/\LW K H a xs/\
 ¬(HT.sIx xs.length 0 lo=0/\HT.sIx xs.length xs.length hi=xs.length)/\∀p,H p=none->Q (.ref p) (upd H p (.tup (RP xs lo hi)))
def pW:lZ X (wd X.K):=by
 intro Tb s k H x v l m lo hi n Q I g hs i j h;obtain⟨a,xs,rfl,hx,hw,q⟩:=h;cases g;obtain⟨c,r,f,hz⟩:=I.tuple hx;have d:c.toArray.size=xs.length:=by rw[AAh];exact r.length.symm
 refine⟨"tuple",_,ACU.lookup,f.typeIs, ?_⟩;refine HT.getItem_tuple_cut f hs i j (by rw[d];exact hw) ?_ (by rw[d];exact hz);rw[d];refine⟨.ref s.heap.objs.size,_,I.laid (t':=s.toks) (o:= .tup (RP xs lo hi)) (λb p q=>AAX _ q) (AAY _) ?_,rfl,q _ (I.hok.fresh (AAY _))⟩;exact⟨AAu (Nk xs lo hi) hz,_,(r.drop (HT.sIx xs.length 0 lo)).take (HT.sIx xs.length xs.length hi-HT.sIx xs.length 0 lo),IsTup.new _ _⟩
def mM (K:AAR):R2:=λx y H Q=>∃a b xs ys,x= .ref a/\y= .ref b/\LW K H a xs/\LW K H b ys/\xs≠ [] /\xs.length+ys.length<=sizeLine/\
 (ys= [] ->Q (.ref a) H)/\(ys≠ [] ->∀p,H p=none->Q (.ref p) (upd H p (.tup (xs++ys))))
def A6.nil_iff {xs:km V}{a:km kj}(r:A6 xs a):a= [] ↔xs= [] :=by
 cases r with
 | nil=>simp
 | cons _ _=>simp
def j8:ET X (binaryOp .Add) (mM X.K):=by intro Tb s k H x y v u Q I d f h;obtain⟨a,b,xs,ys,rfl,rfl,ha,hb,hx,hz,g,i⟩:=h;cases d;cases f;obtain⟨j,r1,p1,_⟩:=I.tuple ha;obtain⟨c,r2,p2,_⟩:=I.tuple hb;refine HT.cat_tup p1 p2 (λz=>hx (r1.nil_iff.mp z)) (λz=>⟨.ref a,H,I,rfl,g (r2.nil_iff.mp z)⟩) (λz=> ?_) (by rw[<-r1.length,<-r2.length];exact hz);refine⟨.ref s.heap.objs.size,_,I.laid (t':=s.toks) (o:= .tup (xs++ys)) (λb l q=>AAX _ q) (AAY _) ?_,rfl,i (λw=>z (r2.nil_iff.mpr w)) _ (I.hok.fresh (AAY _))⟩;exact⟨by rw[AA8];exact hz,_,r1.append r2,IsTup.new _ _⟩
end
def Oi (n:Nat)(i:Int):ke Nat:=if 0<=i then (if i<n then some i.toNat else none) else if -(n:Int)<=i then some (i+n).toNat else none
def JA {a:Type}(xs:km a)(i:Int):ke a:=(Oi xs.length i).bind λj=>xs[j]?
def Zj {n:Nat}{i:Int}{j:Nat}(h:Oi n i=some j):seqIndex? i n=some j/\j<n/\ -(n:Int)<=i/\i<n:=by
 unfold Oi at h;by_cases a:0<=i
 .rw [AAU a] at h;by_cases h1:i<n
  .rw [AAU h1] at h;have e:i.toNat=j:=AAn h;exact⟨by rw[seqIndex_of a h1,e],by omega,by omega,h1⟩
  .rw [AAS h1] at h;cases h
 .rw [AAS a] at h;by_cases h1: -(n:Int)<=i
  .rw [AAU h1] at h;have e:(i+n).toNat=j:=AAn h;exact⟨by rw[seqIndex_neg (by omega) h1,e],by omega,h1,by omega⟩
  .rw [AAS h1] at h;cases h
def ZE {a:Type}{xs:km a}{i:Int}{v:a}(h:JA xs i=some v):∃j,seqIndex? i xs.length=some j/\xs[j]? =some v/\j<xs.length/\ -(xs.length:Int)<=i/\i<xs.length:=by
 unfold JA at h;cases e:Oi xs.length i with
 | none=>rw[e] at h;cases h
 | some j=> rw[e] at h;obtain⟨h1,h2,b,c⟩:=Zj e;exact⟨j,h1,h,h2,b,c⟩
def Ci {a:Type}{xs:km a}{j:Nat}{v:a}(h:xs[j]? =some v):JA xs (j:Int)=some v:=by
 have hj:j<xs.length:=(AAy.mp h).1;have e:Oi xs.length (j:Int)=some j:=by unfold Oi;rw[AAU (by omega),AAU (by omega)];simp
 unfold JA;rw[e];exact h
def Te (b:kd):Prop:=∀o i,subscripted b false o i=operate [o,i] (getItem o i)
def iy (X:Cx)(r:R2):Prop:=
 ∀(value slice:kd) (Tb:km (kf×Obj)) (s:ki) (a:St) (H:Hp) (x y:V) (v u:kj) (Q:VK),Inv X Tb a H s->RelV x v->RelV y u->r x y H Q->
  subscripted slice false v u=operate [v,u] (getItem v u)->wpAny (model X.prog X.w) X.A (subscriptTail value slice v u) (EP X Tb a Q) X.xe s
def qo (X:Cx)(id:String)(r:V->km V->Hp->VK->Prop):Prop:=
 ∀(Tb:km (kf×Obj)) (s:ki) (a:St) (H:Hp) (x:V) (xs:km V) (v:kj) (b:km kj) (Q:VK),Inv X Tb a H s->RelV x v->A6 xs b->r x xs H Q->
  wpAny (model X.prog X.w) X.A (call (.builtin id) (v::b)) (EP X Tb a Q) X.xe s
section
variable {X:Cx}{a b:kd}{ta tb:TE}{pos:Pos}
def iy.or {r c:R2}(h:iy X r)(h':iy X c):iy X (λx y H Q=>r x y H Q\/c x y H Q):=by
 intro value slice Tb s d H x y v u Q I e f q hs;rcases q with q|q
 .exact h value slice Tb s d H x y v u Q I e f q hs
 .exact h' value slice Tb s d H x y v u Q I e f q hs
def qo.or {id:String}{r c:V->km V->Hp->VK->Prop}(h:qo X id r)(h':qo X id c):qo X id (λx xs H Q=>r x xs H Q\/c x xs H Q):=by
 intro Tb s d H x xs v e Q I f rs q;rcases q with q|q
 .exact h Tb s d H x xs v e Q I f rs q
 .exact h' Tb s d H x xs v e Q I f rs q
def Ny {r:R2}(c:iy X r)(ha:PE X a ta)(hb:PE X b tb)(hs:Te b):PE X (.Subscript a b pos) (lM r ta tb):=by intro Tb s d H Q I h;exact Subscript_ (nG ha hb I h λv u e x y f g i j q=>c a b Tb e d f x y v u Q g i j q (hs _ _))
def tJ (K:AAR):R2:=λx y H Q=>∃p xs i v,x= .ref p/\y= .int i/\Fs K H p xs/\JA xs i=some v/\Q v H
def tL (K:AAR):R2:=λx y H Q=>∃p xs i v,x= .ref p/\y= .int i/\LW K H p xs/\JA xs i=some v/\Q v H
def Fz:iy X (tJ X.K):=by
 intro value slice Tb s g H x y v u Q I l m h hs;obtain⟨p,xs,i,z,rfl,rfl,hq,he,q⟩:=h;cases l;obtain⟨t,rfl⟩:=m;obtain⟨d,r,e,hz⟩:=I.list hq;obtain⟨j,h1,h2,B,n,o⟩:=ZE he;obtain⟨w,ew,f⟩:=r.get h2;have hl:=r.length;have hn:=NA;have c:EP X Tb g Q w s:=⟨z,H,I,f,q⟩;by_cases k:0<=i
 .have hj:i.toNat=j:=by rw[seqIndex_of k o] at h1;exact AAn h1
  exact item_listR e.isList k (by omega) (by rw[hj];simpa using ew) c hs
 .have hj:(i+(d.toArray.size:Int)).toNat=j:=by rw[seqIndex_neg (by omega) n] at h1;rw[AAh,<-hl];exact AAn h1
  exact subscriptTail_builtinR (x:=w) e.isList.typeIs slot_list_getitem.lookup
   (wpAny_getItem_list_neg (Q:=λr A=>r=w/\EP X Tb g Q r A) e.isList (by omega) (by rw[AAh] <;> omega) (by omega) (by rw[hj];simpa using ew) ⟨rfl,c⟩) hs
def oB:iy X (tL X.K):=by
 intro value slice Tb s e H x y v u Q I g k h hs;obtain⟨p,xs,i,z,rfl,rfl,hq,he,q⟩:=h;cases g;obtain⟨t,rfl⟩:=k;obtain⟨l,r,f,hz⟩:=I.tuple hq;obtain⟨j,h1,h2,n,o,A⟩:=ZE he;obtain⟨w,ew,c⟩:=r.get h2;have hl:=r.length;have hn:=NA;have d:EP X Tb e Q w s:=⟨z,H,I,c,q⟩;exact subscriptTail_builtinR (x:=w) f.typeIs slot_tuple_getitem.lookup
  (getItem_tuple (j:=j) (Q:=λr m=>r=w/\EP X Tb e Q r m) f (by omega) (by omega) (by rw[AAh,<-hl];exact h1) (by simpa using ew) ⟨rfl,d⟩) hs
def YC (c:km kj)(n j:Nat)(u:kj):Obj.mapSeq (·.setIfInBounds j u) {cls:= .type "list",data:= .seq c.toArray n}={cls:= .type "list",data:= .seq (c.set j u).toArray n}:=by simp[Obj.mapSeq]
def Inv.lst {Tb:km (kf×Obj)}{d:St}{H:Hp}{s:ki}{p:kf}{xs:km V}(I:Inv X Tb d H s)(h:H p=some (.lst xs)):∃(c:km kj) (n:Nat),A6 xs c/\s.heap.get? p=some {cls:= .type "list",data:= .seq c.toArray n}/\xs.length<=sizeLine:=by obtain⟨z,c,n,r,e⟩:=I.hok p _ h;exact⟨c,n,r,e,z⟩
def Inv.lstUpd {Tb:km (kf×Obj)}{g:St}{H:Hp}{s:ki}{p:kf}{xs ys:km V}{c its':km kj}{n d:Nat}{f:Obj->Obj}(I:Inv X Tb g H s)(h:H p=some (.lst xs))(j:s.heap.get? p=some {cls:= .type "list",data:= .seq c.toArray n})(i:f {cls:= .type "list",data:= .seq c.toArray n}={cls:= .type "list",data:= .seq its'.toArray d})(r:A6 ys its')(hz:ys.length<=sizeLine)(t:Nat):Inv X Tb g (upd H p (.lst ys)) {s with heap:=s.heap.update p f,toks:=t}:=by
 have e:(s.heap.update p f).get? p=some {cls:= .type "list",data:= .seq its'.toArray d}:=by rw[ACf f j (by rw[i] <;> rfl),i]
 refine I.write (x:=p) (e:=p) (by rw[h];trivial) (.inl rfl) (λb u hb q=>(ADI _ _ (ABQ hb)).trans q) ⟨_,e⟩ ?_;exact⟨hz,its',d,r,e⟩
def tO:V->V->V->Hp->(Hp->Prop)->Prop:=λo i v H Q=>∃p xs k j,o= .ref p/\i= .int k/\H p=some (.lst xs)/\Oi xs.length k=some j/\Q (upd H p (.lst (xs.set j v)))
def Qr:qr X tO:=by
 intro Tb s m H o i v y z u Q I w x rv h;obtain⟨p,xs,k,j,rfl,rfl,hp,hj,q⟩:=h;cases w;obtain⟨t,rfl⟩:=x;obtain⟨c,n,r,d,hz⟩:=I.lst hp;obtain⟨h1,h2,e,f⟩:=Zj hj;have hl:=r.length;have hn:=NA;have g:Inv X Tb m (upd H p (.lst (xs.set j v))) {s with heap:=s.heap.update p (Obj.mapSeq (·.setIfInBounds j u))}:=
  I.lstUpd hp d (YC c n j u) (r.set rv j) (by rw[List.length_set];exact hz) s.toks
 by_cases l:0<=k
 .have hk:k.toNat=j:=by rw[seqIndex_of l f] at h1;exact AAn h1
  exact PySem.W.ki_setAt d l (by omega) (by rw[AAh,<-hl];exact f) (by rw[hk];exact⟨_,g,q⟩)
 .have hk:(k+(c.toArray.size:Int)).toNat=j:=by rw[seqIndex_neg (by omega) e] at h1;rw[AAh,<-hl];exact AAn h1
  exact PySem.W.ki_setBack d (by omega) (by rw[AAh,<-hl];exact e) (by omega) (by rw[hk];exact⟨_,g,q⟩)
def Uz (lo hi:ke Int)(n:Nat):(sliceBounds lo hi none n).1=((HT.sIx n 0 lo:Nat):Int)/\(sliceBounds lo hi none n).2.1=((HT.sIx n n hi:Nat):Int)/\(sliceBounds lo hi none n).2.2=1:=by
 refine⟨?_, ?_,rfl⟩
 .cases lo with
  | none=>simp[sliceBounds,HT.sIx]
  | some i=>
    simp only[sliceBounds,HT.sIx,Option.getD_none,show (1:Int)>0 by decide,ABK];by_cases h:i<0
    .simp only[h,ABK] <;> omega
    .simp only[h,AAx] <;> omega
 .cases hi with
  | none=>simp[sliceBounds,HT.sIx]
  | some i=>
    simp only[sliceBounds,HT.sIx,Option.getD_none,show (1:Int)>0 by decide,ABK];by_cases h:i<0
    .simp only[h,ABK] <;> omega
    .simp only[h,AAx] <;> omega
def Rq (c:km kj)(lo hi:ke Int):slicePick c.toArray lo hi none=((c.drop (HT.sIx c.length 0 lo)).take (HT.sIx c.length c.length hi-HT.sIx c.length 0 lo)).toArray:=by obtain⟨h1,h2,d⟩:=Uz lo hi c.toArray.size;unfold slicePick;rw[h1,h2,d];simp only[sliceRange_one,pick_run,AAh] <;> rfl
def wc (K:AAR):V->ke Int->ke Int->Hp->VK->Prop:=λx lo hi H Q=>∃a xs,x= .ref a/\Fs K H a xs/\∀p,H p=none->Q (.ref p) (upd H p (.lst (RP xs lo hi)))
def lE:lZ X (wc X.K):=by intro Tb s j H x v k l lo hi m Q I d hs e f h;obtain⟨a,xs,rfl,hx,q⟩:=h;cases d;obtain⟨g,r,c,hz⟩:=I.list hx;have i:=r.length;refine⟨"list",_,slot_list_getitem.lookup,c.isList.typeIs, ?_⟩;refine wpAny_getItem_list_slice c.isList hs e f .none (by simp) ?_ (by rw[AAh] <;> omega);rw[Rq,<-i];refine⟨.ref s.heap.objs.size,_,I.laid (t':=s.toks) (o:= .lst (RP xs lo hi)) (λb n q=>AAX _ q) (AAY _) ?_,rfl,q _ (I.hok.fresh (AAY _))⟩;exact⟨AAu (Nk xs lo hi) hz,_,0,(r.drop (HT.sIx xs.length 0 lo)).take (HT.sIx xs.length xs.length hi-HT.sIx xs.length 0 lo),AAd _ rfl⟩
def Ld:DE X (.builtin "len") (λxs H Q=>∃p ys,xs= [.ref p] /\(Fs X.K H p ys\/LW X.K H p ys)/\Q (.int ys.length) H):=by
 intro Tb s i H xs j Q I r h;obtain⟨p,ys,rfl,hq,q⟩:=h;obtain⟨u,rfl,g⟩:=vals1 r;cases g;have hn:=NA;rcases hq with hq|hq
 .obtain ⟨c,d,e,hz⟩:=I.list hq;have f:=d.length;exact Calls.call_len_list e.isList (by simp only[AAh] <;> omega) ⟨.int ys.length,H,I.tok _,⟨s.toks+1,by rw[AAh,f]⟩,q⟩
 .obtain ⟨c,d,e,hz⟩:=I.tuple hq;have f:=d.length;exact len_tuple e (by simp only[AAh] <;> omega) ⟨.int ys.length,H,I.tok _,⟨s.toks+1,by rw[AAh,f]⟩,q⟩
def DE.or {f:kj}{r c:km V->Hp->VK->Prop}(h:DE X f r)(h':DE X f c):DE X f (λxs H Q=>r xs H Q\/c xs H Q):=by
 intro Tb s d H xs e Q I rs q;rcases q with q|q
 .exact h Tb s d H xs e Q I rs q
 .exact h' Tb s d H xs e Q I rs q
def Tj:DE X (.type "list") (λxs H Q=>∃p ys,xs= [.ref p] /\(Fs X.K H p ys\/LW X.K H p ys)/\∀l,H l=none->Q (.ref l) (upd H l (.lst ys))):=by
 intro Tb s t H xs y Q I r h;obtain⟨p,ys,rfl,hq,q⟩:=h;obtain⟨u,rfl,v⟩:=vals1 r;cases v;have g:∀(c:km kj),A6 ys c->ys.length<=sizeLine->∀(h':da) (d:Nat),(∀b m,s.heap.get? b=some m->h'.get? b=some m)->
  h'.get? s.heap.objs.size=some {cls:= .type "list",dict:=none,data:= .seq c.toArray d,slots:= #[] }->EP X Tb t Q (.ref s.heap.objs.size) {s with heap:=h'}:=λc f hz h' d i e=>
  ⟨.ref s.heap.objs.size,_,I.laid (t':=s.toks) i (AAY _) (show Dd X.prog X.w _ h' _ (.lst ys) from⟨hz,c,d,f,e⟩),rfl,q _ (I.hok.fresh (AAY _))⟩
 rcases hq with hq|hq
 .obtain ⟨c,f,j,hz⟩:=I.list hq;have x:=f.length;obtain⟨o,k,hc,n,hd⟩:=j.isList;exact call_list_seq p (.inl rfl) k hc hd (λh' d i e=>g c f hz h' d i e) (by simp only[AAh] <;> omega)
 .obtain ⟨c,f,j,hz⟩:=I.tuple hq;have x:=f.length;obtain⟨o,k,hc,n,hd⟩:=j;exact call_list_seq p (.inr rfl) k hc hd (λh' d i e=>g c f hz h' d i e) (by simp only[AAh] <;> omega)
def RO:DE X (.type "tuple") (λxs H Q=>∃p ys,xs= [.ref p] /\((Fs X.K H p ys/\∀l,H l=none->Q (.ref l) (upd H l (.tup ys)))\/(LW X.K H p ys/\Q (.ref p) H))):=by
 intro Tb s g H xs n Q I r h;obtain⟨p,ys,rfl,h⟩:=h;obtain⟨u,rfl,j⟩:=vals1 r;cases j;rcases h with⟨hq,q⟩|⟨hq,q⟩
 .obtain ⟨c,d,f,hz⟩:=I.list hq;have t:=d.length;refine call_tuple_list f.isList (λh' k=> ?_) (by simp only[AAh] <;> omega);have i:Inv X Tb g H {s with heap:=h'}:=I.kept (t':=s.toks) k;have m:Inv X Tb g (upd H h'.objs.size (.tup ys)) {s with heap:=h'.push {cls:= .type "tuple",data:= .seq c.toArray}}:=
   i.laid (t':=s.toks) (λb o e=>AAX _ e) (AAY _) (show Dd X.prog X.w _ _ _ (.tup ys) from⟨hz,c,d,IsTup.new _ _⟩)
  exact⟨.ref h'.objs.size,_,m,rfl,q _ (i.hok.fresh (AAY _))⟩
 .obtain ⟨c,d,f,hz⟩:=I.tuple hq;exact call_tuple_same f ⟨.ref p,H,I,rfl,q⟩
def y9 (K:AAR)(T:String)(x:V)(H:Hp):Prop:=match x with
 | .str _=>T="str"
 | .int _=>T="int"
 | .ref p=>(T="list" /\∃xs,Fs K H p xs)\/(T="tuple" /\∃o,K.lookup p=some o/\o.cls= .type "tuple" /\o.dict=none)\/
     (T="dict" /\((∃c,H p=some (.dK c))\/∃c,H p=some (.dT c)))\/(T="set" /\∃S n,H p=some (.set S n))
 | _=>False
def pq {Tb:km (kf×Obj)}{k:St}{H:Hp}{s:ki}{T:String}{x:V}{v:kj}(I:Inv X Tb k H s)(r:RelV x v)(d:y9 X.K T x H):s.TypeIs v T/\∀a,v= .ref a->∃h,s.heap.get? a=some h/\h.dict=none:=by
 cases x with
 | str z=> obtain⟨t,rfl⟩:=r;cases (show T="str" from d);exact⟨typeIs_str s z t,λ_ e=>nomatch e⟩
 | int i=> obtain⟨t,rfl⟩:=r;cases (show T="int" from d);exact⟨typeIs_int s i t,λ_ e=>nomatch e⟩
 | ref p=>
   cases r;rcases d with⟨rfl,xs,hq⟩|⟨rfl,o,hk,hc,hd⟩|⟨rfl,hk⟩|⟨rfl,S,n,hk⟩
   .obtain ⟨l,_,j,_⟩:=I.list hq;refine⟨j.isList.typeIs,λa e=> ?_⟩;cases e;obtain⟨o,n,e,c,hd,_⟩:=j;exact⟨o,e,hd⟩
   .refine ⟨⟨o,I.kIn p o hk,hc⟩,λa e=> ?_⟩;cases e;exact⟨o,I.kIn _ o hk,hd⟩
   .have z:∃o,s.heap.get? p=some o/\o.ExactDict:=by
     rcases hk with⟨f,hk⟩|⟨f,hk⟩
     .obtain ⟨_,_,_,_,o,_,_,e,ex,_⟩:=I.hok p _ hk;exact⟨o,e,ex⟩
     .obtain ⟨_,_,_,_,o,_,_,e,ex,_⟩:=I.hok p _ hk;exact⟨o,e,ex⟩
    obtain⟨o,e,ex⟩:=z;refine⟨⟨o,e,ex.1⟩,λa g=> ?_⟩;cases g;exact⟨o,e,ex.2.1⟩
   .obtain ⟨o,_,_,_,e,ex,_⟩:=I.hok p _ hk;refine⟨⟨o,e,ex.1⟩,λa g=> ?_⟩;cases g;exact⟨o,e,ex.2.1⟩
 | _=>exact False.elim d
def y8 (K:AAR)(T:String)(r:V->km V->Hp->VK->Prop)(e:TE)(t:TA):TE:=λc H Q=>e c H λx d=>y9 K T x d/\t c d λxs f=>r x xs f Q
variable {o e:kd}{es:km kd}{to:TE}{t:TA}{name:Str}{apos cpos:Pos}{T id:String}{r:V->km V->Hp->VK->Prop}
def tE (g:PlainAttrs T)(slot:Slot T name id)(i:typeOf (.builtin id)=pure (.type "method_descriptor"))(j:qo X id r)(k:PE X o to)(ha:PA X (e::es) t)(l:attributeBase o name X.env (eval o X.env)=eval o X.env:=by rfl)(m:((backTo cpos (starEach (e::es) X.env)).all (λx=> !x.1)&&(backToKw cpos (keywordEach [] X.env)).all (λx=>x.1.isSome) && decide ((e::es).length+([] :km Keyword).length+(if ([] :km Keyword).isEmpty then 0 else 1)<30))=true:=by rfl)(n:(apos.endLine==cpos.line)=true:=by rfl)(hs:starEach (e::es) X.env=(false,eval e X.env)::starEach es X.env:=by rfl)(p:(backTo cpos (starEach es X.env)).any (·.1)=false:=by rfl):PE X (.Call (.Attribute o name apos) (e::es) [] cpos) (y8 X.K T r to t):=by intro Tb s c H Q I h;refine wpAny_Call_method_late l m n rfl (Bk (k Tb s c H _ I h) λv u ⟨x,w,d,r1,y,z⟩=> ?_);obtain⟨h1,h2⟩:=pq d r1 y;refine⟨T,id,g,slot,i,h1,h2, ?_⟩;have f:=ha cpos Tb u c w _ d z;rw[hs] at f ⊢;refine Calls.callWith_builtin (by show (false||(backTo cpos (starEach es X.env)).any (·.1))=false;rw[p] <;> rfl) (Calls.evalArgs_plain ?_);exact Bk f λA B ⟨vs,C,D,r2,E⟩=>j Tb B c C x vs v A Q D r1 r2 E
end
def qm (X:Cx)(id:String)(r:V->km V->Hp->VK->Prop):Prop:=
 ∀(Tb:km (kf×Obj)) (s:ki) (a:St) (H:Hp) (x:V) (xs:km V) (v:kj) (b:km kj) (Q:VK),Inv X Tb a H s->RelV x v->A6 xs b->r x xs H Q->
  wpAny (model X.prog X.w) X.A (call (.builtin id) (v::b)) (EP X Tb a Q) X.xe s
def A6.one:∀{x:V} {a:km kj},A6 [x] a->∃u,a= [u] /\RelV x u
 | _,_, .cons r .nil=>⟨_,rfl,r⟩
def A6.two:∀{x y:V} {a:km kj},A6 [x,y] a->∃u v,a= [u,v] /\RelV x u/\RelV y v
 | _,_,_, .cons r (.cons q .nil)=>⟨_,_,rfl,r,q⟩
def A6.zero:∀{a:km kj},A6 [] a->a= []
 | _, .nil=>rfl
def A6.dropLast {xs:km V}{a:km kj}(h:A6 xs a):A6 xs.dropLast a.dropLast:=by
 induction h with
 | nil=>exact .nil
 | cons r t ih=>
   cases t with
   | nil=>exact .nil
   | cons q t'=>exact .cons r ih
def A6.reverse {xs:km V}{a:km kj}(h:A6 xs a):A6 xs.reverse a.reverse:=by
 induction h with
 | nil=>exact .nil
 | cons r t ih=>rw[ADw,ADw];exact A6.append ih (.cons r .nil)
section
variable {X:Cx}{Tb:km (kf×Obj)}{σ:St}{H:Hp}{s:ki}{l b:kf}{xs ys zs:km V}
def Inv.lset {a its':km kj}{n:Nat}{f:Array kj->Array kj}{t':Nat}(I:Inv X Tb σ H s)(c:H l=some (.lst xs))(e:s.heap.get? l=some {cls:= .type "list",data:= .seq a.toArray n})(d:f a.toArray=its'.toArray)(hv:A6 ys its')(hz:ys.length<=sizeLine):Inv X Tb σ (upd H l (.lst ys)) {s with heap:=s.heap.update l (Obj.mapSeq f),toks:=t'}:=by have q:=PySem.IsL.update e f;rw[d] at q;refine I.write (x:=l) (e:=l) (by rw[c];exact trivial) (.inl rfl) (λg u hb hu=>(ADI s.heap (Obj.mapSeq f) (ABQ hb)).trans hu) ⟨_,q⟩ ?_;exact⟨hz,its',_,hv,q⟩
def Inv.lnew {a:km kj}{t':Nat}(I:Inv X Tb σ H s)(hv:A6 ys a)(hz:ys.length<=sizeLine):Inv X Tb σ (upd H s.heap.objs.size (.lst ys)) {s with heap:=s.heap.push {cls:= .type "list",data:= .seq a.toArray},toks:=t'}:=
 I.laid (λ_ _ q=>AAX _ q) (AAY _) ⟨hz,a,0,hv,AAd _ rfl⟩
def Inv.fresh (I:Inv X Tb σ H s):H s.heap.objs.size=none:=I.hok.fresh (AAY _)
def Inv.lstM (I:Inv X Tb σ H s)(c:H l=some (.lst xs)):xs.length<=sizeLine/\∃(a:km kj) (n:Nat),A6 xs a/\xs.length=a.length/\s.heap.get? l=some {cls:= .type "list",data:= .seq a.toArray n}:=by obtain⟨z,a,n,r,e⟩:=I.hok l _ c;exact⟨z,a,n,r,r.length,e⟩
end
section
variable {X:Cx}
def Uc:V->km V->Hp->VK->Prop:=λx vs H Q=>∃l xs y,x= .ref l/\vs= [y] /\H l=some (.lst xs)/\xs.length<sizeLine/\Q .non (upd H l (.lst (xs ++ [y])))
def JF:qm X "list.append" Uc:=by intro Tb s f H x vs v g Q I c rv h;obtain⟨l,xs,y,rfl,rfl,b,hz,q⟩:=h;cases c;obtain⟨u,rfl,d⟩:=rv.one;obtain⟨z,a,n,r,hl,e⟩:=I.lstM b;refine call_meets F.slot_list_append ⟨_,e,rfl⟩ F.entry_list_append (F.args_list_append_2 _ _) (PySem.list_append l a.toArray n u (by rw[AAh];omega)) ⟨e, ?_⟩;refine⟨.non,_,I.lset (its':=a ++ [u]) b e (by simp) (r.append (.cons d .nil)) ?_,rfl,q⟩;rw[AA8,AEc];omega
def tH:R2:=λx y H Q=>∃l b xs a,x= .ref l/\y= .ref b/\H l=some (.lst xs)/\H b=some (.lst a)/\xs.length+a.length<=sizeLine/\∀p,H p=none->Q (.ref p) (upd H p (.lst (xs++a)))
def oZ:ET X (binaryOp .Add) tH:=by
 intro Tb s m H x y v u Q I d f h;obtain⟨l,b,xs,o,rfl,rfl,g,i,hz,q⟩:=h;cases d;cases f;obtain⟨z,c,n,r,hl,e⟩:=I.lstM g;obtain⟨p,a,t,r2,w,j⟩:=I.lstM i;refine PySem.P.add_list e j ?_ (by rw[AAh,AAh];omega);have k:c.toArray++a.toArray=(c++a).toArray:=by simp
 rw[k];exact⟨.ref _,_,I.lnew (t':=s.toks) (r.append r2) (by rw[AA8];omega),rfl,q _ I.fresh⟩
end
section
variable {prog:gn}{w:fe}{A:Wf}{E:kj->ki->Prop}{s:ki}
set_option maxRecDepth 100000 in
end
end L2
namespace Att
open PySem PySem.W PySem.Calls PyProof.Rows
def ON {P:Params}{h:da}:∀(c:km Int) (vs:km kj),WellAll P h vs (c.map WData.int)->IntsAre vs c:=by
 intro c;induction c with
 | nil=> intro vs w;rw[ADJ] at w;cases w;exact .nil
 | cons n c ih=>
   intro vs w;rw[AAc] at w;cases w with
   | cons a b=> cases a;exact .cons _ _ (ih _ b)
def cS {l:OpenLaw}{n:Nat}(hn:l.most=some n){P:Params}{h:da}{args:km WData}{vals:km kj}(g:l.row.toRowW.claim.pre args=true)(i:WellAll P h vals args):∃a vs b,vals= [Value.ref a] /\args= [WData.list (b.map WData.int)] /\h.get? a=some {cls:= .type "list",data:= .seq vs.toArray}/\IntsAre vs b/\b.length<=n:=by
 have f:WShape.hasAll [] args [.list .int] =true:=(pre_splitW g).1;have hc:l.pre.holds [] {args:=args}=true:=(pre_splitW g).2;obtain⟨d,r,rfl,h1,h2⟩:=hasAllW_cons f;obtain rfl:=hasAllW_nil h2;obtain⟨xs,rfl,j⟩:=hasW_list h1;obtain⟨b,rfl⟩:=items_int j;have k:b.length<=n:=by
  unfold OpenLaw.pre at hc;have c:(WTm.not (.lt (.lit (.int (n:Int))) (.len (.arg 0)))).holds [] {args:= [.list (b.map .int)] }=true:=by have c:=(holds_andW hc).1;rw[hn] at c;exact c
  have e:=condW_of c (w_not (w_lt w_lit (w_len_list (w_arg rfl))));rw[AAb] at e;refine Nat.le_of_not_lt λq=> ?_;have m:(n:Int)<((b.length:Nat):Int):=by omega
  first
   | (rw[AAi m] at e;exact absurd e (by decide))
   | (simp at e;omega)
 cases i with
 | cons o p=>
   cases p;cases o with
   | list s t=>exact⟨_,_,b,rfl,rfl,s,ON b _ t,k⟩
def cI (l:OpenLaw)(args:km WData):l.row.toRowW.claim.post args (.bool true) args=true:=
 postW_of (r:=l.row.toRowW) (X:=(true==true))
  (show WShape.has [] (.bool true) .bool=true by first | rfl|decide|simp[WShape.has,WShape.arms,WShape.armsAll])
  (show (WTm.eq .res (.lit (.bool true))).value [] {args:=args,res:=some (.bool true),after:=args}=some (.bool (true==true)) from w_eq_bool (w_res rfl) w_lit) rfl
def attach_call {l:OpenLaw}{n:Nat}{q:gn}{loose:km Str}{XP:(Str->ke kj)->da->Prop}{YP:fe->da->Prop}{d:DefRec}(hn:l.most=some n)(p:d.params.defaults= [])(call:∀(w:fe) (s₀ b:ki) (mg j:Str->ke kj) (e:kf) (o:Obj) (k g c:kj) (a:kf) (vs:km kj) (h:km Int),Ground q loose [] XP w s₀ mg j b.heap->YP w b.heap-> b.heap.get? e=some o->o.data= .func (docDef d.name d.params d.body d.scope k g c)->b.heap.CodeRec g d.name->mg d.name=some (.ref e)-> b.heap.get? a=some {cls:= .type "list",data:= .seq vs.toArray}->IntsAre vs h->h.length<=n->b.gens= #[] -> codeAny (model l.prog w) callerA (.call (.ref e) ⟨[.ref a], []⟩) (λr i=>r= .ok (.ret (.bool true))/\OldK b.heap i.heap/\i.os=b.os/\AllBare i.gens) b):WalkO q loose XP YP l.row.toRowW d [] (λf vs=>PySem.call f vs):=by intro w s₀ b mg j G Y e o k g c s kV t hd u m v x args vals as y z A B C;obtain rfl:s= .none:=Dflts.none m p;obtain rfl:kV= .none:=Dflts.noKw m;obtain⟨a,vs,h,rfl,rfl,D,E,F⟩:=cS hn y B;refine enter_call (ADF (call w s₀ b mg j e o k g c a vs h G Y t (fd_plain hd) u v D E F x) λr i hq=> ?_);obtain⟨rfl,h2,H,I⟩:=hq;exact⟨.inl ⟨.bool true, .bool true, [],rfl,λ_=>rfl, .bool true,cI l _,λ_=>⟨List.Pairwise.nil,λ_ J=>(nomatch J)⟩⟩,h2,H,I⟩
section
variable {prog:gn}{w:fe}{A:Wf}{E:kj->ki->Prop}{s:ki}{K:Frag}
def wW (h:da)(L d:kf):km (kf×Obj):=(List.range h.objs.size).filterMap λa=>if a=L\/a=d then none else (h.get? a).map λo=>(a,o)
end
end Att
namespace L2
open PySem PySem.Spec PyProof.Rows
theorem Ss:∀{vs:km kj} {a:km Int},IntsAre vs a->A6 (a.map V.int) vs
 | _,_, .nil=> .nil
 | _,_, .cons n t h=> .cons ⟨t,rfl⟩ (Ss h)
def my (H:Hp):Prop:=∀b,H b=none\/∃o xs,H b=some (.frz o (.lst xs))
def fS {P:gn}{w:fe}{K:AAR}{mg t:Str->ke kj}{CX:aT}{k:Nat}{y a:kf}{D:FuncData}{x:Str}{sp:Sp}{c:ki}{vs:km kj}{j:km Int}(E:K.In c.heap)(G:c.heap.Ns mainGlobals mg)(hb:c.heap.Ns builtinsNs t)(A:∀x:Str,x≠"__name__" ->t x=bootBuiltins x)(N:c.heap.NoLimit)(O:c.gens= #[])(ha:c.heap.get? a=some {cls:= .type "list",data:= .seq vs.toArray})(hi:IntsAre vs j)(hl:j.length<=sizeLine)(Q:Room k callerA)(F:∀base:da,K.In base->base.Ns mainGlobals mg->FA P w K mg base CX k y D [x] sp)(R:∀(s:ki) (u:kj),BindsTo s D ⟨[u], []⟩ [(x,u)])(S:∀H:Hp,my H->Fs K H a (j.map V.int)->sp [.ref a] H (λv _=>v= .bl true) λ_ _ _=>False)(T:∀H e g,CX [] H c (λ_ _ _=>False) e g->False):codeAny (model P w) callerA (.call (.ref y) ⟨[.ref a], []⟩) (λr g=>r= .ok (.ret (.bool true))/\OldK c.heap g.heap/\g.os=c.os/\AllBare g.gens) c:=by
 have rv:=Ss hi;have l:=hi.length;have core:∀H:Hp,my H->Fs K H a (j.map V.int)->OG P w H c.heap->(∀b,H b≠none->b=a)->(H a≠none->K.lookup a=none)->
  codeAny (model P w) callerA (.call (.ref y) ⟨[.ref a], []⟩) (λr g=>r= .ok (.ret (.bool true))/\OldK c.heap g.heap/\g.os=c.os/\AllBare g.gens) c:=by
  intro H I U hok J W;have f:∀{b:kf} {o:Obj},c.heap.get? b=some o->H b=none->(Tx c.heap H).get? b=some o:=λe n=>e7 e n;have B:∀{b:kf} {o:Obj} {es:Array DictEntry} {ep:Nat},c.heap.get? b=some o->o.data= .dict es ep->H b=none:=λ{b o es ep} e d=>by
   cases q:H b with
   | none=>rfl
   | some u=> have C:b=a:=J b (by rw[q];simp);subst C;rw[ha] at e;cases e;have d':Data.seq vs.toArray _=Data.dict es ep:=d;cases d'
  have i:∀{b:kf} {m:Str->ke kj},c.heap.Ns b m->(Tx c.heap H).Ns b m:=λ{b m} ⟨o,es,ep,e,d,r⟩=>⟨o,es,ep,f e (B e d),d,r⟩;have L:K.In (Tx c.heap H):=λb o e=>f (E b o e) (by
   cases q:H b with
   | none=>rfl
   | some u=>
     have C:b=a:=J b (by rw[q];simp);subst C;rw[W (by rw[q];simp)] at e;cases e)
  have hM:Mod K mg (Tx c.heap H):=⟨L,i G,⟨t,i hb,A⟩,let ⟨X,h1,h2⟩:=N;⟨X,i h1,h2⟩⟩;have Y:RI P w K mg (Tx c.heap H) callerA [] c H:=⟨rfl,hM,λb o e=>jv e,Nat.le_of_eq (bJ _ _),trivial,λb hb=>absurd (show b∈([] :km kf) from hb) (by simp),hok, .of_eq O⟩;refine ADF ((F _ L (i G)).run callerA [] c H ⟨[.ref a], []⟩ [.ref a] [.ref a] _ _ Q Y (R c (.ref a)) (.cons rfl .nil) (S H I U)) λr g h=> ?_;cases r with
  | error e=>exact(T H e g h).elim
  | ok Z=>
    cases Z with
    | next=>exact False.elim h
    | brk=>exact False.elim h
    | cont=>exact False.elim h
    | ret u=>
      obtain⟨v,H',os,bare,un,wI,r',q⟩:=h;have q':v= .bl true:=q;subst q';obtain rfl:u=Value.bool true:=r';refine⟨rfl,OldK.of_keep λb o e=> ?_,os,bare⟩;cases q:H b with
      | none=>exact un.keep b o e q (by intro z;exact absurd (show b∈([] :km kf) from z) (by simp)) (by simp)
      | some u=>
        rcases I b with z|⟨ob,xs,z⟩
        .rw [q] at z;cases z
        .have z2:=un.frzs b ob _ z;obtain⟨M,_⟩:=hok b _ z;obtain⟨e2,_⟩:=wI b _ z2;rw[e] at M;cases M;exact e2
 cases hk:K.lookup a with
 | some o=> have e:=E a o hk;rw[ha] at e;cases e;refine core (λ_=>none) (λ_=> .inl rfl) (.inr ⟨_,vs.toArray,_,hk,rfl,rfl,rfl,by rw[AAh,l];exact hl,by simpa using rv⟩) (λb u z=>by have p:(none:ke HO)=some u:=z;cases p) (λb z=>absurd rfl z) λz=>absurd rfl z
 | none=>
   refine core (λb=>if b=a then some (.frz {cls:= .type "list",data:= .seq vs.toArray} (.lst (j.map V.int))) else none) (λb=> ?_) (.inl (.inr ⟨{cls:= .type "list",data:= .seq vs.toArray},AAU rfl⟩)) (λb u z=> ?_) (λb z=> ?_) λ_=>hk
   .by_cases hb:b=a
    .exact .inr ⟨_,_,AAU hb⟩
    .exact .inl (AAS hb)
   .by_cases hb:b=a
    .have p:=(AAU hb).symm.trans z;cases p;subst hb;exact⟨ha,by rw[AAb];exact hl,vs,_,rv,ha⟩
    .have p:=(AAS hb).symm.trans z;cases p
   .by_cases hb:b=a
    .exact hb
    .exact absurd (AAS hb) z
abbrev KOf {K:AAR}{h:da}(_:K.In h):AAR:=K
def walk_of {l:PySem.W.OpenLaw}{n k:Nat}{q:gn}{loose:km Str}{XP:(Str->ke kj)->da->Prop}{YP:fe->da->Prop}{d:DefRec}{K:Params->AAR}{CX:fe->aT}{sp:fe->Sp}{x:Str}(hn:l.most=some n)(m:n<=sizeLine)(z:d.params.defaults= [])(A:Room k callerA)(B:∀(w:fe) (h:da),YP w h->(K w.params).In h)(F:∀(w:fe) (mg:Str->ke kj) (i:kf) (h:da),(K w.params).In h->h.Ns mainGlobals mg->mg d.name=some (.ref i)-> ∃p:FuncData,(∀(s:ki) (u:kj),BindsTo s p ⟨[u], []⟩ [(x,u)])/\ ∀base:da,(K w.params).In base->base.Ns mainGlobals mg->FA l.prog w (K w.params) mg base (CX w) k i p [x] (sp w))(C:∀(w:fe) (H:Hp) (a:kf) (j:km Int),j.length<=n->my H->Fs (K w.params) H a (j.map V.int)->sp w [.ref a] H (λv _=>v= .bl true) λ_ _ _=>False)(D:∀(w:fe) (H:Hp) (s:ki) (e:kj) (r:ki),CX w [] H s (λ_ _ _=>False) e r->False):PySem.W.WalkO q loose XP YP l.row.toRowW d [] (λf vs=>PySem.call f vs):=by refine Att.attach_call hn z λw s₀ c mg Q i o R S E a vs j G Y U hd X I J L t M=> ?_;have y:=B w _ Y;obtain⟨p,hb,N⟩:=F w mg i _ y G.T.g I;exact fS y G.T.g G.T.b G.T.builtins G.T.nolimit M J L (AAu t m) A N hb (λH O P=>C w H a j t O P) λH e r=>D w H c e r
abbrev TR:aT:=λ_ _ _ _ _ _=>False
abbrev E0:XK:=λ_ _ _=>False
def so {X:Cx}:Passes TR X E0:=λ_ _ _ _ _ _ _ h=>h.elim
structure Vl (K:AAR) (x qual:Str) (st:Stmt) (f:Addr) (fd:FuncData):Prop where
 ex:∃(oc:Value) (od:Option Addr) (kV doc pm:Value) (an:Option Addr) (cdv ct:Value) (osl:Array (Option Value)),
  fd=PySem.W.fnOf x qual (G7 st) (Ex st) (BY st) .none kV doc pm an cdv ct/\K.lookup f=some ⟨oc,od, .func fd,osl⟩/\PySem.W.codeIn K cdv qual=true
 kp:PySem.W.keepIn K (.ref f)=true
section
variable {P:gn}{w:fe}{K:AAR}{mg:Str->ke kj}{base:da}
def Vl.ok {x qual:Str}{st:Stmt}{f:kf}{c:FuncData}{N b:km Str}{k:Nat}{sp:Sp}(F:Vl K x qual st f c)(S:Ev N b (BY st))(len:∀vs H Q E,sp vs H Q E->vs.length=b.length)(d:∀(a:kj) (A:Wf) (outer:km Env) (s:ki) (H:Hp) (vs:km V) (Q:VK) (E:XK),Room k (A.deeper (envOfC qual (BY st) s.heap.objs.size f a))->sp vs H Q E-> ∃t,ZA (V0 TR P w K mg base N qual (BY st) f a A outer s H E).nox (Ex st) t/\t {nx:=λ_ e=>Q .non e,rt:=Q} (start N vs) H):FA P w K mg base TR (k+1) f c b sp:=by obtain⟨o,p,kV,g,r,u,a,ct,i,rfl,j,l⟩:=F.ex;refine rE j l S len λA outer s H vs Q E m n=> ?_;obtain⟨t,h,q⟩:=d a A outer s H vs Q E m n;exact⟨t,h.nox,q⟩
def Vl.binds {x qual:Str}{st:Stmt}{f:kf}{i:FuncData}{c:km Str}(F:Vl K x qual st f i)(h:∀(kV a d:kj) (e:ke kf) (b ct:kj) (g:km kj),g.length=c.length->bindArgs (PySem.W.fnOf x qual (G7 st) (Ex st) (BY st) .none kV a d e b ct) ⟨g, []⟩=pure (c.zip g)):Binds K i c [] :=by obtain⟨k,l,kV,a,d,e,b,ct,j,rfl,m,n⟩:=F.ex;exact .all (h kV a d e b ct)
def eJ {x qual:Str}{st:Stmt}{f:kf}{h:kj}{i e:ke kf}{d:Array (ke kj)}{kV b g a ct:kj}(l:K.lookup f=some ⟨h,i, .func (PySem.W.fnOf x qual (G7 st) (Ex st) (BY st) .none kV b g e a ct),d⟩)(c:PySem.W.codeIn K a qual=true)(k:PySem.W.keepIn K (.ref f)=true):Vl K x qual st f (PySem.W.fnOf x qual (G7 st) (Ex st) (BY st) .none kV b g e a ct):=⟨⟨h,i,kV,b,g,e,a,ct,d,rfl,l,c⟩,k⟩
end
section
variable {X:Cx}
def pv (i:Nat){x:Str}{a:Pos}(hN:X.N[i]? =some x:=by rfl)(hv:nA X.env.scope x:=by first | exact Or.inl rfl|exact Or.inr (Or.inl rfl)|exact Or.inr (Or.inr rfl))(hd:(x==("__debug__" :Str))=false:=by decide)(b:(x==("__classdict__" :Str))=false:=by decide):PE X (.Name x a) (Gr i):=UZ hN hv hd b
end
def sF {c A B:Prop}[Decidable c](h1:c->A)(h2:¬c->B):if c then A else B:=by
 by_cases h:c
 .rw [AAU h];exact h1 h
 .rw [AAS h];exact h2 h
def LS (H a:Hp):Prop:=∀b o,H b=some o->a b=some o
def LS.refl (H:Hp):LS H H:=λ_ _ h=>h
def LS.trans {H d e:Hp}(a:LS H d)(b:LS d e):LS H e:=λc o h=>b c o (a c o h)
def LS.free {H a:Hp}(e:LS H a){l:kf}(h:a l=Option.none):H l=Option.none:=by
 cases q:H l with
 | none=>rfl
 | some o=> rw[e l o q] at h;cases h
def LS.seq {K:AAR}{H b:Hp}{a:kf}{xs:km V}(e:LS H b)(h:Fs K H a xs):Fs K b a xs:=by
 rcases h with(h|⟨o,h⟩)|h
 .exact .inl (.inl (e _ _ h))
 .exact .inl (.inr ⟨o,e _ _ h⟩)
 .exact .inr h
theorem IU {c d:Type}[BEq c][LawfulBEq c]{k:c}{a:d}:∀{l:km (c×d)},l.lookup k=some a->(k,a)∈l
 | [],h=>by simp at h
 | (n,b)::r,h=>by
   rw[ACv] at h;cases e:k==n with
   | true=>
     rw[e] at h;have f:k=n:=by simpa using e
     have hb:b=a:=by simpa using h
     subst f hb;exact ACc
   | false=> rw[e] at h;exact ABh _ (IU h)
theorem SX {c d:Type}[BEq c][LawfulBEq c]{k:c}{a:d}:∀{l:km (c×d)},(k,a)∈l->∃b,l.lookup k=some b
 | [],h=>nomatch h
 | (n,b)::r,h=>by
   rw[ACv];cases e:k==n with
   | true=>exact⟨b,rfl⟩
   | false=>
     rcases AAV.mp h with z|z
     .have:k=n:=congrArg Prod.fst z;rw[this] at e;simp at e
     .exact SX z
theorem IP {env:Env}{F:Str×NameKind->km (Str×kf)->Sem (ForInStep (km (Str×kf)))}(h1:∀n r c,env.cells.lookup n=some c->F (n, .free) r=pure (.yield ((n,c)::r)))(h2:∀n k r,k≠NameKind.free->F (n,k) r=pure (.yield r)):∀(names:km (Str×NameKind)) (f:km (Str×kf)),(∀x∈names,x.2= .free->∃c,env.cells.lookup x.1=some c)-> ∃cl,(forIn names f F:Sem _)=pure cl/\(∀p∈cl,p∈f\/env.cells.lookup p.1=some p.2)/\(∀p∈f,p∈cl)/\∀x∈names,x.2= .free->∃c,(x.1,c)∈cl
 | [],f,_=>⟨f,rfl,λp hp=> .inl hp,λp hp=>hp,λx hx=>nomatch hx⟩
 | (n,k)::r,f,h=>by
   by_cases hk:k= .free
   .subst hk;obtain⟨c,hc⟩:=h (n, .free) ACc rfl;obtain⟨cl,e,a,b,d⟩:=IP h1 h2 r ((n,c)::f) (λx hx=>h x (ABh _ hx));refine⟨cl, ?_,λp hp=> ?_,λp hp=>b p (ABh _ hp),λx hx g=> ?_⟩
    .rw [ACw,h1 n f c hc];exact e
    .rcases a p hp with z|z
     .rcases AAV.mp z with z|z
      .subst z;exact .inr hc
      .exact .inl z
     .exact .inr z
    .rcases AAV.mp hx with z|z
     .subst z;exact⟨c,b _ ACc⟩
     .exact d x z g
   .obtain ⟨cl,e,a,b,d⟩:=IP h1 h2 r f (λx hx=>h x (ABh _ hx));refine⟨cl, ?_,a,b,λx hx g=> ?_⟩
    .rw [ACw,h2 n k f hk];exact e
    .rcases AAV.mp hx with z|z
     .subst z;exact absurd g hk
     .exact d x z g
def G5 {env:Env}{scope:Scope}(h:∀x∈scope.names,x.2= .free->∃c,env.cells.lookup x.1=some c):∃cl,closureFor scope env=pure cl/\(∀y c,cl.lookup y=some c->env.cells.lookup y=some c)/\∀y,(y,NameKind.free)∈scope.names->∃c,cl.lookup y=some c:=by
 obtain⟨cl,e,a,_,d⟩:=IP (env:=env) (F:=λx cs=>match x with | (name,kind)=>if (kind==NameKind.free)=true then do let a <-cellOf env name;pure (ForInStep.yield ((name,a)::cs)) else pure (ForInStep.yield cs))
  (λn r c hc=>by
    show (do let a <-cellOf env n;pure (ForInStep.yield ((n,a)::r)):Sem _)=_;unfold cellOf;rw[hc];rfl)
  (λn k r hk=>by
    have:(k==NameKind.free)=false:=by simpa using hk
    simp[this]) scope.names [] h
 refine⟨cl, ?_,λy c q=> ?_,λy hy=> ?_⟩
 .unfold closureFor;have b:(forIn scope.names ([] :km (Str×kf)) λx cs=>match x with | (name,kind)=>if (kind==NameKind.free)=true then do let a <-cellOf env name;pure (ForInStep.yield ((name,a)::cs)) else pure (ForInStep.yield cs):Sem _) >>= (λr=>pure r)=pure cl:=by rw[e];rfl
  exact b
 .rcases a _ (IU q) with z|z
  .exact nomatch z
  .exact z
 .obtain ⟨c,hc⟩:=d (y, .free) hy rfl;exact SX hc
def F8 (env:Env)(sc:Scope)(cl:km (Str×kf))(C:kf):Env:=
 {scope:=sc,locals:=C,globals:=env.globals,cells:=cl,qual:=env.qual,func:=none,code:=env.code,frame:=env.frame,builtins:=env.builtins}
def blk (X:Cx)(sc:Scope)(N:km Str)(cl:km (Str×kf))(C:kf)(s:ki)(H:Hp)(ex:km kf)(pn:km (kf×Obj)):Cx where
 prog:=X.prog
 w:=X.w
 K:=X.K
 mg:=X.mg
 base:=X.base
 A:=X.A
 N:=N
 s₀:=s
 H₀:=H
 env:=F8 X.env sc cl C
 outer:=X.stack
 stack:=X.stack
 ex:=ex
 fn:=λ_=>false
 calm:=X.calm
 pn:=pn
 xe:=λ_ _=>False
section
variable {X:Cx}{Tb:km (kf×Obj)}{σ:St}{H:Hp}{s:ki}{fp:km kf}{sc:Scope}{N:km Str}{cl:km (Str×kf)}
def Inv.notStk (I:Inv X Tb σ H s){b:kf}(h1:b≠X.env.locals)(h2:b ∉ X.fs):b ∉ cx X.stack:=λz=>by
 rcases AAV.mp (I.stkSub b z) with e|e
 .exact h1 e
 .exact h2 e
def Inv.szLt (I:Inv X Tb σ H s){x:Str}{c:kf}(e:X.env.cells.lookup x=some c):c<s.heap.objs.size:=by obtain⟨v,q⟩:=I.cell x c e;exact q.lt
def nH (I:Inv X Tb σ H s)(d:∀b∈fp,Ej X Tb H b)(f:∀b∈fp,b<s.heap.objs.size)(hk:sc.kind= .function)(h1:∀y c,cl.lookup y=some c->X.env.cells.lookup y=some c)(h2:∀y,(sc.names.lookup y=some .cell\/sc.names.lookup y=some .free)->∃c,cl.lookup y=some c):(blk X sc N cl s.heap.objs.size s H fp (X.pn++Tb)).Ok where
 mod:=I.ok.mod
 kind:=hk
 glob:=I.ok.glob
 blt:=I.ok.blt
 above:=AAY _
 inj:=λx y c a b=>I.ok.inj x y c (h1 x c a) (h1 y c b)
 has:=λx hx=>h2 x hx
 cab:=λx c z=>nomatch z
 hd:=I.ok.hd
 frames:=I.ok.frames
 stk:= .inl rfl
 exf:=λb hb=>⟨AAa (f b hb),λx c e=>(d b hb).2.2.2.2.1 x c (h1 x c e)⟩
 bs:=I.bs
 bsz:=AAu I.ok.bsz I.sz
 noex:=λb o e hb=>by
  rcases (d b hb).2.2.2.1 with z|z
  .exact I.ok.noex b o e z
  .exact absurd (AAt (AAW (I.ok.bs b o e).1) z) (ABi _)
 exfs:=λb hb=>I.notStk (d b hb).2.1 (d b hb).2.2.1
 funs:=I.stack
 frf:=I.stkFree
def CZ (own:Nat)(ix:km Nat)(σ:St):St:=List.replicate own none++ix.map λi=>(σ[i]?).getD none
def Mu {own:Nat}{ix:km Nat}{σ:St}:(CZ own ix σ).length=own+ix.length:=by simp[CZ]
def Fi {own:Nat}{ix:km Nat}{σ:St}{j:Nat}{v:V}(h:(CZ own ix σ)[j]? =some (some v)):own<=j/\∃i,ix[j-own]? =some i/\σ[i]? =some (some v):=by
 unfold CZ at h;by_cases hj:j<own
 .rw [ABF (by simpa using hj),ACT] at h;simp[hj] at h
 .have bK:own<=j:=by omega
  rw[ABV (by simpa using bK),ACO,AA0] at h;refine⟨bK, ?_⟩;cases e:ix[j-own]? with
  | none=>rw[e] at h;simp at h
  | some i=>
    rw[e] at h;refine⟨i,rfl, ?_⟩;have h':(σ[i]?).getD none=some v:=by simpa using h
    cases a:σ[i]? with
    | none=>rw[a] at h';simp at h'
    | some o=>
      rw[a] at h';have:o=some v:=by simpa using h'
      rw[this]
structure R3 (X:Cx) (sc:Scope) (own:Nat) (ix:List Nat) (N:List Str):Prop where
 len:N.length=own+ix.length
 out:∀j i,ix[j]? =some i->∃x,N[own+j]? =some x/\X.N[i]? =some x/\X.env.scope.names.lookup x=some .cell/\sc.names.lookup x=some .cell
def dg {own:Nat}{ix:km Nat}{h':da}{m:Str->ke kj}{t':Nat}(I:Inv X Tb σ H s)(B:∀b∈fp,Ej X Tb H b)(C:∀b∈fp,b<s.heap.objs.size)(hk:sc.kind= .function)(h1:∀y c,cl.lookup y=some c->X.env.cells.lookup y=some c)(h2:∀y,(sc.names.lookup y=some .cell\/sc.names.lookup y=some .free)->∃c,cl.lookup y=some c)(F:R3 X sc own ix N)(hn:h'.Ns s.heap.objs.size m)(k:∀b o,s.heap.get? b=some o->h'.get? b=some o):Inv (blk X sc N cl s.heap.objs.size s H fp (X.pn++Tb)) [] (CZ own ix σ) H {s with heap:=h',toks:=t'} where
 ok:=nH I B C hk h1 h2
 os:=rfl
 bare:=I.bare
 base:=Un.kept k
 loc:=by
  refine⟨m,hn,λi x v D E R=> ?_⟩;obtain⟨bK,G,J,es⟩:=Fi E;obtain⟨y,n,K,t,w⟩:=F.out _ _ J;have g:x=y:=by have h:N[i]? =some x:=D;rw[show own+(i-own)=i by omega,h] at n;exact AAn n
  subst g;obtain⟨m0,L,M⟩:=I.loc;obtain⟨u,r,l⟩:=M G x v K es (.inr (.inl t));refine⟨u,r, ?_⟩;rcases l with⟨z,_⟩|⟨_,c,O,z⟩
  .have A:X.env.scope.names.lookup x=some .local:=z;rw[t] at A;cases A
  .obtain ⟨P,f⟩:=h2 x (.inl w);have:=h1 x P f;rw[O] at this;cases this;obtain⟨o,j,hd⟩:=z;exact .inr ⟨.inl w,c,f,o,k c o j,hd⟩
 cell:=λx c e=>by obtain⟨v,o,j,hd⟩:=I.cell x c (h1 x c e);exact⟨v,o,k c o j,hd⟩
 free:=I.hok.fresh (AAY _)
 freeC:=λx c e=>I.freeC x c (h1 x c e)
 pin:=λp hp=>by
  have Q:p∈X.pn++Tb:=by simpa[blk] using hp
  obtain⟨a,b,c,d,e⟩:=I.pin p Q;exact⟨k _ _ a,b,AAa (AAW a),I.notStk c d,e⟩
 hok:=I.hok.kept k
 len:=by rw[Mu];exact F.len.symm
def ZG {own:Nat}{ix:km Nat}{d:St}{e:Hp}{f:ki}{a:km (kf×Obj)}(I:Inv X Tb σ H s)(c:∀b∈fp,Ej X Tb H b)(g:∀b∈fp,b<s.heap.objs.size)(B:Inv (blk X sc N cl s.heap.objs.size s H fp (X.pn++Tb)) a d e f):Inv X Tb σ e f:=
 I.call' (ch:=fp) B.os B.base B.hok B.bare λb hb=>⟨(c b hb).2.2.2.1,(c b hb).2.1,(c b hb).2.2.2.2.1,(c b hb).2.2.2.2.2⟩
def Pq {f:Hp}{a:St}{d:ki}{C:kf}{h':da}(I:Inv X Tb σ H s)(g:C=s.heap.objs.size)(h:Inv X Tb a f d)(hn:f C=none)(hs:Heap.SameBut C d.heap h'):Inv X Tb a f {d with heap:=h'}:=by subst g;refine h.turned (t':=d.toks) (it:=s.heap.objs.size) (λb o hb e=>(hs.2 b hb).trans e) hn (ABE I.lt) (.inr I.sz) (λx c e=>AAa (I.szLt e)) λp hp=>AAa (AAW (I.pin p hp).1)
end
def Y9 (X:Cx)(a:km kd)(t:TT):Prop:=
 ∀(Tb:km (kf×Obj)) (s:ki) (b:St) (H:Hp) (Q:kc->Hp->Prop),Inv X Tb b H s->t b H Q->
  wpAny (model X.prog X.w) X.A (forIn a true λc r=>if r=true then do let ok <-isTrue c X.env (eval c X.env);pure (ForInStep.yield ok) else pure (ForInStep.yield r)) (TP X Tb b Q) X.xe s
def wu:TT:=λ_ H Q=>Q true H
def kM {X:Cx}:Y9 X [] wu:=λ_ _ _ H _ I h=>wpAny_tests_nil ⟨H,I,h⟩
def kN {X:Cx}{c:kd}{t:TT}(hc:PT X c t):Y9 X [c] t:=λTb s a H Q I h=>wpAny_tests_one (hc Tb s a H Q I h)
def IL (own:Nat)(g:TG):Prop:=∀v b H Q,g v b H Q->g v b H λa c=>Q a c/\a.length=b.length/\∀j,own<=j->a[j]? =b[j]?
def Pg (own:Nat)(g:XZ):Prop:=∀vs b H Q,g vs b H Q->g vs b H λa c=>Q a c/\a.length=b.length/\∀j,own<=j->a[j]? =b[j]?
def jN {own i:Nat}(h:i<own):IL own (Dv i):=λv a H Q q=>⟨q,by simp,λj hj=>ABD (by omega)⟩
def jO {own:Nat}:Pg own V3:=λvs a H Q q=>⟨q.1,q.2,rfl,λ_ _=>rfl⟩
def eQ {own:Nat}{t:TG}{u:XZ}(h1:IL own t)(m1:∀v b H Q d,(∀a c,Q a c->d a c)->t v b H Q->t v b H d)(h2:Pg own u)(m2:∀v b H Q d,(∀a c,Q a c->d a c)->u v b H Q->u v b H d):Pg own (Fy t u):=by intro vs b H Q q;obtain⟨v,r,e,q⟩:=q;refine⟨v,r,e,m1 _ _ _ _ _ (λa c z=> ?_) (h1 _ _ _ _ q)⟩;obtain⟨z,l,g⟩:=z;refine m2 _ _ _ _ _ (λh m f=> ?_) (h2 _ _ _ _ z);obtain⟨f,i,k⟩:=f;exact⟨f,i.trans l,λj hj=>(k j hj).trans (g j hj)⟩
def jP {i:Nat}:∀v b H Q c,(∀a d,Q a d->c a d)->Dv i v b H Q->Dv i v b H c:=λ_ _ _ _ _ m q=>m _ _ q
def jQ:∀v b H Q c,(∀a d,Q a d->c a d)->V3 v b H Q->V3 v b H c:=λ_ _ _ _ _ m q=>⟨q.1,m _ _ q.2⟩
def eS {t:TG}{u:XZ}(m1:∀v b H Q c,(∀a d,Q a d->c a d)->t v b H Q->t v b H c)(m2:∀v b H Q c,(∀a d,Q a d->c a d)->u v b H Q->u v b H c):∀v b H Q c,(∀a d,Q a d->c a d)->Fy t u v b H Q->Fy t u v b H c:=λ_ _ _ _ _ m ⟨v,r,e,q⟩=>⟨v,r,e,m1 _ _ _ _ _ (λ_ _ z=>m2 _ _ _ _ _ m z) q⟩
def KI (J:It)(D:kf)(c:St)(g:TG)(h:TT)(te:TE)(Q:Hp->Prop)(W:Nat->Nat->Hp->Prop):Prop:=
 ∀i m H,W i m H->(J.stop i H/\Q H)\/(J.go i H/\∀x d,J.yld i H x d->g x c d λa j=>h a j λok e=>
  if ok=true then te a e λy f=>∃ys,f D=some (.lst ys)/\ys.length<sizeLine/\∃b,b<m/\W (i+1) b (upd f D (.lst (ys ++ [y]))) else ∃b,b<m/\W (i+1) b e)
def aI (c:TI)(own:Nat)(ix:km Nat)(g:TG)(d:TT)(te:TE):TE:=λa H Q=>c a H λJ b=>∀D,b D=none->
 ∃W:Nat->Nat->Hp->Prop,(∃m,W 0 m (upd b D (.lst [])))/\KI J D (CZ own ix a) g d te (Q (.ref D)) W
section
variable {X:Cx}{tg elt iter:kd}{ifs:km kd}{scope:Scope}{pos:Pos}{wi:TI}{own:Nat}{ix:km Nat}{N:km Str}{g:TG}{tt:TT}{te:TE}
structure Mm (X:Cx) (tg elt:Expr) (ifs:List Expr) (scope:Scope) (own:Nat) (ix:List Nat) (N:List Str) (g:TG) (tt:TT) (te:TE):Prop where
 kind:scope.kind= .function
 nocell:∀y∈scope.names,y.2≠ .cell
 names:∀y∈scope.names,y.2= .local->scope.names.lookup y.1=some .local
 frees:∀y∈scope.names,y.2= .free->X.env.scope.names.lookup y.1=some .cell
 ins:R3 X (relabel scope X.env) own ix N
 keep:IL own g
 tgt:∀cl C s H ex pn,PG (blk X (relabel scope X.env) N cl C s H ex pn) tg g
 tst:∀cl C s H ex pn,Y9 (blk X (relabel scope X.env) N cl C s H ex pn) ifs tt
 val:∀cl C s H ex pn,PE (blk X (relabel scope X.env) N cl C s H ex pn) elt te
def F2 {env:Env}{y:Str}{k:NameKind}(c:∀y∈scope.names,y.2≠ .cell)(h:(y,k)∈(relabel scope env).names)(hk:k= .cell\/k= .free):(y,NameKind.free)∈scope.names:=by
 obtain⟨⟨n,b⟩,a,e⟩:=AAe.mp (show (y,k)∈scope.names.map _ from h);dsimp only at e;split at e
 .rename_i hc;cases e;have:b= .free:=by cases b <;> simp_all
  subst this;exact a
 .cases e;rcases hk with z|z
  .subst z;exact absurd rfl (c _ a)
  .subst z;exact a
def ap {Tb:km (kf×Obj)}{M:St}{H:Hp}{s:ki}{k:km kf}{cl:km (Str×kf)}{it:kf}{tn:Nat->da->Prop}{J:It}{D:kf}{R:Result->ki->Prop}{Qh:Hp->Prop}{W:Nat->Nat->Hp->Prop}(hc:X.calm=true)(O:Mm X tg elt ifs scope own ix N g tt te)(T:LX X.prog X.w X.K tg J k it tn)(I:Inv X Tb M H s)(hf:∀b∈k,Ej X Tb H b)(Ey:∀b∈k,b<s.heap.objs.size)(hW:KI J D (CZ own ix M) g tt te Qh W)(hR:∀σ' a P,Inv (blk X (relabel scope X.env) N cl s.heap.objs.size s H k (X.pn++Tb)) [] σ' a P->Qh a->R (.ok .next) P)(n:Nat)(s0:ki)(h0:∃i a,Inv (blk X (relabel scope X.env) N cl s.heap.objs.size s H k (X.pn++Tb)) [] (CZ own ix M) a s0/\tn i s0.heap/\(∀b∈k,a b=none)/\W i n a):codeAny (model X.prog X.w) X.A (.compLoop (.ListComp elt [⟨tg,iter,ifs,0⟩] scope pos) 0 (.ref it) (.ref D) (F8 X.env (relabel scope X.env) cl s.heap.objs.size)) R s0:=by
 refine ADx rfl (λn P=>∃i a,Inv (blk X (relabel scope X.env) N cl s.heap.objs.size s H k (X.pn++Tb)) [] (CZ own ix M) a P/\tn i P.heap/\(∀b∈k,a b=none)/\W i n a) (λn s1 h1=> ?_) n h0;obtain⟨i,H1,B1,S,U,w1⟩:=h1;generalize f:blk X (relabel scope X.env) N cl s.heap.objs.size s H k (X.pn++Tb)=Y at *;have eA:Y.A=X.A:=by rw[<-f];rfl
 have Z:Y.prog=X.prog:=by rw[<-f];rfl
 have eW:Y.w=X.w:=by rw[<-f];rfl
 have eK:Y.K=X.K:=by rw[<-f];rfl
 have eE:F8 X.env (relabel scope X.env) cl s.heap.objs.size=Y.env:=by rw[<-f];rfl
 have eX:Y.xe=λ_ _=>False:=by rw[<-f];rfl
 have eC:Y.calm=true:=by rw[<-f];exact hc
 have hg:PG Y tg g:=by rw[<-f];exact O.tgt _ _ _ _ _ _
 have ht:Y9 Y ifs tt:=by rw[<-f];exact O.tst _ _ _ _ _ _
 have hv:PE Y elt te:=by rw[<-f];exact O.val _ _ _ _ _ _
 have l:∀{a:Hp},(∀b∈k,a b=none)->∀b∈k,Ej Y [] a b:=λ{a} hn b hb=>by
  obtain⟨_,a1,a2,a3,a4,a5⟩:=hf b hb;refine⟨hn b hb, ?_, ?_, ?_, ?_, ?_⟩
  .rw [<-f];exact AAa (Ey b hb)
  .rw [<-f];exact I.notStk a1 a2
  .rw [<-f];exact .inl hb
  .intro x c e;exact(B1.ok.exf b (by rw[<-f];exact hb)).2 x c e
  .intro p hp;have:p∈X.pn++Tb:=by rw[<-f] at hp;simpa[blk] using hp
   exact a5 p this
 rw[eE,<-eA,<-Z,<-eW];show wpAny _ _ ((compTurn (.ListComp elt [⟨tg,iter,ifs,0⟩] scope pos) 0 (.ref it) (.ref D) Y.env).onRaise (λx=>do noteFrame x Y.env;theTreesLotGoes x)) _ _ s1;refine ADy ?_;rw[compTurn_list];have ff:∀{α:Type} {t:Sem α} {Q:α->ki->Prop} {E:kj->ki->Prop} {s:ki},wpAny (model Y.prog Y.w) Y.A t Q Y.xe s->wpAny (model Y.prog Y.w) Y.A t Q E s:=λh=>ABM h (λ_ _ q=>q) λ_ _ z=>by rw[eX] at z;exact z.elim
 refine AAQ (ABa (AAQ ?_));rcases hW i n H1 w1 with⟨stop,qn⟩|⟨go,step⟩
 .have zd:=λE=>T.done Y Z eW eK eC i [] s1 _ H1 E B1 (l U) S stop;rw[<-Z,<-eW] at zd;refine Bk (zd _) λr s4 ⟨hr,I4⟩=> ?_;subst hr;exact AAT (hR _ _ _ I4 qn)
 .have zi:=λE=>T.item Y Z eW eK eC i [] s1 _ H1 E B1 (l U) S go;rw[<-Z,<-eW] at zi;refine Bk (zi _) λr s4 ⟨u,hr,h4⟩=> ?_;subst hr;refine AAQ (Bk h4 λ_ s5 ⟨x,H5,I5,r5,y5,C,fr5⟩=> ?_);have I5':=I5.pinned (l fr5) (T.obj _ _ C);refine AAQ (Bk (ff (hg _ s5 _ H5 x u _ I5' r5 (O.keep _ _ _ _ (step x H5 y5)))) λ_ s6 ⟨B,H6,I6,q6,l6,k6⟩=> ?_);refine AAQ (Bk (ff (ht _ s6 B H6 _ I6 q6)) λok s7 ⟨H7,I7,q7⟩=> ?_);have back:∀{F:Hp} {G:ki} {L:Nat},Inv Y ([] ++ GA k s5.heap) B F G->L<n->W (i+1) L F->
   ∃m,m<n/\∃i a,Inv Y [] (CZ own ix M) a G/\tn i G.heap/\(∀b∈k,a b=none)/\W i m a:=λ{F G L} I8 hm w8=>by
   refine⟨L,hm,i+1,F,I8.unpinned.weak l6.symm (λj v hj=> ?_),T.keep _ _ _ C λb hb o e=>(I8.pin (b,o) (AAo _ (AAo _ (Cd hb e)))).1,λb hb=> ?_,w8⟩
   .rw [k6 j (Fi hj).1];exact hj
   .obtain ⟨o,e,d⟩:=T.obj _ _ C b hb;exact(I8.pin (b,o) (AAo _ (AAo _ (Cd hb e)))).2.1
  cases ok with
  | false=> obtain⟨L,hm,w8⟩:=q7;exact AAT ⟨rfl,back I7 hm w8⟩
  | true=> refine AAQ (AAQ (Bk (ff (hv _ s7 B H7 _ I7 q7)) λyv G ⟨y,F,I8,r8,ys,hD,hz,L,hm,w8⟩=> ?_));refine AAQ (Bk (ff (JF _ G B F (.ref D) [y] (.ref D) [yv] (λ_ H9=>H9=upd F D (.lst (ys ++ [y]))) I8 rfl (.cons r8 .nil) ⟨D,ys,y,rfl,rfl,hD,hz,rfl⟩)) λ_ s9 ⟨_,H9,I9,_,e9⟩=> ?_);subst e9;exact AAT (AAT ⟨rfl,back I9 hm w8⟩)
def Vx {Tb:km (kf×Obj)}{u:St}{H:Hp}{s:ki}{use:ke (kj->Sem Unit)}{Q:kj->ki->Prop}{it:kf}{j:km kf}{cl:km (Str×kf)}{tn:Nat->da->Prop}{J:It}{Qd:kf->Hp->Prop}(hc:X.calm=true)(O:Mm X tg elt ifs scope own ix N g tt te)(T:LX X.prog X.w X.K tg J j it tn)(I:Inv X Tb u H s)(M:∀b∈j,Ej X Tb H b)(st:tn 0 s.heap)(h1:∀y c,cl.lookup y=some c->X.env.cells.lookup y=some c)(h2:∀y,(y,NameKind.free)∈scope.names->∃c,cl.lookup y=some c)(hq:∀D,H D=none->∃W:Nat->Nat->Hp->Prop,(∃m,W 0 m (upd H D (.lst [])))/\KI J D (CZ own ix u) g tt te (Qd D) W)(P:∀D C i k,(∃m,k.heap.Ns C m)->Inv X Tb u i k->(∀f v,Inv X Tb f i v->∀h',Heap.SameBut C v.heap h'->Inv X Tb f i {v with heap:=h'})->C≠X.env.locals->(∀x c,X.env.cells.lookup x=some c->C≠c)->Qd D i-> compPost (model X.prog X.w) X.A X.xe use Q (.ref D) C (.ok .next) k):wpAny (model X.prog X.w) X.A (newList []) (λl n=>wpAny (model X.prog X.w) X.A (newFunctionEnv scope X.env.globals cl [] X.env.qual none .none (some X.env)) (λd p=> codeAny (model X.prog X.w) X.A (.compStart (.ListComp elt [⟨tg,iter,ifs,0⟩] scope pos) 0 (.ref it) l {d with scope:=relabel scope X.env}) (compPost (model X.prog X.w) X.A X.xe use Q l d.locals) p) X.xe n) X.xe s:=by
 refine ABN ?_ (by simp[sizeOk]);have h:Inv X Tb u (upd H s.heap.objs.size (.lst [])) {s with heap:=s.heap.push {cls:= .type "list",data:= .seq ([] :km kj).toArray}}:=I.lnew (t':=s.toks) .nil (ABO _);have R:=I.fresh;obtain⟨W,⟨m0,S⟩,hW⟩:=hq _ R;have U:∀b∈j,b<s.heap.objs.size:=λb hb=>by obtain⟨o,e,_⟩:=T.obj _ _ st b hb;exact AAW e
 have E:∀b∈j,Ej X Tb (upd H s.heap.objs.size (.lst [])) b:=λb hb=>by obtain⟨Y,Z⟩:=M b hb;exact⟨by rw[Aq (AAa (U b hb))];exact Y,Z⟩
 generalize rj:({s with heap:=s.heap.push {cls:= .type "list",data:= .seq ([] :km kj).toArray}}:ki)=s3 at h;have r:tn 0 s3.heap:=T.keep _ _ _ st λb hb o e=>by rw[<-rj];exact AAX _ e
 have F:∀b∈j,b<s3.heap.objs.size:=λb hb=>by obtain⟨o,e,_⟩:=T.obj _ _ r b hb;exact AAW e
 refine wpAny_newFunctionEnv O.nocell (by intro y hy;simp at hy) (λa lw wL=> ?_) O.kind;have L:∀b o,s3.heap.get? b=some o->a.get? b=some o:=λb o e=>wL.extBut b o (AAa (AAW e)) (AAX _ e);have rT:∀y,((relabel scope X.env).names.lookup y=some .cell\/(relabel scope X.env).names.lookup y=some .free)->∃c,cl.lookup y=some c:=λy hy=>by
  rcases hy with z|z
  .exact h2 y (F2 O.nocell (IU z) (.inl rfl))
  .exact h2 y (F2 O.nocell (IU z) (.inr rfl))
 have B:=dg (N:=N) (t':=s3.toks+([] :km (Str×kj)).length) h E F (sc:=relabel scope X.env) O.kind h1 rT O.ins lw L;have t:tn 0 a:=T.keep _ _ _ r λb hb o e=>L b o e;have loop:∀G:ki,G={s3 with heap:=a,toks:=s3.toks+([] :km (Str×kj)).length}->
  codeAny (model X.prog X.w) X.A (.compLoop (.ListComp elt [⟨tg,iter,ifs,0⟩] scope pos) 0 (.ref it) (.ref s.heap.objs.size) (F8 X.env (relabel scope X.env) cl s3.heap.objs.size)) (compPost (model X.prog X.w) X.A X.xe use Q (.ref s.heap.objs.size) s3.heap.objs.size) G:=by rintro G rfl;refine ap (cl:=cl) (Qh:=Qd s.heap.objs.size) hc O T h E F hW (λσ' i k B' q'=> ?_) m0 _ ⟨0,_,B,t,λb hb=>(E b hb).1,S⟩;refine P _ _ i k (let ⟨m,hm,_⟩:=B'.loc;⟨m,hm⟩) (ZG (own:=own) (ix:=ix) h E F B') (λf v I2 h' hs=>Pq h rfl I2 B'.free hs) (ABE h.lt) (λx c e=>ABE (h.szLt e)) q'
 exact AEd (loop _ rfl) (T.self _ 0 _ _ _ t (loop _ rfl))
def kD (hc:X.calm=true)(hi:PI X tg iter wi)(O:Mm X tg elt ifs scope own ix N g tt te)(hs:∀x,foldedSetIterable iter X.env x=pure x:=by intro _;rfl):PE X (.ListComp elt [⟨tg,iter,ifs,0⟩] scope pos) (aI wi own ix g tt te):=by intro Tb s c H Q I h;obtain⟨cl,d,h1,h2⟩:=G5 (env:=X.env) (scope:=scope) λy hy e=>I.ok.has y.1 (.inl (O.frees y hy e));rw[eval_ListComp];refine ADz (use:=none) rfl hs d O.kind O.names (Bk (hi Tb s c H _ I h) λv p hv=>Bk hv λf r i=> ?_);obtain⟨it,t,tn,J,u,rfl,j,T,a,f2,q⟩:=i;exact Vx (Qd:=λD b=>Q (.ref D) b) hc O T j f2 a h1 h2 q λD C b k hn l gone w z n=>by obtain⟨m,o⟩:=hn;exact⟨m,o,λh' hs=>⟨.ref D,b,gone c k l h' hs,rfl,n⟩⟩
def kQ {i:Nat}{x:Str}{pos' b:Pos}(hc:X.calm=true)(hN:X.N.Nodup)(n:X.N[i]? =some x)(hx:Loc X.env.scope x)(hi:PI X tg iter wi)(O:Mm X tg elt ifs scope own ix N g tt te)(o:swapsWith (.ListComp elt [⟨tg,iter,ifs,0⟩] scope pos) (some (.Name x pos')) b.line X.env=pure true:=by rfl)(hs:∀x,foldedSetIterable iter X.env x=pure x:=by intro _;rfl)(p:X.fn x=true\/X.env.scope.names.lookup x=some .local:=by first | exact .inl rfl|exact .inr rfl|assumption):PS X (.Assign [.Name x pos'] (.ListComp elt [⟨tg,iter,ifs,0⟩] scope pos) b) (W6 (aI wi own ix g tt te) (Dv i)):=by
 intro Tb s l H D I h;obtain⟨cl,r,h1,h2⟩:=G5 (env:=X.env) (scope:=scope) λy hy e=>I.ok.has y.1 (.inl (O.frees y hy e));rw[exec_Assign_Name_used _ _ _ _ o];refine AAQ (ABa (AAQ ?_));show wpAny _ _ (do let _ <-comprehension (.ListComp elt [⟨tg,iter,ifs,0⟩] scope pos) scope X.env _ (newList []) false (eval iter X.env) (some (assign (.Name x pos') X.env))) _ _ s;refine AAQ (Bk (ADz (use:=some (assign (.Name x pos') X.env)) (Q:=λ_ c=>SP X Tb D .next c) rfl hs r O.kind O.names (Bk (hi Tb s l H _ I h) λv P hv=>Bk hv λt R u=> ?_)) λ_ c hq=>AAT (AAT hq));obtain⟨it,S,tn,J,U,rfl,w,T,f,f2,q⟩:=u;refine Vx (Qd:=λd j=>Dv i (.ref d) l j D.nx) hc O T w f2 f h1 h2 q λd C j c hn A gone B E F=> ?_;obtain⟨m,G⟩:=hn;show wpAny _ _ (assign (.Name x pos') X.env (.ref d)) _ _ c;refine wpAny_assign_Name (So (v:= .ref d) A hN n hx rfl (λK L ⟨a,M,ha⟩=> ?_) p);have k:C≠a:=by
  rcases ha with z|z
  .rw [z];exact B
  .exact E x a z
 exact⟨m,G.sameBut M k,λh' hs=>⟨_,j,gone _ K L h' hs,F⟩⟩
end
def Lv {n k:Nat}(h:n<2^k)(hk:0<k):n.log2<k:=by
 by_cases e:n=0
 .subst e;simpa using hk
 .exact (Nat.log2_lt e).mpr h
def JB {i:Int}{k:Nat}(h:i.natAbs<2^k):Builtin.Int.intBits i<=k:=by
 unfold Builtin.Int.intBits;by_cases e:i=0
 .subst e;simp
 .have a:(i==0)=false:=by simpa using e
  rw[a];simp only[ABI,AAx];have b:i.natAbs≠0:=by omega
  have:=(Nat.log2_lt b).mpr h;omega
section
variable {X:Cx}
def vH (i j:Int):Prop:=i.natAbs<2^8000/\j.natAbs<2^8000
def qg (i j:Int):Prop:=PX i j\/vH i j
def JH:ET X (binaryOp .Mult) (rI qg λi j=> .int (i*j)):=oY λ_ _ _ _ _ _ _ hc q=>mul_int q (by
 rcases hc with z|z
 .exact z.ok
 .exact .of_le (JB z.1) (JB z.2) (by decide))
def qf (_ j:Int):Prop:=0<j/\j.natAbs<2^8000
def gF:ET X (binaryOp .FloorDiv) (rI qf λi j=> .int (i/j)):=oY λi j _ _ _ _ _ hc q=>by have h1:(0:Int)<j:=hc.1;refine floordiv_int (by omega) ?_ (.inl (AE6 (ACg (Lv hc.2 (by decide)) (by decide))));rw[ACh _ (Int.le_of_lt h1)];exact q
inductive Kd where
 | int|bl|non|str|lst|tup
 deriving DecidableEq
def ql (K:AAR)(x:V)(H:Hp):Kd->Prop
 | .int=>∃i,x= .int i
 | .bl=>∃b,x= .bl b
 | .non=>x= .non
 | .str=>∃z,x= .str z
 | .lst=>∃a ys,x= .ref a/\Fs K H a ys
 | .tup=>∃a ys,x= .ref a/\LW K H a ys
def JX:Kd->String->kc
 | .int,T=>T == "int"
 | .bl,T=>T == "bool" || T == "int"
 | .non,_=>false
 | .str,_=>false
 | .lst,T=>T == "list"
 | .tup,T=>T == "tuple"
def IS (T:String):Prop:=T="int" \/T="bool" \/T="tuple" \/T="list"
def pI (K:AAR):km V->Hp->VK->Prop:=λxs H Q=>∃x T k,xs= [x, .ty T] /\IS T/\ql K x H k/\Q (.bl (JX k T)) H
def di:DE X (.builtin "isinstance") (pI X.K):=by
 intro Tb s n H xs p Q I r h;obtain⟨x,T,k,rfl,f,hk,q⟩:=h;cases r with
 | cons g m=>
 cases m with
 | cons rt m=>
 cases m;cases rt;have c:Q (.bl true) H->EP X Tb n Q (.bool true) s:=λz=>⟨.bl true,H,I,rfl,z⟩;have b:Q (.bl false) H->EP X Tb n Q (.bool false) {s with toks:=s.toks+1}:=λz=>⟨.bl false,H,I.tok _,rfl,z⟩;cases k with
 | int=>
   obtain⟨i,rfl⟩:=hk;obtain⟨t,rfl⟩:=g;rcases f with rfl|rfl|rfl|rfl
   .exact IsiPair.int_int (c q)
   .exact IsiPair.int_bool (b q)
   .exact IsiPair.int_tuple (b q)
   .exact IsiPair.int_list (b q)
 | bl=>
   obtain⟨i,rfl⟩:=hk;cases g;rcases f with rfl|rfl|rfl|rfl
   .exact IsiPair.bool_int (c q)
   .exact IsiPair.bool_bool (c q)
   .exact IsiPair.bool_tuple (b q)
   .exact IsiPair.bool_list (b q)
 | non=>
   have e:x= .non:=hk;subst e;cases g;rcases f with rfl|rfl|rfl|rfl
   .exact IsiPair.NoneType_int (b q)
   .exact IsiPair.NoneType_bool (b q)
   .exact IsiPair.NoneType_tuple (b q)
   .exact IsiPair.NoneType_list (b q)
 | str=>
   obtain⟨i,rfl⟩:=hk;obtain⟨t,rfl⟩:=g;rcases f with rfl|rfl|rfl|rfl
   .exact IsiPair.str_int (b q)
   .exact IsiPair.str_bool (b q)
   .exact IsiPair.str_tuple (b q)
   .exact IsiPair.str_list (b q)
 | lst=>
   obtain⟨a,ys,rfl,hq⟩:=hk;cases g;obtain⟨l,o,j,hz⟩:=I.list hq;rcases f with rfl|rfl|rfl|rfl
   .exact IsiPair.isList_int j.isList (λ_ _ e=>e) (b q)
   .exact IsiPair.isList_bool j.isList (λ_ _ e=>e) (b q)
   .exact IsiPair.isList_tuple j.isList (λ_ _ e=>e) (b q)
   .exact IsiPair.isList_list j.isList (λ_ _ e=>e) (c q)
 | tup=>
   obtain⟨a,ys,rfl,hq⟩:=hk;cases g;obtain⟨l,o,j,hz⟩:=I.tuple hq;have d:s.heap.IsTuple a l.toArray:=j;rcases f with rfl|rfl|rfl|rfl
   .exact IsiPair.isTuple_int d (λ_ _ e=>e) (b q)
   .exact IsiPair.isTuple_bool d (λ_ _ e=>e) (b q)
   .exact IsiPair.isTuple_tuple d (λ_ _ e=>e) (c q)
   .exact IsiPair.isTuple_list d (λ_ _ e=>e) (b q)
def cJ (bs:km kc):(List.range bs.length).all (λi=>bs.getD i true)=bs.all id:=by
 rw[ACR,ABd,ABd];constructor
 .intro h b hb;obtain⟨i,hi,e⟩:=AEe.mp hb;have:=h i (ADo.mpr hi);rw[AEf,AAs hi] at this;subst e;simpa using this
 .intro h i hi;have a:=ADo.mp hi;rw[AEf,AAs a];simpa using h _ (AD0 a)
def Inv.walked {Tb:km (kf×Obj)}{h:St}{H:Hp}{s c:ki}{o:Obj}(I:Inv X Tb h H s)(m:Moved [s.heap.objs.size] (λa b=>b=a) {s with heap:=s.heap.push o} c):Inv X Tb h H c:=by
 obtain⟨h',g',d',t',i⟩:=c;obtain⟨hk,d,hd,f,_⟩:=m;have g:∀b u,s.heap.get? b=some u->h'.get? b=some u:=λb u e=>hk b u (by
  intro z;have j:b=s.heap.objs.size:=by simpa using z
  exact absurd (AAW e) (by rw[j];exact ABi _)) (AAX _ e)
 have d:g'=s.gens:=d;have hd:d'=s.drawn:=hd;have f:i=s.os:=f;subst d hd f;exact I.kept (t':=t') g
def iQ {bs:km kc}{a:km kj}{A:Wf}(r:A6 (bs.map V.bl) a):TruthOf X.prog X.w A (λi v=>a.toArray[i]? =some v) (λi=>bs.getD i true):=by
 intro i v s Q E hv hQ;have c:a[i]? =some v:=by simpa using hv
 cases e:(bs.map V.bl)[i]? with
 | none=>rw[r.none_of e] at c;cases c
 | some x=>
   obtain⟨u,hu,f⟩:=r.get e;rw[c] at hu;cases hu;rw[AA0] at e;cases d:bs[i]? with
   | none=>rw[d] at e;cases e
   | some b=>
     rw[d] at e;cases e;cases f
     replace hQ:Q (bs.getD i true) s:=hQ
     rw[AEf,d] at hQ;unfold truthy;exact AAT hQ
def kT (K:AAR)(f:km kc->kc):km V->Hp->VK->Prop:=λxs H Q=>∃p bs,xs= [.ref p] /\Fs K H p (bs.map V.bl)/\Q (.bl (f bs)) H
def ah (hc:X.calm=true):DE X (.builtin "all") (kT X.K λbs=>bs.all id):=by
 intro Tb s k H xs l Q I r h;obtain⟨p,bs,rfl,hq,q⟩:=h;obtain⟨u,rfl,e⟩:=vals1 r;cases e;obtain⟨a,b,c,hz⟩:=I.list hq;obtain⟨ol,d,f⟩:=id c.isList;have g:p≠s.heap.objs.size:=AAa (AAW d);have j:a.toArray.size=bs.length:=by have:=b.length;simp at this;simp[this]
 refine call_all_walkS (AD1 c.isList ?_);refine⟨_,_,_,_,_,_,_,λi=>bs.getD i true,rfl,(Walks.list (A:=X.A.in1) (show X.A.in1.handled=none from I.ok.hd hc) s.heap.objs.size p g a.toArray).toS,⟨⟨_,AAd _ rfl,rfl,rfl⟩,⟨ol,AAX _ d,f⟩⟩,iQ b,λn m=> ?_⟩;rw[j,cJ];exact⟨.bl (bs.all id),H,I.walked m,rfl,q⟩
def je (xs:km V)(k:Nat)(y:V):km V:=xs.take k++y::xs.drop k
def A6.ins {xs:km V}{a:km kj}{y:V}{u:kj}(r:A6 xs a)(b:RelV y u)(k:Nat):A6 (je xs k y) (a.take k++u::a.drop k):=A6.append (r.take k) (.cons b (r.drop k))
def Ud:V->km V->Hp->VK->Prop:=λx vs H Q=>∃l xs i y,x= .ref l/\vs= [.int i,y] /\H l=some (.lst xs)/\0<=i/\i<=(xs.length:Int)/\xs.length<sizeLine/\Q .non (upd H l (.lst (je xs i.toNat y)))
def bY:qm X "list.insert" Ud:=by
 intro Tb s o H x vs v p Q I f rv h;obtain⟨l,xs,i,y,rfl,rfl,c,u,h1,hz,q⟩:=h;cases f;cases rv with
 | cons g b=>
 cases b with
 | cons j b=>
 cases b;rename_i d;obtain⟨t,rfl⟩:=g;obtain⟨z,a,n,r,hl,e⟩:=I.lstM c;have w:=NA;have m:¬(!Builtin.List.listFitsIndex i)=true:=by have:=fitsIndex_both (k:=i) (by omega) (by omega);simp[this]
 refine call_meets F.slot_list_insert ⟨_,e,rfl⟩ F.entry_list_insert (F.args_list_insert_3 _ _ _) (AutoSeq1.list_insert_list_int_val_1 l a.toArray n i t d m (by rw[AAh];omega)) ⟨e, ?_⟩;refine⟨.non,_,I.lset (ys:=je xs i.toNat y) (its':=a.take i.toNat++d::a.drop i.toNat) c e ?_ (r.ins j _) ?_,rfl,q⟩
 .dsimp only;rw[AAS (by omega),AAh,Nat.min_eq_left (by omega)];apply Array.toList_inj.mp;simp;exact AD2 (by simp)
 .unfold je;simp;omega
end
def RJ:kc->da->kf->kf->Nat->Prop
 | true,h,q,l,k=>h.IsListIter q l k
 | false,h,q,l,k=>h.IsTupleIter q l k
def Oc:kc->da->kf->Array kj->Prop
 | true,h,l,xs=>h.IsList l xs
 | false,h,l,xs=>h.IsTuple l xs
def RJ.mv {b:kc}{h h':da}{q l:kf}{k:Nat}(x:RJ b h q l k)(e:∀o,h.get? q=some o->h'.get? q=some o):RJ b h' q l k:=by
 cases b with
 | true=>obtain⟨o,a,r⟩:=x;exact⟨o,e o a,r⟩
 | false=>obtain⟨o,a,r⟩:=x;exact⟨o,e o a,r⟩
def RJ.obj {b:kc}{h:da}{q l:kf}{k:Nat}(x:RJ b h q l k):∃o,h.get? q=some o/\∀v,o.data≠ .cell v:=by
 cases b with
 | true=> obtain⟨o,a,_,d⟩:=x;exact⟨o,a,λv z=>by rw[d] at z;cases z⟩
 | false=> obtain⟨o,a,_,d⟩:=x;exact⟨o,a,λv z=>by rw[d] at z;cases z⟩
def Oc.mv {b:kc}{h h':da}{l:kf}{xs:Array kj}(x:Oc b h l xs)(e:∀o,h.get? l=some o->h'.get? l=some o):Oc b h' l xs:=by
 cases b with
 | true=>obtain⟨o,a,r⟩:=x;exact⟨o,e o a,r⟩
 | false=>obtain⟨o,a,r⟩:=x;exact⟨o,e o a,r⟩
section
variable {prog:gn}{w:fe}{A:Wf}{E:kj->ki->Prop}{s:ki}
def Lg {b:kc}{q l:kf}{k:Nat}{xs:Array kj}{x:kj}{Q:kj->ki->Prop}(hq:RJ b s.heap q l k)(hl:Oc b s.heap l xs)(hx:xs[k]? =some x)(hQ:∀h',RJ b h' q l (k+1)->Heap.SameBut q s.heap h'->Q x {s with heap:=h'}):wpAny (model prog w) A (Builtin.SmallTypes.nextOf (.ref q)) Q E s:=by
 cases b with
 | true=>exact wpAny_nextOf_list_item hq hl hx hQ
 | false=> have d:s.heap.IsTupleIter q l k:=hq;obtain⟨f,c,e,a⟩:=id d;obtain⟨ol,gl,_,g,dl⟩:=hl;unfold Builtin.SmallTypes.nextOf;refine AAQ (ABc (name:=Str.ofString "__next__") d.typeIs AD3 (ABH AD3 d.typeIs AE7 ?_ (AE8 _)));show wpAny _ _ (field (.ref q) 0 >>= _) _ _ _;refine AAQ (AAm c a (x:= .ref l) rfl ?_);show wpAny _ _ (if (Value.ref l==Value.none)=true then _ else _) _ _ _;rw[AAS (by intro z;cases z)];show wpAny _ _ (field (.ref q) 1 >>= _) _ _ _;refine AAQ (AAm c a (x:= .int k 0) rfl ?_);show wpAny _ _ (seqItems? (.ref l) >>= _) _ _ _;refine AAQ (ABC gl dl ?_);simp only[ACt,hx];refine AAQ (ADK c a (by simp) (AAT ⟨x,rfl,AAT (hQ _ ?_ (ADL ..))⟩));refine⟨_,ACf _ c (AEg (ADM a _)),(Obj.cls_mapFields ..).trans e, ?_⟩;rw[ADM a];simp[rawInt]
def M0 {b:kc}{q l:kf}{k:Nat}{xs:Array kj}{Q:kj->ki->Prop}(c:A.handled=none)(hq:RJ b s.heap q l k)(hl:Oc b s.heap l xs)(hx:xs[k]? =none)(h:∀h' e,Heap.ExtBut q s.heap h'->(∃o,h'.get? e=some o/\o.cls= .type "StopIteration")->E (.ref e) {s with heap:=h'}):wpAny (model prog w) A (Builtin.SmallTypes.nextOf (.ref q)) Q E s:=by
 cases b with
 | true=>exact wpAny_nextOf_list_end c hq hl hx h
 | false=>
   have d:s.heap.IsTupleIter q l k:=hq;obtain⟨i,f,j,g⟩:=id d;obtain⟨ol,gl,_,n,dl⟩:=hl;unfold Builtin.SmallTypes.nextOf;refine AAQ (ABc (name:=Str.ofString "__next__") d.typeIs AD3 (ABH AD3 d.typeIs AE7 ?_ (AE8 _)));show wpAny _ _ (field (.ref q) 0 >>= _) _ _ _;refine AAQ (AAm f g (x:= .ref l) rfl ?_);show wpAny _ _ (if (Value.ref l==Value.none)=true then _ else _) _ _ _;rw[AAS (by intro z;cases z)];show wpAny _ _ (field (.ref q) 1 >>= _) _ _ _;refine AAQ (AAm f g (x:= .int k 0) rfl ?_);show wpAny _ _ (seqItems? (.ref l) >>= _) _ _ _;refine AAQ (ABC gl dl ?_);simp only[ACt,hx];refine AAQ (ABS (AAQ (ADK f g (by simp) ?_)));refine AAQ (m:=newExc (.type "StopIteration") []) ?_;simp only[newExc,newTuple];refine AAQ (ABN ?_ (by size_fits));refine AAQ (m:=firstArgMember _ _) (ACV (a:=Value.none) (by first | rfl|(simp only[firstArgMember];rfl)) (ABN ?_ (by size_fits)));simp only[raiseNew];refine AAQ (wpAny_handled ?_);first | rw[show A.in1.handled=none from c] | rw[c]
   exact AAQ (AAT (wpAny_throw (h _ _ (((ADL ..).extBut.push _).push _) ⟨_,AAd _ rfl,rfl⟩)))
structure nB (b c:Bool) (z TI TO i j l m:Addr) (k:Nat) (f:Value) (h:Heap):Prop where
 zip:IsZip h z TI TO f
 its:IsPair h TI (.ref i) (.ref j)
 own:∃x y,IsPair h TO x y
 one:RJ b h i l k
 two:RJ c h j m k
def nB.mv {b c:kc}{z TI TO i j l m:kf}{k:Nat}{f:kj}{h h':da}(Z:nB b c z TI TO i j l m k f h)(e:∀p∈ [z,TI,TO,i,j],∀o,h.get? p=some o->h'.get? p=some o):nB b c z TI TO i j l m k f h':=by obtain⟨a,d,⟨x,y,g⟩,n,r⟩:=Z;exact⟨e z (by simp) _ a,e TI (by simp) _ d,⟨x,y,e TO (by simp) _ g⟩,n.mv (e i (by simp)),r.mv (e j (by simp))⟩
variable {b c:kc}{z TI TO i j l m:kf}{k:Nat}{xs ys:Array kj}
def uP {x y:kj}{Q:kj->ki->Prop}(D:ZipApart z TI TO i j l m)(Z:nB b c z TI TO i j l m k .none s.heap)(hl:Oc b s.heap l xs)(hm:Oc c s.heap m ys)(hx:xs[k]? =some x)(hy:ys[k]? =some y)(hQ:∀h',IsZip h' z TI TO (rawInt s.heap.objs.size)->IsPair h' TI (.ref i) (.ref j)->IsPair h' TO x y->RJ b h' i l (k+1)->RJ c h' j m (k+1)->IsPair h' s.heap.objs.size x y-> (∀p o,p≠z->p≠TO->p≠i->p≠j->s.heap.get? p=some o->h'.get? p=some o)->Q (.ref s.heap.objs.size) {s with heap:=h'}):wpAny (model prog w) A (Builtin.«zip.__next__» ⟨[.ref z], []⟩) (λK s'=>∃v,K= .done (.ret v)/\Q v s') E s:=by
 obtain⟨h,S,⟨x0,L,zo⟩,z1,z2⟩:=Z;show wpAny _ _ (field (.ref z) 2 >>= _) _ _ _;refine AAQ (AAm h rfl (x:= .bool false) rfl ?_);show wpAny _ _ (field (.ref z) 3 >>= _) _ _ _;refine AAQ (AAm h rfl (x:= .ref TI) rfl (AAQ (ABC S rfl ?_)));refine AAQ (m:=Builtin.SmallTypes.ownedTupleIsFree (.ref z)) ?_;unfold Builtin.SmallTypes.ownedTupleIsFree;refine AAQ (AAm h rfl (x:= .none) rfl (AAT ?_));simp only[ABK];refine AAQ (ABS (AAQ (AAm h rfl (x:= .ref TO) rfl (AAQ (ABe h (by simp) λg1 M b1=> ?_)))));have M:IsZip g1 z TI TO .ellipsis:=M;refine AAQ ?_;simp only[AD4,AD5,ACw,ADN];refine AAQ (AAQ (ACi ?_));refine AAQ (m:=Builtin.SmallTypes.nextOf (.ref i)) (Lg (z1.mv λo=>b1.extBut _ o D.i1z) (hl.mv λo=>b1.extBut _ o D.l1z) hx λg2 e2 b2=>AAT ?_);have T:IsPair g2 TO x0 L:=b2.extBut _ _ D.TOi1 (b1.extBut _ _ D.TOz zo);refine AAQ (ABC T rfl (AAQ (ADO T λg3 N g=>AAQ (ACx (AAT ?_)))));have N:IsPair g3 TO x L:=N;refine AAQ (AAQ (ACi ?_));refine AAQ (m:=Builtin.SmallTypes.nextOf (.ref j)) (Lg (((z2.mv λo=>b1.extBut _ o D.i2z).mv λo=>b2.extBut _ o D.i12.symm).mv λo=>g.extBut _ o D.TOi2.symm)
  (((hm.mv λo=>b1.extBut _ o D.l2z).mv λo=>b2.extBut _ o D.l2i1).mv λo=>g.extBut _ o D.l2TO) hy λg4 e4 n=>AAT ?_)
 have U:IsPair g4 TO x L:=n.extBut _ _ D.TOi2 N;refine AAQ (ABC U rfl (AAQ (ADO U λa F r=>AAQ (ACx (AAT (AAT ?_))))));have F:IsPair a TO x y:=F;refine AAQ (ABC F rfl (AAQ (wpAny_newTuple ?_)));have W:a.objs.size=s.heap.objs.size:=by rw[r.1,n.1,g.1,b2.1,b1.1]
 have X:IsZip a z TI TO .ellipsis:=r.extBut _ _ D.TOz.symm (n.extBut _ _ D.i2z.symm (g.extBut _ _ D.TOz.symm (b2.extBut _ _ D.i1z.symm M)));have d:∀p o,p≠z->p≠TO->p≠i->p≠j->s.heap.get? p=some o->a.get? p=some o:=λp o G H O P e=>
  r.extBut _ _ H (n.extBut _ _ P (g.extBut _ _ H (b2.extBut _ _ O (b1.extBut _ _ G e))))
 have t:RJ b a i l (k+1):=((e2.mv λo=>g.extBut _ o D.TOi1.symm).mv λo=>n.extBut _ o D.i12).mv λo=>r.extBut _ o D.TOi1.symm;have u:RJ c a j m (k+1):=e4.mv λo=>r.extBut _ o D.TOi2.symm;have B:z<a.objs.size:=AAW X;refine AAQ (m:=Builtin.SmallTypes.ownedTupleHandOut (.ref z) (.ref a.objs.size)) ?_;unfold Builtin.SmallTypes.ownedTupleHandOut;have k6:IsZip (a.push {cls:= .type "tuple",data:= .seq #[x,y] }) z TI TO .ellipsis:=AAX _ X;refine AAQ (ABe k6 (by simp) λg7 R Y=> ?_);have R:IsZip g7 z TI TO (rawInt a.objs.size):=R;refine ABe R (by simp) λI J b8=> ?_;have J:IsZip I z TI TO (rawInt a.objs.size):=J;have C:∀p o,p≠z->a.get? p=some o->I.get? p=some o:=λp o q e=>b8.extBut _ _ q (Y.extBut _ _ q (AAX _ e));have f:IsPair I a.objs.size x y:=b8.extBut _ _ (ABE B) (Y.extBut _ _ (ABE B) (AAd _ rfl));rw[W] at J f;refine AAT ⟨_,rfl, ?_⟩;show Q (.ref a.objs.size) _;rw[W];exact hQ I J (C _ _ D.TIz (d _ _ D.TIz D.TITO D.TIi1 D.TIi2 S)) (C _ _ D.TOz F) (t.mv λo=>C _ o D.i1z) (u.mv λo=>C _ o D.i2z) f λp o G H O P e=>C p o G (d p o G H O P e)
def xx {Q:Fin->ki->Prop}(y:A.handled=none)(D:ZipApart z TI TO i j l m)(Z:nB b c z TI TO i j l m k .none s.heap)(hl:Oc b s.heap l xs)(L:Oc c s.heap m ys)(M:xs[k]? =none\/ys[k]? =none)(B:∀h' e,(∀p o,p≠z->p≠TO->p≠i->p≠j->s.heap.get? p=some o->h'.get? p=some o)->(∃o,h'.get? e=some o/\o.cls= .type "StopIteration")->E (.ref e) {s with heap:=h'}):wpAny (model prog w) A (Builtin.«zip.__next__» ⟨[.ref z], []⟩) Q E s:=by
 obtain⟨f,N,⟨O,P,R⟩,C,S⟩:=Z;show wpAny _ _ (field (.ref z) 2 >>= _) _ _ _;refine AAQ (AAm f rfl (x:= .bool false) rfl ?_);show wpAny _ _ (field (.ref z) 3 >>= _) _ _ _;refine AAQ (AAm f rfl (x:= .ref TI) rfl (AAQ (ABC N rfl ?_)));refine AAQ (m:=Builtin.SmallTypes.ownedTupleIsFree (.ref z)) ?_;unfold Builtin.SmallTypes.ownedTupleIsFree;refine AAQ (AAm f rfl (x:= .none) rfl (AAT ?_));simp only[ABK];refine AAQ (ABS (AAQ (AAm f rfl (x:= .ref TO) rfl (AAQ (ABe f (by simp) λT n b1=> ?_)))));have n:IsZip T z TI TO .ellipsis:=n;refine AAQ ?_;simp only[AD4,AD5,ACw,ADN];refine AAQ (AAQ (ACi ?_));cases hx:xs[k]? with
 | none=>
   refine AAQ (m:=Builtin.SmallTypes.nextOf (.ref i)) (M0 y (C.mv λo=>b1.extBut _ o D.i1z) (hl.mv λo=>b1.extBut _ o D.l1z) hx λr e b2 he=> ?_);obtain⟨t,a,g⟩:=he;have F:IsZip r z TI TO .ellipsis:=b2 _ _ D.i1z.symm n;have u:e≠z:=λq=>by subst q;rw[F] at a;cases a;simp at g
   refine ABe F (by simp) λG _ d=>B G e (λp o h _ v _ q=>d.extBut _ _ h (b2 _ _ v (b1.extBut _ _ h q))) ⟨t,d.extBut _ _ u a,g⟩
 | some x=>
   have hy:ys[k]? =none:=by
    rcases M with q|q
    .rw [hx] at q;cases q
    .exact q
   refine AAQ (m:=Builtin.SmallTypes.nextOf (.ref i)) (Lg (C.mv λo=>b1.extBut _ o D.i1z) (hl.mv λo=>b1.extBut _ o D.l1z) hx λr e2 b2=>AAT ?_);have H:IsPair r TO O P:=b2.extBut _ _ D.TOi1 (b1.extBut _ _ D.TOz R);refine AAQ (ABC H rfl (AAQ (ADO H λG o3 d=>AAQ (ACx (AAT ?_)))));refine AAQ (AAQ (ACi ?_));refine AAQ (m:=Builtin.SmallTypes.nextOf (.ref j)) (M0 y (((S.mv λo=>b1.extBut _ o D.i2z).mv λo=>b2.extBut _ o D.i12.symm).mv λo=>d.extBut _ o D.TOi2.symm)
    (((L.mv λo=>b1.extBut _ o D.l2z).mv λo=>b2.extBut _ o D.l2i1).mv λo=>d.extBut _ o D.l2TO) hy λU e I he=> ?_)
   obtain⟨t,a,g⟩:=he;have J:IsZip U z TI TO .ellipsis:=I _ _ D.i2z.symm (d.extBut _ _ D.TOz.symm (b2.extBut _ _ D.i1z.symm n));have u:e≠z:=λq=>by subst q;rw[J] at a;cases a;simp at g
   refine ABe J (by simp) λW _ K=>B W e (λp o h X v Y q=>K.extBut _ _ h (I _ _ Y (d.extBut _ _ X (b2.extBut _ _ v (b1.extBut _ _ h q))))) ⟨t,K.extBut _ _ u a,g⟩
end
def bR (b:kc)(l:kf):Obj:={cls:= .type (match b with | true=>"list_iterator" | false=>"tuple_iterator"),data:= .fields #[.ref l, .int 0 0] }
abbrev zA (b:kc)(h:da)(l:kf):da:=h.push (bR b l)
abbrev zB (b c:kc)(h:da)(l m:kf):da:=(zA b h l).push (bR c m)
abbrev zC (b c:kc)(h:da)(l m:kf):da:=(zB b c h l m).push {cls:= .type "tuple",data:= .seq #[.ref h.objs.size, .ref (zA b h l).objs.size] }
abbrev zD (b c:kc)(h:da)(l m:kf):da:=(zC b c h l m).push {cls:= .type "tuple",data:= .seq #[.none, .none] }
abbrev zF (b c:kc)(h:da)(l m:kf):da:=(zD b c h l m).push {cls:= .type "zip",data:= .fields #[.none, .bool false, .bool false, .ref (zB b c h l m).objs.size, .ref (zC b c h l m).objs.size] }
def X5 {prog:gn}{w:fe}{A:Wf}{E:kj->ki->Prop}{h:da}{g:Array GenState}{d:Drawn}{a:Nat}{os:OsState}{b:kc}{l:kf}{xs:Array kj}{Q:kj->ki->Prop}(hl:Oc b h l xs)(q:Q (.ref h.objs.size) ⟨h.push (bR b l),g,d,a,os⟩):wpAny (model prog w) A (pyIter (.ref l)) Q E ⟨h,g,d,a,os⟩:=by
 cases b with
 | true=>exact AD1 (s:=⟨h,g,d,a,os⟩) hl q
 | false=>exact wpAny_pyIter_tuple (s:=⟨h,g,d,a,os⟩) hl q
def cu (b c:kc)(l m:kf)(xs ys:Array kj):Meets (Builtin.«zip.__new__» ⟨[.type "zip", .ref l, .ref m], []⟩) (λ_ R s=>Oc b s.heap l xs/\Oc c s.heap m ys/\R (.ok (.ret (.ref (zD b c s.heap l m).objs.size))) {s with heap:=zF b c s.heap l m}):=
 .of_wp λprog w A R s h=>by
   obtain⟨hp,g,d,j,os⟩:=s;obtain⟨hl,a,h⟩:=h;have k:=sub_zip;have f:Oc b hp l xs:=hl;have i:Oc c (hp.push (bR b l)) m ys:=a.mv λo e=>AAX _ e
   wp_walk using X5 f,X5 i
   exact⟨_,rfl,h⟩
section
variable {prog:gn}{w:fe}{A:Wf}{E:kj->ki->Prop}{s:ki}{b c:kc}{l m:kf}{xs ys:Array kj}
def fM {h:da}{q:kf}(e:h.get? q=some (bR b l)):RJ b h q l 0:=by
 cases b with
 | true=>exact⟨_,e,rfl,rfl⟩
 | false=>exact⟨_,e,rfl,rfl⟩
def p9 (hl:Oc b s.heap l xs)(n:Oc c s.heap m ys){Q:kj->ki->Prop}(h:∀h',nB b c (s.heap.objs.size+4) (s.heap.objs.size+2) (s.heap.objs.size+3) s.heap.objs.size (s.heap.objs.size+1) l m 0 .none h'->(∀p o,s.heap.get? p=some o->h'.get? p=some o)->Q (.ref (s.heap.objs.size+4)) {s with heap:=h'}):wpAny (model prog w) A (call (.type "zip") [.ref l, .ref m]) Q E s:=by
 refine callType_new F.called_zip (by decide) (F.typeCall_zip_2 _ _) (F.newCall_zip_2 _ _) (λobj=>F.args_object_init_3 obj _ _) F.entry_zip_new (cu b c l m xs ys) ⟨hl,n, ?_⟩;have a:(zA b s.heap l).objs.size=s.heap.objs.size+1:=ABU ..;have d:(zB b c s.heap l m).objs.size=s.heap.objs.size+2:=by rw[ABU,a]
 have f:(zC b c s.heap l m).objs.size=s.heap.objs.size+3:=by rw[ABU,d]
 have i:(zD b c s.heap l m).objs.size=s.heap.objs.size+4:=by rw[ABU,f]
 have g:(zF b c s.heap l m).get? (zD b c s.heap l m).objs.size=some _:=AAd _ rfl;have j:(zF b c s.heap l m).get? (zC b c s.heap l m).objs.size=some _:=AAX _ (AAd _ rfl);have k:(zF b c s.heap l m).get? (zB b c s.heap l m).objs.size=some _:=AAX _ (AAX _ (AAd _ rfl));have p2:(zF b c s.heap l m).get? (zA b s.heap l).objs.size=some (bR c m):=AAX _ (AAX _ (AAX _ (AAd _ rfl)));have p1:(zF b c s.heap l m).get? s.heap.objs.size=some (bR b l):=AAX _ (AAX _ (AAX _ (AAX _ (AAd _ rfl))));rw[d,f,i] at g;rw[a,d] at k;rw[f] at j;rw[a] at p2;show _/\_;rw[i];exact⟨⟨_,g,rfl⟩,h _ ⟨g,k,⟨_,_,j⟩,fM p1,fM p2⟩ λp o e=>AAX _ (AAX _ (AAX _ (AAX _ (AAX _ e))))⟩
end
def Sq (K:AAR):kc->Hp->kf->km V->Prop
 | true,H,a,xs=>Fs K H a xs
 | false,H,a,xs=>LW K H a xs
section
variable {X:Cx}{Tb:km (kf×Obj)}{σ:St}{H:Hp}{s:ki}{a:kf}{ys xs:km V}{b:kc}{h':da}
def Inv.sq (I:Inv X Tb σ H s)(h:Sq X.K b H a xs):∃c:km kj,A6 xs c/\Oc b s.heap a c.toArray/\xs.length<=sizeLine:=by
 cases b with
 | true=> obtain⟨c,r,p,z⟩:=I.list h;exact⟨c,r,p.isList,z⟩
 | false=> obtain⟨c,r,p,z⟩:=I.tuple h;exact⟨c,r,p,z⟩
def Inv.sq_inj (I:Inv X Tb σ H s)(h:Sq X.K b H a xs)(h2:Sq X.K b H a ys):xs=ys:=by
 cases b with
 | true=>exact I.list_inj h h2
 | false=>exact I.tuple_inj h h2
def Inv.turnedL {ch:km kf}{t':Nat}(I:Inv X Tb σ H s)(c:∀p∈ch,Ej X Tb H p)(k:∀p o,p ∉ ch->s.heap.get? p=some o->h'.get? p=some o):Inv X Tb σ H {s with heap:=h',toks:=t'}:=by
 have d:∀p u,H p=some u->p ∉ ch:=λp u e z=>by rw[(c p z).1] at e;cases e
 refine I.step (g':=s.gens) (d':=s.drawn) (ch:=ch) (λp hp=>⟨(c p hp).2.2.2.1,(c p hp).2.1,(c p hp).2.2.2.2.1,(c p hp).2.2.2.2.2⟩) (λp o _ _ hc e _=>k p o hc e) (λp o _ _ hc e _=>⟨o.slots,k p o hc e⟩)
  (λ_ _ _ _ n=>n) (λp o hc e=>⟨o,k p o hc e⟩) (λ_ _ e=>e) (λ_ _ _ e=>e) (λp i e=>⟨#[],by rw[e];simp⟩) (λm f=> ?_) (λp u e=> ?_) I.bare
 .obtain ⟨o,es,ep,g,r⟩:=f;exact⟨o,es,ep,k _ o (λz=>(c _ z).2.1 rfl) g,r⟩
 .refine (I.hok p u e).stay (λq v hq h=>k q v ?_ h) (λ_ q=>q) λ_ _ q=>q;rcases hq with z|z
  .rw [z];exact d p u e
  .exact d q _ z
def Inv.turnedN {ch:km kf}{t':Nat}{n:kf}{o:HO}(I:Inv X Tb σ H s)(c:∀p∈ch,Ej X Tb H p)(i:∀p∈ch,p<s.heap.objs.size)(k:∀p o,p ∉ ch->s.heap.get? p=some o->h'.get? p=some o)(hn:s.heap.objs.size<=n)(new:Dd X.prog X.w (upd H n o) h' n o):Inv X Tb σ (upd H n o) {s with heap:=h',toks:=t'}:=by
 have f:Inv X Tb σ H {s with heap:=h',toks:=t'}:=I.turnedL c k;have d:H n=none:=I.hok.fresh hn;have hx:∀p u,s.heap.get? p=some u->p≠n:=λp u e=>AAa (AAt (AAW e) hn);refine I.step (g':=s.gens) (d':=s.drawn) (ch:=ch) (λp hp=>⟨(c p hp).2.2.2.1,(c p hp).2.1,(c p hp).2.2.2.2.1,(c p hp).2.2.2.2.2⟩) (λp o _ _ hc e _=>k p o hc e) (λp o _ _ hc e _=>⟨o.slots,k p o hc e⟩)
  (λp u _ e z=>by rw[Aq (hx p u e)];exact z) (λp o hc e=>⟨o,k p o hc e⟩) (λp xs e=>by rw[Aq (A4 e d)];exact e) (λp o xs e=>by rw[Aq (A4 e d)];exact e)
  (λp j e=>⟨#[],by rw[Aq (A4 e d),e];simp⟩) (λm g=> ?_) (λp u e=> ?_) I.bare
 .obtain ⟨o,es,ep,h,r⟩:=g;exact⟨o,es,ep,k _ o (λz=>(c _ z).2.1 rfl) h,r⟩
 .by_cases hp:p=n
  .subst hp;rw[Au] at e;cases e;exact new
  .rw [Aq hp] at e;exact(f.hok p u e).stay (λ_ _ _ q=>q) (λq hq=>by rw[Aq (A4 hq d)];exact hq) λq xs hq=>by rw[Aq (A4 hq d)];exact hq
end
def vS (K:AAR)(b c:kc)(l m:kf):It:=
 ⟨λi H=>∃xs ys x y,Sq K b H l xs/\Sq K c H m ys/\xs[i]? =some x/\ys[i]? =some y,
  λi H v a=>∃T x y,v= .ref T/\H T=none/\a=upd H T (.tup [x,y])/\(∀xs,Sq K b H l xs->xs[i]? =some x)/\∀ys,Sq K c H m ys->ys[i]? =some y,
  λi H=>∃xs ys,Sq K b H l xs/\Sq K c H m ys/\(xs.length<=i\/ys.length<=i)⟩
def iT {P:gn}{w:fe}{K:AAR}{es:km kd}{M:Nat}{r:Pos}{b c:kc}{z TI TO i j l m:kf}(D:ZipApart z TI TO i j l m):LX P w K (.Tuple es M r) (vS K b c l m) [z,TI,TO,i,j] z (λk h=>nB b c z TI TO i j l m k .none h) where
 mem:=by simp
 obj:=λk h Z p hp=>by
  have a:p=z\/p=TI\/p=TO\/p=i\/p=j:=by simpa using hp
  rcases a with e|e|e|e|e
  .subst e;exact⟨_,Z.zip,λv q=>nomatch q⟩
  .subst e;exact⟨_,Z.its,λv q=>nomatch q⟩
  .subst e;obtain⟨x,y,q⟩:=Z.own;exact⟨_,q,λv q=>nomatch q⟩
  .subst e;exact Z.one.obj
  .subst e;exact Z.two.obj
 keep:=λk h h' Z e=>Z.mv e
 item:=by
  intro X t hw A hc k Tb s J H E I g Z B;subst t hw A;obtain⟨xs,ys,x,y,hl,n,hx,hy⟩:=B;obtain⟨L,C,F,_⟩:=I.sq hl;obtain⟨vs,rv,sv,_⟩:=I.sq n;obtain⟨u,hu,N⟩:=C.get hx;obtain⟨v,hv,O⟩:=rv.get hy;have f:s.TypeIs (.ref z) "zip" :=⟨_,Z.zip,rfl⟩;unfold pyNext;refine AAQ (ACj (ABc (name:=Str.ofString "__next__") f ACW (ABH ACW f AD6
   (uP D Z F sv (x:=u) (y:=v) (by simpa using hu) (by simpa using hv) λh1 Q R S U W Y a7=>AAT ?_) (AD7 _))))
  refine⟨_,rfl,wpAny_letOwnedTupleGo_zip (s:={s with heap:=h1}) Q λh2 c1 c2=> ?_⟩;have G:∀p∈ [z,TI,TO,i,j],p<s.heap.objs.size:=λp hp=>by
   have a:p=z\/p=TI\/p=TO\/p=i\/p=j:=by simpa using hp
   rcases a with e|e|e|e|e
   .subst e;exact AAW Z.zip
   .subst e;exact AAW Z.its
   .subst e;obtain⟨x,y,q⟩:=Z.own;exact AAW q
   .subst e;obtain⟨o,q,_⟩:=Z.one.obj;exact AAW q
   .subst e;obtain⟨o,q,_⟩:=Z.two.obj;exact AAW q
  have d:∀p o,p≠z->h1.get? p=some o->h2.get? p=some o:=λp o q e=>c2.extBut _ _ q e;have kp:∀p o,p ∉ [z,TI,TO,i,j] ->s.heap.get? p=some o->h2.get? p=some o:=λp o hp e=>by
   have a:p≠z/\p≠TI/\p≠TO/\p≠i/\p≠j:=by simpa using hp
   exact d p o a.1 (a7 p o a.1 a.2.2.1 a.2.2.2.1 a.2.2.2.2 e)
  have wS:s.heap.objs.size≠z:=ABE (G z (by simp));have I2:Inv X Tb J (upd H s.heap.objs.size (.tup [x,y])) {s with heap:=h2,toks:=s.toks}:=I.turnedN g G kp (AAY _)
   ⟨(by show 2<=sizeLine;decide), [u,v], .cons N (.cons O .nil),⟨_,d _ _ wS Y,rfl,_,rfl⟩⟩
  have WB:H s.heap.objs.size=none:=I.fresh;refine⟨.ref s.heap.objs.size,upd H s.heap.objs.size (.tup [x,y]),I2,rfl,⟨_,x,y,rfl,WB,rfl,λxs' h'=> ?_,λys' h'=> ?_⟩, ?_,λp hp=> ?_⟩
  .rw [I.sq_inj h' hl];exact hx
  .rw [I.sq_inj h' n];exact hy
  .exact ⟨c1,d _ _ D.TIz R,⟨_,_,d _ _ D.TOz S⟩,U.mv λo=>d _ o D.i1z,W.mv λo=>d _ o D.i2z⟩
  .rw [Aq (AAa (G p hp))];exact(g p hp).1
 done:=by
  intro X t hw A hc k Tb s J H E I g Z B;subst t hw A;obtain⟨xs,ys,hl,n,he⟩:=B;obtain⟨L,C,F,_⟩:=I.sq hl;obtain⟨vs,rv,sv,_⟩:=I.sq n;have e1:=C.length;have e2:=rv.length;have nY:L.toArray[k]? =none\/vs.toArray[k]? =none:=by
   rcases he with q|q
   .exact .inl (by simp;omega)
   .exact .inr (by simp;omega)
  have f:s.TypeIs (.ref z) "zip" :=⟨_,Z.zip,rfl⟩;unfold pyNext;refine AAQ (ACj (ABc (name:=Str.ofString "__next__") f ACW (ABH ACW f AD6
   (xx (I.ok.hd hc) D Z F sv nY λh1 e hk he=> ?_) (AD7 _))))
  obtain⟨o,ho,nX⟩:=he;refine AAQ (ACQ (T:="StopIteration") (b:=true) ⟨o,ho,nX⟩ isSubtype_stop (AAT ⟨rfl, ?_⟩));exact I.turnedL (t':=s.toks) g λp o hp e=>by
   have a:p≠z/\p≠TI/\p≠TO/\p≠i/\p≠j:=by simpa using hp
   exact hk p o a.1 a.2.2.1 a.2.2.2.1 a.2.2.2.2 e
 self:=λ_ _ _ _ _ Z h=>AD8 Z.zip h
structure Has (P:Program) (w:World) (K:AAR) (mg:Str->Option Value) (base:Heap) (k:Nat) (x:Str) (ps:List Str) (sp:Sp):Prop where
 ex:∃f fd,mg x=some (.ref f)/\PySem.W.keepIn K (.ref f)=true/\Binds K fd ps [] /\FA P w K mg base TR k f fd ps sp
def Has.mono {P:gn}{w:fe}{K:AAR}{mg:Str->ke kj}{base:da}{j k:Nat}{x:Str}{e:km Str}{sp:Sp}(h:Has P w K mg base j x e sp)(hk:j<=k):Has P w K mg base k x e sp:=by obtain⟨f,g,a,b,c,d⟩:=h.ex;exact⟨f,g,a,b,c,d.mono hk⟩
section
variable {X:Cx}{x:Str}{p pos:Pos}{e:kd}{es:km kd}{t:TA}{k:Nat}{ps:km Str}{sp:Sp}
def o6 (D:Has X.prog X.w X.K X.mg X.base k x ps sp)(a:Room k X.A)(b:Gl X x)(ha:PA X (e::es) t)(hs:starEach (e::es) X.env=(false,eval e X.env)::starEach es X.env:=by rfl)(hpl:(backTo pos (starEach es X.env)).any (·.1)=false:=by rfl)(hd:(x==("__debug__" :Str))=false:=by decide):PE X (.Call (.Name x p) (e::es) [] pos) (mR sp [] E0 t):=by obtain⟨f,h,c,d,g,G⟩:=D.ex;exact kC G a b c d g .nil so ha (hdb:=hd) (he:=hs) (hpl:=hpl)
end
section
variable {X:Cx}{tg elt:kd}{ifs:km kd}{scope:Scope}{own:Nat}{ix:km Nat}{N:km Str}{g:TG}{tt:TT}{te:TE}
def Px (X:Cx)(sc:Scope)(own:Nat)(ix:km Nat)(N:km Str):kc:=
 (List.range ix.length).all λj=>match ix[j]? with
   | none=>false
   | some i=>match N[own+j]?,X.N[i]? with
     | some x,some y=>decide (x=y)&&decide (X.env.scope.names.lookup x=some .cell)&&decide (sc.names.lookup x=some .cell)
     | _,_=>false
def V2 {sc:Scope}(h1:N.length=own+ix.length)(h2:Px X sc own ix N=true):R3 X sc own ix N:=by
 refine⟨h1,λj i hj=> ?_⟩;have c:j<ix.length:=(AAy.mp hj).1;have h:=ABd.mp h2 j (ADo.mpr c);rw[hj] at h;dsimp only at h;cases a:N[own+j]? with
 | none=>rw[a] at h;simp at h
 | some x=>
   cases b:X.N[i]? with
   | none=>rw[a,b] at h;simp at h
   | some y=> rw[a,b] at h;simp only[ABJ,ADP] at h;obtain⟨⟨d,e⟩,f⟩:=h;subst d;exact⟨x,rfl,rfl,e,f⟩
def ZK (h1:scope.kind= .function)(h2:(scope.names.all λy=> !decide (y.2= .cell))=true)(c:(scope.names.all λy=> !decide (y.2= .local)||decide (scope.names.lookup y.1=some .local))=true)(d:(scope.names.all λy=> !decide (y.2= .free)||decide (X.env.scope.names.lookup y.1=some .cell))=true)(f:N.length=own+ix.length)(h:Px X (relabel scope X.env) own ix N=true)(hk:IL own g)(a:∀cl C s H ex pn,PG (blk X (relabel scope X.env) N cl C s H ex pn) tg g)(b:∀cl C s H ex pn,Y9 (blk X (relabel scope X.env) N cl C s H ex pn) ifs tt)(val:∀cl C s H ex pn,PE (blk X (relabel scope X.env) N cl C s H ex pn) elt te):Mm X tg elt ifs scope own ix N g tt te:=by
 refine⟨h1,λy hy e=> ?_,λy hy e=> ?_,λy hy e=> ?_,V2 f h,hk,a,b,val⟩
 .have:=ABd.mp h2 y hy;simp[e] at this
 .have:=ABd.mp c y hy;simpa[e] using this
 .have:=ABd.mp d y hy;simpa[e] using this
end
def LS.new {H:Hp}{p:kf}{o:HO}(h:H p=none):LS H (upd H p o):=λb u q=>by rw[Aq (A4 q h)];exact q
def im (p:kf)(H a:Hp):Prop:=∀b o,b≠p->H b=some o->a b=some o
def im.refl {p:kf}{H:Hp}:im p H H:=λ_ _ _ h=>h
def im.trans {p:kf}{H d e:Hp}(a:im p H d)(b:im p d e):im p H e:=λc o n h=>b c o n (a c o n h)
def LS.but {p:kf}{H b:Hp}(a:LS H b):im p H b:=λc o _ h=>a c o h
def im.upd {p:kf}{H:Hp}{o:HO}:im p H (upd H p o):=λb u n q=>by rw[Aq n];exact q
end L2
namespace PL
open PySem PySem.Spec PyProof.Rows L2
inductive PV where
 | non|bl (b:Bool)|int (i:Int)|str (x:Str)|ty (n:String)
 | tup (xs:List PV)|lst (xs:List PV)|tape|scr (ns:List Int)|dct (kvs:List (FK×Int))
def Fh (H:Hp)(p:kf):Prop:=∃d x:Int,H p=some (.lst [.int d, .int x])/\0<=d/\0<=x/\x<2147483647
def Mp (o:HO):Prop:=(∀vs,o≠ .tup vs)/\∀q u,o≠ .frz q u
def Mp.lst {xs:km V}:Mp (.lst xs):=⟨(λ_ e=>nomatch e),(λ_ _ e=>nomatch e)⟩
def Fh.mut {H:Hp}{p:kf}(h:Fh H p):∃o,H p=some o/\Mp o:=by obtain⟨d,x,e,_⟩:=h;exact⟨_,e,Mp.lst⟩
def uY (K:AAR)(H:Hp)(a:kf)(xs:km V):Prop:=H a=some (.tup xs)\/∃(o:Obj) (b:Array kj) (n:Nat),K.lookup a=some o/\o.cls= .type "tuple" /\o.data= .seq b n/\b.size<=sizeLine/\A6 xs b.toList
def uY.sq {K:AAR}{H:Hp}{a:kf}{xs:km V}(h:uY K H a xs):LW K H a xs:=h.elim (λz=> .inl (.inl z)) .inr
def Cf (a:km (FK×Int)):km (FK×V):=a.map λp=>(p.1,V.int p.2)
mutual
inductive Cp (K:AAR) (T M:Addr->Prop) (H:Hp):V->PV->Prop where
 | non:Cp K T M H .non .non
 | bl (b:Bool):Cp K T M H (.bl b) (.bl b)
 | int (i:Int):Cp K T M H (.int i) (.int i)
 | str (x:Str):Cp K T M H (.str x) (.str x)
 | ty (n:String):Cp K T M H (.ty n) (.ty n)
 | tup {a:Addr} {vs:List V} {xs:List PV} (h:uY K H a vs) (r:A8 K T M H vs xs):Cp K T M H (.ref a) (.tup xs)
 | lst {a:Addr} {vs:List V} {xs:List PV} (h:H a=some (.lst vs)) (t:¬T a) (m:¬M a) (r:A8 K T M H vs xs):Cp K T M H (.ref a) (.lst xs)
 | tape {a:Addr} (t:T a):Cp K T M H (.ref a) .tape
 | dct {a:Addr} {kvs:List (FK×Int)} (h:H a=some (.dN K (Cf kvs))) (t:¬T a) (m:¬M a):Cp K T M H (.ref a) (.dct kvs)
 | scr {a:Addr} {ns:List Int} (h:(Rd H a (.lst (ns.map V.int))/\¬T a/\¬M a)\/∀H,Fs K H a (ns.map V.int)):Cp K T M H (.ref a) (.scr ns)
inductive A8 (K:AAR) (T M:Addr->Prop) (H:Hp):List V->List PV->Prop where
 | nil:A8 K T M H [] []
 | cons {v:V} {x:PV} {vs:List V} {xs:List PV} (h:Cp K T M H v x) (t:A8 K T M H vs xs):A8 K T M H (v::vs) (x::xs)
end
structure Hx (T M:Addr->Prop) (H:Hp):Prop where
 tp:∀a,T a->Fh H a
 mu:∀a,M a->∃o,H a=some o/\Mp o
def Hx.noTup {T M:kf->Prop}{H:Hp}(v:Hx T M H){a:kf}{vs:km V}(r:Rd H a (.tup vs)):¬T a/\¬M a:=by
 have go:∀o,H a=some o->Mp o->False:=λo e m=>by
  rcases r with r|⟨q,r⟩
  .rw [e] at r;cases r;exact m.1 _ rfl
  .rw [e] at r;cases r;exact m.2 _ _ rfl
 exact⟨λt=>let ⟨o,e,m⟩:=(v.tp a t).mut;go o e m,λt=>let ⟨o,e,m⟩:=v.mu a t;go o e m⟩
structure Mv (K:AAR) (T M:Addr->Prop) (H:Hp) (T' M':Addr->Prop) (H':Hp):Prop where
 va:Hx T M H
 keep:∀b o,¬T b->¬M b->H b=some o->H' b=some o
 sub:∀b,T b->T' b
 tn:∀b,H b≠none->T' b->T b
 mn:∀b,H b≠none->M' b->M b
def Zx {H:Hp}{a:kf}{u:HO}(r:Rd H a u):H a≠none:=by rcases r with r|⟨o,r⟩ <;> rw[r] <;> exact λe=>nomatch e
def tP {H b:Hp}{a:kf}{u:HO}(r:Rd H a u)(k:∀o,H a=some o->b a=some o):Rd b a u:=by
 rcases r with r|⟨o,r⟩
 .exact .inl (k _ r)
 .exact .inr ⟨o,k _ r⟩
section
variable {K:AAR}{T M T' M':kf->Prop}{H H':Hp}
mutual
theorem Cp.mv (m:Mv K T M H T' M' H'):∀{v:V} {x:PV},Cp K T M H v x->Cp K T' M' H' v x
 | _,_, .non=> .non
 | _,_, .bl b=> .bl b
 | _,_, .int i=> .int i
 | _,_, .str x=> .str x
 | _,_, .ty n=> .ty n
 | _,_, .tup (a:=a) (vs:=vs) h r=>by
   refine .tup (vs:=vs) ?_ (A8.mv m r);rcases h with h|h
   .obtain ⟨t,u⟩:=m.va.noTup (.inl h);exact .inl (m.keep _ _ t u h)
   .exact .inr h
 | _,_, .lst (a:=a) h t u r=> .lst (m.keep _ _ t u h) (λz=>t (m.tn a (by rw[h];exact λe=>nomatch e) z)) (λz=>u (m.mn a (by rw[h];exact λe=>nomatch e) z)) (A8.mv m r)
 | _,_, .tape t=> .tape (m.sub _ t)
 | _,_, .dct (a:=a) h t u=> .dct (m.keep _ _ t u h) (λz=>t (m.tn a (by rw[h];exact λe=>nomatch e) z)) (λz=>u (m.mn a (by rw[h];exact λe=>nomatch e) z))
 | _,_, .scr (a:=a) (.inl ⟨h,t,u⟩)=> .scr (.inl ⟨tP h λo e=>m.keep _ o t u e,λz=>t (m.tn a (Zx h) z),λz=>u (m.mn a (Zx h) z)⟩)
 | _,_, .scr (.inr h)=> .scr (.inr h)
theorem A8.mv (m:Mv K T M H T' M' H'):∀{vs:km V} {xs:km PV},A8 K T M H vs xs->A8 K T' M' H' vs xs
 | _,_, .nil=> .nil
 | _,_, .cons h t=> .cons (Cp.mv m h) (A8.mv m t)
end
end
def A8.length {K:AAR}{T M:kf->Prop}{H:Hp}:∀{vs:km V} {xs:km PV},A8 K T M H vs xs->vs.length=xs.length
 | _,_, .nil=>rfl
 | _,_, .cons _ t=>by simp[t.length]
theorem A8.get {K:AAR}{T M:kf->Prop}{H:Hp}:∀{vs:km V} {xs:km PV} {i:Nat} {x:PV},A8 K T M H vs xs->xs[i]? =some x->∃v,vs[i]? =some v/\Cp K T M H v x
 | _,_,_,_, .nil,e=>by simp at e
 | _,_,0,_, .cons h _,e=>by simp at e;subst e;exact⟨_,rfl,h⟩
 | _,_,i+1,x, .cons _ t,e=>by obtain⟨u,h1,h2⟩:=A8.get (i:=i) (x:=x) t (by simpa using e);exact⟨u,by simpa using h1,h2⟩
def A8.get' {K:AAR}{T M:kf->Prop}{H:Hp}{vs:km V}{xs:km PV}{i:Nat}{v:V}(h:A8 K T M H vs xs)(e:vs[i]? =some v):∃x,xs[i]? =some x/\Cp K T M H v x:=by have hl:=h.length;have hi:i<vs.length:=(AAy.mp e).1;obtain⟨w,a,r⟩:=h.get (i:=i) (x:=xs[i]'(by omega)) (AAs (by omega));rw[e] at a;cases a;exact⟨_,AAs (by omega),r⟩
def A8.append {K:AAR}{T M:kf->Prop}{H:Hp}:∀{vs a:km V} {xs ys:km PV},A8 K T M H vs xs->A8 K T M H a ys->A8 K T M H (vs++a) (xs++ys)
 | _,_,_,_, .nil,s=>s
 | _,_,_,_, .cons h t,s=> .cons h (t.append s)
def A8.take {K:AAR}{T M:kf->Prop}{H:Hp}:∀{vs:km V} {xs:km PV} (n:Nat),A8 K T M H vs xs->A8 K T M H (vs.take n) (xs.take n)
 | _,_,0,_=> .nil
 | _,_,_+1, .nil=> .nil
 | _,_,n+1, .cons r t=> .cons r (t.take n)
def A8.drop {K:AAR}{T M:kf->Prop}{H:Hp}:∀{vs:km V} {xs:km PV} (n:Nat),A8 K T M H vs xs->A8 K T M H (vs.drop n) (xs.drop n)
 | _,_,0,r=>r
 | _,_,_+1, .nil=> .nil
 | _,_,n+1, .cons _ t=>t.drop n
theorem A8.set {K:AAR}{T M:kf->Prop}{H:Hp}{v:V}{x:PV}(r:Cp K T M H v x):∀{vs:km V} {xs:km PV} (i:Nat),A8 K T M H vs xs->A8 K T M H (vs.set i v) (xs.set i x)
 | _,_,_, .nil=> .nil
 | _,_,0, .cons _ t=> .cons r t
 | _,_,i+1, .cons q t=> .cons q (A8.set r i t)
def A8.nil_iff {K:AAR}{T M:kf->Prop}{H:Hp}{vs:km V}{xs:km PV}(h:A8 K T M H vs xs):vs= [] ↔xs= [] :=by cases h <;> simp
def A8.reverse {K:AAR}{T M:kf->Prop}{H:Hp}{vs:km V}{xs:km PV}(h:A8 K T M H vs xs):A8 K T M H vs.reverse xs.reverse:=by
 induction vs generalizing xs with
 | nil=>cases h;exact .nil
 | cons v vs ih=>
   cases h with
   | cons h t=>rw[ADw,ADw];exact(ih t).append (.cons h .nil)
structure EG (T:Addr->Prop) (H:Hp) (T':Addr->Prop) (H':Hp):Prop where
 keep:∀b o,¬T b->H b=some o->H' b=some o
 sub:∀b,T b->T' b
 new:∀b,T' b->T b\/H b=none
 tp:∀a,T' a->Fh H' a
def EG.refl {T:kf->Prop}{H:Hp}(h:∀a,T a->Fh H a):EG T H T H:=⟨λ_ _ _ e=>e,λ_ e=>e,λ_ e=> .inl e,h⟩
def EG.some {T c:kf->Prop}{H a:Hp}(s:EG T H c a){b:kf}(h:H b≠none):a b≠none:=by
 by_cases t:T b
 .obtain ⟨o,e,_⟩:=(s.tp b (s.sub b t)).mut;rw[e];exact λe=>nomatch e
 .cases e:H b with
  | none=>exact absurd e h
  | some o=>rw[s.keep b o t e];exact λe=>nomatch e
def EG.none {T c:kf->Prop}{H a:Hp}(s:EG T H c a){b:kf}(h:a b=none):H b=none:=by
 cases e:H b with
 | none=>rfl
 | some o=>exact absurd h (s.some (by rw[e];exact λe=>nomatch e))
def EG.trans {T d f:kf->Prop}{H g h:Hp}(a:EG T H d g)(b:EG d g f h):EG T H f h where
 keep:=λc o t e=>b.keep c o (λz=>(a.new c z).elim t λn=>by rw[n] at e;cases e) (a.keep c o t e)
 sub:=λc t=>b.sub c (a.sub c t)
 new:=λc t=>(b.new c t).elim (λz=>a.new c z) λz=> .inr (a.none z)
 tp:=b.tp
def EG.lay {T:kf->Prop}{H:Hp}{p:kf}{o:HO}(h:∀a,T a->Fh H a)(hp:H p=Option.none):EG T H T (upd H p o) where
 keep:=λb u _ e=>by rw[Aq (A4 e hp)];exact e
 sub:=λ_ t=>t
 new:=λ_ t=> .inl t
 tp:=λa t=>by obtain⟨d,x,e,z⟩:=h a t;exact⟨d,x,by rw[Aq (A4 e hp)];exact e,z⟩
def EG.mv {K:AAR}{T a M:kf->Prop}{H c:Hp}(s:EG T H a c)(v:Hx T M H):Mv K T M H a M c where
 va:=v
 keep:=λb o t _ e=>s.keep b o t e
 sub:=s.sub
 tn:=λb n t=>(s.new b t).elim id λz=>absurd z n
 mn:=λ_ _ z=>z
def Hx.stp {T b M:kf->Prop}{H c:Hp}(v:Hx T M H)(s:EG T H b c)(d:∀a,M a->¬T a):Hx b M c:=
 ⟨s.tp,λa m=>let ⟨o,e,q⟩:=v.mu a m;⟨o,s.keep a o (d a m) e,q⟩⟩
def Cp.stp {K:AAR}{T a M:kf->Prop}{H b:Hp}{v:V}{x:PV}(r:Cp K T M H v x)(s:EG T H a b)(va:Hx T M H):Cp K a M b v x:=r.mv (s.mv va)
def A8.stp {K:AAR}{T a M:kf->Prop}{H b:Hp}{v:km V}{x:km PV}(r:A8 K T M H v x)(s:EG T H a b)(va:Hx T M H):A8 K a M b v x:=r.mv (s.mv va)
def Mv.anti {K:AAR}{T M c:kf->Prop}{H:Hp}(v:Hx T M H)(h:∀a,c a->M a):Mv K T M H T c H:=⟨v,λ_ _ _ _ e=>e,λ_ t=>t,λ_ _ t=>t,λb _ t=>h b t⟩
inductive AV where
 | val (x:PV)
 | own (xs:List PV)
abbrev BN:=km (ke AV)
structure Dg where
 T:Addr->Prop
 H:Hp
 M:Addr->Prop
def Dg.add (B:Dg)(p:kf):Dg:=⟨B.T,B.H,λa=>B.M a\/a=p⟩
def Dx (a:L2.St)(τ:BN)(p:kf):Prop:=∃(i:Nat) (xs:km PV),τ[i]? =some (some (.own xs))/\a[i]? =some (some (.ref p))
def mt (B:Dg)(a:L2.St)(τ:BN)(p:kf):Prop:=B.M p\/Dx a τ p
structure SR (K:AAR) (B:Dg) (T:Addr->Prop) (H:Hp) (σ:L2.St) (τ:BN):Prop where
 len:σ.length=τ.length
 val:∀(i:Nat) (x:PV),τ[i]? =some (some (.val x))->∃v,σ[i]? =some (some v)/\Cp K T (mt B σ τ) H v x
 own:∀(i:Nat) (xs:List PV),τ[i]? =some (some (.own xs))->∃p vs,σ[i]? =some (some (.ref p))/\H p=some (.lst vs)/\A8 K T (mt B σ τ) H vs xs/\B.H p=none/\¬T p/\¬B.M p
 dist:∀(i j:Nat) (xs ys:List PV) (p:Addr),τ[i]? =some (some (.own xs))->τ[j]? =some (some (.own ys))->σ[i]? =some (some (.ref p))->σ[j]? =some (some (.ref p))->i=j
 tp:∀a,T a->Fh H a
 bm:∀a,B.M a->∃o,H a=some o/\Mp o
 bt:∀a,B.M a->¬T a
 st:EG B.T B.H T H
section
variable {K:AAR}{B:Dg}{T T':kf->Prop}{H H':Hp}{σ:L2.St}{τ:BN}
def SR.ownH (s:SR K B T H σ τ){p:kf}(o:Dx σ τ p):∃vs,H p=some (.lst vs)/\B.H p=none/\¬T p/\¬B.M p:=by obtain⟨i,xs,h1,h2⟩:=o;obtain⟨q,vs,e,h,_,b,t,m⟩:=s.own i xs h1;rw[h2] at e;cases e;exact⟨vs,h,b,t,m⟩
def SR.va (s:SR K B T H σ τ):Hx T (mt B σ τ) H:=⟨s.tp,λa m=>m.elim (s.bm a) λo=>let ⟨vs,h,_⟩:=s.ownH o;⟨_,h,Mp.lst⟩⟩
def SR.nt (s:SR K B T H σ τ){a:kf}(m:mt B σ τ a):¬T a:=m.elim (s.bt a) λo=>let ⟨_,_,_,t,_⟩:=s.ownH o;t
def SR.stp (s:SR K B T H σ τ)(p:EG T H T' H'):SR K B T' H' σ τ where
 len:=s.len
 val:=λi x e=>let ⟨v,h,r⟩:=s.val i x e;⟨v,h,r.stp p s.va⟩
 own:=λi xs e=>by obtain⟨q,vs,c,h,r,b,t,m⟩:=s.own i xs e;exact⟨q,vs,c,p.keep _ _ t h,r.stp p s.va,b,(λz=>(p.new q z).elim t λn=>by rw[n] at h;cases h),m⟩
 dist:=s.dist
 tp:=p.tp
 bm:=λa m=>let ⟨o,e,q⟩:=s.bm a m;⟨o,p.keep a o (s.bt a m) e,q⟩
 bt:=λa m z=>by obtain⟨o,e,_⟩:=s.bm a m;exact(p.new a z).elim (s.bt a m) λn=>by rw[n] at e;cases e
 st:=s.st.trans p
def SR.add {p:kf}{o:HO}(s:SR K B T H σ τ)(q:EG T H T' H')(hn:H p=none)(j:H' p=some o)(k:Mp o)(l:¬T' p):SR K (B.add p) T' H' σ τ:=by
 have c:=s.stp q;have f:Mv K T (mt B σ τ) H T' (mt (B.add p) σ τ) H':=⟨s.va,λb o t _ e=>q.keep b o t e,q.sub,λb n t=>(q.new b t).elim id λz=>absurd z n,λb n z=>by
  rcases z with(z|z)|z
  .exact .inl z
  .subst z;exact absurd hn n
  .exact .inr z⟩
 refine⟨s.len,λi x e=> ?_,λi xs e=> ?_,s.dist,c.tp,λa m=> ?_,λa m=> ?_,c.st⟩
 .obtain ⟨v,h,r⟩:=s.val i x e;exact⟨v,h,r.mv f⟩
 .obtain ⟨a,vs,g,h,r,b,t,m⟩:=s.own i xs e;obtain⟨w,u,d,h',_,y,t',A⟩:=c.own i xs e;rw[g] at d;cases d;rw[q.keep _ _ t h] at h';cases h';refine⟨a,vs,g,q.keep _ _ t h,r.mv f,b,t',λz=> ?_⟩;rcases z with z|z
  .exact m z
  .subst z;rw[hn] at h;cases h
 .rcases m with m|m
  .exact c.bm a m
  .subst m;exact⟨o,j,k⟩
 .rcases m with m|m
  .exact c.bt a m
  .subst m;exact l
def SR.drop {p:kf}(s:SR K (B.add p) T H σ τ):SR K B T H σ τ:=by have c:Mv K T (mt (B.add p) σ τ) H T (mt B σ τ) H:= .anti s.va λa m=>m.elim (λz=> .inl (.inl z)) .inr;refine⟨s.len,λi x e=>let ⟨v,h,r⟩:=s.val i x e;⟨v,h,r.mv c⟩,λi xs e=> ?_,s.dist,s.tp,λa m=>s.bm a (.inl m),λa m=>s.bt a (.inl m),s.st⟩;obtain⟨a,vs,d,h,r,b,t,m⟩:=s.own i xs e;exact⟨a,vs,d,h,r.mv c,b,t,λz=>m (.inl z)⟩
end
def jL:ke AV->ke AV
 | some (.own xs)=>some (.val (.lst xs))
 | o=>o
def frz (τ:BN):BN:=τ.map jL
def ZX {τ:BN}{i:Nat}:(frz τ)[i]? =(τ[i]?).map jL:=by simp[frz]
def jM {τ:BN}{i:Nat}{x:PV}(h:(frz τ)[i]? =some (some (.val x))):τ[i]? =some (some (.val x))\/∃xs,x= .lst xs/\τ[i]? =some (some (.own xs)):=by
 rw[ZX] at h;cases e:τ[i]? with
 | none=>rw[e] at h;cases h
 | some o=>
   rw[e] at h;cases o with
   | none=>cases h
   | some a=>
     cases a with
     | val y=>cases h;exact .inl rfl
     | own xs=>cases h;exact .inr ⟨xs,rfl,rfl⟩
def Tn {τ:BN}{i:Nat}{xs:km PV}:(frz τ)[i]? ≠some (some (.own xs)):=by
 rw[ZX];cases e:τ[i]? with
 | none=>exact λz=>nomatch z
 | some o=>
   cases o with
   | none=>exact λz=>nomatch z
   | some a=>cases a <;> exact λz=>nomatch z
def Wd {a:L2.St}{τ:BN}{p:kf}:¬Dx a (frz τ) p:=λ⟨_,_,h,_⟩=>Tn h
section
variable {K:AAR}{B:Dg}{T T':kf->Prop}{H H':Hp}{σ:L2.St}{τ:BN}
def SR.frz (s:SR K B T H σ τ):SR K B T H σ (frz τ):=by
 have d:Mv K T (mt B σ τ) H T (mt B σ (PL.frz τ)) H:= .anti s.va λa m=>m.elim .inl λz=>absurd z Wd;refine⟨by simp[PL.frz,s.len],λi x e=> ?_,λi xs e=>absurd e Tn,λi j xs ys p e=>absurd e Tn,s.tp,s.bm,s.bt,s.st⟩;rcases jM e with c|⟨xs,f,c⟩
 .obtain ⟨v,h,r⟩:=s.val i x c;exact⟨v,h,r.mv d⟩
 .subst f;obtain⟨p,vs,g,h,r,b,t,m⟩:=s.own i xs c;exact⟨.ref p,g, .lst h t (λz=>z.elim m Wd) (r.mv d)⟩
end
mutual
def cz:PV->kc
 | .lst _=>false
 | .tape=>false
 | .scr _=>false
 | .dct _=>false
 | .tup xs=>ju xs
 | _=>true
def ju:km PV->kc
 | [] =>true
 | x::xs=>cz x&&ju xs
end
section
variable {K:AAR}{T M M':kf->Prop}{H:Hp}
mutual
theorem Cp.free:∀{v:V} {x:PV},cz x=true->Cp K T M H v x->Cp K T M' H v x
 | _,_,_, .non=> .non
 | _,_,_, .bl b=> .bl b
 | _,_,_, .int i=> .int i
 | _,_,_, .str x=> .str x
 | _,_,_, .ty n=> .ty n
 | _,_,n, .tup h r=> .tup h (A8.free (by rw[cz] at n;exact n) r)
 | _,_,n, .lst _ _ _ _=>by rw[cz] at n;cases n
 | _,_,n, .tape _=>by rw[cz] at n;cases n
 | _,_,n, .scr _=>by rw[cz] at n;cases n
 | _,_,n, .dct _ _ _=>by rw[cz] at n;cases n
theorem A8.free:∀{vs:km V} {xs:km PV},ju xs=true->A8 K T M H vs xs->A8 K T M' H vs xs
 | _,_,_, .nil=> .nil
 | _,_,n, .cons h t=>by rw[ju,ABJ] at n;exact .cons (Cp.free n.1 h) (A8.free n.2 t)
end
end
abbrev AE:=BN->(PV->Prop)->Prop
abbrev AT:=BN->(kc->Prop)->Prop
abbrev AA:=BN->(km PV->Prop)->Prop
abbrev AF:=km PV->(PV->Prop)->Prop
def VB:BN->Nat->ke AV
 | [],_=>none
 | x::_,0=>x
 | _::r,n+1=>VB r n
theorem QH:∀{τ:BN} {i:Nat} {a:AV},VB τ i=some a->τ[i]? =some (some a)
 | [],_,_,h=>by simp[VB] at h
 | x::_,0,_,h=>by simpa[VB] using h
 | _::r,n+1,a,h=>by have:=QH (τ:=r) (i:=n) (a:=a) (by simpa[VB] using h);simpa using this
def gD (x:PV)(R:Int->Prop):Prop:=match x with | .int i=>R i|_=>False
def cE (x y:PV)(R:Int->Int->Prop):Prop:=match x,y with | .int i, .int j=>R i j|_,_=>False
def j6 (x:PV)(R:kc->Prop):Prop:=match x with | .bl b=>R b|_=>False
def c5 (o:ke PV)(R:PV->Prop):Prop:=match o with | some z=>R z|none=>False
def oX {o:ke PV}{R:PV->Prop}(h:c5 o R):∃z,o=some z/\R z:=by cases o <;> first | exact⟨_,rfl,h⟩|exact h.elim
def Wc (x:PV)(R:km PV->Prop):Prop:=match x with | .tup xs=>R xs | .lst xs=>R xs|_=>False
def UV {x:PV}{R:Int->Prop}(h:gD x R):∃i,x= .int i/\R i:=by cases x <;> first | exact⟨_,rfl,h⟩|exact h.elim
def On {x y:PV}{R:Int->Int->Prop}(h:cE x y R):∃i j,x= .int i/\y= .int j/\R i j:=by cases x <;> cases y <;> first | exact⟨_,_,rfl,rfl,h⟩|exact h.elim
def UU {x:PV}{R:kc->Prop}(h:j6 x R):∃b,x= .bl b/\R b:=by cases x <;> first | exact⟨_,rfl,h⟩|exact h.elim
def KU {x:PV}{R:km PV->Prop}(h:Wc x R):∃xs,(x= .tup xs\/x= .lst xs)/\R xs:=by cases x <;> first | exact⟨_, .inl rfl,h⟩|exact⟨_, .inr rfl,h⟩|exact h.elim
def Cp.toI {K:AAR}{T M:kf->Prop}{H:Hp}{v:V}{i:Int}(r:Cp K T M H v (.int i)):v= .int i:=by cases r;rfl
def Cp.toB {K:AAR}{T M:kf->Prop}{H:Hp}{v:V}{i:kc}(r:Cp K T M H v (.bl i)):v= .bl i:=by cases r;rfl
def Fg (K:AAR)(t:TE)(a:AE):Prop:=∀(B:Dg) (T:kf->Prop) (b:L2.St) (τ:BN) (H:Hp) (Q:VK) (d:PV->Prop),SR K B T H b τ->a τ d->
 (∀v x e c,EG T H e c->Cp K e (mt B b τ) c v x->d x->Q v c)->t b H Q
def OH (K:AAR)(t:TT)(a:AT):Prop:=∀(B:Dg) (T:kf->Prop) (c:L2.St) (τ:BN) (H:Hp) (Q:kc->Hp->Prop) (d:kc->Prop),SR K B T H c τ->a τ d->
 (∀b f e,EG T H f e->d b->Q b e)->t c H Q
def m8 (K:AAR)(t:TA)(a:AA):Prop:=∀(B:Dg) (T:kf->Prop) (b:L2.St) (τ:BN) (H:Hp) (Q:km V->Hp->Prop) (d:km PV->Prop),SR K B T H b τ->a τ d->
 (∀vs xs e c,EG T H e c->A8 K e (mt B b τ) c vs xs->d xs->Q vs c)->t b H Q
def dW (K:AAR)(t:TE)(a:AA):Prop:=∀(B:Dg) (T:kf->Prop) (c:L2.St) (τ:BN) (H:Hp) (Q:VK) (e:km PV->Prop),SR K B T H c τ->a τ e->
 (∀p vs xs d b,EG T H d b->SR K (B.add p) d b c τ->H p=none->b p=some (.lst vs)->¬d p->A8 K d (mt (B.add p) c τ) b vs xs->e xs->Q (.ref p) b)->t c H Q
def SE (X:Cx)(e:kd)(a:AE):Prop:=∃t,PE X e t/\Fg X.K t a
def Tf (X:Cx)(e:kd)(a:AT):Prop:=∃t,PT X e t/\OH X.K t a
def SW (X:Cx)(e:kd)(a:AT):Prop:=∃t,PW X e t/\OH X.K t a
def SA (X:Cx)(es:km kd)(a:AA):Prop:=∃t,PA X es t/\m8 X.K t a
def SF (X:Cx)(e:kd)(a:AA):Prop:=∃t,PE X e t/\dW X.K t a
abbrev Hw:=PV->PV->(PV->Prop)->Prop
def B9 (K:AAR)(r:R2)(f:Hw):Prop:=∀(T M:kf->Prop) (H:Hp) (u v:V) (x y:PV) (Q:VK) (b:PV->Prop),Hx T M H->Cp K T M H u x->Cp K T M H v y->f x y b->
 (∀w z c a,EG T H c a->Cp K c M a w z->b z->Q w a)->r u v H Q
def Hj (K:AAR)(r:km V->Hp->VK->Prop)(f:AF):Prop:=∀(T M:kf->Prop) (H:Hp) (b:km V) (xs:km PV) (Q:VK) (c:PV->Prop),Hx T M H->A8 K T M H b xs->f xs c->
 (∀w z d a,EG T H d a->Cp K d M a w z->c z->Q w a)->r b H Q
section
variable {X:Cx}{a b c:kd}{es:km kd}{pos:Pos}{ta tb:AE}{tA tB':AT}
def aV (i:Nat):AE:=λτ Q=>match VB τ i with | some (.val x)=>Q x|_=>False
def qy {i:Nat}{τ:BN}{Q:PV->Prop}(h:aV i τ Q):∃x,τ[i]? =some (some (.val x))/\Q x:=by
 unfold aV at h;cases e:VB τ i with
 | none=>rw[e] at h;exact h.elim
 | some z=>
   rw[e] at h;cases z with
   | own xs=>exact h.elim
   | val x=>exact⟨x,QH e,h⟩
def AH (i:Nat){x:Str}{pos:Pos}(hN:X.N[i]? =some x:=by rfl)(hv:nA X.env.scope x:=by first | exact Or.inl rfl|exact Or.inr (Or.inl rfl)|exact Or.inr (Or.inr rfl))(hd:(x==("__debug__" :Str))=false:=by decide)(d:(x==("__classdict__" :Str))=false:=by decide):SE X (.Name x pos) (aV i):=by refine⟨_,UZ hN hv hd d,λB T g τ H Q j s h k=> ?_⟩;obtain⟨x,e,q⟩:=qy h;obtain⟨v,f,r⟩:=s.val i x e;exact⟨v,f,k v x T H (.refl s.tp) r q⟩
def aC (x:PV):AE:=λ_ Q=>Q x
def W0 {v:V}{x:PV}(h:∀T M H,Cp X.K T M H v x):Fg X.K (tC v) (aC x):=λB T d τ H Q e s h' k=>k v x T H (.refl s.tp) (h _ _ _) h'
def AJ {i:Int}{j pos}:SE X (.Constant (.int i) j pos) (aC (.int i)):=⟨_,BO,W0 λ_ _ _=> .int i⟩
def CQ {i:kc}{j pos}:SE X (.Constant (.bool i) j pos) (aC (.bl i)):=⟨_,tD,W0 λ_ _ _=> .bl i⟩
def CL {j pos}:SE X (.Constant .none j pos) (aC .non):=⟨_,gQ,W0 λ_ _ _=> .non⟩
def Uq {i:Str}{j pos}:SE X (.Constant (.str i) j pos) (aC (.str i)):=⟨_,pA,W0 λ_ _ _=> .str i⟩
def Ip {x:Str}{n:String}{u:kj}{pos:Pos}(d:Gl X x)(e:X.mg x=none)(hv:bootBuiltins x=some u)(r:RelV (.ty n) u)(hn:x≠"__name__" :=by decide)(hd:(x==("__debug__" :Str))=false:=by decide):SE X (.Name x pos) (aC (.ty n)):=
 ⟨_,Dc (v:= .ty n) d e hv r hn hd,W0 λ_ _ _=> .ty n⟩
def AX (f:Hw)(ta tb:AE):AE:=λτ Q=>ta τ λx=>tb τ λy=>f x y Q
def Uw {r:R2}{f:Hw}{t u:TE}(i:B9 X.K r f)(ha:Fg X.K t ta)(hb:Fg X.K u tb):Fg X.K (lM r t u) (AX f ta tb):=by intro B T g τ H Q j s h k;refine ha B T g τ H _ _ s h λv x l m d r1 h1=> ?_;refine hb B l g τ m _ _ (s.stp d) h1 λw y n o e r2 h2=> ?_;have p:=(s.stp d).stp e;exact i n _ o v w x y Q j p.va (r1.stp e (s.stp d).va) r2 h2 λw z T3 A C D q=>k w z T3 A ((d.trans e).trans C) D q
def Af {op:Operator}{r:R2}{f:Hw}(d:ET X (binaryOp op) r/\B9 X.K r f)(ha:SE X a ta)(hb:SE X b tb):SE X (.BinOp a op b pos) (AX f ta tb):=
 let ⟨_,p,s⟩:=ha;let ⟨_,e,g⟩:=hb;⟨_,Cr d.1 p e,Uw d.2 s g⟩
def CK {op:CmpOp}{r:R2}{f:Hw}(d:ET X (compareOp op) r/\B9 X.K r f)(ha:SE X a ta)(hb:SE X b tb)(e:behindInMarks op b=false):SE X (.Compare a [op] [b] pos) (AX f ta tb):=
 let ⟨_,p,s⟩:=ha;let ⟨_,g,h⟩:=hb;⟨_,Zu d.1 p g e,Uw d.2 s h⟩
def tq {r:R2}{f:Hw}(d:iy X r/\B9 X.K r f)(ha:SE X a ta)(hb:SE X b tb)(hs:Te b):SE X (.Subscript a b pos) (AX f ta tb):=
 let ⟨_,p,s⟩:=ha;let ⟨_,e,g⟩:=hb;⟨_,Ny d.1 p e hs,Uw d.2 s g⟩
def fI (g:Int->Int->PV):Hw:=λx y Q=>cE x y λi j=>Q (g i j)
def rB (C:Int->Int->Prop)(g:Int->Int->PV):Hw:=λx y Q=>cE x y λi j=>C i j/\Q (g i j)
def Wz {g:Int->Int->V}{g':Int->Int->PV}(d:∀i j T M H,Cp X.K T M H (g i j) (g' i j)):B9 X.K (QZ g) (fI g'):=by intro T M H u v x y Q f va e rv h k;obtain⟨i,j,rfl,rfl,q⟩:=On h;exact⟨i,j,e.toI,rv.toI,k _ _ T H (.refl va.tp) (d i j T M H) q⟩
def Yp {C:Int->Int->Prop}{g:Int->Int->V}{g':Int->Int->PV}(d:∀i j T M H,Cp X.K T M H (g i j) (g' i j)):B9 X.K (rI C g) (rB C g'):=by intro T M H u v x y Q f va e rv h k;obtain⟨i,j,rfl,rfl,c,q⟩:=On h;exact⟨i,j,e.toI,rv.toI,c,k _ _ T H (.refl va.tp) (d i j T M H) q⟩
abbrev q9:Hw:=fI λi j=> .int (i+j)
abbrev Gi:Hw:=fI λi j=> .int (i-j)
abbrev ZU:Hw:=fI λi j=> .bl (decide (i<j))
abbrev yQ:Hw:=fI λi j=> .bl (decide (i<=j))
abbrev lf:Hw:=fI λi j=> .bl (decide (j<i))
abbrev lc:Hw:=fI λi j=> .bl (decide (j<=i))
def C0:ET X (binaryOp .Sub) (QZ λi j=> .int (i-j))/\B9 X.K (QZ λi j=> .int (i-j)) Gi:=⟨YX,Wz λi j _ _ _=> .int _⟩
def Go:ET X (compareOp .Lt) (QZ λi j=> .bl (decide (i<j)))/\B9 X.K (QZ λi j=> .bl (decide (i<j))) ZU:=⟨mK,Wz λi j _ _ _=> .bl _⟩
def t7:ET X (compareOp .LtE) (QZ λi j=> .bl (decide (i<=j)))/\B9 X.K (QZ λi j=> .bl (decide (i<=j))) yQ:=⟨sj,Wz λi j _ _ _=> .bl _⟩
def Sj:ET X (compareOp .Gt) (QZ λi j=> .bl (decide (j<i)))/\B9 X.K (QZ λi j=> .bl (decide (j<i))) lf:=⟨mJ,Wz λi j _ _ _=> .bl _⟩
def Qx:ET X (compareOp .GtE) (QZ λi j=> .bl (decide (j<=i)))/\B9 X.K (QZ λi j=> .bl (decide (j<=i))) lc:=⟨mI,Wz λi j _ _ _=> .bl _⟩
structure MulOk (i j:Int):Prop where
 l:i.natAbs<2^1000000
 r:j.natAbs<2^1000000
def kA:ET X (binaryOp .Mult) (rI MulOk λi j=> .int (i*j)):=oY λ_ _ _ _ _ _ _ hc q=>mul_int q (.of_le (JB hc.l) (JB hc.r) (by decide))
abbrev DY:Hw:=rB MulOk λi j=> .int (i*j)
def BX:ET X (binaryOp .Mult) (rI MulOk λi j=> .int (i*j))/\B9 X.K (rI MulOk λi j=> .int (i*j)) DY:=⟨kA,Yp λi j _ _ _=> .int _⟩
structure Ve (i j:Int):Prop where
 ne:j≠0
 lt:j.natAbs<2^8900
def gG:ET X (binaryOp .FloorDiv) (rI Ve λi j=> .int (i.fdiv j)):=oY λi j _ _ _ _ _ hc q=>
 floordiv_int hc.ne q (.inl (AE6 (ACg (Lv hc.lt (by decide)) (by decide))))
abbrev RS:Hw:=rB Ve λi j=> .int (i.fdiv j)
def FS:ET X (binaryOp .FloorDiv) (rI Ve λi j=> .int (i.fdiv j))/\B9 X.K (rI Ve λi j=> .int (i.fdiv j)) RS:=⟨gG,Yp λi j _ _ _=> .int _⟩
abbrev aw:Hw:=rB (λ_ j=>j≠0) λi j=> .int (i.fmod j)
def Yq:ET X (binaryOp .Mod) (rI (λ_ j=>j≠0) λi j=> .int (i.fmod j))/\B9 X.K (rI (λ_ j=>j≠0) λi j=> .int (i.fmod j)) aw:=⟨j9,Yp λi j _ _ _=> .int _⟩
def ui:PV->kc | .non=>true|_=>false
def Tk:Hw:=λx y Q=>match y with | .non=>Q (.bl (ui x))|_=>False
def Nm:Hw:=λx y Q=>match y with | .non=>Q (.bl (!ui x))|_=>False
def Zi {K:AAR}{T M:kf->Prop}{H:Hp}{v:V}{x:PV}(r:Cp K T M H v x):decide (v= .non)=ui x:=by cases r <;> simp[ui]
def NX:ET X (compareOp .Is) (λx y H Q=>y= .non/\Q (.bl (decide (x= .non))) H)/\B9 X.K (λx y H Q=>y= .non/\Q (.bl (decide (x= .non))) H) Tk:=by
 refine⟨oj,λT M H u v x y Q e va d rv h k=> ?_⟩;cases y <;> first | exact h.elim|skip
 cases rv;refine⟨rfl, ?_⟩;rw[Zi d];exact k _ _ T H (.refl va.tp) (.bl _) h
def Oy:ET X (compareOp .IsNot) (λx y H Q=>y= .non/\Q (.bl (!decide (x= .non))) H)/\B9 X.K (λx y H Q=>y= .non/\Q (.bl (!decide (x= .non))) H) Nm:=by
 refine⟨Zr,λT M H u v x y Q e va d rv h k=> ?_⟩;cases y <;> first | exact h.elim|skip
 cases rv;refine⟨rfl, ?_⟩;rw[Zi d];exact k _ _ T H (.refl va.tp) (.bl _) h
def Ai:Hw:=λx y Q=>Wc x λxs=>gD y λi=>c5 (JA xs i) Q
def ZF {K:AAR}{T M:kf->Prop}{H:Hp}{vs:km V}{xs:km PV}{i:Int}{z:PV}(r:A8 K T M H vs xs)(h:JA xs i=some z):∃v,JA vs i=some v/\Cp K T M H v z:=by
 unfold JA at h ⊢;rw[r.length];cases e:Oi xs.length i with
 | none=>rw[e] at h;cases h
 | some j=> rw[e] at h;exact r.get h
def tK (K:AAR):R2:=λx y H Q=>tJ K x y H Q\/tL K x y H Q
def t6:iy X (tK X.K)/\B9 X.K (tK X.K) Ai:=by
 refine⟨Fz.or oB,λT M H u v x y Q g va f rv h k=> ?_⟩;obtain⟨xs,hx,h1⟩:=KU h;obtain⟨i,rfl,h2⟩:=UV h1;cases rv.toI;obtain⟨z,e,q⟩:=oX h2;rcases hx with rfl|rfl
 .cases f with
  | tup hq r=> obtain⟨w,ew,d⟩:=ZF r e;exact .inr ⟨_,_,i,w,rfl,rfl,hq.sq,ew,k w z T H (.refl va.tp) d q⟩
 .cases f with
  | lst hq t m r=> obtain⟨w,ew,d⟩:=ZF r e;exact .inl ⟨_,_,i,w,rfl,rfl, .inl (.inl hq),ew,k w z T H (.refl va.tp) d q⟩
def LZ (f:PV->(PV->Prop)->Prop)(ta:AE):AE:=λτ Q=>ta τ λx=>f x Q
def El (x:PV)(Q:PV->Prop):Prop:=gD x λi=>Q (.int (-i))
def B8 (ha:SE X a ta):SE X (.UnaryOp .USub a pos) (LZ El ta):=by obtain⟨t,p,s⟩:=ha;refine⟨_,tF pz p,λB T d τ H Q l e h k=>s B T d τ H _ _ e h λv x f g j r1 h1=> ?_⟩;obtain⟨i,rfl,q⟩:=UV h1;exact⟨i,r1.toI,k _ _ f g j (.int _) q⟩
def nN (x:PV)(Q:PV->Prop):Prop:=j6 x λi=>Q (.bl (!i))
def gy (ha:SE X a ta):SE X (.UnaryOp .Not a pos) (LZ nN ta):=by obtain⟨t,p,s⟩:=ha;refine⟨_,o7 p,λB T d τ H Q l e h k=>s B T d τ H _ _ e h λv x f g j r1 h1=> ?_⟩;obtain⟨i,rfl,q⟩:=UU h1;exact⟨i,r1.toB,k _ _ f g j (.bl _) q⟩
def Tg (ta tb:AE):AE:=λτ Q=>ta τ λx=>j6 x λc=>if c=true then tb τ Q else Q (.bl false)
def Io {op}(h:SE X a ta):SE X (.BoolOp op [a] pos) ta:=let ⟨_,p,s⟩:=h;⟨_,o8 p,s⟩
def Im {rest:km kd}(ha:SE X a ta)(hb:SE X (.BoolOp .And (b::rest) pos) tb):SE X (.BoolOp .And (a::b::rest) pos) (Tg ta tb):=by
 obtain⟨t,p,s⟩:=ha;obtain⟨t',l,m⟩:=hb;refine⟨_,oz p l,λB T e τ H Q u f h k=>s B T e τ H _ _ f h λv x g j d r1 h1=> ?_⟩;obtain⟨i,rfl,q⟩:=UU h1;refine⟨i,r1.toB, ?_⟩;cases i with
 | true=>rw[AAU rfl] at q ⊢;exact m B g e τ j _ _ (f.stp d) q λw y n o r r2 h2=>k w y n o (d.trans r) r2 h2
 | false=>rw[AAS AAg] at q ⊢;exact k _ _ g j d (.bl _) q
def Ag (ta:AE):AT:=λτ Q=>ta τ λx=>j6 x Q
def Ow {t:TE}(s:Fg X.K t ta):OH X.K (aJ t) (Ag ta):=λB T d τ H Q l e h k=>s B T d τ H _ _ e h λv x f g j r1 h1=>by obtain⟨i,rfl,q⟩:=UU h1;exact⟨i,r1.toB,k _ f g j q⟩
def iG {op:CmpOp}{r:R2}{f:Hw}(d:ET X (compareOp op) r/\B9 X.K r f)(ha:SE X a ta)(hb:SE X b tb)(e:behindInMarks op b=false):Tf X (.Compare a [op] [b] pos) (Ag (AX f ta tb)):=
 let ⟨_,p,s⟩:=ha;let ⟨_,g,h⟩:=hb;⟨_,Oq d.1 p g e,Ow (Uw d.2 s h)⟩
def Ap {e:kd}(h:SE X e ta)(he:∀whole,isTrue e X.env whole=(do let v <-whole;standAt e.pos;holding [v] (truthy v)):=by intro _;rfl):Tf X e (Ag ta):=
 let ⟨_,p,s⟩:=h;⟨_,pF p he,Ow s⟩
def Bc (t:AT):AT:=λτ Q=>t τ λc=>Q (!c)
def Hk (t u:AT):AT:=λτ Q=>t τ λc=>if c=true then u τ Q else Q false
def DI (t u:AT):AT:=λτ Q=>t τ λc=>if c=true then Q true else u τ Q
def BA (ha:Tf X a tA):Tf X (.UnaryOp .Not a pos) (Bc tA):=by obtain⟨t,p,s⟩:=ha;exact⟨_,pE p,λB T d τ H Q j e h k=>s B T d τ H _ _ e h λv f g i h1=>k _ f g i h1⟩
def F6 (ha:Tf X a tA):SW X (.BoolOp .And [a] pos) tA:=let ⟨_,p,s⟩:=ha;⟨_,kS p,s⟩
def CN (ha:Tf X a tA):SW X (.BoolOp .Or [a] pos) tA:=let ⟨_,p,s⟩:=ha;⟨_,pH p,s⟩
def HV {rest:km kd}(ha:Tf X a tA)(hb:SW X (.BoolOp .And (b::rest) pos) tB'):SW X (.BoolOp .And (a::b::rest) pos) (Hk tA tB'):=by
 obtain⟨t,p,s⟩:=ha;obtain⟨t',l,m⟩:=hb;refine⟨_,pG p l,λB T e τ H Q u f h k=>s B T e τ H _ _ f h λi g j d q=> ?_⟩;cases i with
 | true=>rw[AAU rfl] at q ⊢;exact m B g e τ j _ _ (f.stp d) q λb n o r h2=>k b n o (d.trans r) h2
 | false=>rw[AAS AAg] at q ⊢;exact k _ g j d q
def B3 {rest:km kd}(ha:Tf X a tA)(hb:SW X (.BoolOp .Or (b::rest) pos) tB'):SW X (.BoolOp .Or (a::b::rest) pos) (DI tA tB'):=by
 obtain⟨t,p,s⟩:=ha;obtain⟨t',l,m⟩:=hb;refine⟨_,tG p l,λB T e τ H Q u f h k=>s B T e τ H _ _ f h λi g j d q=> ?_⟩;cases i with
 | false=>rw[AAS AAg] at q ⊢;exact m B g e τ j _ _ (f.stp d) q λb n o r h2=>k b n o (d.trans r) h2
 | true=>rw[AAU rfl] at q ⊢;exact k _ g j d q
def EB (h:SW X a tA):Tf X a tA:=let ⟨_,p,s⟩:=h;⟨_,p.pt,s⟩
def ib (t:AT)(ta tb:AE):AE:=λτ Q=>t τ λc=>if c=true then ta τ Q else tb τ Q
def N0 (hc:Tf X c tA)(ha:SE X a ta)(hb:SE X b tb):SE X (.IfExp c a b pos) (ib tA ta tb):=by
 obtain⟨t,p,s⟩:=hc;obtain⟨t1,p1,e⟩:=ha;obtain⟨t2,p2,f⟩:=hb;refine⟨_,gO p p1 p2,λB T g τ H Q u j h k=>s B T g τ H _ _ j h λi o r d q=> ?_⟩;cases i with
 | true=>rw[AAU rfl] at q ⊢;exact e B o g τ r _ _ (j.stp d) q λw y l m n r2 h2=>k w y l m (d.trans n) r2 h2
 | false=>rw[AAS AAg] at q ⊢;exact f B o g τ r _ _ (j.stp d) q λw y l m n r2 h2=>k w y l m (d.trans n) r2 h2
def AL:AA:=λ_ Q=>Q []
def AB (ta:AE)(r:AA):AA:=λτ Q=>ta τ λx=>r τ λxs=>Q (x::xs)
def Dk:SA X [] AL:=⟨_,Dj,λB T e τ H Q f d h k=>k [] [] T H (.refl d.tp) .nil h⟩
def BF {e:kd}{r:AA}(ha:SE X e ta)(j:SA X es r)(hs:starEach (e::es) X.env=(false,eval e X.env)::starEach es X.env:=by rfl):SA X (e::es) (AB ta r):=by obtain⟨t,p,s⟩:=ha;obtain⟨t',l,m⟩:=j;refine⟨_,BM p l hs,λB T g τ H Q y d h k=>s B T g τ H _ _ d h λv x n o f r1 h1=> ?_⟩;exact m B n g τ o _ _ (d.stp f) h1 λvs xs u w i r2 h2=>k _ _ u w (f.trans i) (.cons (r1.stp i (d.stp f).va) r2) h2
def A1 (r:AA):AE:=λτ Q=>r τ λxs=>xs.length<=sizeLine/\Q (.tup xs)
def Ab {x1}{r:AA}(h:SA X es r):SE X (.Tuple es x1 pos) (A1 r):=by obtain⟨t,p,s⟩:=h;refine⟨_,QW p,λB T f τ H Q i d h k=>s B T f τ H _ _ d h λvs xs g j e r1 h1=>⟨by rw[r1.length];exact h1.1,λq hq=> ?_⟩⟩;have l:=EG.lay (o:= .tup vs) (d.stp e).tp hq;exact k _ _ g _ (e.trans l) (.tup (.inl Au) (r1.stp l (d.stp e).va)) h1.2
def DQ (r:AA):AA:=λτ Q=>r τ λxs=>xs.length<=sizeLine/\Q xs
def UE {K:AAR}{B:Dg}{T:kf->Prop}{H:Hp}{d:L2.St}{τ:BN}{p:kf}{vs:km V}{xs:km PV}(f:SR K B T H d τ)(hq:H p=none)(r:A8 K T (mt B d τ) H vs xs):EG T H T (upd H p (.lst vs))/\SR K (B.add p) T (upd H p (.lst vs)) d τ/\¬T p/\A8 K T (mt (B.add p) d τ) (upd H p (.lst vs)) vs xs:=by
 have l:=EG.lay (o:= .lst vs) f.tp hq;have g:¬T p:=λz=>by obtain⟨o,e,_⟩:=(f.tp p z).mut;rw[hq] at e;cases e
 refine⟨l,f.add l hq Au Mp.lst g,g,r.mv ⟨f.va,λb o t _ e=>l.keep b o t e,l.sub,λb n t=>t,λb n z=> ?_⟩⟩;rcases z with(z|z)|z
 .exact .inl z
 .subst z;exact absurd hq n
 .exact .inr z
def BP {r:AA}(h:SA X es r):SF X (.List es pos) (DQ r):=by obtain⟨t,p,s⟩:=h;refine⟨_,gP p,λB T g τ H Q m f h k=>s B T g τ H _ _ f h λvs xs i n d r1 h1=>⟨by rw[r1.length];exact h1.1,λq hq=> ?_⟩⟩;obtain⟨l,e,j,r2⟩:=UE (f.stp d) hq r1;exact k q vs xs i _ (d.trans l) e (d.none hq) Au j r2 h1.2
def Eb (r:AA):AE:=λτ Q=>r τ λxs=>Q (.lst xs)
def hV {t:TE}{r:AA}(s:dW X.K t r):Fg X.K t (Eb r):=λB T g τ H Q v d h k=>s B T g τ H _ _ d h λp vs xs i j l f hn hp n r1 h1=>by
 have u:¬Dx g τ p:=λo=>by obtain⟨_,e,_⟩:=d.ownH o;rw[hn] at e;cases e
 have hb:¬B.M p:=λo=>by obtain⟨_,e,_⟩:=d.bm p o;rw[hn] at e;cases e
 exact k _ _ i j l (.lst hp n (λz=>z.elim hb u) (r1.mv (.anti f.va λa m=>m.elim (λz=> .inl (.inl z)) .inr))) h1
def CT {r:AA}(h:SF X a r):SE X a (Eb r):=let ⟨_,p,s⟩:=h;⟨_,p,hV s⟩
def Cg (K:AAR)(n:Nat)(F:AF):Sp:=λvs H Q _=>∃(T M:kf->Prop) (xs:km PV) (e:PV->Prop),Hx T M H/\(∀a,M a->¬T a)/\A8 K T M H vs xs/\xs.length=n/\F xs e/\
 ∀v x f d,EG T H f d->Cp K f M d v x->e x->Q v d
def AN (n:Nat)(F:AF)(r:AA):AE:=λτ Q=>r τ λxs=>xs.length=n/\F xs Q
def AK {x:Str}{p:Pos}{e:kd}{k n:Nat}{g:km Str}{F:AF}{r:AA}(D:Has X.prog X.w X.K X.mg X.base k x g (Cg X.K n F))(i:Room k X.A)(j:Gl X x)(ha:SA X (e::es) r)(hs:starEach (e::es) X.env=(false,eval e X.env)::starEach es X.env:=by rfl)(hpl:(backTo pos (starEach es X.env)).any (·.1)=false:=by rfl)(hd:(x==("__debug__" :Str))=false:=by decide):SE X (.Call (.Name x p) (e::es) [] pos) (AN n F r):=by obtain⟨t,l,s⟩:=ha;refine⟨_,o6 D i j l hs hpl hd,λB T o τ H Q u d h k=>s B T o τ H _ _ d h λvs xs y G f r1 h1=> ?_⟩;rw[ABb];exact⟨y,_,xs,u,(d.stp f).va,λa m=>(d.stp f).nt m,r1,h1.1,h1.2,λv x z C E r2 q=>k v x z C (f.trans E) r2 q⟩
def DD (f:AF)(r:AA):AE:=λτ Q=>r τ λxs=>f xs Q
def hU {d:km V->Hp->VK->Prop}{f:AF}{t:TA}{r:AA}(i:Hj X.K d f)(s:m8 X.K t r):Fg X.K (wo d t) (DD f r):=λB T j τ H Q l e h k=>s B T j τ H _ _ e h λvs xs m n g r1 h1=>
 i m _ n vs xs Q l (e.stp g).va r1 h1 λw z o p u r2 q=>k w z o p (g.trans u) r2 q
def Ah {id:String}{x:Str}{p:Pos}{e:kd}{d:km V->Hp->VK->Prop}{f:AF}{r:AA}(hc:DE X (.builtin id) d/\Hj X.K d f)(g:Gl X x)(h:X.mg x=none)(hv:bootBuiltins x=some (.builtin id))(ha:SA X (e::es) r)(hn:x≠"__name__" :=by decide)(hdb:(x==("__debug__" :Str))=false:=by decide)(he:starEach (e::es) X.env=(false,eval e X.env)::starEach es X.env:=by rfl)(hpl:(backTo pos (starEach es X.env)).any (·.1)=false:=by rfl):SE X (.Call (.Name x p) (e::es) [] pos) (DD f r):=by obtain⟨t,i,s⟩:=ha;exact⟨_,L4 hc.1 g h hv i hn hdb he hpl,hU hc.2 s⟩
def A0 {T:String}{x:Str}{p:Pos}{e:kd}{d:km V->Hp->VK->Prop}{f:AF}{r:AA}(hc:DE X (.type T) d/\Hj X.K d f)(g:Gl X x)(h:X.mg x=none)(hv:bootBuiltins x=some (.type T))(ha:SA X (e::es) r)(hn:x≠"__name__" :=by decide)(hdb:(x==("__debug__" :Str))=false:=by decide)(he:starEach (e::es) X.env=(false,eval e X.env)::starEach es X.env:=by rfl)(hpl:(backTo pos (starEach es X.env)).any (·.1)=false:=by rfl):SE X (.Call (.Name x p) (e::es) [] pos) (DD f r):=by obtain⟨t,i,s⟩:=ha;exact⟨_,JI hc.1 g h hv i hn hdb he hpl,hU hc.2 s⟩
end
section
variable {X:Cx}
def Dn {K:AAR}{T M:kf->Prop}{H:Hp}{v:V}{xs:km PV}(r:Cp K T M H v (.tup xs)):∃a vs,v= .ref a/\LW K H a vs/\A8 K T M H vs xs:=by
 cases r with
 | tup h r=>exact⟨_,_,rfl,h.sq,r⟩
def iD {K:AAR}{T M:kf->Prop}{H:Hp}{v:V}{xs:km PV}(r:Cp K T M H v (.tup xs)):∃a vs,v= .ref a/\uY K H a vs/\A8 K T M H vs xs:=by
 cases r with
 | tup h r=>exact⟨_,_,rfl,h,r⟩
def Dm {K:AAR}{T M:kf->Prop}{H:Hp}{v:V}{xs:km PV}(r:Cp K T M H v (.lst xs)):∃a vs,v= .ref a/\H a=some (.lst vs)/\¬T a/\¬M a/\A8 K T M H vs xs:=by
 cases r with
 | lst h t m r=>exact⟨_,_,rfl,h,t,m,r⟩
def gx {K:AAR}{T M:kf->Prop}{H:Hp}{v:V}{b:km Int}(r:Cp K T M H v (.scr b)):∃a,v= .ref a/\Fs K H a (b.map V.int):=by
 cases r with
 | scr h=>
   rcases h with⟨h,_,_⟩|h
   .exact ⟨_,rfl, .inl h⟩
   .exact ⟨_,rfl,h H⟩
def EJ:AF:=λxs Q=>match xs with | [.tup ys] =>Q (.int ys.length) | [.lst ys] =>Q (.int ys.length) | [.scr ns] =>Q (.int ns.length)|_=>False
def tM (K:AAR):km V->Hp->VK->Prop:=λxs H Q=>∃p ys,xs= [.ref p] /\(Fs K H p ys\/LW K H p ys)/\Q (.int ys.length) H
def Ce:DE X (.builtin "len") (tM X.K)/\Hj X.K (tM X.K) EJ:=by
 refine⟨Ld,λT M H b xs Q c va r h k=> ?_⟩;unfold EJ at h;split at h <;> first | exact h.elim|skip
 .rename_i ys;cases r with | cons r t=>cases t;obtain⟨a,vs,rfl,hq,r⟩:=Dn r;refine⟨a,vs,rfl, .inr hq, ?_⟩;rw[r.length];exact k _ _ T H (.refl va.tp) (.int _) h
 .rename_i ys;cases r with | cons r t=>cases t;obtain⟨a,vs,rfl,hq,_,_,r⟩:=Dm r;refine⟨a,vs,rfl, .inl (.inl (.inl hq)), ?_⟩;rw[r.length];exact k _ _ T H (.refl va.tp) (.int _) h
 .rename_i d;cases r with | cons r t=>cases t;obtain⟨a,rfl,hq⟩:=gx r;refine⟨a,_,rfl, .inl hq, ?_⟩;rw[AAb];exact k _ _ T H (.refl va.tp) (.int _) h
def Py:AF:=λxs Q=>match xs with | [.int i] =>Q (.int i.natAbs)|_=>False
def Ij:DE X (.builtin "abs") (λxs H Q=>∃i,xs= [.int i] /\Q (.int (if i<0 then -i else i)) H)/\Hj X.K (λxs H Q=>∃i,xs= [.int i] /\Q (.int (if i<0 then -i else i)) H) Py:=by
 refine⟨Pr,λT M H a xs Q b va r h k=> ?_⟩;unfold Py at h;split at h <;> first | exact h.elim|skip
 rename_i i;cases r with
 | cons r t=> cases t;cases r;refine⟨i,rfl, ?_⟩;rw[show (if i<0 then -i else i)=(i.natAbs:Int) by split <;> omega];exact k _ _ T H (.refl va.tp) (.int _) h
def rG (g:Int->Int->Int):AF:=λxs Q=>match xs with | [.int i, .int j] =>Q (.int (g i j))|_=>False
def pU {g g':Int->Int->Int}(a:∀i j,g i j=g' i j):Hj X.K (λxs H Q=>∃i j,xs= [.int i, .int j] /\Q (.int (g i j)) H) (rG g'):=by
 intro T M H b xs Q c va r h k;unfold rG at h;split at h <;> first | exact h.elim|skip
 rename_i i j;cases r with
 | cons r t=>
   cases t with
   | cons r2 t=> cases t;cases r;cases r2;refine⟨i,j,rfl, ?_⟩;rw[a];exact k _ _ T H (.refl va.tp) (.int _) h
def pR (hc:X.calm=true):DE X (.builtin "min") (λxs H Q=>∃i j,xs= [.int i, .int j] /\Q (.int (if j<i then j else i)) H)/\Hj X.K (λxs H Q=>∃i j,xs= [.int i, .int j] /\Q (.int (if j<i then j else i)) H) (rG min):=
 ⟨aj hc,pU λi j=>by split <;> omega⟩
def RT:AF:=λxs Q=>match xs with | [.int i] =>Q (.int i) | [.bl k] =>Q (.int (if k then 1 else 0))|_=>False
def K0:DE X (.type "int") (λxs H Q=>(∃i,xs= [.int i] /\Q (.int i) H)\/∃k,xs= [.bl k] /\Q (.int (if k then 1 else 0)) H)/\Hj X.K (λxs H Q=>(∃i,xs= [.int i] /\Q (.int i) H)\/∃k,xs= [.bl k] /\Q (.int (if k then 1 else 0)) H) RT:=by
 refine⟨SC,λT M H a xs Q b va r h k=> ?_⟩;unfold RT at h;split at h <;> first | exact h.elim|skip
 .cases r with | cons r t=>cases t;cases r;exact .inl ⟨_,rfl,k _ _ T H (.refl va.tp) (.int _) h⟩
 .cases r with | cons r t=>cases t;cases r;exact .inr ⟨_,rfl,k _ _ T H (.refl va.tp) (.int _) h⟩
def Bw:AF:=λxs Q=>match xs with | [.tup ys] =>Q (.tup ys) | [.lst ys] =>Q (.tup ys)|_=>False
def gf (K:AAR):km V->Hp->VK->Prop:=λxs H Q=>∃p ys,xs= [.ref p] /\((Fs K H p ys/\∀l,H l=none->Q (.ref l) (upd H l (.tup ys)))\/(LW K H p ys/\Q (.ref p) H))
def Bi:DE X (.type "tuple") (gf X.K)/\Hj X.K (gf X.K) Bw:=by
 refine⟨RO,λT M H c xs Q d va r h k=> ?_⟩;unfold Bw at h;split at h <;> first | exact h.elim|skip
 .cases r with | cons r t=>cases t;obtain⟨a,vs,rfl,hq,b⟩:=iD r;exact⟨a,vs,rfl, .inr ⟨hq.sq,k _ _ T H (.refl va.tp) (.tup hq b) h⟩⟩
 .cases r with
  | cons r t=> cases t;obtain⟨a,vs,rfl,hq,_,_,b⟩:=Dm r;refine⟨a,vs,rfl, .inl ⟨.inl (.inl hq),λl hl=> ?_⟩⟩;have s:=EG.lay (o:= .tup vs) va.tp hl;exact k _ _ T _ s (.tup (.inl Au) (b.stp s va)) h
def ZY (xs:km PV)(Q:km PV->Prop):Prop:=match xs with | [.tup ys] =>Q ys | [.lst ys] =>Q ys|_=>False
def dZ (r:AA):AA:=λτ Q=>r τ λxs=>ZY xs Q
def kq {x:Str}{p c:Pos}{e:kd}{es:km kd}{r:AA}(o:Gl X x)(u:X.mg x=none)(hv:bootBuiltins x=some (.type "list"))(ha:SA X (e::es) r)(hn:x≠"__name__" :=by decide)(hdb:(x==("__debug__" :Str))=false:=by decide)(he:starEach (e::es) X.env=(false,eval e X.env)::starEach es X.env:=by rfl)(hpl:(backTo c (starEach es X.env)).any (·.1)=false:=by rfl):SF X (.Call (.Name x p) (e::es) [] c) (dZ r):=by
 obtain⟨t,v,s⟩:=ha;refine⟨_,JI Tj o u hv v hn hdb he hpl,λB T j τ H Q w m h k=>s B T j τ H _ _ m h λvs xs n d f r1 h1=> ?_⟩;have go:∀(b:km V) (ys:km PV),A8 X.K n (mt B j τ) d b ys->w ys->∀l,d l=none->Q (.ref l) (upd d l (.lst b)):=λb ys y q l hl=>by obtain⟨z,g,A,r2⟩:=UE (m.stp f) hl y;exact k l b ys n _ (f.trans z) g (f.none hl) Au A r2 q
 unfold ZY at h1;split at h1 <;> first | exact h1.elim|skip
 .cases r1 with | cons r t=>cases t;obtain⟨a,b,rfl,hq,i⟩:=Dn r;exact⟨a,b,rfl, .inr hq,go b _ i h1⟩
 .cases r1 with | cons r t=>cases t;obtain⟨a,b,rfl,hq,_,_,i⟩:=Dm r;exact⟨a,b,rfl, .inl (.inl (.inl hq)),go b _ i h1⟩
def kdOf:PV->ke Kd
 | .non=>some .non | .bl _=>some .bl | .int _=>some .int | .str _=>some .str | .tup _=>some .tup | .lst _=>some .lst | .tape=>none | .scr _=>none | .ty _=>none | .dct _=>none
def M5:AF:=λxs Q=>match xs with | [x, .ty T] =>IS T/\(match kdOf x with | some k=>Q (.bl (JX k T))|none=>False)|_=>False
def Fp:DE X (.builtin "isinstance") (pI X.K)/\Hj X.K (pI X.K) M5:=by
 refine⟨di,λT M H c xs Q d va r h k=> ?_⟩;unfold M5 at h;split at h <;> first | exact h.elim|skip
 rename_i x ty;obtain⟨a,h⟩:=h;cases r with
 | cons r t=>
   cases t with
   | cons r2 t=>
     cases t;cases r2;cases r with
     | non=>exact⟨_,_, .non,rfl,a,rfl,k _ _ T H (.refl va.tp) (.bl _) h⟩
     | bl b=>exact⟨_,_, .bl,rfl,a,⟨_,rfl⟩,k _ _ T H (.refl va.tp) (.bl _) h⟩
     | int b=>exact⟨_,_, .int,rfl,a,⟨_,rfl⟩,k _ _ T H (.refl va.tp) (.bl _) h⟩
     | str b=>exact⟨_,_, .str,rfl,a,⟨_,rfl⟩,k _ _ T H (.refl va.tp) (.bl _) h⟩
     | ty b=>exact h.elim
     | tup hq _=>exact⟨_,_, .tup,rfl,a,⟨_,_,rfl,hq.sq⟩,k _ _ T H (.refl va.tp) (.bl _) h⟩
     | lst hq _ _ _=>exact⟨_,_, .lst,rfl,a,⟨_,_,rfl, .inl (.inl hq)⟩,k _ _ T H (.refl va.tp) (.bl _) h⟩
     | tape _=>exact h.elim
     | scr _=>exact h.elim
     | dct _ _ _=>exact h.elim
def Lc:km PV->ke (km kc)
 | [] =>some []
 | .bl b::r=>(Lc r).map (b :: ·)
 | _=>none
theorem ZH {K:AAR}{T M:kf->Prop}{H:Hp}:∀{vs:km V} {xs:km PV} {bs:km kc},A8 K T M H vs xs->Lc xs=some bs->vs=bs.map V.bl
 | _,_,_, .nil,e=>by simp[Lc] at e;subst e;rfl
 | _,_,bs, .cons h t,e=>by cases h <;> simp[Lc] at e;obtain⟨c,a,b⟩:=e;subst b;simp[ZH t a]
def Tp (g:km kc->kc):AF:=λxs Q=>match xs with | [.lst ys] =>(match Lc ys with | some bs=>Q (.bl (g bs))|none=>False)|_=>False
def k9 {g:km kc->kc}:Hj X.K (kT X.K g) (Tp g):=by
 intro T M H c xs Q d va r h k;unfold Tp at h;split at h <;> first | exact h.elim|skip
 split at h <;> first | exact h.elim|skip
 rename_i bs e;cases r with
 | cons r t=> cases t;obtain⟨a,f,rfl,hq,_,_,b⟩:=Dm r;have:=ZH b e;subst this;exact⟨a,bs,rfl, .inl (.inl hq),k _ _ T H (.refl va.tp) (.bl _) h⟩
def Up (hc:X.calm=true):DE X (.builtin "all") (kT X.K λbs=>bs.all id)/\Hj X.K (kT X.K λbs=>bs.all id) (Tp λbs=>bs.all id):=⟨ah hc,k9⟩
def Z5:PV->PV->ke kc
 | .non, .non=>some true | .non, .int _=>some false | .int _, .non=>some false | .non, .bl _=>some false | .bl _, .non=>some false | .non, .str _=>some false | .str _, .non=>some false
 | .int i, .int j=>some (decide (i=j)) | .bl i, .bl j=>some (decide (i=j)) | .str i, .str j=>some (decide (i=j))
 | .int _, .str _=>some false | .str _, .int _=>some false | .bl _, .str _=>some false | .str _, .bl _=>some false
 | _,_=>none
def Ww {K:AAR}{T M:kf->Prop}{H:Hp}{u v:V}{x y:PV}{b:kc}(r:Cp K T M H u x)(r2:Cp K T M H v y)(e:Z5 x y=some b):kg u v=true/\decide (u=v)=b:=by cases r <;> cases r2 <;> simp[Z5] at e <;> subst e <;> simp[kg]
def lQ:PV->ke kc
 | .non=>some false | .bl b=>some b | .int i=>some (i != 0) | .tup xs=>some (!xs.isEmpty) | .lst xs=>some (!xs.isEmpty)|_=>none
def Vr (a:AE):AT:=λτ Q=>a τ λx=>match lQ x with | some b=>Q b|none=>False
def Ln {K:AAR}{T M:kf->Prop}{H:Hp}{vs:km V}{xs:km PV}(r:A8 K T M H vs xs):vs.isEmpty=xs.isEmpty:=by cases r <;> rfl
def Na {a:kd}{d:AE}(ha:SE X a d)(he:∀whole,isTrue a X.env whole=(do let v <-whole;standAt a.pos;holding [v] (truthy v)):=by intro _;rfl):Tf X a (Vr d):=by
 obtain⟨t,p,s⟩:=ha;refine⟨_,gY p he,λB T f τ H Q m g h k=>s B T f τ H _ _ g h λv x i j l r1 h1=> ?_⟩;cases e:lQ x with
 | none=>rw[e] at h1;exact h1.elim
 | some b=>
   rw[e] at h1;refine⟨b, ?_,k b i j l h1⟩;cases r1 <;> simp[lQ] at e
   .exact e
   .exact e.symm
   .exact e.symm
   .rename_i hq c;exact .inr (.inl ⟨_,hq.sq,by rw[Ln c,e];simp⟩)
   .rename_i hq _ _ c;exact .inl ⟨_, .inl (.inl hq),by rw[Ln c,e];simp⟩
end
structure HX where
 nx:BN->Prop
 rt:PV->Prop
 bk:BN->Prop
 ct:BN->Prop
abbrev AS:=HX->BN->Prop
structure F7 (T:Addr->Prop) (H:Hp) (σ:L2.St) (τ:BN) (T':Addr->Prop) (H':Hp) (σ':L2.St) (τ':BN):Prop where
 keep:∀b o,¬T b->¬Dx σ τ b->H b=some o->H' b=some o
 sub:∀b,T b->T' b
 new:∀b,T' b->T b\/H b=none
 own:∀b,Dx σ' τ' b->Dx σ τ b\/H b=none
 some:∀b,H b≠none->H' b≠none
section
variable {K:AAR}{B:Dg}{T T' T1 T2:kf->Prop}{H H' H1 H2:Hp}{σ σ' σ1 σ2:L2.St}{τ τ' τ1 τ2:BN}
def F7.refl:F7 T H σ τ T H σ τ:=⟨λ_ _ _ _ e=>e,λ_ t=>t,λ_ t=> .inl t,λ_ o=> .inl o,λ_ h=>h⟩
def F7.trans (a:F7 T H σ τ T1 H1 σ1 τ1)(b:F7 T1 H1 σ1 τ1 T2 H2 σ2 τ2):F7 T H σ τ T2 H2 σ2 τ2 where
 keep:=λc o t w e=>b.keep c o (λz=>(a.new c z).elim t λn=>by rw[n] at e;cases e) (λz=>(a.own c z).elim w λn=>by rw[n] at e;cases e) (a.keep c o t w e)
 sub:=λc t=>b.sub c (a.sub c t)
 new:=λc t=>(b.new c t).elim (λz=>a.new c z) λz=> .inr (by
  cases e:H c with
  | none=>rfl
  | some o=>exact absurd z (a.some c (by rw[e];exact λe=>nomatch e)))
 own:=λc t=>(b.own c t).elim (λz=>a.own c z) λz=> .inr (by
  cases e:H c with
  | none=>rfl
  | some o=>exact absurd z (a.some c (by rw[e];exact λe=>nomatch e)))
 some:=λc h=>b.some c (a.some c h)
def EG.prog (s:EG T H T' H'):F7 T H σ τ T' H' σ τ:=⟨λb o t _ e=>s.keep b o t e,s.sub,s.new,λ_ o=> .inl o,λ_ h=>s.some h⟩
def F7.less (h:∀b,Dx σ' τ' b->Dx σ τ b):F7 T H σ τ T H σ' τ':=⟨λ_ _ _ _ e=>e,λ_ t=>t,λ_ t=> .inl t,λb o=> .inl (h b o),λ_ h=>h⟩
structure ER (K:AAR) (B:Dg) (T:Addr->Prop) (H:Hp) (σ:L2.St) (τ:BN) (D:Pd) (AD:HX):Prop where
 nx:∀T' H' σ' τ',F7 T H σ τ T' H' σ' τ'->SR K B T' H' σ' τ'->AD.nx τ'->D.nx σ' H'
 bk:∀T' H' σ' τ',F7 T H σ τ T' H' σ' τ'->SR K B T' H' σ' τ'->AD.bk τ'->D.bk σ' H'
 ct:∀T' H' σ' τ',F7 T H σ τ T' H' σ' τ'->SR K B T' H' σ' τ'->AD.ct τ'->D.ct σ' H'
 rt:∀v x T' H',EG B.T B.H T' H'->Cp K T' B.M H' v x->AD.rt x->D.rt v H'
def ER.shift {D:Pd}{a:HX}(e:ER K B T H σ τ D a)(p:F7 T H σ τ T1 H1 σ1 τ1):ER K B T1 H1 σ1 τ1 D a:=
 ⟨λ_ _ _ _ q=>e.nx _ _ _ _ (p.trans q),λ_ _ _ _ q=>e.bk _ _ _ _ (p.trans q),λ_ _ _ _ q=>e.ct _ _ _ _ (p.trans q),e.rt⟩
end
def dX (K:AAR)(t:TS)(a:AS):Prop:=∀(B:Dg) (T:kf->Prop) (b:L2.St) (τ:BN) (H:Hp) (D:Pd) (c:HX),SR K B T H b τ->a c τ->ER K B T H b τ D c->t D b H
def SS (X:Cx)(st:Stmt)(a:AS):Prop:=∃t,PS X st t/\dX X.K t a
def ia (X:Cx)(st:km Stmt)(a:AS):Prop:=∃t,ZA X st t/\dX X.K t a
def B2 {a:Type}{l:km a}{i j:Nat}{x y:a}(h:(l.set i x)[j]? =some y):(j=i/\y=x/\i<l.length)\/(j≠i/\l[j]? =some y):=by
 by_cases e:j=i
 .subst e;rw[AD9] at h;simp at h;obtain⟨h1,h2⟩:=h;exact .inl ⟨rfl,h2.symm,h1⟩
 .rw [ABD (λz=>e z.symm)] at h;exact .inr ⟨e,h⟩
section
variable {K:AAR}{B:Dg}{T:kf->Prop}{H:Hp}{σ:L2.St}{τ:BN}
def EI {i:Nat}{v:V}{x:PV}{b:kf}(h:Dx (σ.set i (some v)) (τ.set i (some (.val x))) b):Dx σ τ b:=by
 obtain⟨j,xs,h1,h2⟩:=h;rcases B2 h1 with⟨_,e,_⟩|⟨n,a⟩
 .cases e
 .rw [ABD (λz=>n z.symm)] at h2;exact⟨j,xs,a,h2⟩
def SR.set {i:Nat}{v:V}{x:PV}(s:SR K B T H σ τ)(r:Cp K T (mt B σ τ) H v x):SR K B T H (σ.set i (some v)) (τ.set i (some (.val x))):=by
 have c:Mv K T (mt B σ τ) H T (mt B (σ.set i (some v)) (τ.set i (some (.val x)))) H:= .anti s.va λa m=>m.elim .inl λz=> .inr (EI z);refine⟨by simp[s.len],λj y e=> ?_,λj ys e=> ?_,λj k ys o p t u h l=> ?_,s.tp,s.bm,s.bt,s.st⟩
 .rcases B2 e with⟨rfl,b,hl⟩|⟨n,b⟩
  .cases b;refine⟨v,by rw[AD9];simp[s.len,hl],r.mv c⟩
  .obtain ⟨w,hw,d⟩:=s.val j y b;exact⟨w,by rw[ABD (λz=>n z.symm)];exact hw,d.mv c⟩
 .rcases B2 e with⟨_,b,_⟩|⟨n,b⟩
  .cases b
  .obtain ⟨p,vs,h1,h2,A,C⟩:=s.own j ys b;exact⟨p,vs,by rw[ABD (λz=>n z.symm)];exact h1,h2,A.mv c,C⟩
 .rcases B2 t with⟨_,b,_⟩|⟨n,f⟩
  .cases b
  .rcases B2 u with⟨_,b,_⟩|⟨D,g⟩
   .cases b
   .rw [ABD (λz=>n z.symm)] at h;rw[ABD (λz=>D z.symm)] at l;exact s.dist j k ys o p f g h l
def Nw {i:Nat}{p:kf}{xs:km PV}{b:kf}(h:Dx (σ.set i (some (.ref p))) (τ.set i (some (.own xs))) b):Dx σ τ b\/b=p:=by
 obtain⟨j,ys,h1,h2⟩:=h;rcases B2 h1 with⟨rfl,e,_⟩|⟨n,a⟩
 .rcases B2 h2 with⟨_,c,_⟩|⟨n,_⟩
  .cases c;exact .inr rfl
  .exact absurd rfl n
 .rw [ABD (λz=>n z.symm)] at h2;exact .inl ⟨j,ys,a,h2⟩
def SR.take {i:Nat}{p:kf}{vs:km V}{xs:km PV}(s:SR K (B.add p) T H σ τ)(hp:H p=some (.lst vs))(C:¬T p)(u:¬Dx σ τ p)(D:¬B.M p)(E:B.H p=none)(r:A8 K T (mt (B.add p) σ τ) H vs xs):SR K B T H (σ.set i (some (.ref p))) (τ.set i (some (.own xs))):=by
 have h:Mv K T (mt (B.add p) σ τ) H T (mt B (σ.set i (some (.ref p))) (τ.set i (some (.own xs)))) H:= .anti s.va λa m=>by
  rcases m with m|m
  .exact .inl (.inl m)
  .rcases Nw m with z|z
   .exact .inr z
   .exact .inl (.inr z)
 refine⟨by simp[s.len],λj y e=> ?_,λj ys e=> ?_,λj k ys v q F x g d=> ?_,s.tp,λa m=>s.bm a (.inl m),λa m=>s.bt a (.inl m),s.st⟩
 .rcases B2 e with⟨_,b,_⟩|⟨n,b⟩
  .cases b
  .obtain ⟨w,hw,l⟩:=s.val j y b;exact⟨w,by rw[ABD (λz=>n z.symm)];exact hw,l.mv h⟩
 .rcases B2 e with⟨rfl,b,hl⟩|⟨n,b⟩
  .cases b;exact⟨p,vs,by rw[AD9];simp[s.len,hl],hp,r.mv h,E,C,D⟩
  .obtain ⟨q,G,h1,h2,I,J,L,N⟩:=s.own j ys b;exact⟨q,G,by rw[ABD (λz=>n z.symm)];exact h1,h2,I.mv h,J,L,λz=>N (.inl z)⟩
 .rcases B2 F with⟨A,_,_⟩|⟨n,f⟩
  .rcases B2 x with⟨o,_,_⟩|⟨t,c⟩
   .rw [A,o]
   .subst A;rw[ABD (λz=>t z.symm)] at d;rcases B2 g with⟨_,b,_⟩|⟨n,_⟩
    .cases b;exact absurd ⟨k,v,c,d⟩ u
    .exact absurd rfl n
  .rw [ABD (λz=>n z.symm)] at g;rcases B2 x with⟨o,_,_⟩|⟨t,c⟩
   .subst o;rcases B2 d with⟨_,b,_⟩|⟨n,_⟩
    .cases b;exact absurd ⟨j,ys,f,g⟩ u
    .exact absurd rfl n
   .rw [ABD (λz=>t z.symm)] at d;exact s.dist j k ys v q f c g d
def SR.write {i:Nat}{p:kf}{N vs:km V}{xs ys:km PV}(s:SR K B T H σ τ)(g:τ[i]? =some (some (.own xs)))(hs:σ[i]? =some (some (.ref p)))(hp:H p=some (.lst N))(r:A8 K T (mt B σ τ) H vs ys):SR K B T (upd H p (.lst vs)) σ (τ.set i (some (.own ys)))/\F7 T H σ τ T (upd H p (.lst vs)) σ (τ.set i (some (.own ys))):=by
 obtain⟨R,O,I,S,U,J,E,L⟩:=s.own i xs g;rw[hs] at I;cases I;have W:σ.set i (some (.ref p))=σ:=by
  apply List.ext_getElem?;intro k;by_cases hk:i=k
  .subst hk;rw[AD9,hs];simp[(AAy.mp hs).1]
  .rw [ABD hk]
 have l:Dx σ τ p:=⟨i,xs,g,hs⟩;have M:∀b,Dx σ (τ.set i (some (.own ys))) b->Dx σ τ b:=λb h=>by
  obtain⟨j,f,h1,h2⟩:=h;rcases B2 h1 with⟨rfl,e,_⟩|⟨n,C⟩
  .exact ⟨j,xs,g,h2⟩
  .exact ⟨j,f,C,h2⟩
 have F:Mv K T (mt B σ τ) H T (mt B σ (τ.set i (some (.own ys)))) (upd H p (.lst vs)):=⟨s.va,λb o _ m e=>by
  rw[Aq (λz=>m (by subst z;exact .inr l))];exact e,λ_ t=>t,λ_ _ t=>t,λb _ m=>m.elim .inl λz=> .inr (M b z)⟩
 refine⟨⟨by simp[s.len],λj y e=> ?_,λj f e=> ?_,λj k f D q h1 h2 u A=> ?_,λa t=> ?_,λa m=> ?_,s.bt, ?_⟩,⟨λb o t w e=>by rw[Aq (λz=>w (by subst z;exact l))];exact e,λ_ t=>t,λ_ t=> .inl t,λb o=> .inl (M b o),λb h=> ?_⟩⟩
 .rcases B2 e with⟨_,c,_⟩|⟨n,c⟩
  .cases c
  .obtain ⟨v,h,P⟩:=s.val j y c;exact⟨v,h,P.mv F⟩
 .rcases B2 e with⟨rfl,c,_⟩|⟨n,c⟩
  .cases c;exact⟨p,vs,hs,Au,r.mv F,J,E,L⟩
  .obtain ⟨q,D,h1,h2,u,A⟩:=s.own j f c;have hq:q≠p:=λz=>by subst z;exact n (s.dist j i f xs q c g h1 hs)
   exact⟨q,D,h1,by rw[Aq hq];exact h2,u.mv F,A⟩
 .rcases B2 h1 with⟨rfl,_,_⟩|⟨n,C⟩
  .rcases B2 h2 with⟨rfl,_,_⟩|⟨Q,G⟩
   .rfl
   .exact s.dist _ k xs D q g G u A
  .rcases B2 h2 with⟨rfl,_,_⟩|⟨Q,G⟩
   .exact s.dist j _ f xs q C g u A
   .exact s.dist j k f D q C G u A
 .obtain ⟨d,x,e,z⟩:=s.tp a t;exact⟨d,x,by rw[Aq (λw=>by subst w;exact E t)];exact e,z⟩
 .obtain ⟨o,e,z⟩:=s.bm a m;exact⟨o,by rw[Aq (λw=>by subst w;exact L m)];exact e,z⟩
 .refine ⟨λb o t e=> ?_,s.st.sub,s.st.new,λa t=> ?_⟩
  .rw [Aq (λw=>by subst w;rw[J] at e;cases e)];exact s.st.keep b o t e
  .obtain ⟨d,x,e,z⟩:=s.tp a t;exact⟨d,x,by rw[Aq (λw=>by subst w;exact E t)];exact e,z⟩
 .by_cases z:b=p
  .subst z;rw[Au];exact λe=>nomatch e
  .rw [Aq z];exact h
end
section
variable {X:Cx}{st:Stmt}{rest:km Stmt}{e:kd}{pos:Pos}{a b:AS}{ta:AE}
def Vo (ta:AE):AE:=λτ Q=>ta (frz τ) λx=>cz x=true/\Q x
def Qp (h:SE X e ta):SE X e (Vo ta):=by obtain⟨t,p,s⟩:=h;refine⟨t,p,λB T c τ H Q j d h k=>s B T c (frz τ) H _ _ d.frz h λv x f g i r1 h1=> ?_⟩;exact k v x f g i (r1.free h1.1) h1.2
def Vp (c:AT):AT:=λτ Q=>c (frz τ) Q
def iF {c:AT}(h:Tf X e c):Tf X e (Vp c):=by obtain⟨t,p,s⟩:=h;exact⟨t,p,λB T d τ H Q l f h k=>s B T d (frz τ) H _ _ f.frz h λb g i j h1=>k b g i j h1⟩
def Ay:AS:=λD τ=>D.nx τ
def AZ (a b:AS):AS:=λD τ=>a {D with nx:=b D} τ
def Aj:ia X [] Ay:=⟨_,Op,λB T c τ H D g d h f=>f.nx T H c τ .refl d h⟩
def AM (h1:SS X st a)(h2:ia X rest b):ia X (st::rest) (AZ a b):=by obtain⟨t,p,s⟩:=h1;obtain⟨t',i,j⟩:=h2;exact⟨_,Cc p i,λB T k τ H D l m h c=>s B T k τ H _ _ m h ⟨λn o d f q g h'=>j B n d f o D l g h' (c.shift q),c.bk,c.ct,c.rt⟩⟩
def AR (h1:SS X st a):ia X [st] a:=let ⟨_,p,s⟩:=h1;⟨_,F1 p,s⟩
def Ak (ta:AE):AS:=λD τ=>ta (frz τ) D.rt
def AU (h:SE X e ta):SS X (.Return (some e) pos) (Ak ta):=by obtain⟨t,p,s⟩:=h;refine⟨_,QY p,λB T f τ H D k c h g=>s B T f (frz τ) H _ _ c.frz h λv x i j d r1 h1=> ?_⟩;exact g.rt v x i j (c.st.trans d) (r1.mv (.anti (c.frz.stp d).va λa m=> .inl m)) h1
def BD (c:AT)(a b:AS):AS:=λD τ=>c τ λk=>if k=true then a D τ else b D τ
def Aw {c:kd}{x y:km Stmt}{l:AT}(hc:Tf X c l)(ha:ia X x a)(hb:ia X y b):SS X (.If c x y pos) (BD l a b):=by
 obtain⟨t,p,s⟩:=hc;obtain⟨t1,p1,f⟩:=ha;obtain⟨t2,p2,g⟩:=hb;refine⟨_,Zv p p1 p2,λB T i τ H D m j h n=>s B T i τ H _ _ j h λk o r d h1=> ?_⟩;cases k with
 | true=>rw[AAU rfl] at h1 ⊢;exact f B o i τ r D m (j.stp d) h1 (n.shift d.prog)
 | false=>rw[AAS AAg] at h1 ⊢;exact g B o i τ r D m (j.stp d) h1 (n.shift d.prog)
abbrev AG:=PV->BN->(BN->Prop)->Prop
abbrev XM:=km PV->BN->(BN->Prop)->Prop
def LV (K:AAR)(g:TG)(ag:AG):Prop:=∀(B:Dg) (T:kf->Prop) (f:L2.St) (τ:BN) (H:Hp) (v:V) (x:PV) (Q:L2.St->Hp->Prop) (h:BN->Prop),SR K B T H f τ->Cp K T (mt B f τ) H v x->ag x τ h->
 (∀c d,SR K B T H c d->(∀b,Dx c d b->Dx f τ b)->h d->Q c H)->g v f H Q
def R4 (K:AAR)(g:XZ)(ag:XM):Prop:=∀(B:Dg) (T:kf->Prop) (f:L2.St) (τ:BN) (H:Hp) (vs:km V) (xs:km PV) (Q:L2.St->Hp->Prop) (h:BN->Prop),SR K B T H f τ->A8 K T (mt B f τ) H vs xs->ag xs τ h->
 (∀c d,SR K B T H c d->(∀b,Dx c d b->Dx f τ b)->h d->Q c H)->g vs f H Q
def SG (X:Cx)(c:kd)(ag:AG):Prop:=∃g,PG X c g/\LV X.K g ag
def uW (X:Cx)(c:km kd)(ag:XM):Prop:=∃g,qD X c g/\R4 X.K g ag
def Ar (i:Nat):AG:=λx τ Q=>Q (τ.set i (some (.val x)))
def Uv {K:AAR}{i:Nat}:LV K (Dv i) (Ar i):=λB T d τ H v x Q f c r h k=>k _ _ (c.set r) (λb o=>EI o) h
def EY {i:Nat}{x:Str}(hN:X.N.Nodup)(hi:X.N[i]? =some x)(hx:Loc X.env.scope x)(c:X.fn x=true\/X.env.scope.names.lookup x=some .local:=by first | exact .inl rfl|exact .inr rfl|assumption):SG X (.Name x pos) (Ar i):=
 ⟨_,L5 hN hi hx c,Uv⟩
def Bu:XM:=λxs τ Q=>match xs with | [] =>Q τ|_=>False
def Ae (g:AG)(r:XM):XM:=λxs τ Q=>match xs with | x::t=>g x τ λc=>r t c Q | [] =>False
def W1 {K:AAR}:R4 K V3 Bu:=λB T c τ H vs xs Q f d r h k=>by
 cases r with
 | nil=>exact⟨rfl,k c τ d (λ_ o=>o) h⟩
 | cons _ _=>exact h.elim
def Sg {K:AAR}{g:TG}{p:XZ}{ag:AG}{c:XM}(h1:LV K g ag)(h2:R4 K p c):R4 K (Fy g p) (Ae ag c):=λB T v τ H vs xs Q w s r h k=>by
 cases r with
 | nil=>exact h.elim
 | cons r t=> refine⟨_,_,rfl,h1 B T v τ H _ _ _ _ s r h λd f i u x=> ?_⟩;exact h2 B T d f H _ _ Q w i (t.mv (.anti s.va λa m=>m.elim .inl λz=> .inr (u a z))) x λj l n y A=>k j l n (λb o=>u b (y b o)) A
def Bj:uW X [] Bu:=⟨_,Ua,W1⟩
def Ad {es:km kd}{ag:AG}{c:XM}(h1:SG X e ag)(h2:uW X es c)(hs:(assignEach (e::es) X.env).map (·.2)=assign e X.env::(assignEach es X.env).map (·.2):=by rfl):uW X (e::es) (Ae ag c):=
 let ⟨_,p,s⟩:=h1;let ⟨_,d,f⟩:=h2;⟨_,IW p d hs,Sg s f⟩
def As (ta:AE)(g:AG):AS:=λD τ=>ta τ λx=>g x τ D.nx
def Ut {K:AAR}{t:TE}{g:TG}{ag:AG}(s:Fg K t ta)(n:LV K g ag):dX K (W6 t g) (As ta ag):=λB T i τ H D u j h o=>s B T i τ H _ _ j h λv x k l m r1 h1=>
 n B k i τ l v x _ _ (j.stp m) r1 h1 λc d f p r=>o.nx k l c d (m.prog.trans (.less p)) f r
def Et {c:kd}{ag:AG}(he:SE X e ta)(d:SG X c ag)(hs:swapsWithSole [c] e pos.line X.env=pure false:=by rfl)(hw:swappedStores [c] e X.env=pure none:=by rfl)(h1:(assignEach [c] X.env).map (·.2)= [assign c X.env] :=by rfl):SS X (.Assign [c] e pos) (As ta ag):=
 let ⟨_,p,s⟩:=he;let ⟨_,f,g⟩:=d;⟨_,Ub p f hs hw h1,Ut s g⟩
def Iq {i:Nat}{x:Str}{pos':Pos}(hN:X.N.Nodup)(hi:X.N[i]? =some x)(hx:Loc X.env.scope x)(he:SE X e ta)(hs:swapsWith e (some (.Name x pos')) pos.line X.env=pure false:=by rfl)(c:X.fn x=true\/X.env.scope.names.lookup x=some .local:=by first | exact .inl rfl|exact .inr rfl|assumption):SS X (.Assign [.Name x pos'] e pos) (As ta (Ar i)):=let ⟨_,p,s⟩:=he;⟨_,GB hN hi hx p hs c,Ut s Uv⟩
def KG (r:AA)(i:Nat):AS:=λD τ=>r τ λxs=>D.nx (τ.set i (some (.own xs)))
def lC {K:AAR}{t:TE}{r:AA}{i:Nat}(s:dW K t r):dX K (W6 t (Dv i)) (KG r i):=λB T g τ H D v c h j=>s B T g τ H _ _ c h λp vs xs k l d f hn hp m r1 h1=>by
 have n:¬Dx g τ p:=λo=>by obtain⟨_,e,_⟩:=c.ownH o;rw[hn] at e;cases e
 have u:¬B.M p:=λo=>by obtain⟨_,e,_⟩:=c.bm p o;rw[hn] at e;cases e
 refine j.nx k l _ _ ⟨λb o t _ e=>d.keep b o t e,d.sub,d.new,λb o=> ?_,λb h=>d.some h⟩ (f.take hp m n u (c.st.none hn) r1) h1;rcases Nw o with z|z
 .exact .inl z
 .subst z;exact .inr hn
def FE {i:Nat}{x:Str}{pos':Pos}{r:AA}(hN:X.N.Nodup)(hi:X.N[i]? =some x)(hx:Loc X.env.scope x)(he:SF X e r)(hs:swapsWith e (some (.Name x pos')) pos.line X.env=pure false:=by rfl)(c:X.fn x=true\/X.env.scope.names.lookup x=some .local:=by first | exact .inl rfl|exact .inr rfl|assumption):SS X (.Assign [.Name x pos'] e pos) (KG r i):=let ⟨_,p,s⟩:=he;⟨_,GB hN hi hx p hs c,lC s⟩
def RL (i j:Nat)(r:AA):AS:=λD τ=>r τ λxs=>match xs with | [x,y] =>D.nx ((τ.set i (some (.val x))).set j (some (.val y)))|_=>False
def NZ {i j:Nat}{x y:Str}{c d:kd}{r:AA}{g k l:Pos}{kt k2 pt2}(hc:X.calm=true)(hN:X.N.Nodup)(hi:X.N[i]? =some x)(hj:X.N[j]? =some y)(v:i≠j)(hx:X.env.scope.names.lookup x=some .local)(hy:X.env.scope.names.lookup y=some .local)(ha:SA X [c,d] r)(hw:swappedStores [.Tuple [.Name x g, .Name y k] kt l] (.Tuple [c,d] k2 pt2) X.env=pure (some [x,y]))(hs:swapsWithSole [.Tuple [.Name x g, .Name y k] kt l] (.Tuple [c,d] k2 pt2) pos.line X.env=pure false:=by rfl):SS X (.Assign [.Tuple [.Name x g, .Name y k] kt l] (.Tuple [c,d] k2 pt2) pos) (RL i j r):=by
 obtain⟨t,p,s⟩:=ha;refine⟨_,pC hc hN hi hj v hx hy p hw hs,λB T w τ H D I n h A=>s B T w τ H _ _ n h λvs xs C E u r1 h1=> ?_⟩;cases r1 with
 | nil=>exact h1.elim
 | cons ra ta=>
   cases ta with
   | nil=>exact h1.elim
   | cons F G=>
     cases G with
     | cons _ _=>exact h1.elim
     | nil=> have f:=n.stp u;refine⟨_,_,rfl,A.nx C E _ _ ?_ ((f.set (i:=i) ra).set (i:=j) (F.mv (.anti f.va λa m=>m.elim .inl λz=> .inr (EI z)))) h1⟩;exact u.prog.trans (.less λb o=>EI (EI o))
def Xa (i:Nat)(f:Hw)(ta:AE):AS:=λD τ=>match VB τ i with | some (.val x)=>ta τ λy=>f x y λz=>D.nx (τ.set i (some (.val z)))|_=>False
def iE {i:Nat}{x:Str}{op:Operator}{g:qu}{f:Hw}{pos':Pos}(hN:X.N.Nodup)(hi:X.N[i]? =some x)(hx:Loc X.env.scope x)(he:SE X e ta)(j:qE X op g/\B9 X.K g f)(l:X.fn x=true\/X.env.scope.names.lookup x=some .local:=by first | exact .inl rfl|exact .inr rfl|assumption):SS X (.AugAssign (.Name x pos') op e pos) (Xa i f ta):=by
 obtain⟨t,p,s⟩:=he;refine⟨_,pB hN hi hx p j.1 l,λB T m τ H D G c h n=> ?_⟩;unfold Xa at h;split at h <;> first | exact h.elim|skip
 rename_i y r;obtain⟨v,ev,rv⟩:=c.val i y (QH r);refine⟨v,ev,s B T m τ H _ _ c h λw z A C d r1 h1=> ?_⟩;refine j.2 A _ C v w y z _ _ (c.stp d).va (rv.stp d c.va) r1 h1 λu q E F k r2 h2=> ?_;exact n.nx E F _ _ ((d.trans k).prog.trans (.less λb o=>EI o)) (((c.stp d).stp k).set r2) h2
def pS:qE X .Add (wU λi j=>i+j)/\B9 X.K (wU λi j=>i+j) q9:=⟨n6,λT M H u v x y Q d va c rv h k=>by
 obtain⟨i,j,rfl,rfl,q⟩:=On h;exact⟨i,j,c.toI,rv.toI,k _ _ T H (.refl va.tp) (.int _) q⟩⟩
def OI (i:Nat)(τ:BN)(R:km PV->Prop):Prop:=match VB τ i with | some (.own xs)=>R xs|_=>False
def ZB {i:Nat}{τ:BN}{R:km PV->Prop}(h:OI i τ R):∃xs,τ[i]? =some (some (.own xs))/\R xs:=by
 unfold OI at h;cases e:VB τ i with
 | none=>rw[e] at h;exact h.elim
 | some z=>
   rw[e] at h;cases z with
   | val x=>exact h.elim
   | own xs=>exact⟨xs,QH e,h⟩
abbrev m6:=km PV->km PV->(km PV->Prop)->Prop
def i7 (K:AAR)(r:V->km V->Hp->VK->Prop)(f:m6):Prop:=∀(T M:kf->Prop) (H:Hp) (l:kf) (g vs:km V) (xs ys:km PV) (Q:VK) (h:km PV->Prop),H l=some (.lst g)->A8 K T M H g xs->A8 K T M H vs ys->f xs ys h->
 (∀c d,A8 K T M H c d->h d->Q .non (upd H l (.lst c)))->r (.ref l) vs H Q
def FG (i:Nat)(f:m6)(r:AA):AS:=λD τ=>OI i τ λxs=>r τ λys=>f xs ys λc=>D.nx (τ.set i (some (.own c)))
def iA {K:AAR}{i:Nat}{l:V->km V->Hp->VK->Prop}{f:m6}{t:TA}{r:AA}(v:i7 K l f)(s:m8 K t r):dX K (mS (y8 K "list" l (Gr i) t)) (FG i f r):=λB T m τ H D E d h w=>by obtain⟨xs,e,h⟩:=ZB h;obtain⟨p,vs,n,hp,r1,F,o,G⟩:=d.own i xs e;refine⟨.ref p,n, .inl ⟨rfl,vs, .inl (.inl hp)⟩,s B T m τ H _ _ d h λx ys u y c r2 h2=> ?_⟩;have g:=d.stp c;refine v u (mt B m τ) y p vs x xs ys _ _ (c.keep _ _ o hp) (r1.stp c d.va) r2 h2 λz I A C=> ?_;obtain⟨j,k⟩:=g.write (i:=i) (xs:=xs) e n (c.keep _ _ o hp) A;exact w.nx u _ _ _ (c.prog.trans k) j C
def D3 {i:Nat}{x name:Str}{es:km kd}{id:String}{d:V->km V->Hp->VK->Prop}{f:m6}{r:AA}{p apos c:Pos}(slot:Slot "list" name id)(h:typeOf (.builtin id)=pure (.type "method_descriptor"))(g:qm X id d/\i7 X.K d f)(ha:SA X (e::es) r)(hN:X.N[i]? =some x:=by rfl)(hv:nA X.env.scope x:=by first | exact Or.inl rfl|exact Or.inr (Or.inl rfl)|exact Or.inr (Or.inr rfl))(hd:(x==("__debug__" :Str))=false:=by decide)(j:(x==("__classdict__" :Str))=false:=by decide)(k:attributeBase (.Name x p) name X.env (eval (.Name x p) X.env)=eval (.Name x p) X.env:=by rfl)(l:((backTo c (starEach (e::es) X.env)).all (λx=> !x.1)&&(backToKw c (keywordEach [] X.env)).all (λx=>x.1.isSome) && decide ((e::es).length+([] :km Keyword).length+(if ([] :km Keyword).isEmpty then 0 else 1)<30))=true:=by rfl)(m:(apos.endLine==c.line)=true:=by rfl)(hs:starEach (e::es) X.env=(false,eval e X.env)::starEach es X.env:=by rfl)(n:(backTo c (starEach es X.env)).any (·.1)=false:=by rfl)(o:swapsWith (.Call (.Attribute (.Name x p) name apos) (e::es) [] c) none pos.line X.env=pure false:=by rfl):SS X (.Expr (.Call (.Attribute (.Name x p) name apos) (e::es) [] c) pos) (FG i f r):=by obtain⟨t,u,s⟩:=ha;exact⟨_,kR (tE PySem.F.plainAttrs_list slot h g.1 (UZ hN hv hd j) u k l m hs n) o,iA g.2 s⟩
def Lw:m6:=λxs ys Q=>match ys with | [y] =>xs.length<sizeLine/\Q (xs ++ [y])|_=>False
def DB:qm X "list.append" Uc/\i7 X.K Uc Lw:=by
 refine⟨JF,λT M H l c vs xs ys Q f hl r1 r2 h k=> ?_⟩;unfold Lw at h;split at h <;> first | exact h.elim|skip
 cases r2 with
 | cons d t=> cases t;exact⟨l,c,_,rfl,rfl,hl,by rw[r1.length];exact h.1,k _ _ (r1.append (.cons d .nil)) h.2⟩
def fZ:m6:=λxs ys Q=>match ys with | [.int i,y] =>(0<=i/\i<=(xs.length:Int)/\xs.length<sizeLine)/\Q (xs.take i.toNat++y::xs.drop i.toNat)|_=>False
def Si:qm X "list.insert" Ud/\i7 X.K Ud fZ:=by
 refine⟨bY,λT M H l c vs xs ys Q j hl r1 r2 h k=> ?_⟩;unfold fZ at h;split at h <;> first | exact h.elim|skip
 cases r2 with
 | cons d t=>
   cases t with
   | cons f t=> cases t;cases d;obtain⟨⟨h1,h2,g⟩,i⟩:=h;exact⟨l,c,_,_,rfl,rfl,hl,h1,by rw[r1.length];exact h2,by rw[r1.length];exact g,k _ _ ((r1.take _).append (.cons f (r1.drop _))) i⟩
def cF (o:ke Nat)(R:Nat->Prop):Prop:=match o with | some j=>R j|none=>False
def oW {o:ke Nat}{R:Nat->Prop}(h:cF o R):∃z,o=some z/\R z:=by cases o <;> first | exact⟨_,rfl,h⟩|exact h.elim
def Vq (i:Nat)(c ta:AE):AS:=λD τ=>ta τ λy=>OI i τ λxs=>c τ λk=>gD k λk=>cF (Oi xs.length k) λj=>D.nx (τ.set i (some (.own (xs.set j y))))
def Q1 {i:Nat}{x:Str}{ix:kd}{z:AE}{p c:Pos}(hi:SE X ix z)(he:SE X e ta)(hN:X.N[i]? =some x:=by rfl)(hv:nA X.env.scope x:=by first | exact Or.inl rfl|exact Or.inr (Or.inl rfl)|exact Or.inr (Or.inr rfl))(hd:(x==("__debug__" :Str))=false:=by decide)(I:(x==("__classdict__" :Str))=false:=by decide)(ha:∀v,assign (.Subscript (.Name x p) ix c) X.env v=(do
   let l <-holding [v] (eval (.Name x p) X.env);let m <-holding [v,l] (eval ix X.env)
   standAt c
   holding [v,l,m] (setItem l m v)
   release [v,l,m] []):=by intro _;rfl)(hs:swapsWithSole [.Subscript (.Name x p) ix c] e pos.line X.env=pure false:=by rfl)(hw:swappedStores [.Subscript (.Name x p) ix c] e X.env=pure none:=by rfl)(h1:(assignEach [.Subscript (.Name x p) ix c] X.env).map (·.2)= [assign (.Subscript (.Name x p) ix c) X.env] :=by rfl):SS X (.Assign [.Subscript (.Name x p) ix c] e pos) (Vq i z ta):=by obtain⟨t,J,s⟩:=hi;obtain⟨t',n,K⟩:=he;refine⟨_,Ub n (Ya (UZ hN hv hd I) J Qr ha) hs hw h1,λB T A τ H D S C h L=>K B T A τ H _ _ C h λv y M O E r1 h1=> ?_⟩;have d:=C.stp E;obtain⟨xs,e,h1⟩:=ZB h1;obtain⟨q,vs,F,hp,r2,U,G,W⟩:=d.own i xs e;refine⟨.ref q,F,s B M A τ O _ _ d h1 λw k P Y f Q g=> ?_⟩;obtain⟨k,rfl,g⟩:=UV g;obtain⟨j,R,g⟩:=oW g;cases Q.toI;have o:=d.stp f;obtain⟨r,u⟩:=o.write (i:=i) (xs:=xs) e F (f.keep _ _ G hp) (((r2.stp f d.va)).set (r1.stp f d.va) j);exact⟨q,vs,k,j,rfl,rfl,f.keep _ _ G hp,by rw[r2.length];exact R,L.nx P _ _ _ ((E.trans f).prog.trans u) r g⟩
end
section
variable {X:Cx}{st:Stmt}{e:kd}{pos:Pos}{a b:AS}{ta:AE}
def XC (c:AT)(b:AS)(D:HX):Nat->BN->Prop
 | 0,_=>False
 | n+1,τ=>c (frz τ) λk=>if k=true then b {D with nx:=XC c b D n,ct:=XC c b D n,bk:=D.nx} τ else D.nx τ
def Ms (c:AT)(b:AS):AS:=λD τ=>∃n,XC c b D n τ
def MK {c:kd}{body:km Stmt}{y:AT}(hp:PassesOwn (model X.prog X.w) X.A X.env X.xe)(hc:Tf X c y)(hb:ia X body b):SS X (.While c body [] pos) (Ms y b):=by
 obtain⟨t,p,s⟩:=hc;obtain⟨t',M,N⟩:=hb;refine⟨_,gW hp p M,λB T F τ H D G O h I=> ?_⟩;obtain⟨n,h⟩:=h;refine⟨λm g z=>∃C d,SR X.K B C z g d/\F7 T H F τ C z g d/\XC y b G m d,⟨n,T,τ,O, .refl,h⟩, ?_⟩;rintro m g z ⟨C,d,r,j,h1⟩;cases m with
 | zero=>exact h1.elim
 | succ m=>
   refine s B C g (frz d) z _ _ r.frz h1 λk J L E h2=> ?_;have u:=r.stp E;have v:=(I.shift j).shift E.prog;cases k with
   | false=>rw[AAS AAg] at h2 ⊢;exact v.nx J L g d .refl u h2
   | true=> rw[AAU rfl] at h2 ⊢;refine⟨λi x=>∃o f,SR X.K B o x i f/\F7 T H F τ o x i f/\XC y b G m f,λi x q=>⟨m,Nat.lt_succ_self m,q⟩, ?_⟩;exact N B J g d L _ _ u h2 ⟨λo x i f q l h'=>⟨o,f,l,(j.trans E.prog).trans q,h'⟩,v.nx,λo x i f q l h'=>⟨o,f,l,(j.trans E.prog).trans q,h'⟩,I.rt⟩
abbrev AI:=BN->(km PV->Prop)->Prop
structure Vm (K:AAR) (M:Addr->Prop) (J:It) (xs:List PV) (T:Addr->Prop) (H:Hp):Prop where
 go:∀i y,xs[i]? =some y->J.go i H
 yld:∀i y v H',xs[i]? =some y->J.yld i H v H'->EG T H T H'/\Cp K T M H' v y
 stop:∀i,xs.length<=i->J.stop i H
def Y7 (T:kf->Prop)(H c:Hp):Prop:=∀b o,¬T b->H b=some o->c b=some o
def ae (K:AAR)(s:kc)(j:TI)(k:AI):Prop:=∀(B:Dg) (T:kf->Prop) (f:L2.St) (τ:BN) (H:Hp) (R:It->Hp->Prop) (i:km PV->Prop),SR K B T H f τ->k τ i->
 (∀J xs g c,EG T H g c->(∀M2 h d,Mv K g (mt B f τ) c h M2 d->Hx h M2 d->(s=true\/Y7 g c d)->Vm K M2 J xs h d)->i xs->R J c)->j f H R
def SI (X:Cx)(d iter:kd)(s:kc)(f:AI):Prop:=∃c,PI X d iter c/\ae X.K s c f
def sB (K:AAR)(d:TE):TI:=λf H R=>d f H λx c=>∃a,x= .ref a/\(((∃xs,Fs K c a xs)/\R (vP K a) c)\/((∃xs,LW K c a xs)/\R (vQ K a) c))
def gS {j l:kd}{g:TE}(hl:PE X l g):PI X j l (sB X.K g):=by
 intro Tb s k H R I h;refine Bk (hl Tb s k H _ I h) λv c ⟨x,i,d,r1,m⟩=> ?_;obtain⟨a,e,q⟩:=m;subst e;cases r1;rcases q with⟨⟨xs,hq⟩,q⟩|⟨⟨xs,hq⟩,q⟩
 .obtain ⟨f,rv,p,hz⟩:=d.list hq;refine AD1 p.isList ?_;refine⟨c.heap.objs.size, [c.heap.objs.size],_,_,i,rfl,d.kept (t':=c.toks) λb o e=>AAX _ e,ci a _,⟨_,AAd _ rfl,rfl,rfl⟩,λb hb=> ?_,q⟩;have e:b=c.heap.objs.size:=by simpa using hb
  subst e;exact d.fpOk (AAY _) (d.hok.fresh (AAY _))
 .obtain ⟨f,rv,p,hz⟩:=d.tuple hq;refine wpAny_pyIter_tuple (show c.heap.IsTuple a f.toArray from p) ?_;refine⟨c.heap.objs.size, [c.heap.objs.size],_,_,i,rfl,d.kept (t':=c.toks) λb o e=>AAX _ e,Y0 a _,⟨_,AAd _ rfl,rfl,rfl⟩,λb hb=> ?_,q⟩;have e:b=c.heap.objs.size:=by simpa using hb
  subst e;exact d.fpOk (AAY _) (d.hok.fresh (AAY _))
def Hl (ta:AE):AI:=λτ Q=>ta τ λx=>Wc x Q
def fK {K:AAR}{T M:kf->Prop}{H:Hp}{a:kf}{xs:km PV}(va:Hx T M H)(r:Cp K T M H (.ref a) (.tup xs)):Vm K M (vQ K a) xs T H:=by
 obtain⟨f,vs,e,hq,rs⟩:=Dn r;cases e;refine⟨λi y h=> ?_,λi y v g h c=> ?_,λi h=>⟨vs,hq,by rw[rs.length];exact h⟩⟩
 .obtain ⟨v,hv,_⟩:=rs.get h;exact⟨vs,v,hq,hv⟩
 .obtain ⟨rfl,c⟩:=c;obtain⟨z,hz,d⟩:=rs.get' (c vs hq);rw[h] at hz;cases hz;exact⟨.refl va.tp,d⟩
def fJ {K:AAR}{T M:kf->Prop}{H:Hp}{a:kf}{vs:km V}{xs:km PV}(va:Hx T M H)(hq:H a=some (.lst vs))(rs:A8 K T M H vs xs):Vm K M (vP K a) xs T H:=by
 have c:Fs K H a vs:= .inl (.inl hq);refine⟨λi y h=> ?_,λi y v g h d=> ?_,λi h=>⟨vs,c,by rw[rs.length];exact h⟩⟩
 .obtain ⟨v,hv,_⟩:=rs.get h;exact⟨vs,v,c,hv⟩
 .obtain ⟨rfl,d⟩:=d;obtain⟨z,hz,f⟩:=rs.get' (d vs c);rw[h] at hz;cases hz;exact⟨.refl va.tp,f⟩
def DU {j:kd}(h:SE X e ta):SI X j e true (Hl ta):=by
 obtain⟨t,p,s⟩:=h;refine⟨_,gS p,λB T l τ H R y m h k=>s B T l τ H _ _ m h λv x f g i r1 h1=> ?_⟩;obtain⟨xs,hx,q⟩:=KU h1;rcases hx with rfl|rfl
 .obtain ⟨a,vs,rfl,hq,rs⟩:=Dn r1;refine⟨a,rfl, .inr ⟨⟨vs,hq⟩,k _ xs f g i (λM2 n o c va _=>fK va (r1.mv c)) q⟩⟩
 .obtain ⟨a,vs,rfl,hq,z,A,rs⟩:=Dm r1;refine⟨a,rfl, .inl ⟨⟨vs, .inl (.inl hq)⟩,k _ xs f g i (λM2 n o c va _=> ?_) q⟩⟩;obtain⟨C,r,u,w,_,_,d⟩:=Dm (r1.mv c);cases u;exact fJ va w d
def rng (lo:Int)(n:Nat):km PV:=(List.range n).map λ(k:Nat)=> .int (lo+(k:Int))
def WI {K:AAR}{T M:kf->Prop}{H:Hp}{lo:Int}{n:Nat}(va:Hx T M H):Vm K M (qk lo n) (rng lo n) T H:=by
 have hl:(rng lo n).length=n:=by simp[rng]
 refine⟨λi y h=> ?_,λi y v d h c=> ?_,λi h=>by rw[hl] at h;exact h⟩
 .have:=(AAy.mp h).1;rw[hl] at this;exact this
 .obtain ⟨rfl,rfl⟩:=c;have hi:=(AAy.mp h).1;rw[hl] at hi;have:y= .int (lo+(i:Int)):=by simp[rng,List.getElem?_range hi] at h;exact h.symm
  subst this;exact⟨.refl va.tp, .int _⟩
def RM (r:AA):AI:=λτ Q=>r τ λxs=>match xs with | [.int j] =>(-(2^62)<=j/\j<2^62)/\Q (rng 0 j.toNat)|_=>False
def jA (r:AA):AI:=λτ Q=>r τ λxs=>match xs with | [.int i, .int j] =>(-(2^62)<=i/\i<2^62/\ -(2^62)<=j/\j<2^62)/\Q (rng i (j-i).toNat)|_=>False
def N1 {d c:kd}{r:AA}{p:Pos}(f:Gl X "range")(g:X.mg "range" =none)(ha:SA X [c] r)(hs:starEach [c] X.env= [(false,eval c X.env)] :=by rfl):SI X d (.Call (.Name "range" p) [c] [] pos) true (RM r):=by
 obtain⟨t,i,s⟩:=ha;refine⟨_,cG f g i hs,λB T j τ H R u l h k=>s B T j τ H _ _ l h λvs xs m n o r1 h1=> ?_⟩;split at h1 <;> first | exact h1.elim|skip
 cases r1 with
 | cons r t=> cases t;cases r;exact⟨_,rfl,h1.1.1,h1.1.2,k _ _ m n o (λM2 v w x va _=>WI va) h1.2⟩
def mP {f c d:kd}{r:AA}{p:Pos}(g:Gl X "range")(i:X.mg "range" =none)(ha:SA X [c,d] r)(hs:starEach [c,d] X.env= [(false,eval c X.env),(false,eval d X.env)] :=by rfl)(j:starEach [d] X.env= [(false,eval d X.env)] :=by rfl):SI X f (.Call (.Name "range" p) [c,d] [] pos) true (jA r):=by
 obtain⟨t,l,s⟩:=ha;refine⟨_,cH g i l hs j,λB T m τ H R x n h k=>s B T m τ H _ _ n h λvs xs o u v r1 h1=> ?_⟩;split at h1 <;> first | exact h1.elim|skip
 cases r1 with
 | cons r t=>
   cases t with
   | cons w t=> cases t;cases r;cases w;exact⟨_,_,rfl,h1.1,k _ _ o u v (λM2 y z A va _=>WI va) h1.2⟩
def Fv (xs ys:km PV):km PV:=List.zipWith (λx y=> .tup [x,y]) xs ys
def sC (K:AAR)(ta:TA):TI:=λf H R=>ta f H λvs d=>∃b c l m,vs= [.ref l, .ref m] /\(∃xs,Sq K b d l xs)/\(∃ys,Sq K c d m ys)/\R (vS K b c l m) d
def kJ {e f:kd}{ta:TA}{p pos g:Pos}{es:km kd}{w:Nat}(x:Gl X "zip")(y:X.mg "zip" =none)(ha:PA X [e,f] ta)(hs:starEach [e,f] X.env= [(false,eval e X.env),(false,eval f X.env)] :=by rfl)(t:starEach [f] X.env= [(false,eval f X.env)] :=by rfl):PI X (.Tuple es w g) (.Call (.Name "zip" p) [e,f] [] pos) (sC X.K ta):=by
 intro Tb s z H R I h;refine Call_ (F9 I x y boot_zip (ACe (Bk (ha pos Tb s z H _ I h) λA d ⟨vs,B,i,r1,C⟩=> ?_) (by rw[hs,t]) (by rw[t];rfl)));obtain⟨b,c,l,m,rfl,⟨xs,hl⟩,⟨ys,D⟩,q⟩:=C;cases r1 with
 | cons r j=>
 cases j with
 | cons E j=>
 cases j;cases r;cases E;obtain⟨A,J,u,_⟩:=i.sq hl;obtain⟨vs,rv,sv,_⟩:=i.sq D;have k:l<d.heap.objs.size:=by cases b <;> (obtain⟨o,e,_⟩:=u;exact AAW e)
 have n:m<d.heap.objs.size:=by cases c <;> (obtain⟨o,e,_⟩:=sv;exact AAW e)
 refine p9 u sv λh1 Z F=>AD8 Z.zip ?_;refine⟨_,_,_,_,B,rfl,i.kept (t':=d.toks) F,iT (zipApart_new k n),Z,λp hp=> ?_,q⟩;have v:d.heap.objs.size<=p:=by
  have G:p=d.heap.objs.size+4\/p=d.heap.objs.size+2\/p=d.heap.objs.size+3\/p=d.heap.objs.size\/p=d.heap.objs.size+1:=by simpa using hp
  rcases G with e|e|e|e|e <;> (rw[e];omega)
 exact i.fpOk v (i.hok.fresh v)
def qz:PV->kc | .lst _=>true|_=>false
def aE {K:AAR}{T M:kf->Prop}{H:Hp}{v:V}{x:PV}{xs:km PV}(hx:x= .tup xs\/x= .lst xs)(r:Cp K T M H v x):∃a vs,v= .ref a/\Sq K (qz x) H a vs/\A8 K T M H vs xs:=by
 rcases hx with rfl|rfl
 .obtain ⟨a,vs,rfl,hq,rs⟩:=Dn r;exact⟨a,vs,rfl,hq,rs⟩
 .obtain ⟨a,vs,rfl,hq,_,_,rs⟩:=Dm r;exact⟨a,vs,rfl, .inl (.inl hq),rs⟩
def fL {K:AAR}{T M:kf->Prop}{H:Hp}{l m:kf}{x y:PV}{xs ys:km PV}(va:Hx T M H)(hx:x= .tup xs\/x= .lst xs)(hy:y= .tup ys\/y= .lst ys)(r:Cp K T M H (.ref l) x)(r2:Cp K T M H (.ref m) y):Vm K M (vS K (qz x) (qz y) l m) (Fv xs ys) T H:=by
 obtain⟨_,vs,e,hq,rs⟩:=aE hx r;cases e;obtain⟨_,f,e,g,c⟩:=aE hy r2;cases e;have hz:∀i z,(Fv xs ys)[i]? =some z->∃a b,xs[i]? =some a/\ys[i]? =some b/\z=PV.tup [a,b] :=λi z h=>by
  unfold Fv at h;rw[AE9] at h;cases d:xs[i]? with
  | none=>rw[d] at h;cases h
  | some a=>
    cases j:ys[i]? with
    | none=>rw[d,j] at h;cases h
    | some b=>rw[d,j] at h;cases h;exact⟨a,b,by first | rfl|exact d,by first | rfl|exact j,rfl⟩
 refine⟨λi z h=> ?_,λi z v A h s=> ?_,λi h=>⟨vs,f,hq,g, ?_⟩⟩
 .obtain ⟨a,b,ha,hb,_⟩:=hz i z h;obtain⟨u,hu,_⟩:=rs.get ha;obtain⟨w,hw,_⟩:=c.get hb;exact⟨vs,f,u,w,hq,g,hu,hw⟩
 .obtain ⟨a,b,ha,hb,rfl⟩:=hz i z h;obtain⟨p,u,w,rfl,hn,rfl,hu,hw⟩:=s;obtain⟨B,k,ra⟩:=rs.get' (hu vs hq);obtain⟨C,n,t⟩:=c.get' (hw f g);rw[ha] at k;cases k;rw[hb] at n;cases n;have st:=EG.lay (o:= .tup [u,w]) va.tp hn;exact⟨st, .tup (.inl Au) (.cons (ra.stp st va) (.cons (t.stp st va) .nil))⟩
 .rw [rs.length,c.length];have:(Fv xs ys).length=min xs.length ys.length:=by simp[Fv]
  omega
def nD (r:AA):AI:=λτ Q=>r τ λc=>match c with | [x,y] =>Wc x λxs=>Wc y λys=>Q (Fv xs ys)|_=>False
def hJ {e f:kd}{r:AA}{p pos c:Pos}{es:km kd}{i:Nat}(j:Gl X "zip")(n:X.mg "zip" =none)(ha:SA X [e,f] r)(hs:starEach [e,f] X.env= [(false,eval e X.env),(false,eval f X.env)] :=by rfl)(o:starEach [f] X.env= [(false,eval f X.env)] :=by rfl):SI X (.Tuple es i c) (.Call (.Name "zip" p) [e,f] [] pos) true (nD r):=by
 obtain⟨t,u,s⟩:=ha;refine⟨_,kJ j n u hs o,λB T v τ H R J w h k=>s B T v τ H _ _ w h λvs xs z A C r1 h1=> ?_⟩;split at h1 <;> first | exact h1.elim|skip
 rename_i x y;obtain⟨xs,hx,h2⟩:=KU h1;obtain⟨ys,hy,D⟩:=KU h2;cases r1 with
 | cons ra t=>
   cases t with
   | cons d t=> cases t;obtain⟨l,E,rfl,hq,rs⟩:=aE hx ra;obtain⟨m,F,rfl,G,I⟩:=aE hy d;exact⟨qz x,qz y,l,m,rfl,⟨E,hq⟩,⟨F,G⟩,k _ _ z A C (λM2 K L g va _=>fL va hx hy (ra.mv g) (d.mv g)) D⟩
def DG (g:AG)(b:AS)(D:HX):km PV->BN->Prop
 | [],τ=>D.nx τ
 | x::r,τ=>g x τ λc=>b {D with nx:=DG g b D r,ct:=DG g b D r,bk:=D.nx} c
def FO (c:AI)(g:AG)(b:AS):AS:=λD τ=>c τ λxs=>DG g b D xs τ
def F7.mvv {K:AAR}{B:Dg}{T g:kf->Prop}{H h:Hp}{f c:L2.St}{τ d:BN}(s:SR K B T H f τ)(p:F7 T H f τ g h c d):Mv K T (mt B f τ) H g (mt B c d) h:=
 ⟨s.va,λb o t m e=>p.keep b o t (λz=>m (.inr z)) e,p.sub,λb n t=>(p.new b t).elim id λz=>absurd z n,λb n m=>m.elim .inl λz=>(p.own b z).elim .inr λz=>absurd z n⟩
def CU {G iter:kd}{body:km Stmt}{R:AI}{g:AG}(hp:PassesOwn (model X.prog X.w) X.A X.env X.xe)(hc:X.calm=true)(hi:SI X G iter true R)(hg:SG X G g)(hb:ia X body b)(hs:∀x,foldedSetIterable iter X.env x=pure x:=by intro _;rfl):SS X (.For G iter body [] pos) (FO R g b):=by
 obtain⟨wi,pi,si⟩:=hi;obtain⟨tg',pg,sg⟩:=hg;obtain⟨tb,pb,sb⟩:=hb;refine⟨_,gU hp hc pi pg pb hs,λB T C τ H D S U h I=>si B T C τ H _ _ U h λJ xs E L M walk h1=> ?_⟩;have s:=U.stp M;refine⟨λi m f t=>m=xs.length-i/\∃k d,SR X.K B k t f d/\F7 E L C τ k t f d/\DG g b S (xs.drop i) d,⟨_,rfl,E,τ,s, .refl,h1⟩, ?_⟩;rintro i m f t ⟨rfl,k,d,n,o,h2⟩;have w:=walk _ k t (o.mvv s) n.va (.inl rfl);have N:=(I.shift M.prog).shift o;by_cases W:i<xs.length
 .have Y:xs[i]? =some xs[i] :=AAs W;rw[ACk W] at h2;refine .inr ⟨w.go i _ Y,λj u=>∃l c,SR X.K B l u j c/\F7 E L C τ l u j c/\DG g b S (xs.drop (i+1)) c,λj u ⟨l,c,q1,q2,q3⟩=>⟨_,by omega,rfl,l,c,q1,q2,q3⟩,λv F yl=> ?_⟩;obtain⟨Z,r3⟩:=w.yld i _ v F Y yl;have O:=n.stp Z;refine sg B k f d F v _ _ _ O r3 h2 λy z P o4 h4=> ?_;have p:F7 E L C τ k F y z:=(o.trans Z.prog).trans (.less o4);have Q:=(I.shift M.prog).shift p;exact sb B k y z F _ _ P h4 ⟨λl u j c q r h'=>⟨l,c,r,p.trans q,h'⟩,Q.nx,λl u j c q r h'=>⟨l,c,r,p.trans q,h'⟩,I.rt⟩
 .rw [ADQ (by omega)] at h2;exact .inl ⟨w.stop i (by omega),N.nx k t f d .refl n h2⟩
def af:ke AV->ke AV|some (.val x)=>some (.val x)|_=>none
def Lb (own:Nat)(ix:km Nat)(τ:BN):BN:=List.replicate own none++ix.map λi=>af (VB τ i)
def De (g:AG)(t:AT)(te:AE)(c:BN)(Q:km PV->Prop):km PV->km PV->Prop
 | [],acc=>Q acc
 | x::r,acc=>g x c λd=>t d λok=>if ok=true then te d λy=>De g t te c Q r (acc ++ [y]) else De g t te c Q r acc
def CA (c:AI)(own:Nat)(ix:km Nat)(g:AG)(t:AT)(te:AE):AA:=λτ Q=>c τ λxs=>xs.length<sizeLine/\De g t te (Lb own ix τ) Q xs []
def de {own:Nat}{ix:km Nat}{τ:BN}{j:Nat}{x:PV}(h:(Lb own ix τ)[j]? =some (some (.val x))):own<=j/\∃i,ix[j-own]? =some i/\τ[i]? =some (some (.val x)):=by
 unfold Lb at h;by_cases hj:j<own
 .rw [ABF (by simpa using hj),ACT,AAU hj] at h;cases h
 .rw [ABV (by simpa using hj),ACO,AA0] at h;cases e:ix[j-own]? with
  | none=>rw[e] at h;cases h
  | some i=>
    rw[e] at h;refine⟨by omega,i,rfl,QH ?_⟩;cases c:VB τ i with
    | none=>simp[c,af] at h
    | some z=>cases z <;> simp[c,af] at h;subst h;rfl
def Gg {own:Nat}{ix:km Nat}{τ:BN}{j:Nat}{xs:km PV}:(Lb own ix τ)[j]? ≠some (some (.own xs)):=λh=>by
 unfold Lb at h;by_cases hj:j<own
 .rw [ABF (by simpa using hj),ACT,AAU hj] at h;cases h
 .rw [ABV (by simpa using hj),ACO,AA0] at h;cases e:ix[j-own]? with
  | none=>rw[e] at h;cases h
  | some i=>
    rw[e] at h;cases c:VB τ i with
    | none=>simp[c,af] at h
    | some z=>cases z <;> simp[c,af] at h
def Dg.blk (B:Dg)(c:L2.St)(τ:BN)(D:kf):Dg:=⟨B.T,B.H,λa=>mt B c τ a\/a=D⟩
def SR.blk {K:AAR}{B:Dg}{T d:kf->Prop}{H f:Hp}{c:L2.St}{τ:BN}{D:kf}{h:km V}{own:Nat}{ix:km Nat}(s:SR K B T H c τ)(q:EG T H d f)(hn:H D=none)(hd:f D=some (.lst h))(l:¬d D):SR K (B.blk c τ D) d f (CZ own ix c) (Lb own ix τ):=by
 have g:=s.stp q;have u:Mv K T (mt B c τ) H d (mt (B.blk c τ D) (CZ own ix c) (Lb own ix τ)) f:=⟨s.va,λb o t _ e=>q.keep b o t e,q.sub,λb n t=>(q.new b t).elim id λz=>absurd z n,λb n z=>by
  rcases z with(z|z)|⟨_,_,z,_⟩
  .exact z
  .subst z;exact absurd hn n
  .exact absurd z Gg⟩
 refine⟨by simp[CZ,Lb],λj x e=> ?_,λj xs e=>absurd e Gg,λj k xs ys p e=>absurd e Gg,g.tp,λa m=> ?_,λa m=> ?_,g.st⟩
 .obtain ⟨hj,i,hi,w⟩:=de e;obtain⟨v,hv,r⟩:=s.val i x w;refine⟨v, ?_,r.mv u⟩;unfold CZ;rw[ABV (by simpa using hj),ACO,AA0,hi];simp[hv]
 .rcases m with m|m
  .exact g.va.mu a m
  .subst m;exact⟨_,hd,Mp.lst⟩
 .rcases m with m|m
  .exact g.nt m
  .subst m;exact l
def lY (X:Cx)(c:km kd)(t:AT):Prop:=∃d,Y9 X c d/\OH X.K d t
def Dh:AT:=λ_ Q=>Q true
def BS:lY X [] Dh:=⟨_,kM,λB T d τ H Q f c h k=>k true T H (.refl c.tp) h⟩
def Ot {c:kd}{t:AT}(h:Tf X c t):lY X [c] t:=let ⟨_,p,s⟩:=h;⟨_,kN p,s⟩
def Qu {K:AAR}{s:kc}{wi:TI}{ai:AI}{own:Nat}{ix:km Nat}{g:TG}{ag:AG}{tt:TT}{C:AT}{te:TE}(hi:ae K s wi ai)(hg:LV K g ag)(ht:OH K tt C)(he:Fg K te ta):dW K (aI wi own ix g tt te) (CA ai own ix ag C ta):=by
 intro B T E τ H Q AQ sr h k;refine hi B T E τ H _ _ sr h λJ xs T1 H1 s1 walk h1 D F=> ?_;obtain⟨hl,h1⟩:=h1;have j:=sr.stp s1;have nt1:¬T1 D:=λz=>by obtain⟨o,e,_⟩:=(j.tp D z).mut;rw[F] at e;cases e
 have lay:=EG.lay (o:= .lst []) j.tp F;refine⟨λi m G=>m=xs.length-i/\∃p vs c,EG T1 H1 p G/\G D=some (.lst vs)/\¬p D/\A8 K p (λa=>mt B E τ a\/a=D) G vs c/\c.length<=i/\De ag C ta (Lb own ix τ) AQ (xs.drop i) c,
  ⟨_,rfl,T1, [], [],lay,Au,nt1, .nil,AAY _,h1⟩, ?_⟩
 rintro i m G ⟨rfl,p,vs,c,r,Z,f,r2,jW,h2⟩;have I:=j.blk (own:=own) (ix:=ix) r F Z f;have L:Hx p (λa=>mt B E τ a\/a=D) G:=⟨I.tp,I.bm⟩;have w:=walk (λa=>mt B E τ a\/a=D) p G ⟨j.va,λb o t _ e=>r.keep b o t e,r.sub,λb n t=>(r.new b t).elim id λz=>absurd z n,λb n z=>z.elim id λz=>by subst z;exact absurd F n⟩ L (.inr r.keep);by_cases Ey:i<xs.length
 .have WC:xs[i]? =some xs[i] :=AAs Ey;rw[ACk Ey] at h2;refine .inr ⟨w.go i _ WC,λv H3 yl=> ?_⟩;obtain⟨P,r3⟩:=w.yld i _ v H3 WC yl;have l:=I.stp P;refine hg _ p _ _ H3 v _ _ _ l (r3.mv (.anti ⟨l.tp,l.bm⟩ λa z=>z.elim id λ⟨_,_,z,_⟩=>absurd z Gg)) h2 λR S U o4 h4=> ?_;refine ht _ p R S H3 _ _ U h4 λok T5 H5 N h5=> ?_;have u:=U.stp N;have nW:=P.keep D _ f Z;have jU:=N.keep D _ f nW;have M:¬T5 D:=λz=>(N.new D z).elim f λn=>by rw[n] at nW;cases nW
  have r5:=(r2.stp P L).stp N ⟨l.tp,l.bm⟩;cases ok with
  | false=> rw[AAS AAg] at h5 ⊢;exact⟨_,by omega,rfl,T5,vs,c,(r.trans P).trans N,jU,M,r5,by omega,h5⟩
  | true=>
    rw[AAU rfl] at h5 ⊢;refine he _ T5 R S H5 _ _ u h5 λvy y O H6 W r6 h6=> ?_;have A:=u.stp W;have vo:=W.keep D _ M jU;have Y:¬O D:=λz=>(W.new D z).elim M λn=>by rw[n] at jU;cases jU
    have va6:Hx O (λa=>mt B E τ a\/a=D) H6:=⟨A.tp,A.bm⟩;have r7:=r5.stp W ⟨u.tp,u.bm⟩;have s7:=((r.trans P).trans N).trans W;have tp8:∀a,O a->Fh (upd H6 D (.lst (vs ++ [vy]))) a:=λa t=>by obtain⟨d,x,e,z⟩:=A.tp a t;exact⟨d,x,by rw[Aq (λw=>by subst w;exact Y t)];exact e,z⟩
    have mv8:Mv K O (λa=>mt B E τ a\/a=D) H6 O (λa=>mt B E τ a\/a=D) (upd H6 D (.lst (vs ++ [vy]))):=⟨va6,λb o _ m e=>by rw[Aq (λw=>m (.inr w))];exact e,λ_ t=>t,λ_ _ t=>t,λ_ _ z=>z⟩;refine⟨vs,vo,by rw[r2.length];omega,_,(by omega:xs.length-(i+1)<xs.length-i),rfl,O,vs ++ [vy],c ++ [y],⟨λb o t e=> ?_,s7.sub,s7.new,tp8⟩,Au,Y,(r7.append (.cons (r6.mv (.anti A.va λa z=> .inl z)) .nil)).mv mv8,by simp;omega,h6⟩;rw[Aq (A4 e F)];exact s7.keep b o t e
 .rw [ADQ (by omega)] at h2;refine .inl ⟨w.stop i (by omega), ?_⟩;exact k D vs c p G (s1.trans r) (j.add r F Z Mp.lst f) (s1.none F) Z f (r2.mv (.anti L λa z=>by
   rcases z with(z|z)|z
   .exact .inl (.inl z)
   .exact .inr z
   .exact .inl (.inr z))) h2
structure dD (X:Cx) (tg elt:Expr) (ifs:List Expr) (scope:Scope) (own:Nat) (ix:List Nat) (N:List Str) (g:AG) (t:AT) (te:AE):Prop where
 ex:∃g' t' te',Mm X tg elt ifs scope own ix N g' t' te'/\LV X.K g' g/\OH X.K t' t/\Fg X.K te' te
def CC {f c iter:kd}{d:km kd}{scope:Scope}{own:Nat}{ix:km Nat}{N:km Str}{g:AG}{t:AT}{s:kc}{h:AI}(hc:X.calm=true)(hi:SI X f iter s h)(O:dD X f c d scope own ix N g t ta)(hs:∀x,foldedSetIterable iter X.env x=pure x:=by intro _;rfl):SF X (.ListComp c [⟨f,iter,d,0⟩] scope pos) (CA h own ix g t ta):=by obtain⟨n,i,j⟩:=hi;obtain⟨g',t',k,O,l,st,m⟩:=O.ex;exact⟨_,kD hc i O hs,Qu j l st m⟩
def Gq {i:Nat}{x:Str}{pos' c:Pos}{h d iter:kd}{f:km kd}{scope:Scope}{own:Nat}{ix:km Nat}{N:km Str}{g:AG}{t:AT}{s:kc}{j:AI}(hc:X.calm=true)(hN:X.N.Nodup)(k:X.N[i]? =some x)(hx:Loc X.env.scope x)(hi:SI X h iter s j)(O:dD X h d f scope own ix N g t ta)(l:swapsWith (.ListComp d [⟨h,iter,f,0⟩] scope pos) (some (.Name x pos')) c.line X.env=pure true:=by rfl)(hs:∀x,foldedSetIterable iter X.env x=pure x:=by intro _;rfl)(m:X.fn x=true\/X.env.scope.names.lookup x=some .local:=by first | exact .inl rfl|exact .inr rfl|assumption):SS X (.Assign [.Name x pos'] (.ListComp d [⟨h,iter,f,0⟩] scope pos) c) (As (Eb (CA j own ix g t ta)) (Ar i)):=by obtain⟨v,n,o⟩:=hi;obtain⟨g',t',p,O,r,st,u⟩:=O.ex;exact⟨_,kQ hc hN k hx n O l hs m,Ut (hV (Qu o r st u)) Uv⟩
end
def Nb (N:Nat)(xs:km PV):BN:=xs.map (λx=>some (.val x))++List.replicate (N-xs.length) none
def Av (N:Nat)(b:AS):AF:=λxs Q=>b {nx:=λ_=>Q .non,rt:=Q,bk:=λ_=>False,ct:=λ_=>False} (Nb N xs)
def iH {K:AAR}{T M:kf->Prop}{H:Hp}{N:km Str}{vs:km V}{xs:km PV}(va:Hx T M H)(b:∀a,M a->¬T a)(r:A8 K T M H vs xs):SR K ⟨T,H,M⟩ T H (start N vs) (Nb N.length xs):=by
 have c:∀(j:Nat) (ys:km PV),(Nb N.length xs)[j]? ≠some (some (.own ys)):=λj ys h=>by
  unfold Nb at h;by_cases hj:j<xs.length
  .rw [ABF (by simpa using hj),AA0,AAs hj] at h;cases h
  .rw [ABV (by simpa using hj),ACT] at h;split at h <;> cases h
 refine⟨by simp[L2.start,Nb,r.length],λj x h=> ?_,λj ys h=>absurd h (c j ys),λj k ys d p h=>absurd h (c j ys),va.tp,va.mu,b, .refl va.tp⟩;unfold Nb at h;by_cases hj:j<xs.length
 .rw [ABF (by simpa using hj),AA0,AAs hj] at h;cases h;obtain⟨v,hv,rv⟩:=r.get (AAs hj);refine⟨v, ?_,rv.mv (.anti va λa m=>m.elim id λ⟨_,_,z,_⟩=>absurd z (c _ _))⟩;unfold L2.start;rw[ABF (by rw[AAb,r.length];exact hj),AA0,hv];rfl
 .rw [ABV (by simpa using hj),ACT] at h;split at h <;> cases h
section
variable {P:gn}{w:fe}{K:AAR}{mg:Str->ke kj}{base:da}
def ZW {x qual:Str}{st:Stmt}{f:kf}{i:FuncData}{N c:km Str}{k n:Nat}{b:AS}(F:Vl K x qual st f i)(S:Ev N c (BY st))(hn:n=c.length)(j:∀(a:kj) (A:Wf) (outer:km Env) (s:ki) (H:Hp) (E:XK),Room k (A.deeper (envOfC qual (BY st) s.heap.objs.size f a))-> ia (V0 TR P w K mg base N qual (BY st) f a A outer s H E).nox (Ex st) b):FA P w K mg base TR (k+1) f i c (Cg K n (Av N.length b)):=by
 refine F.ok S (λvs H Q E h=> ?_) (λa A outer s H vs Q E l h=> ?_)
 .obtain ⟨T,M,xs,m,_,_,r,hl,_⟩:=h;rw[r.length,hl,hn]
 .obtain ⟨T,M,xs,m,va,d,r,hl,o,hQ⟩:=h;obtain⟨t,p,u⟩:=j a A outer s H E l;refine⟨t,p,u ⟨T,H,M⟩ T _ _ H _ _ (iH va d r) o ⟨λe g y z _ B q=> ?_,λ_ _ _ _ _ _ q=>q.elim,λ_ _ _ _ _ _ q=>q.elim,λv x e g C D q=>hQ v x e g C D q⟩⟩;exact hQ _ _ e g B.st .non q
end
section
variable {X:Cx}
def dn {prog:gn}{w:fe}{A:Wf}{E:kj->ki->Prop}{s:ki}{t b:kf}{d:km kj}{Q:kj->ki->Prop}(j:IsTup s.heap t #[])(hb:IsTup s.heap b d.toArray)(k:Q (.ref b) s):wpAny (model prog w) A (binaryOp .Add (.ref t) (.ref b)) Q E s:=by
 obtain⟨⟨cls,l,data,m⟩,e,hc,n,hd⟩:=id j;obtain⟨⟨f,a,data2,c⟩,g,h,o,i⟩:=id hb;simp only at hc hd h i;subst hc hd h i;exact concat_meets ⟨_,e,rfl⟩ ⟨_,g,rfl⟩ AEY seq_tuple_add AEZ AEa (AEb _ _)
  (tuple_addW0 t b #[] d.toArray n o l a m c (by simp)) ⟨e,g,k⟩
def ga (K:AAR):R2:=λx y H Q=>∃a b ys,x= .ref a/\y= .ref b/\LW K H a [] /\LW K H b ys/\Q (.ref b) H
def gE:ET X (binaryOp .Add) (ga X.K):=by intro Tb s g H x y v u Q I d e h;obtain⟨a,b,ys,rfl,rfl,ha,hb,q⟩:=h;cases d;cases e;obtain⟨f,r1,p1,_⟩:=I.tuple ha;obtain⟨c,r2,p2,_⟩:=I.tuple hb;cases r1;exact dn p1 p2 ⟨.ref b,H,I,rfl,q⟩
def mL (K:AAR):R2:=λx y H Q=>((QZ (λi j=>V.int (i+j)) x y H Q\/tH x y H Q)\/mM K x y H Q)\/ga K x y H Q
def BQ:Hw:=λx y Q=>match x,y with
 | .int i, .int j=>Q (.int (i+j))
 | .lst xs, .lst ys=>xs.length+ys.length<=sizeLine/\Q (.lst (xs++ys))
 | .tup xs, .tup ys=>xs.length+ys.length<=sizeLine/\Q (.tup (xs++ys))
 | _,_=>False
def A5:ET X (binaryOp .Add) (mL X.K)/\B9 X.K (mL X.K) BQ:=by
 refine⟨((KW.or oZ).or j8).or gE,λT M H u v x y Q n va f rv h k=> ?_⟩;unfold BQ at h;split at h <;> first | exact h.elim|skip
 .exact .inl (.inl (.inl ⟨_,_,f.toI,rv.toI,k _ _ T H (.refl va.tp) (.int _) h⟩))
 .obtain ⟨a,vs,rfl,hq,r,s,rs⟩:=Dm f;obtain⟨b,d,rfl,g,i,j,c⟩:=Dm rv;refine .inl (.inl (.inr ⟨a,b,vs,d,rfl,rfl,hq,g,by rw[rs.length,c.length];exact h.1,λp hp=> ?_⟩));have st:=EG.lay (o:= .lst (vs++d)) va.tp hp;have l:¬T p:=λz=>by obtain⟨o,e,_⟩:=(va.tp p z).mut;rw[hp] at e;cases e
  have m:¬M p:=λz=>by obtain⟨o,e,_⟩:=va.mu p z;rw[hp] at e;cases e
  exact k _ _ T _ st (.lst Au l m ((rs.append c).stp st va)) h.2
 .obtain ⟨a,vs,rfl,hq,rs⟩:=Dn f;obtain⟨b,d,rfl,g,c⟩:=Dn rv;by_cases e:vs= []
  .subst e;cases rs;exact .inr ⟨a,b,d,rfl,rfl,hq,g,k _ _ T H (.refl va.tp) rv (by simpa using h.2)⟩
  .refine .inl (.inr ⟨a,b,vs,d,rfl,rfl,hq,g,e,by rw[rs.length,c.length];exact h.1,λz=> ?_,λz p hp=> ?_⟩)
   .subst z;cases c;exact k _ _ T H (.refl va.tp) f (by simpa using h.2)
   .have st:=EG.lay (o:= .tup (vs++d)) va.tp hp;exact k _ _ T _ st (.tup (.inl Au) ((rs.append c).stp st va)) h.2
def JW {prog:gn}{w:fe}{A:Wf}{E:kj->ki->Prop}{s:ki}{t b:kf}{items:Array kj}{c d:kj}{lo hi:ke Int}{Q:kj->ki->Prop}(a:IsTup s.heap t items)(hs:s.heap.IsSliceOf b c d .none)(e:IsPart c lo)(f:IsPart d hi)(hw:HT.sIx items.size 0 lo=0/\HT.sIx items.size items.size hi=items.size)(h:Q (.ref t) s):wpAny (model prog w) A (getItem (.ref t) (.ref b)) Q E s:=by
 obtain⟨os,g,i,o⟩:=id hs;have j:s.TypeIs (.ref b) "slice" :=⟨os,g,i⟩;obtain⟨p,k,l,r,m⟩:=id a;unfold getItem;try with_reducible refine ABL ?_
 first | refine AAQ (AAT ?_)|skip
 refine AAQ (wpAny_sequenceKey a.typeIs (by decide) ?_);refine AAQ (ABc (name:=Str.ofString "__getitem__") a.typeIs ACU
  (ABH ACU a.typeIs entry_tuple_getitem ?_ (args_tuple_getitem _ _)))
 show wpAny _ _ (Builtin.Tuple.tupleItemsOf (.ref t) >>= _) _ _ s;refine AAQ (tupleItemsOf_ a ?_);refine AAQ (ADH j ?_);rw[AAU (by decide)];refine AAQ (HT.sliceApplied_gen hs e f ?_);have n:((((HT.sIx items.size 0 lo:Nat):Int)==0&&(1:Int)==1&&(HT.sIx items.size items.size hi-HT.sIx items.size 0 lo)==items.size)=true):=by rw[hw.1,hw.2];simp
 show wpAny _ _ (if (((HT.sIx items.size 0 lo:Nat):Int)==0&&(1:Int)==1&&(HT.sIx items.size items.size hi-HT.sIx items.size 0 lo)==items.size)=true then _ else _) _ _ s;rw[AAU n];unfold Builtin.Tuple.tupleIsExact;simp only[bind_assoc,pure_bind];refine AAQ (ADH a.typeIs ?_);rw[AAU (by decide)];exact AAQ (ABS (AAT ⟨_,rfl,AAT h⟩))
def we (K:AAR):V->ke Int->ke Int->Hp->VK->Prop:=λx lo hi H Q=>∃a xs,x= .ref a/\LW K H a xs/\
 (HT.sIx xs.length 0 lo=0/\HT.sIx xs.length xs.length hi=xs.length)/\Q (.ref a) H
def lF:lZ X (we X.K):=by
 intro Tb s i H x v j k lo hi l Q I d hs e f h;obtain⟨a,xs,rfl,hx,hw,q⟩:=h;cases d;obtain⟨b,r,c,hz⟩:=I.tuple hx;have g:b.toArray.size=xs.length:=by rw[AAh];exact r.length.symm
 refine⟨"tuple",_,ACU.lookup,c.typeIs, ?_⟩;exact JW c hs e f (by rw[g];exact hw) ⟨.ref a,H,I,rfl,q⟩
def Gh (xs:km PV)(lo hi:ke Int):km PV:=(xs.drop (HT.sIx xs.length 0 lo)).take (HT.sIx xs.length xs.length hi-HT.sIx xs.length 0 lo)
def ZM {K:AAR}{T M:kf->Prop}{H:Hp}{vs:km V}{xs:km PV}(r:A8 K T M H vs xs)(lo hi:ke Int):A8 K T M H (RP vs lo hi) (Gh xs lo hi):=by unfold RP Gh;rw[r.length];exact(r.drop _).take _
abbrev AO:=BN->(ke Int->Prop)->Prop
def vV (K:AAR)(t:TO)(a:AO):Prop:=∀(B:Dg) (T:kf->Prop) (b:L2.St) (τ:BN) (H:Hp) (Q:ke Int->Hp->Prop) (c:ke Int->Prop),SR K B T H b τ->a τ c->
 (∀o e d,EG T H e d->c o->Q o d)->t b H Q
def SO (X:Cx)(e:ke kd)(a:AO):Prop:=∃t,PO X e t/\vV X.K t a
def XG:AO:=λ_ Q=>Q none
def XH (a:AE):AO:=λτ Q=>a τ λx=>gD x λi=>Q (some i)
def aB:SO X none XG:=⟨_,kO,λB T b τ H Q c a h k=>k _ T H (.refl a.tp) h⟩
def aD {e:kd}{a:AE}(h:SE X e a):SO X (some e) (XH a):=by obtain⟨t,p,s⟩:=h;refine⟨_,kP p,λB T b τ H Q j c h k=>s B T b τ H _ _ c h λv x d f g r1 h1=> ?_⟩;obtain⟨i,rfl,q⟩:=UV h1;exact⟨i,r1.toI,k _ d f g q⟩
@[irreducible] def Xq (x:PV)(lo hi:ke Int)(Q:PV->Prop):Prop:=match x with | .tup xs=>Q (.tup (Gh xs lo hi)) | .lst xs=>Q (.lst (Gh xs lo hi))|_=>False
def HQ {xs:km PV}{lo hi:ke Int}{Q:PV->Prop}(h:Q (.tup (Gh xs lo hi))):Xq (.tup xs) lo hi Q:=by unfold Xq;exact h
def FR {xs:km PV}{lo hi:ke Int}{Q:PV->Prop}(h:Q (.lst (Gh xs lo hi))):Xq (.lst xs) lo hi Q:=by unfold Xq;exact h
def XF (a:AE)(l h:AO):AE:=λτ Q=>a τ λx=>l τ λlo=>h τ λhi=>Xq x lo hi Q
def F5 {e:kd}{lo hi:ke kd}{p2 n:Pos}{C:AE}{l h:AO}(he:SE X e C)(hl:SO X lo l)(D:SO X hi h):SE X (.Subscript e (.Slice lo hi none p2) n) (XF C l h):=by
 obtain⟨t,p,s⟩:=he;obtain⟨t1,p1,r⟩:=hl;obtain⟨t2,u,w⟩:=D;refine⟨_,gR ((lE.or pW).or lF) p p1 u,λB T m τ H Q M f h k=>s B T m τ H _ _ f h λv x E F g r1 h1=> ?_⟩;refine r B E m τ F _ _ (f.stp g) h1 λlo G I i h2=> ?_;refine w B G m τ I _ _ ((f.stp g).stp i) h2 λhi T3 J y d=> ?_;have b:=((f.stp g).stp i).stp y;have A:=(r1.stp i (f.stp g).va).stp y ((f.stp g).stp i).va;have c:=(g.trans i).trans y;unfold Xq at d;split at d <;> first | exact d.elim|skip
 .obtain ⟨a,vs,rfl,hq,rs⟩:=Dn A;by_cases hw:HT.sIx vs.length 0 lo=0/\HT.sIx vs.length vs.length hi=vs.length
  .refine .inr ⟨a,vs,rfl,hq,hw,k _ _ T3 J c A ?_⟩;rename_i xs;have:Gh xs lo hi=xs:=by unfold Gh;rw[<-rs.length,hw.1,hw.2,rs.length];simp
   rw[this] at d;exact d
  .refine .inl (.inr ⟨a,vs,rfl,hq,hw,λq j=> ?_⟩);have st:=EG.lay (o:= .tup (RP vs lo hi)) b.tp j;exact k _ _ T3 _ (c.trans st) (.tup (.inl Au) ((ZM rs lo hi).stp st b.va)) d
 .obtain ⟨a,vs,rfl,hq,N,O,rs⟩:=Dm A;refine .inl (.inl ⟨a,vs,rfl, .inl (.inl hq),λq j=> ?_⟩);have st:=EG.lay (o:= .lst (RP vs lo hi)) b.tp j;have K:¬T3 q:=λz=>by obtain⟨o,e,_⟩:=(b.tp q z).mut;rw[j] at e;cases e
  have L:¬mt B m τ q:=λz=>by obtain⟨o,e,_⟩:=b.va.mu q z;rw[j] at e;cases e
  exact k _ _ T3 _ (c.trans st) (.lst Au K L ((ZM rs lo hi).stp st b.va)) d
end
def BV:AF:=λxs Q=>match xs with | [.tape, .int m] =>(0<m/\m<4611686018427387904)/\∀r,0<=r->r<m->Q (.int r)|_=>False
def Pe:AF:=λxs Q=>match xs with | [.scr ns, .int k] =>(0<=k/\k<=1000)/\Q .tape|_=>False
def qi (g:TG):Prop:=∀v b H Q c,(∀a d,Q a d->c a d)->g v b H Q->g v b H c
def mj (g:XZ):Prop:=∀v b H Q c,(∀a d,Q a d->c a d)->g v b H Q->g v b H c
def SK (own:Nat)(X:Cx)(a:kd)(ag:AG):Prop:=∃g,PG X a g/\LV X.K g ag/\IL own g/\qi g
def uX (own:Nat)(X:Cx)(a:km kd)(ag:XM):Prop:=∃g,qD X a g/\R4 X.K g ag/\Pg own g/\mj g
section
variable {X:Cx}{pos:Pos}{own:Nat}
def Z9 {i:Nat}{x:Str}(hN:X.N.Nodup)(hi:X.N[i]? =some x)(hx:Loc X.env.scope x)(hk:i<own)(a:X.fn x=true\/X.env.scope.names.lookup x=some .local:=by first | exact .inl rfl|exact .inr rfl|assumption):SK own X (.Name x pos) (Ar i):=
 ⟨_,L5 hN hi hx a,Uv,jN hk,jP⟩
def Ox:uX own X [] Bu:=⟨_,Ua,W1,jO,jQ⟩
def E4 {e:kd}{es:km kd}{ag:AG}{a:XM}(h1:SK own X e ag)(h2:uX own X es a)(hs:(assignEach (e::es) X.env).map (·.2)=assign e X.env::(assignEach es X.env).map (·.2):=by rfl):uX own X (e::es) (Ae ag a):=
 let ⟨_,p,s,k,m⟩:=h1;let ⟨_,c,d,f,b⟩:=h2;⟨_,IW p c hs,Sg s d,eQ k m f b,eS m b⟩
end
def nS (K:AAR)(own:Nat)(ag:AG):TG:=λv d H Q=>∃(B:Dg) (T:kf->Prop) (τ:BN) (x:PV) (e:BN->Prop),SR K B T H d τ/\Cp K T (mt B d τ) H v x/\ag x τ e/\
 ∀a c,SR K B T H a c->(∀b,Dx a c b->Dx d τ b)->e c->(a.length=d.length/\∀j,own<=j->a[j]? =d[j]?)->Q a H
def qP (K:AAR)(a:AT):TT:=λe H Q=>∃(B:Dg) (T:kf->Prop) (τ:BN) (c:kc->Prop),SR K B T H e τ/\a τ c/\∀b f d,EG T H f d->c b->Q b d
def qH (K:AAR)(a:AE):TE:=λc H Q=>∃(B:Dg) (T:kf->Prop) (τ:BN) (d:PV->Prop),SR K B T H c τ/\a τ d/\∀v x e b,EG T H e b->Cp K e (mt B c τ) b v x->d x->Q v b
def Ou {K:AAR}{own:Nat}{ag:AG}:LV K (nS K own ag) ag:=λB T e τ H v x Q c d r h k=>⟨B,T,τ,x,c,d,r,h,λa b s o q _=>k a b s o q⟩
def Lq {K:AAR}{own:Nat}{ag:AG}:IL own (nS K own ag):=λv e H Q ⟨B,T,τ,x,c,d,r,h,k⟩=>⟨B,T,τ,x,c,d,r,h,λa b s o q z=>⟨k a b s o q z,z⟩⟩
def Ov {K:AAR}{a:AT}:OH K (qP K a) a:=λB T d τ H Q b c h k=>⟨B,T,τ,b,c,h,k⟩
def Uu {K:AAR}{a:AE}:Fg K (qH K a) a:=λB T d τ H Q b c h k=>⟨B,T,τ,b,c,h,k⟩
section
variable {X:Cx}
def SK.of {own:Nat}{i:kd}{ag:AG}(h:SK own X i ag):PG X i (nS X.K own ag):=by obtain⟨g,p,s,k,m⟩:=h;intro Tb l e H v u Q I r hw;obtain⟨B,T,τ,x,j,n,t,h,c⟩:=hw;have h1:g v e H λd w=>w=H/\∃a,SR X.K B T H d a/\(∀b,Dx d a b->Dx e τ b)/\j a:=s B T e τ H v x _ j n t h λd a s o q=>⟨rfl,a,s,o,q⟩;have h2:=k v e H _ h1;refine p Tb l e H v u Q I r (m v e H _ _ (λf D q=> ?_) h2);obtain⟨⟨rfl,a,y,A,C⟩,z⟩:=q;exact c f a y A C z
def lY.of {b:km kd}{a:AT}(h:lY X b a):Y9 X b (qP X.K a):=by obtain⟨t,p,s⟩:=h;intro Tb e d H Q I hw;obtain⟨B,T,τ,f,g,h,c⟩:=hw;exact p Tb e d H Q I (s B T d τ H Q f g h c)
def SE.of {e:kd}{a:AE}(h:SE X e a):PE X e (qH X.K a):=by obtain⟨t,p,s⟩:=h;intro Tb d b H Q I hw;obtain⟨B,T,τ,f,g,h,c⟩:=hw;exact p Tb d b H Q I (s B T b τ H Q f g h c)
def B7 {e a:kd}{b:km kd}{scope:Scope}{own:Nat}{ix:km Nat}{N:km Str}{g:AG}{t:AT}{te:AE}(h1:scope.kind= .function)(h2:(scope.names.all λy=> !decide (y.2= .cell))=true)(f:(scope.names.all λy=> !decide (y.2= .local)||decide (scope.names.lookup y.1=some .local))=true)(h:(scope.names.all λy=> !decide (y.2= .free)||decide (X.env.scope.names.lookup y.1=some .cell))=true)(i:N.length=own+ix.length)(j:Px X (relabel scope X.env) own ix N=true)(c:∀cl C s H ex pn,SK own (blk X (relabel scope X.env) N cl C s H ex pn) e g)(d:∀cl C s H ex pn,lY (blk X (relabel scope X.env) N cl C s H ex pn) b t)(val:∀cl C s H ex pn,SE (blk X (relabel scope X.env) N cl C s H ex pn) a te):dD X e a b scope own ix N g t te:=
 ⟨nS X.K own g,qP X.K t,qH X.K te,ZK h1 h2 f h i j Lq (λcl C s H ex pn=>(c cl C s H ex pn).of) (λcl C s H ex pn=>(d cl C s H ex pn).of) (λcl C s H ex pn=>(val cl C s H ex pn).of),Ou,Ov,Uu⟩
end
mutual
def pd:PV->PyData
 | .bl b=> .bool b
 | .int i=> .int i
 | .str x=> .str x
 | .tup xs=> .tuple (Nx xs)
 | .lst xs=> .list (Nx xs)
 | _=> .none
def Nx:km PV->km PyData
 | [] => []
 | x::xs=>pd x::Nx xs
end
mutual
def D2:Nat->PV->kc
 | _, .non=>true
 | _, .bl _=>true
 | _, .int _=>true
 | _, .str x=>PyData.strOk x
 | n+1, .tup xs=>Hz n xs
 | n+1, .lst xs=>Hz n xs
 | _,_=>false
def Hz:Nat->km PV->kc
 | _, [] =>true
 | n,x::xs=>D2 n x&&Hz n xs
end
mutual
theorem JG:∀(n:Nat) (x:PV),D2 n x=true->(pd x).canLay0=true/\(pd x).depth<=n/\(pd x).hasDict=false
 | n, .non,_=>⟨rfl,ABO _,rfl⟩
 | n, .bl _,_=>⟨rfl,ABO _,rfl⟩
 | n, .int _,_=>⟨rfl,ABO _,rfl⟩
 | n, .str x,h=>⟨by simpa[pd,PyData.canLay0,D2] using h,ABO _,rfl⟩
 | 0, .tup xs,h=>by simp[D2] at h
 | 0, .lst xs,h=>by simp[D2] at h
 | n+1, .tup xs,h=>by obtain⟨a,b,c⟩:=L0 n xs (by simpa[D2] using h);exact⟨by simpa[pd,PyData.canLay0] using a,by simpa[pd,PyData.depth] using b,by simpa[pd,PyData.hasDict] using c⟩
 | n+1, .lst xs,h=>by obtain⟨a,b,c⟩:=L0 n xs (by simpa[D2] using h);exact⟨by simpa[pd,PyData.canLay0] using a,by simpa[pd,PyData.depth] using b,by simpa[pd,PyData.hasDict] using c⟩
 | n, .tape,h=>by simp[D2] at h
 | n, .scr _,h=>by simp[D2] at h
 | n, .ty _,h=>by simp[D2] at h
theorem L0:∀(n:Nat) (xs:km PV),Hz n xs=true->PyData.canLayAll0 (Nx xs)=true/\PyData.depthAll (Nx xs)<=n/\PyData.hasDictAll (Nx xs)=false
 | n, [],_=>⟨rfl,ABO _,rfl⟩
 | n,x::xs,h=>by simp only[Hz,ABJ] at h;obtain⟨a,b,c⟩:=JG n x h.1;obtain⟨d,f,e⟩:=L0 n xs h.2;exact⟨by simp[Nx,PyData.canLayAll0,a,d],by simp only[Nx,PyData.depthAll];omega,by simp[Nx,PyData.hasDictAll,c,e]⟩
end
section
variable {X:Cx}{Tb:km (kf×Obj)}{σ:L2.St}{H:Hp}{s:ki}
mutual
theorem E3 (I:Inv X Tb σ H s){T M:kf->Prop}:∀(n:Nat) {x:PV} {v:V} {u:kj},Cp X.K T M H v x->D2 n x=true->RelV v u->∃as,Reads s.heap u (pd x) as
 | _,_,_,_, .non,_,r=>by cases r;exact⟨_, .none⟩
 | _,_,_,_, .bl b,_,r=>by cases r;exact⟨_, .bool b⟩
 | _,_,_,_, .int i,_,r=>by obtain⟨t,rfl⟩:=r;exact⟨_, .int i t⟩
 | _,_,_,_, .str x,_,r=>by obtain⟨t,rfl⟩:=r;exact⟨_, .str x t⟩
 | _,_,_,_, .ty n,h,r=>by simp[D2] at h
 | 0,_,_,_, .tup hq rs,h,r=>by simp[D2] at h
 | 0,_,_,_, .lst hq t m rs,h,r=>by simp[D2] at h
 | n+1,_,_,_, .tup hq rs,h,r=>by cases r;obtain⟨a,rv,⟨o,c,hc,k,hd⟩,_⟩:=I.tuple hq.sq;obtain⟨as,ra⟩:=IY I n rs (by simpa[D2] using h) rv;exact⟨_, .tuple c hc hd (by simpa using ra)⟩
 | n+1,_,_,_, .lst hq t m rs,h,r=>by cases r;obtain⟨a,rv,⟨o,k,c,hc,_,hd⟩,_⟩:=I.list (Fs.of hq);obtain⟨as,ra⟩:=IY I n rs (by simpa[D2] using h) rv;exact⟨_, .list c hc hd (by simpa using ra)⟩
 | _,_,_,_, .tape _,h,r=>by simp[D2] at h
 | _,_,_,_, .scr _,h,r=>by simp[D2] at h
theorem IY (I:Inv X Tb σ H s){T M:kf->Prop}:∀(n:Nat) {xs:km PV} {vs:km V} {a:km kj},A8 X.K T M H vs xs->Hz n xs=true->A6 vs a->∃as,ReadsAll s.heap a (Nx xs) as
 | _,_,_,_, .nil,_,r=>by cases r;exact⟨_, .nil⟩
 | n,_,_,_, .cons h t,hk,r=>by
   simp only[Hz,ABJ] at hk;cases r with
   | cons r b=> obtain⟨as,ra⟩:=E3 I n h hk.1 r;obtain⟨bs,c⟩:=IY I n t hk.2 b;exact⟨_, .cons ra c⟩
end
end
section
variable {X:Cx}
def G9 (x y:PV):kc:=PyData.eqv (pd x) (pd y)
def kU (K:AAR)(neg:kc):R2:=λu v H Q=>∃(T M:kf->Prop) (x y:PV),Cp K T M H u x/\Cp K T M H v y/\D2 30 x=true/\D2 30 y=true/\Q (.bl (if neg then !G9 x y else G9 x y)) H
def og {k:Nat}(b:Room k X.A):ET X (compareOp .Eq) (kU X.K false):=by intro Tb s i H u v j l Q I c rv h;obtain⟨T,M,x,y,d,e,a,ky,q⟩:=h;obtain⟨as,ra⟩:=E3 I 30 d a c;obtain⟨bs,f⟩:=E3 I 30 e ky rv;obtain⟨g,m,_⟩:=JG 30 x a;obtain⟨b1,b2,_⟩:=JG 30 y ky;exact SeqAt.compareEq_reads ra f g b1 (by have:=b.un;omega) ⟨.bl _,H,I,rfl,q⟩
def om {k:Nat}(b:Room k X.A):ET X (compareOp .NotEq) (kU X.K true):=by intro Tb s i H u v j l Q I c rv h;obtain⟨T,M,x,y,d,e,a,ky,q⟩:=h;obtain⟨as,ra⟩:=E3 I 30 d a c;obtain⟨bs,f⟩:=E3 I 30 e ky rv;obtain⟨g,m,_⟩:=JG 30 x a;obtain⟨b1,b2,_⟩:=JG 30 y ky;exact SeqAt.compareNe_reads ra f g b1 (by have:=b.un;omega) ⟨.bl _,H,I,rfl,q⟩
def GM:Hw:=λx y Q=>match Z5 x y with | some b=>Q (.bl b)|none=>(D2 30 x=true/\D2 30 y=true)/\Q (.bl (G9 x y))
def Lh:Hw:=λx y Q=>match Z5 x y with | some b=>Q (.bl (!b))|none=>(D2 30 x=true/\D2 30 y=true)/\Q (.bl (!G9 x y))
def tI (K:AAR):R2:=λx y H Q=>yz x y H Q\/kU K false x y H Q
def tN (K:AAR):R2:=λx y H Q=>y6 x y H Q\/kU K true x y H Q
def CS {k:Nat}(c:Room k X.A):ET X (compareOp .Eq) (tI X.K)/\B9 X.K (tI X.K) GM:=by
 refine⟨sf.or (og c),λT M H u v x y Q d va a rv h k=> ?_⟩;unfold GM at h;split at h
 .rename_i b e;obtain⟨h1,h2⟩:=Ww a rv e;refine .inl ⟨h1, ?_⟩;rw[h2];exact k _ _ T H (.refl va.tp) (.bl _) h
 .exact .inr ⟨T,M,x,y,a,rv,h.1.1,h.1.2,k _ _ T H (.refl va.tp) (.bl _) h.2⟩
def E5 {k:Nat}(c:Room k X.A):ET X (compareOp .NotEq) (tN X.K)/\B9 X.K (tN X.K) Lh:=by
 refine⟨sn.or (om c),λT M H u v x y Q d va a rv h k=> ?_⟩;unfold Lh at h;split at h
 .rename_i b e;obtain⟨h1,h2⟩:=Ww a rv e;refine .inl ⟨h1, ?_⟩;rw[h2];exact k _ _ T H (.refl va.tp) (.bl _) h
 .exact .inr ⟨T,M,x,y,a,rv,h.1.1,h.1.2,k _ _ T H (.refl va.tp) (.bl _) h.2⟩
structure m7 (x:PV):Prop where
 ok:D2 30 x=true
 sh:(pd x).showable=true
 sz:(pd x).shown.length<=sizeLine
end
section
variable {prog:gn}{w:fe}{A:Wf}{E:kj->ki->Prop}{s:ki}
def Nt {h:da}{l:kf}{items:Array kj}(hl:h.IsList l items)(o:Obj):(h.push o).IsList l items:=by obtain⟨a,e,r⟩:=hl;exact⟨a,AAX _ e,r⟩
theorem SN {it t:kf}{items:Array kj}(f:t≠it):∀(n i:Nat) (s:ki) (Q:km kj->ki->Prop),s.heap.IsListIter it t i->s.heap.IsList t items->i+n<=items.size-> (∀h',h'.IsListIter it t (i+n)->Heap.SameBut it s.heap h'->Q ((items.toList.drop i).take n) {s with heap:=h'})->wpAny (model prog w) A (draw (.ref it) n) Q E s
 | 0,i,s,Q,hit,_,_,hQ=>by show wpAny _ _ (pure []) Q E s;exact AAT (by simpa using hQ s.heap hit (Heap.SameBut.refl ..))
 | n+1,i,s,Q,hit,ht,bK,hQ=>by
   have g:i<items.size:=by omega
   show wpAny _ _ (pyNext (.ref it) >>= _) Q E s;refine AAQ (wpAny_pyNext_list_item hit ht (x:=items[i]) (by simp[g]) λh b a=> ?_);refine AAQ (ABL (SN f n (i+1) _ _ b (ht.extBut a.extBut f) (by omega) λe c d=>AAT ?_));have hd:items.toList.drop i=items[i] :: items.toList.drop (i+1):=by simp[ACk,g]
   have:=hQ e (by rw[show i+(n+1)=i+1+n by omega];exact c) (a.trans d);rw[hd,AEA] at this;exact this
def Nd {t:kf}{items:Array kj}{Q:km kj->ki->Prop}(k:A.handled=none)(g:s.heap.IsList t items)(hQ:∀h',Heap.ExtBut s.heap.objs.size s.heap h'->Q items.toList {s with heap:=h'}):wpAny (model prog w) A (unpackItems (.ref t) items.size none) Q E s:=by
 have j:t≠s.heap.objs.size:=by obtain⟨o,l,_⟩:=g;exact AAa (AAW l)
 unfold unpackItems;refine AAQ ?_
 .unfold notIterableAtAll;refine AAQ (ABg g.typeIs slot_list_iter.lookup ?_);refine AAT ?_;simp only[ABI,AAx];refine AAQ (ABL (AD1 g ?_));refine AAQ (ABL (SN j items.size 0 _ _ ⟨_,AAd _ rfl,rfl,rfl⟩ (Nt g _) (by omega) λh c a=> ?_));have m:List.take items.size (List.drop 0 items.toList)=items.toList:=by rw[List.drop_zero];exact AD2 (by simp)
  rw[m];rw[AAS (by simp)];have d:h.IsList t items:=(Nt g _).extBut a.extBut j;refine AAQ (ABL (wpAny_pyNext_list_end k c d (by simp) λi f=> ?_));simp only[Option.isSome_none,ABI,AAx];refine AAT (hQ i λb o hb e=>f b o hb (a.extBut b o hb (AAX _ e)))
def La {env:Env}{elts:km kd}{x1}{a:Pos}{t:kf}{items:Array kj}{Q:Unit->ki->Prop}(b:A.handled=none)(c:s.heap.IsList t items)(hn:(assignEach elts env).length=items.size)(d:(assignEach elts env).findIdx? (·.1)=none)(h:∀h',Heap.ExtBut s.heap.objs.size s.heap h'->wpAny (model prog w) A (assignInOrder ((assignEach elts env).map (·.2)) items.toList) Q E {s with heap:=h'}):wpAny (model prog w) A (assign (.Tuple elts x1 a) env (.ref t)) Q E s:=by rw[assign_Tuple];refine AAQ (ABa ?_);unfold unpack;rw[hn,d];exact AAQ (ABL (Nd b c h))
end
section
variable {X:Cx}{pos:Pos}
def ax (K:AAR)(n:Nat)(t:XZ):TG:=λv b H Q=>∃a xs,v= .ref a/\(LW K H a xs\/Fs K H a xs)/\xs.length=n/\t xs b H Q
def YZ {es:km kd}{k:Nat}{t:XZ}{n:Nat}(hc:X.calm=true)(h:qD X es t)(hn:(assignEach es X.env).length=n:=by rfl)(i:(assignEach es X.env).findIdx? (·.1)=none:=by rfl):PG X (.Tuple es k pos) (ax X.K n t):=by
 intro Tb s c H v u Q I r hw;obtain⟨a,xs,j,hq,hl,hw⟩:=hw;subst j;cases r;rcases hq with hq|hq
 .obtain ⟨d,rv,f,hz⟩:=I.tuple hq;refine assign_Tuple_tuple (I.ok.hd hc) f (by simp[hn,<-hl,rv.length]) i λh' hx=> ?_;have g:Inv X Tb c H {s with heap:=h'}:=I.kept (t':=s.toks) λb o e=>hx b o (AAa (AAW e)) e;exact h Tb _ c H xs _ Q g (by simpa using rv) hw
 .obtain ⟨d,rv,f,hz⟩:=I.list hq;refine La (I.ok.hd hc) f.isList (by simp[hn,<-hl,rv.length]) i λh' hx=> ?_;have g:Inv X Tb c H {s with heap:=h'}:=I.kept (t':=s.toks) λb o e=>hx b o (AAa (AAW e)) e;exact h Tb _ c H xs _ Q g (by simpa using rv) hw
def IM (n:Nat)(r:XM):AG:=λx τ Q=>Wc x λxs=>xs.length=n/\r xs τ Q
def hZ {K:AAR}{n:Nat}{c:XZ}{a:XM}(s:R4 K c a):LV K (ax K n c) (IM n a):=λB T d τ H v x Q e f r h k=>by
 obtain⟨xs,hx,h⟩:=KU h;rcases hx with rfl|rfl
 .obtain ⟨p,vs,rfl,hq,b⟩:=Dn r;exact⟨p,vs,rfl, .inl hq,by rw[b.length];exact h.1,s B T d τ H vs _ Q e f b h.2 k⟩
 .obtain ⟨p,vs,rfl,hq,g,i,b⟩:=Dm r;exact⟨p,vs,rfl, .inr (.inl (.inl hq)),by rw[b.length];exact h.1,s B T d τ H vs _ Q e f b h.2 k⟩
def CM {es:km kd}{k:Nat}{a:XM}{n:Nat}(hc:X.calm=true)(h:uW X es a)(hn:(assignEach es X.env).length=n:=by rfl)(b:(assignEach es X.env).findIdx? (·.1)=none:=by rfl):SG X (.Tuple es k pos) (IM n a):=
 let ⟨_,p,s⟩:=h;⟨_,YZ hc p hn b,hZ s⟩
def nV {own:Nat}{K:AAR}{n:Nat}{t:XZ}(h:Pg own t):IL own (ax K n t):=λv b H Q ⟨a,xs,e,h1,h2,c⟩=>⟨a,xs,e,h1,h2,h xs b H Q c⟩
def Uy {own:Nat}{es:km kd}{k:Nat}{b:XM}{n:Nat}(hc:X.calm=true)(h:uX own X es b)(hn:(assignEach es X.env).length=n:=by rfl)(c:(assignEach es X.env).findIdx? (·.1)=none:=by rfl):SK own X (.Tuple es k pos) (IM n b):=
 let ⟨_,p,s,d,m⟩:=h;⟨_,YZ hc p hn c,hZ s,nV d,λv g H Q i z ⟨a,xs,e,h1,h2,f⟩=>⟨a,xs,e,h1,h2,m _ _ _ _ _ z f⟩⟩
def n8:qE X .Mult (λx y H Q=>∃i j,x= .int i/\y= .int j/\MulOk i j/\Q (.int (i*j)) H):=by intro Tb s d H x y v u Q I r1 r2 h;obtain⟨i,j,a,b,c,q⟩:=h;subst a;subst b;obtain⟨t,rfl⟩:=r1;obtain⟨t',rfl⟩:=r2;exact AutoIntOps.imul_0 (show (Made.int (i*j)).post _ _ from⟨.int _,H,I.tok _,⟨_,rfl⟩,q⟩) (.of_le (JB c.l) (JB c.r) (by decide))
def pT:qE X .Mult (λx y H Q=>∃i j,x= .int i/\y= .int j/\MulOk i j/\Q (.int (i*j)) H)/\B9 X.K (λx y H Q=>∃i j,x= .int i/\y= .int j/\MulOk i j/\Q (.int (i*j)) H) DY:=⟨n8,λT M H u v x y Q b va a rv h k=>by
 obtain⟨i,j,rfl,rfl,c,q⟩:=On h;exact⟨i,j,a.toI,rv.toI,c,k _ _ T H (.refl va.tp) (.int _) q⟩⟩
end
def Qw {i:Int}(a:0<=i)(b:i<2147483647): -(2^64)<i/\i<2^64:=⟨by omega,by omega⟩
def b01 (b:kc):(0:Int)<=(if b=true then 1 else 0):=by cases b <;> decide
def yN (b:kc): -(2^64)<(if b=true then (1:Int) else 0)/\(if b=true then (1:Int) else 0)<2^64:=by cases b <;> decide
def iO {T:kf->Prop}{H:Hp}{p:kf}{d x:Int}(tp:∀a,T a->Fh H a)(t:T p)(c:0<=d)(f:0<=x)(g:x<2147483647):EG T H T (upd H p (.lst [.int d, .int x])) where
 keep:=λb o n e=>by rw[Aq (λz=>n (by subst z;exact t))];exact e
 sub:=λ_ t=>t
 new:=λ_ t=> .inl t
 tp:=λa h=>by
  by_cases z:a=p
  .subst z;exact⟨d,x,Au,c,f,g⟩
  .obtain ⟨d',i,e,q⟩:=tp a h;exact⟨d',i,by rw[Aq z];exact e,q⟩
def iN {T:kf->Prop}{H:Hp}{p:kf}{d x:Int}(tp:∀a,T a->Fh H a)(hp:H p=none)(f:0<=d)(g:0<=x)(h:x<2147483647):EG T H (λb=>T b\/b=p) (upd H p (.lst [.int d, .int x])) where
 keep:=λb o n e=>by rw[Aq (A4 e hp)];exact e
 sub:=λ_ t=> .inl t
 new:=λb t=>t.elim .inl λz=> .inr (by subst z;exact hp)
 tp:=λa c=>by
  by_cases z:a=p
  .subst z;exact⟨d,x,Au,f,g,h⟩
  .rcases c with c|c
   .obtain ⟨d',i,e,q⟩:=tp a c;exact⟨d',i,by rw[Aq z];exact e,q⟩
   .exact absurd c z
def law_sp {K:AAR}{H:Hp}{a:kf}{b:km Int}{F:AF}(c:Fs K H a (b.map V.int))(h:F [.scr b] λx=>x= .bl true):Cg K 1 F [.ref a] H (λv _=>v= .bl true) λ_ _ _=>False:=by
 refine⟨λ_=>False,λ_=>False, [.scr b],_,⟨λ_ z=>z.elim,λ_ z=>z.elim⟩,λ_ z=>z.elim, .cons (.scr ?_) .nil,rfl,h,λv x d f _ r e=> ?_⟩
 .rcases c with h|h
  .exact .inl ⟨h,id,id⟩
  .exact .inr λH=> .inr h
 .subst e;cases r;rfl
theorem JD {g:AG}{b:AS}{D:HX}(a:km PV->BN->Prop)(hd:∀τ,a [] τ->D.nx τ)(hs:∀x r τ (R:BN->Prop),(∀τ,a r τ->R τ)->a (x::r) τ->g x τ λc=>b {D with nx:=R,ct:=R,bk:=D.nx} c):∀xs τ,a xs τ->DG g b D xs τ
 | [],τ,h=>hd τ h
 | x::r,τ,h=>hs x r τ _ (λd h2=>JD a hd hs r d h2) h
theorem Y2 {c:AT}{b:AS}{D:HX}(a:Nat->BN->Prop)(e:∀τ,¬a 0 τ)(hs:∀n τ (R:BN->Prop),(∀τ,a n τ->R τ)->a (n+1) τ->c (frz τ) λk=>if k=true then b {D with nx:=R,ct:=R,bk:=D.nx} τ else D.nx τ):∀n τ,a n τ->XC c b D n τ
 | 0,τ,h=>absurd h (e τ)
 | n+1,τ,h=>hs n τ _ (λd h2=>Y2 a e hs n d h2) h
def L8 (lo:Int)(n:Nat):rng lo (n+1)= .int lo::rng (lo+1) n:=by
 unfold rng;rw[List.range_succ_eq_map,AAc,ACX];congr 1
 .simp
 .apply ACl;intro k _;simp only[Function.comp];congr 1;omega
def Yd (lo:Int)(n:Nat):(rng lo n).length=n:=by simp[rng]
end PL
namespace PL
open PySem L2 PyProof.Rows
def fr (r:Rat):PV:= .tup [.int r.num, .int (r.den:Int)]
def Fu {b:kc}{A B:Prop}(h1:b=true->A)(h2:b=false->B):if b=true then A else B:=by
 cases b with
 | true=>rw[AAU rfl];exact h1 rfl
 | false=>rw[AAS AAg];exact h2 rfl
structure Bd (n:Nat) (r:Rat):Prop where
 top:r.num.natAbs<2^n
 bot:r.den<2^n
def Bd.botI {n:Nat}{r:Rat}(b:Bd n r):(r.den:Int).natAbs<2^n:=by simpa using b.bot
def QX {m n:Nat}(h:m<=n):2^m<=2^n:=Nat.pow_le_pow_right (by decide) h
def Bd.mono {m n:Nat}{r:Rat}(b:Bd m r)(h:m<=n):Bd n r:=⟨AAt b.top (QX h),AAt b.bot (QX h)⟩
def fg {a b m n:Nat}(ha:a<2^m)(hb:b<2^n):a*b<2^(m+n):=by rw[Nat.pow_add];exact Nat.mul_lt_mul_of_lt_of_le ha (ADp hb) (Nat.pos_of_ne_zero (by intro z;rw[z] at hb;omega)) |> λh=>h
def BR {a b:Int}{m n:Nat}(ha:a.natAbs<2^m)(hb:b.natAbs<2^n):(a*b).natAbs<2^(m+n):=by rw[Int.natAbs_mul];exact fg ha hb
def Th {a b:Int}{n:Nat}(ha:a.natAbs<2^n)(hb:b.natAbs<2^n):(a+b).natAbs<2^(n+1):=by rw[Nat.pow_succ];omega
def U3 {a b:Int}{n:Nat}(ha:a.natAbs<2^n)(hb:b.natAbs<2^n):(a-b).natAbs<2^(n+1):=by rw[Nat.pow_succ];omega
def Ax {a m n:Nat}(h:a<2^m)(b:m<=n):a<2^n:=AAt h (QX b)
def MulOk.of {a b:Int}{m n:Nat}(ha:a.natAbs<2^m)(hb:b.natAbs<2^n)(c:m<=1000000:=by omega)(hn:n<=1000000:=by omega):MulOk a b:=⟨Ax ha c,Ax hb hn⟩
def Xp (t b:Int):(Rat.divInt t b).num.natAbs<=t.natAbs:=by
 rw[AEB];by_cases h:b=0
 .subst h;simp
 .have e:(b.gcd t:Int) ∣ b.sign*t:=Int.dvd_trans (Int.gcd_dvd_right ..) (Int.dvd_mul_left ..);rw[Int.natAbs_ediv_of_dvd e,Int.natAbs_mul];refine AAu (ADR _ _) ?_;rw[Int.natAbs_sign_of_ne_zero h];omega
def Xo (t b:Int)(h:b≠0):(Rat.divInt t b).den<=b.natAbs:=by rw[AEh,AAS h];exact ADR _ _
def Bd.divInt {n:Nat}{t b:Int}(h:b≠0)(a:t.natAbs<2^n)(hb:b.natAbs<2^n):Bd n (Rat.divInt t b):=
 ⟨ABW (Xp t b) a,ABW (Xo t b h) hb⟩
def BZ (a:Rat):(a.den:Int)≠0:=by have:=a.den_pos;omega
def G4 (a b:Rat):a+b=Rat.divInt (a.num*b.den+b.num*a.den) (a.den*b.den):=by have h:=AEi a.num b.num (BZ a) (BZ b);rw[ABk,ABk] at h;exact h
def K5 (a b:Rat):a-b=Rat.divInt (a.num*b.den-b.num*a.den) (a.den*b.den):=by have h:=Rat.divInt_sub_divInt a.num b.num (BZ a) (BZ b);rw[ABk,ABk] at h;exact h
def KQ (a b:Rat):a*b=Rat.divInt (a.num*b.num) (a.den*b.den):=by have h:=AEC a.num b.num (d₁:=a.den) (d₂:=b.den);rw[ABk,ABk] at h;exact h
def G8 (a b:Rat):a/b=Rat.divInt (a.num*b.den) (a.den*b.num):=by rw[AED,Rat.inv_def];have h:=AEC a.num b.den (d₁:=a.den) (d₂:=b.num);rw[ABk] at h;exact h
def Cv {a b:Int}(ha:a≠0)(hb:b≠0):a*b≠0:=Int.mul_ne_zero ha hb
def UJ {b:Rat}(h:b≠0):b.num≠0:=λz=>h (Rat.num_eq_zero.mp z)
def Bd.add {m n:Nat}{a b:Rat}(ha:Bd m a)(hb:Bd n b):Bd (m+n+1) (a+b):=by
 rw[G4];refine .divInt (Cv (BZ a) (BZ b)) (Th (BR ha.top (by simpa using hb.bot)) ?_) ?_
 .rw [Nat.add_comm m n];exact BR hb.top (by simpa using ha.bot)
 .exact Ax (BR (by simpa using ha.bot) (by simpa using hb.bot)) (by omega)
def Bd.sub {m n:Nat}{a b:Rat}(ha:Bd m a)(hb:Bd n b):Bd (m+n+1) (a-b):=by
 rw[K5];refine .divInt (Cv (BZ a) (BZ b)) (U3 (BR ha.top (by simpa using hb.bot)) ?_) ?_
 .rw [Nat.add_comm m n];exact BR hb.top (by simpa using ha.bot)
 .exact Ax (BR (by simpa using ha.bot) (by simpa using hb.bot)) (by omega)
def Bd.mul {m n:Nat}{a b:Rat}(ha:Bd m a)(hb:Bd n b):Bd (m+n) (a*b):=by rw[KQ];exact .divInt (Cv (BZ a) (BZ b)) (BR ha.top hb.top) (BR (by simpa using ha.bot) (by simpa using hb.bot))
def Bd.div {m n:Nat}{a b:Rat}(h:b≠0)(ha:Bd m a)(hb:Bd n b):Bd (m+n) (a/b):=by rw[G8];exact .divInt (Cv (BZ a) (UJ h)) (BR ha.top (by simpa using hb.bot)) (BR (by simpa using ha.bot) hb.top)
def Bd.neg {n:Nat}{a:Rat}(ha:Bd n a):Bd n (-a):=⟨by show (-a.num).natAbs<_;rw[ADS];exact ha.top,ha.bot⟩
def eI (n:Int):fr (n:Rat)= .tup [.int n, .int 1] :=by simp[fr]
def Bd.int {n:Int}{k:Nat}(h:n.natAbs<2^k)(hk:1<=k):Bd k (n:Rat):=⟨by simpa using h,by simp;omega⟩
def c9:AS:=
 (AZ (Ms (Ag (AX Lh (aV 1) (aC (.int 0)))) (RL 0 1 (AB (aV 1) (AB (AX aw (aV 0) (aV 1)) AL))))
   (Ak (aV 0)))
def GW:AF:=Av 2 c9
def IH (x y:Nat)(Q:PV->Prop)(h:Q (.int (Nat.gcd x y:Nat))):GW [.int x, .int y] Q:=by
 have go:∀y x:Nat,∀D:HX,D.nx [some (.val (.int (Nat.gcd x y:Nat))),some (.val (.int 0))] ->∃n,XC (Ag (AX Lh (aV 1) (aC (.int 0)))) (RL 0 1 (AB (aV 1) (AB (AX aw (aV 0) (aV 1)) AL))) D n [some (.val (.int x)),some (.val (.int y))] :=by
  intro y;induction y using Nat.strongRecOn with
  | _ y ih=>
    intro x D a;by_cases hy:y=0
    .subst hy;refine⟨1, ?_⟩;rw[Nat.gcd_zero_right] at a;exact a
    .obtain ⟨n,hn⟩:=ih (x % y) (Nat.mod_lt _ (by omega)) y D (by rw[ACy y,<-Nat.gcd_rec,ACy y];exact a);refine⟨n+1, ?_⟩;refine Fu (b:= !decide ((y:Int)=0)) (λ_=> ?_) (λz=> ?_)
     .have c:(x:Int).fmod (y:Int)=((x % y:Nat):Int):=by rw[ADt _ (by omega)];simp
      refine⟨by omega, ?_⟩;rw[<-c] at hn;exact hn
     .have:(y:Int)=0:=by simpa using z
      omega
 obtain⟨n,hn⟩:=go y x {nx:=λτ=>Ak (aV 0) {nx:=λ_=>Q .non,rt:=Q,bk:=λ_=>False,ct:=λ_=>False} τ,rt:=Q,bk:=λ_=>False,ct:=λ_=>False} h;exact⟨n,hn⟩
def aR:AS:=
 (AZ (BD (Ag (AX ZU (aV 1) (aC (.int 0)))) (As (LZ El (aV 2)) (Ar 2)) Ay)
   (Ak (A1 (AB (AX RS (aV 0) (aV 2)) (AB (AX RS (aV 1) (aV 2)) AL)))))
def mZ:AS:=
 (AZ (As (AN 2 GW (AB (DD Py (AB (aV 0) AL)) (AB (DD Py (AB (aV 1) AL)) AL))) (Ar 2))
   aR)
def IJ:AF:=Av 3 mZ
def gI (t b:Int)(hb:b≠0):∀s:Int,s=(if b<0 then -(Nat.gcd t.natAbs b.natAbs:Int) else (Nat.gcd t.natAbs b.natAbs:Int))->s≠0/\t.fdiv s=(Rat.divInt t b).num/\b.fdiv s=((Rat.divInt t b).den:Int):=by
 intro s hs;have g:0<Nat.gcd t.natAbs b.natAbs:=ACz _ (by omega);have f:b.gcd t=Nat.gcd t.natAbs b.natAbs:=by rw[AFA,ACy]
 have a:(Nat.gcd t.natAbs b.natAbs:Int) ∣ t:=by rw[<-Int.dvd_natAbs];exact Int.ofNat_dvd.mpr (Nat.gcd_dvd_left ..)
 have c:(Nat.gcd t.natAbs b.natAbs:Int) ∣ b:=by rw[<-Int.dvd_natAbs];exact Int.ofNat_dvd.mpr (ADT ..)
 have d:s ∣ t:=by rw[hs];split <;> first | exact Int.neg_dvd.mpr a|exact a
 have e:s ∣ b:=by rw[hs];split <;> first | exact Int.neg_dvd.mpr c|exact c
 refine⟨by rw[hs];split <;> omega, ?_, ?_⟩
 .rw [AFB d,AEB,f,hs];by_cases h:b<0
  .rw [AAU h,AFC h,Int.ediv_neg];have:(-1:Int)*t= -t:=by omega
   rw[this,Int.neg_ediv_of_dvd a]
  .rw [AAS h,AEj (by omega),Int.one_mul]
 .rw [AFB e,AEh,AAS hb,f,hs];by_cases h:b<0
  .rw [AAU h,Int.ediv_neg];have:(b.natAbs:Int)= -b:=by omega
   rw[ADU,this,Int.neg_ediv_of_dvd c]
  .rw [AAS h];have:(b.natAbs:Int)=b:=by omega
   rw[ADU,this]
def Ga (t b:Int)(hb:b≠0)(f:b.natAbs<2^8900)(Q:PV->Prop)(h:Q (fr (Rat.divInt t b))):IJ [.int t, .int b] Q:=by
 have g:0<Nat.gcd t.natAbs b.natAbs:=ACz _ (by omega);have gl:Nat.gcd t.natAbs b.natAbs<2^8900:=ABW (AEE (by omega) (ADT ..)) f;obtain⟨a,c,d⟩:=gI t b hb _ rfl;refine⟨rfl,IH _ _ _ ?_⟩;refine Fu (b:=decide (b<0)) (λz=> ?_) (λz=> ?_)
 .have e:b<0:=ABX z;rw[AAU e] at a c d;refine⟨⟨a,by rw[ADS];exact gl⟩,⟨a,by rw[ADS];exact gl⟩,(show 2<=sizeLine by decide), ?_⟩;unfold fr at h;rw[<-c,<-d] at h;exact h
 .have e:¬b<0:=ABY z;rw[AAS e] at a c d;refine⟨⟨a,gl⟩,⟨a,gl⟩,(show 2<=sizeLine by decide), ?_⟩;unfold fr at h;rw[<-c,<-d] at h;exact h
def Bd.mt {n:Nat}{a b:Rat}(ha:Bd 4000 a)(hb:Bd 4000 b):MulOk a.num b.den/\MulOk b.num a.den/\MulOk a.den b.den/\MulOk a.num b.num/\MulOk a.den b.num:=
 ⟨.of ha.top (by simpa using hb.bot), .of hb.top (by simpa using ha.bot), .of (by simpa using ha.bot) (by simpa using hb.bot), .of ha.top hb.top, .of (by simpa using ha.bot) hb.top⟩
def SL {a b:Rat}(ha:Bd 4000 a)(hb:Bd 4000 b):((a.den:Int)*(b.den:Int)).natAbs<2^8900:=Ax (BR (a:=(a.den:Int)) (by simpa using ha.bot) (by simpa using hb.bot)) (by omega)
def ma:AS:=
 (Ak (AN 2 IJ (AB (AX BQ (AX DY (AX Ai (aV 0) (aC (.int 0))) (AX Ai (aV 1) (aC (.int 1)))) (AX DY (AX Ai (aV 1) (aC (.int 0))) (AX Ai (aV 0) (aC (.int 1))))) (AB (AX DY (AX Ai (aV 0) (aC (.int 1))) (AX Ai (aV 1) (aC (.int 1)))) AL))))
def IK:AF:=Av 2 ma
def R1 {a b:Rat}(ha:Bd 4000 a)(hb:Bd 4000 b){Q:PV->Prop}(h:Q (fr (a+b))):IK [fr a,fr b] Q:=by obtain⟨m1,m2,m3,_⟩:=Bd.mt (n:=0) ha hb;refine⟨m1,m2,m3,rfl,Ga _ _ (Cv (BZ a) (BZ b)) (SL ha hb) _ ?_⟩;rw[G4] at h;exact h
def ii:AS:=
 (Ak (AN 2 IJ (AB (AX Gi (AX DY (AX Ai (aV 0) (aC (.int 0))) (AX Ai (aV 1) (aC (.int 1)))) (AX DY (AX Ai (aV 1) (aC (.int 0))) (AX Ai (aV 0) (aC (.int 1))))) (AB (AX DY (AX Ai (aV 0) (aC (.int 1))) (AX Ai (aV 1) (aC (.int 1)))) AL))))
def EQ:AF:=Av 2 ii
def Eg {a b:Rat}(ha:Bd 4000 a)(hb:Bd 4000 b){Q:PV->Prop}(h:Q (fr (a-b))):EQ [fr a,fr b] Q:=by obtain⟨m1,m2,m3,_⟩:=Bd.mt (n:=0) ha hb;refine⟨m1,m2,m3,rfl,Ga _ _ (Cv (BZ a) (BZ b)) (SL ha hb) _ ?_⟩;rw[K5] at h;exact h
def il:AS:=
 (Ak (AN 2 IJ (AB (AX DY (AX Ai (aV 0) (aC (.int 0))) (AX Ai (aV 1) (aC (.int 0)))) (AB (AX DY (AX Ai (aV 0) (aC (.int 1))) (AX Ai (aV 1) (aC (.int 1)))) AL))))
def Fx:AF:=Av 2 il
def Pf {a b:Rat}(ha:Bd 4000 a)(hb:Bd 4000 b){Q:PV->Prop}(h:Q (fr (a*b))):Fx [fr a,fr b] Q:=by obtain⟨_,_,m3,m4,_⟩:=Bd.mt (n:=0) ha hb;refine⟨m4,m3,rfl,Ga _ _ (Cv (BZ a) (BZ b)) (SL ha hb) _ ?_⟩;rw[KQ] at h;exact h
def mY:AS:=
 (Ak (AN 2 IJ (AB (AX DY (AX Ai (aV 0) (aC (.int 0))) (AX Ai (aV 1) (aC (.int 1)))) (AB (AX DY (AX Ai (aV 0) (aC (.int 1))) (AX Ai (aV 1) (aC (.int 0)))) AL))))
def KB:AF:=Av 2 mY
def Mo {a b:Rat}(c:b≠0)(ha:Bd 4000 a)(hb:Bd 4000 b){Q:PV->Prop}(h:Q (fr (a/b))):KB [fr a,fr b] Q:=by obtain⟨m1,_,_,_,m5⟩:=Bd.mt (n:=0) ha hb;refine⟨m1,m5,rfl,Ga _ _ (Cv (BZ a) (UJ c)) (Ax (BR (a:=(a.den:Int)) (by simpa using ha.bot) hb.top) (by omega)) _ ?_⟩;rw[G8] at h;exact h
def PB:AS:=
 (AZ (As (AX Gi (aC (.int 1)) (AX DY (aC (.int 2)) (DD RT (AB (AX ZU (aV 1) (aC (.int 0))) AL)))) (Ar 2))
   (Ak (A1 (AB (AX RS (AX DY (aV 2) (aV 0)) (aV 3)) (AB (AX RS (AX DY (aV 2) (aV 1)) (aV 3)) AL)))))
def O9:AS:=
 (AZ (Ms (Ag (AX lf (aV 4) (aC (.int 0)))) (RL 3 4 (AB (aV 4) (AB (AX aw (aV 3) (aV 4)) AL))))
   PB)
def VD:AS:=
 (AZ (RL 3 4 (AB (DD Py (AB (aV 0) AL)) (AB (DD Py (AB (aV 1) AL)) AL)))
   O9)
def BC:AF:=Av 5 VD
def UC (t b:Int)(hb:b≠0):∀s:Int,s=(if b<0 then -1 else 1)->(s*t).fdiv (Nat.gcd t.natAbs b.natAbs:Int)=(Rat.divInt t b).num/\(s*b).fdiv (Nat.gcd t.natAbs b.natAbs:Int)=((Rat.divInt t b).den:Int):=by
 intro s hs;have c:0<Nat.gcd t.natAbs b.natAbs:=ACz _ (by omega);have a:b.gcd t=Nat.gcd t.natAbs b.natAbs:=by rw[AFA,ACy]
 have es:b.sign=s:=by
  rw[hs];split
  .rename_i h;exact AFC h
  .exact AEj (by omega)
 rw[AEB,AEh,AAS hb,a,es,ACh _ (by omega),ACh _ (by omega)];refine⟨rfl, ?_⟩;rw[ADU];congr 1;rw[hs];split <;> omega
def CH (t b:Int)(hb:b≠0)(g:t.natAbs<2^900000)(d:b.natAbs<2^8900){Q:PV->Prop}(h:Q (fr (Rat.divInt t b))):BC [.int t, .int b] Q:=by
 have j:0<Nat.gcd t.natAbs b.natAbs:=ACz _ (by omega);have gl:Nat.gcd t.natAbs b.natAbs<2^8900:=ABW (AEE (by omega) (ADT ..)) d;have e:(1:Int)-2*(if decide (b<0)=true then 1 else 0)=(if b<0 then -1 else 1):=by by_cases z:b<0 <;> simp[z]
 obtain⟨i,a⟩:=UC t b hb _ e;have go:∀y x:Nat,∀D:HX,∀u v w,D.nx [u,v,w,some (.val (.int (Nat.gcd x y:Nat))),some (.val (.int 0))] ->∃n,XC (Ag (AX lf (aV 4) (aC (.int 0)))) (RL 3 4 (AB (aV 4) (AB (AX aw (aV 3) (aV 4)) AL))) D n [u,v,w,some (.val (.int x)),some (.val (.int y))] :=by
  intro y;induction y using Nat.strongRecOn with
  | _ y ih=>
    intro x D u v w c;by_cases hy:y=0
    .subst hy;refine⟨1, ?_⟩;rw[Nat.gcd_zero_right] at c;exact c
    .obtain ⟨n,hn⟩:=ih (x % y) (Nat.mod_lt _ (by omega)) y D u v w (by rw[ACy y,<-Nat.gcd_rec,ACy y];exact c);refine⟨n+1, ?_⟩;refine Fu (b:=decide (0<(y:Int))) (λ_=> ?_) (λz=> ?_)
     .have a:(x:Int).fmod (y:Int)=((x % y:Nat):Int):=by rw[ADt _ (by omega)];simp
      refine⟨by omega, ?_⟩;rw[<-a] at hn;exact hn
     .have:¬(0:Int)<y:=ABY z;omega
 refine go b.natAbs t.natAbs _ (some (.val (.int t))) (some (.val (.int b))) none ?_;have one:(1:Int).natAbs<2^1:=by decide
 have f:((1:Int)-2*(if decide (b<0)=true then 1 else 0)).natAbs<2^1:=by rw[e];split <;> decide
 refine⟨.of (m:=2) (n:=1) (by decide) (by split <;> decide), .of f g,⟨by omega,gl⟩, .of f d,⟨by omega,gl⟩,(show 2<=sizeLine by decide), ?_⟩;unfold fr at h;rw[<-i,<-a] at h;exact h
def DX {m:Int}{Q:PV->Prop}(m0:0<m)(m1:m<4611686018427387904)(h:∀r,0<=r->r<m->Q (.int r)):BV [.tape, .int m] Q:=⟨⟨m0,m1⟩,h⟩
mutual
def okS:Nat->PV->kc
 | 0,_=>false
 | _+1, .non=>true
 | _+1, .bl _=>true
 | _+1, .int _=>true
 | n+1, .tup xs=>sX n xs&&decide (xs.length<sizeLine)
 | _+1,_=>false
def sX:Nat->km PV->kc
 | _, [] =>true
 | n,x::xs=>okS n x&&sX n xs
end
def lJ {t:Int}{n:Nat}(h:t.natAbs<2^n)(hn:n<=900000:=by omega):t.natAbs<2^900000:=Ax h hn
section
variable {a b:Rat}{Q:PV->Prop}
theorem oI (ha:Bd 4000 a)(hb:Bd 4000 b)(h:Q (fr (a+b))):BC [.int (a.num*b.den+b.num*a.den), .int (a.den*b.den)] Q:=
 CH _ _ (Cv (BZ a) (BZ b)) (lJ (Th (n:=8000) (BR ha.top hb.botI) (BR hb.top ha.botI))) (SL ha hb) (by rw[<-G4];exact h)
theorem oM (ha:Bd 4000 a)(hb:Bd 4000 b)(h:Q (fr (a-b))):BC [.int (a.num*b.den-b.num*a.den), .int (a.den*b.den)] Q:=
 CH _ _ (Cv (BZ a) (BZ b)) (lJ (U3 (n:=8000) (BR ha.top hb.botI) (BR hb.top ha.botI))) (SL ha hb) (by rw[<-K5];exact h)
theorem oK (ha:Bd 4000 a)(hb:Bd 4000 b)(h:Q (fr (a*b))):BC [.int (a.num*b.num), .int (a.den*b.den)] Q:=
 CH _ _ (Cv (BZ a) (BZ b)) (lJ (BR ha.top hb.top)) (SL ha hb) (by rw[<-KQ];exact h)
theorem oJ (c:b≠0)(ha:Bd 4000 a)(hb:Bd 4000 b)(h:Q (fr (a/b))):BC [.int (a.num*b.den), .int (a.den*b.num)] Q:=
 CH _ _ (Cv (BZ a) (UJ c)) (lJ (BR ha.top (by simpa using hb.bot))) (Ax (BR (a:=(a.den:Int)) (by simpa using ha.bot) hb.top) (by omega)) (by rw[<-G8];exact h)
end
def U8 {n:Int}{Q:PV->Prop}(h:Q (fr (n:Rat))):Q (.tup [.int n, .int 1]):=by rw[<-eI];exact h
def Bd.part {t b:Int}{n:Nat}(h:b≠0)(a:t.natAbs<2^n)(hb:b.natAbs<2^n):Bd n (Rat.divInt t b):= .divInt h a hb
def lz {a b:Nat}(h:Nat.ble a b=true:=by rfl):a<=b:=ABn h
structure Sh (d n:Nat) (x:PV):Prop where
 ok:D2 d x=true
 sh:(pd x).showable=true
 sz:(pd x).shown.length<=n
mutual
theorem QI:∀{d e:Nat} (x:PV),d<=e->D2 d x=true->D2 e x=true
 | _,_, .non,_,_=>by simp[D2]
 | _,_, .bl _,_,_=>by simp[D2]
 | _,_, .int _,_,_=>by simp[D2]
 | _,_, .str x,_,h=>by simpa[D2] using h
 | 0,_, .tup xs,_,h=>by simp[D2] at h
 | 0,_, .lst xs,_,h=>by simp[D2] at h
 | d+1,0, .tup xs,h,_=>by omega
 | d+1,0, .lst xs,h,_=>by omega
 | d+1,e+1, .tup xs,h,k=>by simp only[D2] at k ⊢;exact NF xs (by omega) k
 | d+1,e+1, .lst xs,h,k=>by simp only[D2] at k ⊢;exact NF xs (by omega) k
 | _,_, .tape,_,h=>by simp[D2] at h
 | _,_, .scr _,_,h=>by simp[D2] at h
 | _,_, .dct _,_,h=>by simp[D2] at h
 | _,_, .ty _,_,h=>by simp[D2] at h
theorem NF:∀{d e:Nat} (xs:km PV),d<=e->Hz d xs=true->Hz e xs=true
 | _,_, [],_,_=>by simp[Hz]
 | _,_,x::xs,h,k=>by simp only[Hz,ABJ] at k ⊢;exact⟨QI x h k.1,NF xs h k.2⟩
end
def Sh.mono {d n e m:Nat}{x:PV}(s:Sh d n x)(h1:d<=e)(h2:n<=m):Sh e m x:=⟨QI x h1 s.ok,s.sh,AAu s.sz h2⟩
def Sh.go {d n:Nat}{x:PV}(s:Sh d n x)(h1:d<=30:=by omega)(h2:n<=16777216:=by omega):m7 x:=⟨QI x h1 s.ok,s.sh,AAu s.sz h2⟩
def Sh.int {i:Int}(h:i.natAbs<2^1900):Sh 0 1902 (.int i):=by
 refine⟨rfl, ?_, ?_⟩
 .show decide (i.natAbs.log2<1920)=true;exact AAi (ACg (Lv h (by decide)) (by decide))
 .show (Str.ofString (toString i)).length<=1902;rw[PySem.ofString_length];exact AAu (int_text_length_le (k:=1900) (by decide) (Lv h (by decide))) (by decide)
theorem EW {d:Nat}:∀{xs:km PV},(∀x∈xs,D2 d x=true)->Hz d xs=true
 | [],_=>rfl
 | x::xs,h=>by simp only[Hz,ABJ];exact⟨h x (by simp),EW λy hy=>h y (by simp[hy])⟩
theorem Yo:∀{xs:km PV},(∀x∈xs,(pd x).showable=true)->PyData.showableAll (Nx xs)=true
 | [],_=>rfl
 | x::xs,h=>by simp only[Nx,PyData.showableAll,ABJ];exact⟨h x (by simp),Yo λy hy=>h y (by simp[hy])⟩
theorem U6 {n:Nat}:∀{xs:km PV},(∀x∈xs,(pd x).shown.length<=n)->((PyData.shownAll (Nx xs)).map (·.length)).sum<=xs.length*n
 | [],_=>by simp[Nx,PyData.shownAll]
 | x::xs,h=>by simp only[Nx,PyData.shownAll,AAc,ADV,AAv];have h1:=h x (by simp);have h2:=U6 (n:=n) (xs:=xs) λy hy=>h y (by simp[hy]);rw[Nat.succ_mul];omega
theorem HP:∀(xs:km PV),(PyData.shownAll (Nx xs)).length=xs.length
 | [] =>rfl
 | x::xs=>by simp[Nx,PyData.shownAll,HP xs]
def Sh.tup {d n:Nat}{xs:km PV}(h:∀x∈xs,Sh d n x):Sh (d+1) (xs.length*(n+2)+3) (.tup xs):=by refine⟨by simp only[D2];exact EW λx hx=>(h x hx).ok,by simp only[pd,PyData.showable];exact Yo λx hx=>(h x hx).sh, ?_⟩;have h1:=U6 (n:=n) (xs:=xs) λx hx=>(h x hx).sz;have h2:=tupleText_len_le (PyData.shownAll (Nx xs));rw[HP] at h2;simp only[pd,PyData.shown];rw[Nat.mul_add];omega
def Sh.lst {d n:Nat}{xs:km PV}(h:∀x∈xs,Sh d n x):Sh (d+1) (xs.length*(n+2)+3) (.lst xs):=by refine⟨by simp only[D2];exact EW λx hx=>(h x hx).ok,by simp only[pd,PyData.showable];exact Yo λx hx=>(h x hx).sh, ?_⟩;have h1:=U6 (n:=n) (xs:=xs) λx hx=>(h x hx).sz;have h2:=listText_len_le (PyData.shownAll (Nx xs));rw[HP] at h2;simp only[pd,PyData.shown];rw[Nat.mul_add];omega
def wY {c:Type}{P:c->Prop}{a b:c}(ha:P a)(hb:P b):∀x∈ [a,b],P x:=λx hx=>by
 simp only[AAV,AAp,AAq] at hx;rcases hx with rfl|rfl
 .exact ha
 .exact hb
def sN {d:Type}{P:d->Prop}{a b c:d}(ha:P a)(hb:P b)(hc:P c):∀x∈ [a,b,c],P x:=λx hx=>by
 simp only[AAV,AAp,AAq] at hx;rcases hx with rfl|rfl|rfl
 .exact ha
 .exact hb
 .exact hc
def sO {e:Type}{P:e->Prop}{a b c d:e}(ha:P a)(hb:P b)(hc:P c)(hd:P d):∀x∈ [a,b,c,d],P x:=λx hx=>by
 simp only[AAV,AAp,AAq] at hx;rcases hx with rfl|rfl|rfl|rfl
 .exact ha
 .exact hb
 .exact hc
 .exact hd
def Sh.fr {r:Rat}(h:Bd 1900 r):Sh 1 4000 (fr r):=(Sh.tup (wY (Sh.int h.top) (Sh.int h.botI))).mono (by omega) lz
def KM (a b:Rat):G9 (fr a) (fr b)=decide (a=b):=by
 show (PyData.eqvAll [.int a.num, .int a.den] [.int b.num, .int b.den])=_;simp only[PyData.eqvAll,PyData.eqv];by_cases h:a=b
 .subst h;simp
 .have:¬(a.num=b.num/\(a.den:Int)=b.den):=λz=>h (Rat.ext z.1 (by omega));rw[AAr h];simp only[Bool.and_true,Bool.and_eq_false_iff,AEV];by_cases h1:a.num=b.num
  .exact .inr λz=>this ⟨h1,z⟩
  .exact .inl h1
def Zq (d:Nat)(a:Rat):D2 (d+1) (fr a)=true:=rfl
def mH {a b:Rat}:decide (a.num*(b.den:Int)<b.num*(a.den:Int))=decide (a<b):=by rw[ACm];exact(AC0 a b).symm
def c8:AS:=
 (Ak (AX ZU (AX DY (AX Ai (aV 0) (aC (.int 0))) (AX Ai (aV 1) (aC (.int 1)))) (AX DY (AX Ai (aV 1) (aC (.int 0))) (AX Ai (aV 0) (aC (.int 1))))))
def Am:AF:=Av 2 c8
section
variable {a b:Rat}{Q:PV->Prop}
theorem Bt (ha:Bd 4000 a)(hb:Bd 4000 b)(h:Q (.bl (decide (a<b)))):Am [fr a,fr b] Q:=by obtain⟨m1,m2,_⟩:=Bd.mt (n:=0) ha hb;refine⟨m1,m2, ?_⟩;rw[<-mH] at h;exact h
def VC:AS:=
 (Ak (AX ZU (AX DY (AX Ai (aV 0) (aC (.int 0))) (AX Ai (aV 1) (aC (.int 1)))) (AX DY (AX Ai (aV 1) (aC (.int 0))) (AX Ai (aV 0) (aC (.int 1))))))
def Vj:AF:=Av 2 VC
def XQ:AS:=
 (Ak (AN 2 BC (AB (AX BQ (AX DY (AX Ai (aV 0) (aC (.int 0))) (AX Ai (aV 1) (aC (.int 1)))) (AX DY (AX Ai (aV 1) (aC (.int 0))) (AX Ai (aV 0) (aC (.int 1))))) (AB (AX DY (AX Ai (aV 0) (aC (.int 1))) (AX Ai (aV 1) (aC (.int 1)))) AL))))
def B6:AF:=Av 2 XQ
theorem Ds (ha:Bd 4000 a)(hb:Bd 4000 b)(h:Q (fr (a+b))):B6 [fr a,fr b] Q:=by obtain⟨m1,m2,m3,_⟩:=Bd.mt (n:=0) ha hb;exact⟨m1,m2,m3,rfl,oI ha hb h⟩
def XO:AS:=
 (Ak (AN 2 BC (AB (AX Gi (AX DY (AX Ai (aV 0) (aC (.int 0))) (AX Ai (aV 1) (aC (.int 1)))) (AX DY (AX Ai (aV 1) (aC (.int 0))) (AX Ai (aV 0) (aC (.int 1))))) (AB (AX DY (AX Ai (aV 0) (aC (.int 1))) (AX Ai (aV 1) (aC (.int 1)))) AL))))
def Bh:AF:=Av 2 XO
theorem C9 (ha:Bd 4000 a)(hb:Bd 4000 b)(h:Q (fr (a-b))):Bh [fr a,fr b] Q:=by obtain⟨m1,m2,m3,_⟩:=Bd.mt (n:=0) ha hb;exact⟨m1,m2,m3,rfl,oM ha hb h⟩
def PF:AS:=
 (Ak (AN 2 BC (AB (AX DY (AX Ai (aV 0) (aC (.int 0))) (AX Ai (aV 1) (aC (.int 0)))) (AB (AX DY (AX Ai (aV 0) (aC (.int 1))) (AX Ai (aV 1) (aC (.int 1)))) AL))))
def BU:AF:=Av 2 PF
theorem DF (ha:Bd 4000 a)(hb:Bd 4000 b)(h:Q (fr (a*b))):BU [fr a,fr b] Q:=by obtain⟨m1,m2,m3,m4,_⟩:=Bd.mt (n:=0) ha hb;exact⟨m4,m3,rfl,oK ha hb h⟩
def Sw:AS:=
 (Ak (AN 2 BC (AB (AX DY (AX Ai (aV 0) (aC (.int 0))) (AX Ai (aV 1) (aC (.int 1)))) (AB (AX DY (AX Ai (aV 0) (aC (.int 1))) (AX Ai (aV 1) (aC (.int 0)))) AL))))
def CB:AF:=Av 2 Sw
theorem Hg (c:b≠0)(ha:Bd 4000 a)(hb:Bd 4000 b)(h:Q (fr (a/b))):CB [fr a,fr b] Q:=by obtain⟨m1,m2,m3,m4,m5⟩:=Bd.mt (n:=0) ha hb;exact⟨m1,m5,rfl,oJ c ha hb h⟩
end
def vf {t b:Int}(a:0<t)(hb:0<b):0<Rat.divInt t b:=by
 rw[AC0];have h1:=AEB t b;show (0:Int)*_<_*1;rw[Int.zero_mul,ADs,h1,AEj hb,Int.one_mul];have g:0<(b.gcd t:Int):=by have:=Int.gcd_pos_of_ne_zero_left t (show b≠0 by omega);omega
 exact Int.ediv_pos_of_pos_of_dvd a (by omega) (Int.gcd_dvd_right ..)
def K4 {t b:Int}{Q:PV->Prop}(k:Nat)(hb:b≠0)(a:t.natAbs<2^k)(c:b.natAbs<2^k)(hk:k<=2000)(h:Bd k (Rat.divInt t b)->Q (fr (Rat.divInt t b))):BC [.int t, .int b] Q:=
 CH t b hb (Ax a (by omega)) (Ax c (by omega)) (h (.part hb a c))
def Mul (D N:Nat)(a:Rat):Prop:=0<D/\∃k:Int,a=Rat.divInt k D/\k.natAbs<=N
def Mul.bd {D N n:Nat}{a:Rat}(h:Mul D N a)(h1:N<2^n)(h2:D<2^n):Bd n a:=by obtain⟨b,k,rfl,hk⟩:=h;exact .divInt (by omega) (by omega) (by simpa using h2)
def Mul.part {t b:Int}{c:Nat}(hb:0<b)(hc:0<c){N:Nat}(h:(t*c).natAbs<=N):Mul (b.toNat*c) N (Rat.divInt t b):=by
 refine⟨Nat.mul_pos (by omega) hc,t*c, ?_,h⟩;have e:((b.toNat*c:Nat):Int)=b*c:=by rw[AEF];congr 1;omega
 rw[e,(AEk (by omega) (Cv (by omega) (by omega)))];rw[AEl b,ADW]
def Mul.add {D N M:Nat}{a b:Rat}(ha:Mul D N a)(hb:Mul D M b):Mul D (N+M) (a+b):=by obtain⟨c,k,rfl,hk⟩:=ha;obtain⟨_,l,rfl,hl⟩:=hb;refine⟨c,k+l, ?_,by omega⟩;rw[AEi _ _ (by omega) (by omega),AEk (Cv (by omega) (by omega)) (by omega)];rw[<-Int.add_mul,ADW]
def Mul.mono {D N M:Nat}{a:Rat}(h:Mul D N a)(b:N<=M):Mul D M a:=⟨h.1,let ⟨k,e,hk⟩:=h.2;⟨k,e,by omega⟩⟩
def Mul.int {n:Int}{D N:Nat}(a:0<D)(h:(n*D).natAbs<=N):Mul D N (n:Rat):=by
 have e:(n:Rat)=Rat.divInt n 1:=by rw[<-ABk (n:Rat)];simp
 rw[e];have:=Mul.part (t:=n) (b:=1) (c:=D) (by decide) a h;simpa using this
def PH:AS:=
 (AZ (BD (Ag (AX ZU (aV 1) (aC (.int 3)))) (Ak (A1 (AB (AX BQ (aC (.int 1)) (AN 2 BV (AB (aV 0) (AB (aC (.int 5)) AL)))) (AB (aC (.int 1)) AL)))) Ay)
   (Ak (AN 2 BC (AB (AX BQ (aC (.int 1)) (AN 2 BV (AB (aV 0) (AB (aC (.int 8)) AL)))) (AB (AX Gi (aV 1) (aC (.int 1))) AL)))))
def VE:AS:=
 (AZ (As (AN 2 BV (AB (aV 0) (AB (aC (.int 5)) AL))) (Ar 1))
   PH)
def DN:AF:=Av 2 VE
def Hh {Q:PV->Prop}(h:∀a,Bd 8 a->0<a->Mul 6 48 a->Q (fr a)):DN [.tape] Q:=by
 refine⟨rfl,DX (by decide) (by decide) λw f g=> ?_⟩;refine Fu (b:=decide (w<3)) (λ_=> ?_) (λz=> ?_)
 .refine ⟨rfl,DX (by decide) (by decide) λr d r1=>⟨lz, ?_⟩⟩;exact U8 (h _ (.int (by omega) (by decide)) (by exact_mod_cast (by omega:(0:Int)<1+r)) (.int (by decide) (by omega)))
 .have i:¬w<3:=ABY z;have hw:w-1=2\/w-1=3:=by omega
  refine⟨rfl,DX (by decide) (by decide) λr d r1=>⟨rfl, ?_⟩⟩;refine K4 8 (by omega) (by omega) (by omega) (by decide) λb=>h _ b (vf (by omega) (by omega)) ?_;rcases hw with e|e
  .rw [e];exact Mul.part (t:=1+r) (b:=2) (c:=3) (by decide) (by decide) (by omega)
  .rw [e];exact Mul.part (t:=1+r) (b:=3) (c:=2) (by decide) (by decide) (by omega)
def N4:AS:=
 (AZ (BD (Ag (AX GM (aV 1) (aC (.int 6)))) (Ak (AN 2 BC (AB (AX Gi (AN 2 BV (AB (aV 0) (AB (aC (.int 25)) AL))) (aC (.int 6))) (AB (aC (.int 2)) AL)))) Ay)
   (Ak (AN 2 BC (AB (AX Gi (AN 2 BV (AB (aV 0) (AB (aC (.int 31)) AL))) (aC (.int 9))) (AB (aC (.int 3)) AL)))))
def N3:AS:=
 (AZ (BD (Ag (AX ZU (aV 1) (aC (.int 6)))) (Ak (A1 (AB (AX Gi (AN 2 BV (AB (aV 0) (AB (aC (.int 10)) AL))) (aC (.int 3))) (AB (aC (.int 1)) AL)))) Ay)
   N4)
def Sv:AS:=
 (AZ (As (AN 2 BV (AB (aV 0) (AB (aC (.int 8)) AL))) (Ar 1))
   N3)
def BE:AF:=Av 2 Sv
def BK {Q:PV->Prop}(h:∀a,Mul 6 60 a->Q (fr a)):BE [.tape] Q:=by
 refine⟨rfl,DX (by decide) (by decide) λw e f=> ?_⟩;refine Fu (b:=decide (w<6)) (λ_=> ?_) (λz=> ?_)
 .refine ⟨rfl,DX (by decide) (by decide) λr d r1=>⟨lz, ?_⟩⟩;exact U8 (h _ (.int (by decide) (by omega)))
 refine Fu (b:=decide (w=6)) (λ_=> ?_) (λz=> ?_)
 .exact ⟨rfl,DX (by decide) (by decide) λr d r1=>⟨rfl,K4 8 (by omega) (by omega) (by omega) (by decide) λb=>h _ (Mul.part (t:=r-6) (b:=2) (c:=3) (by decide) (by decide) (by omega))⟩⟩
 .exact ⟨rfl,DX (by decide) (by decide) λr d r1=>⟨rfl,K4 8 (by omega) (by omega) (by omega) (by decide) λb=>h _ (Mul.part (t:=r-9) (b:=3) (c:=2) (by decide) (by decide) (by omega))⟩⟩
abbrev C4:=Rat×Rat×Rat×Rat
def cor (c:C4):PV:= .tup [fr c.1,fr c.2.1,fr c.2.2.1,fr c.2.2.2]
def corL (c:C4):PV:= .lst [fr c.1,fr c.2.1,fr c.2.2.1,fr c.2.2.2]
def An (cs:km C4):PV:= .tup (cs.map cor)
structure EF (B:Nat) (c:C4):Prop where
 m:Bd B c.1
 x:Bd B c.2.1
 y:Bd B c.2.2.1
 z:Bd B c.2.2.2
def EF.mono {B B':Nat}{c:C4}(h:EF B c)(k:B<=B'):EF B' c:=⟨h.m.mono k,h.x.mono k,h.y.mono k,h.z.mono k⟩
structure PX (D N:Nat) (c:C4):Prop where
 m:Mul D N c.1
 x:Mul D N c.2.1
 y:Mul D N c.2.2.1
 z:Mul D N c.2.2.2
def PX.mono {D N M:Nat}{c:C4}(h:PX D N c)(k:N<=M):PX D M c:=⟨h.m.mono k,h.x.mono k,h.y.mono k,h.z.mono k⟩
def PX.bd {D N n:Nat}{c:C4}(h:PX D N c)(h1:N<2^n)(h2:D<2^n):EF n c:=⟨h.m.bd h1 h2,h.x.bd h1 h2,h.y.bd h1 h2,h.z.bd h1 h2⟩
def KF (cs:km C4):Prop:=cs.Pairwise λa b=>a.1<b.1
structure Pi (n D N:Nat) (cs:List C4):Prop where
 two:2<=cs.length
 few:cs.length<=n
 mu:∀c∈cs,PX D N c
 ris:KF cs
structure G3 (n B:Nat) (cs:List C4):Prop where
 two:2<=cs.length
 few:cs.length<=n
 bd:∀c∈cs,EF B c
 ris:KF cs
def gm {cs:km C4}{c d:C4}(h:KF (cs ++ [c]))(hd:c.1<d.1):KF (cs ++ [c] ++ [d]):=by
 refine AEG.mpr ⟨h,by simp,λa ha b hb=> ?_⟩;simp at hb;subst hb;rcases AAj.mp ha with ha|ha
 .have:=(AEG.mp h).2.2 a ha c (by simp);grind
 .simp at ha;subst ha;exact hd
def mid (a b:Rat):Rat:=(a+b)/2
def YF (a b:Rat):mid a b=Rat.divInt (a.num*b.den+b.num*a.den) (2*a.den*b.den):=by have h2:(2:Rat)=Rat.divInt 2 1:=rfl;unfold mid;rw[G4,AED,h2,Rat.inv_divInt,AEC,ADs];congr 1;rw[AEl _ 2,ADW]
def Bd.mid {B:Nat}{a b:Rat}(ha:Bd B a)(hb:Bd B b):Bd (2*B+2) (mid a b):=by rw[YF];have h2:(2:Int)*a.den≠0:=Cv (by decide) (BZ a);refine .divInt (Cv h2 (BZ b)) (Ax (Th (n:=B+B) (BR ha.top hb.botI) (BR hb.top ha.botI)) (by omega)) ?_;exact Ax (BR (BR (m:=2) (show (2:Int).natAbs<2^2 by decide) ha.botI) hb.botI) (by omega)
def nJ {cs:km C4}{i:Int}{k:Nat}(hk:i=(k:Int))(h:k<=cs.length):Gh (cs.map cor) none (some i)=(cs.take k).map cor:=by unfold Gh;rw[hk,HT.sIx_none,HT.sIx_nat];rw[show min k (cs.map cor).length=k by simp;omega,ADX];simp
def dz {cs:km C4}{i:Int}{k:Nat}(hk:i=(k:Int))(h:k<=cs.length):Gh (cs.map cor) (some i) none=(cs.drop k).map cor:=by unfold Gh;rw[hk,HT.sIx_none,HT.sIx_nat];rw[show min k (cs.map cor).length=k by simp;omega,ACn];exact AD2 (by simp)
def t5 {cs:km C4}{i:Int}{k:Nat}{Q:PV->Prop}(hk:i=(k:Int))(h:k<=cs.length)(q:Q (An (cs.take k))):Xq (An cs) none (some i) Q:=by refine HQ ?_;rw[nJ hk h];exact q
def aA {cs:km C4}{i:Int}{k:Nat}{Q:PV->Prop}(hk:i=(k:Int))(h:k<=cs.length)(q:Q (An (cs.drop k))):Xq (An cs) (some i) none Q:=by refine HQ ?_;rw[dz hk h];exact q
def Vu {cs ds:km C4}{Q:PV->Prop}(h:cs.length+ds.length<=10000)(q:Q (An (cs++ds))):BQ (An cs) (An ds) Q:=by
 refine⟨?_, ?_⟩
 .simp only[AAb];exact AAu h (by decide)
 .show Q (.tup (cs.map cor++ds.map cor));rw[<-AAk];exact q
def Mul.mid {D N:Nat}{a b:Rat}(ha:Mul D N a)(hb:Mul D N b):Mul (2*D) (2*N) (mid a b):=by
 obtain⟨c,k,rfl,hk⟩:=ha;obtain⟨_,l,rfl,hl⟩:=hb;refine⟨by omega,k+l, ?_,by omega⟩;have h2:(2:Rat)=Rat.divInt 2 1:=rfl;unfold PL.mid;rw[AEi _ _ (by omega) (by omega),AED,h2,Rat.inv_divInt,AEC,ADs,AEk (Cv (Cv (by omega) (by omega)) (by decide)) (by omega),<-Int.add_mul];have e:((2*D:Nat):Int)=2*(D:Int):=by omega
 rw[e,ADW,ADW,AEl 2 (D:Int)]
def Pi.ok {n D N m:Nat}{cs:km C4}(p:Pi n D N cs)(h1:N<2^m)(h2:D<2^m):G3 n m cs:=⟨p.two,p.few,λc hc=>(p.mu c hc).bd h1 h2,p.ris⟩
def CP (cs:km C4)(v:PV):Prop:=∃f:C4->PV,(f=cor\/f=corL)/\(v= .tup (cs.map f)\/v= .lst (cs.map f))
def CP.self (cs:km C4):CP cs (An cs):=⟨cor, .inl rfl, .inl rfl⟩
def CP.lists (cs:km C4):CP cs (.lst (cs.map corL)):=⟨corL, .inr rfl, .inr rfl⟩
def CP.list (cs:km C4):CP cs (.lst (cs.map cor)):=⟨cor, .inl rfl, .inr rfl⟩
theorem Cu {i l:Type}{g:AG}{te:AE}{d:BN}{Q:km PV->Prop}(f:i->PV)(k:l->PV)(e:i->l)(P:i->Prop)(hs:∀a,P a->∀R:PV->Prop,R (k (e a))->g (f a) d λj=>te j R):∀(xs:km i) (c:km PV),(∀a∈xs,P a)->Q (c++(xs.map e).map k)->De g Dh te d Q (xs.map f) c
 | [],c,_,h=>(by simpa using h:Q c)
 | a::xs,c,hp,h=>by refine hs a (hp a (by simp)) (λy=>De g Dh te d Q (xs.map f) (c ++ [y])) (Cu f k e P hs xs _ (λb hb=>hp b (by simp[hb])) ?_);simpa using h
def Sh.cor {c:C4}(h:EF 1900 c):Sh 2 17000 (cor c):=(Sh.tup (sO (Sh.fr h.m) (Sh.fr h.x) (Sh.fr h.y) (Sh.fr h.z))).mono (by decide) lz
def Sh.corL {c:C4}(h:EF 1900 c):Sh 2 17000 (corL c):=(Sh.lst (sO (Sh.fr h.m) (Sh.fr h.x) (Sh.fr h.y) (Sh.fr h.z))).mono (by decide) lz
abbrev T3:=Rat×Rat×Rat
def inter (a b:C4)(m:Rat):T3:=(a.2.1+(m-a.1)/(b.1-a.1)*(b.2.1-a.2.1),a.2.2.1+(m-a.1)/(b.1-a.1)*(b.2.2.1-a.2.2.1),a.2.2.2+(m-a.1)/(b.1-a.1)*(b.2.2.2-a.2.2.2))
def spotG:C4->km C4->Rat->ke T3
 | _, [],_=>none
 | a,b::r,m=>if b.1<m then spotG b r m else some (inter a b m)
def spotC:km C4->Rat->ke T3
 | [],_=>none
 | a::r,m=>if m<a.1 then none else spotG a r m
def qO (t:T3):PV:= .tup [fr t.1,fr t.2.1,fr t.2.2]
def Ho:ke T3->PV
 | none=> .non
 | some t=>qO t
structure Ea (B:Nat) (t:T3):Prop where
 x:Bd B t.1
 y:Bd B t.2.1
 z:Bd B t.2.2
def Ea.mono {B B':Nat}{t:T3}(h:Ea B t)(k:B<=B'):Ea B' t:=⟨h.x.mono k,h.y.mono k,h.z.mono k⟩
section
variable {B M:Nat}{a b:C4}{m:Rat}
theorem U4 {x y:Rat}(h:x<y):y-x≠0:=by grind
theorem Bd.share (ha:EF B a)(hb:EF B b)(c:Bd M m)(h:a.1<b.1):Bd (M+B+1+(B+B+1)) ((m-a.1)/(b.1-a.1)):=(c.sub ha.m).div (U4 h) (hb.m.sub ha.m)
theorem Ea.inter (ha:EF B a)(hb:EF B b)(c:Bd M m)(h:a.1<b.1):Ea (M+6*B+10) (inter a b m):=by have s:=Bd.share ha hb c h;exact⟨(ha.x.add (s.mul (hb.x.sub ha.x))).mono (by omega),(ha.y.add (s.mul (hb.y.sub ha.y))).mono (by omega),(ha.z.add (s.mul (hb.z.sub ha.z))).mono (by omega)⟩
end
theorem Ea.spotG {B M:Nat}{m:Rat}(d:Bd M m):∀{a:C4} {r:km C4},KF (a::r)->(∀c∈a::r,EF B c)->∀t,spotG a r m=some t->Ea (M+6*B+10) t
 | a, [],_,_,t,e=>by cases e
 | a,b::r,hr,hb,t,e=>by
   unfold PL.spotG at e;split at e
   .exact Ea.spotG d (AAZ.mp hr).2 (λc hc=>hb c (by simp[hc])) t e
   .cases e;exact .inter (hb a (by simp)) (hb b (by simp)) d ((AAZ.mp hr).1 b (by simp))
def Ea.spotC {B M:Nat}{m:Rat}{cs:km C4}(b:Bd M m)(d:KF cs)(hb:∀c∈cs,EF B c):∀t,spotC cs m=some t->Ea (M+6*B+10) t:=λt e=>by
 cases cs with
 | nil=>cases e
 | cons a r=>
   simp only[PL.spotC] at e;split at e
   .cases e
   .exact Ea.spotG b d hb t e
def HA {f:C4->PV}{cs:km C4}{i:Int}{k:Nat}{c:C4}{Q:PV->Prop}(hk:i=(k:Int))(e:cs[k]? =some c)(h:Q (f c)):c5 (JA (cs.map f) i) Q:=by have q:JA (cs.map f) ((k:Nat):Int)=some (f c):=Ci (by rw[AA0,e] <;> rfl);rw[hk,q];exact h
def Li {f:C4->PV}{cs:km C4}{c:C4}{Q:PV->Prop}(e:cs.getLast?=some c)(h:Q (f c)):c5 (JA (cs.map f) (-1)) Q:=by
 have a:cs≠ [] :=by intro z;subst z;cases e
 have hl:0<cs.length:=List.length_pos_iff.mpr a;have q:JA (cs.map f) (-1)=some (f c):=by
  unfold JA Oi;rw[AAb,AAS (by decide),AAU (by omega)];have b:(-1+(cs.length:Int)).toNat=cs.length-1:=by omega
  rw[Option.bind_some,b,AA0,<-AFD,e];rfl
 rw[q];exact h
def PP:AS:=
 (AZ (As (AN 2 KB (AB (AN 2 EQ (AB (aV 2) (AB (AX Ai (aV 0) (aC (.int 0))) AL))) (AB (AN 2 EQ (AB (AX Ai (aV 1) (aC (.int 0))) (AB (AX Ai (aV 0) (aC (.int 0))) AL))) AL))) (Ar 3))
   (Ak (DD Bw (AB (Eb (CA (nD (AB (XF (aV 0) (XH (aC (.int 1))) XG) (AB (XF (aV 1) (XH (aC (.int 1))) XG) AL))) 2 [3] (IM 2 (Ae (Ar 0) (Ae (Ar 1) Bu))) Dh (AN 2 IK (AB (aV 0) (AB (AN 2 Fx (AB (aV 2) (AB (AN 2 EQ (AB (aV 1) (AB (aV 0) AL))) AL))) AL))))) AL))))
def ES:AF:=Av 4 PP
def LP {f:C4->PV}(i:f=cor\/f=corL){a b:C4}{B M:Nat}{m:Rat}(ha:EF B a)(hb:EF B b)(c:Bd M m)(h:a.1<b.1)(k:M+6*B+10<=3990){Q:PV->Prop}(q:Q (qO (inter a b m))):ES [f a,f b,fr m] Q:=by
 simp only[qO,inter] at q;have s:=Bd.share ha hb c h;have key:De (IM 2 (Ae (Ar 0) (Ae (Ar 1) Bu))) Dh (AN 2 IK (AB (aV 0) (AB (AN 2 Fx (AB (aV 2) (AB (AN 2 EQ (AB (aV 1) (AB (aV 0) AL))) AL))) AL))) [none,none,some (.val (fr ((m-a.1)/(b.1-a.1))))] (λxs=>Q (.tup xs))
  ([(a.2.1,b.2.1),(a.2.2.1,b.2.2.1),(a.2.2.2,b.2.2.2)].map λp:Rat×Rat=>PV.tup [fr p.1,fr p.2]) [] :=by refine Cu (λp:Rat×Rat=>PV.tup [fr p.1,fr p.2]) fr (λp=>p.1+(m-a.1)/(b.1-a.1)*(p.2-p.1)) (λp=>Bd B p.1/\Bd B p.2) (λp hp R j=> ?_) _ [] (sN ⟨ha.x,hb.x⟩ ⟨ha.y,hb.y⟩ ⟨ha.z,hb.z⟩) q;have d:=hp.1;have g:=hp.2;exact⟨rfl,rfl,Eg (g.mono (by omega)) (d.mono (by omega)) ⟨rfl,Pf (s.mono (by omega)) ((g.sub d).mono (by omega)) ⟨rfl,R1 (d.mono (by omega)) ((s.mul (g.sub d)).mono (by omega)) j⟩⟩⟩
 have m1:=c.mono (n:=4000) (by omega);have e:=ha.m.mono (n:=4000) (by omega);have b1:=hb.m.mono (n:=4000) (by omega);rcases i with rfl|rfl
 .exact ⟨rfl,Eg m1 e ⟨rfl,Eg b1 e ⟨rfl,Mo (U4 h) ((c.sub ha.m).mono (by omega)) ((hb.m.sub ha.m).mono (by omega)) (HQ (HQ ⟨lz,key⟩))⟩⟩⟩
 .exact ⟨rfl,Eg m1 e ⟨rfl,Eg b1 e ⟨rfl,Mo (U4 h) ((c.sub ha.m).mono (by omega)) ((hb.m.sub ha.m).mono (by omega)) (FR (FR ⟨lz,key⟩))⟩⟩⟩
def TQ:AS:=
 (AZ (FO (jA (AB (aC (.int 1)) (AB (DD EJ (AB (aV 0) AL)) AL))) (Ar 2) (BD (Bc (Ag (AN 2 Am (AB (AX Ai (AX Ai (aV 0) (aV 2)) (aC (.int 0))) (AB (aV 1) AL))))) (Ak (AN 3 ES (AB (AX Ai (aV 0) (AX Gi (aV 2) (aC (.int 1)))) (AB (AX Ai (aV 0) (aV 2)) (AB (aV 1) AL))))) Ay))
   (Ak (aC .non)))
def aS:AS:=
 (AZ (BD (Ag (AN 2 Am (AB (aV 1) (AB (AX Ai (AX Ai (aV 0) (aC (.int 0))) (aC (.int 0))) AL)))) (Ak (aC .non)) Ay)
   TQ)
def Ei:AF:=Av 3 aS
def kZ {cs:km C4}(h:KF cs){k:Nat}{a b:C4}(c:cs[k]? =some a)(d:cs[k+1]? =some b):a.1<b.1:=by have h1:=(AAy.mp c);have h2:=(AAy.mp d);obtain⟨e,rfl⟩:=h1;obtain⟨f,rfl⟩:=h2;exact AEm.mp h k (k+1) e f (by omega)
def FN {cs:km C4}{v:PV}{B M:Nat}{m:Rat}(hv:CP cs v)(hc:∀c∈cs,EF B c)(A:KF cs)(C:cs≠ [])(hl:cs.length<=1000)(s:Bd M m)(D:M+6*B+10<=3990){Q:PV->Prop}(q:Q (Ho (spotC cs m))):Ei [v,fr m] Q:=by
 obtain⟨f,t,hv⟩:=hv;have m1:=s.mono (n:=4000) (by omega);cases cs with
 | nil=>exact absurd rfl C
 | cons a r=>
   have E:=hc a (by simp);have F:=E.m.mono (n:=4000) (by omega);simp only[spotC] at q;have G:r.length+1<=1000:=hl;have u:∀(c:C4) (P:PV->Prop),P (fr c.1)->Wc (f c) λys=>c5 (JA ys 0) P:=λc P H=>by rcases t with rfl|rfl <;> exact H
   rcases hv with rfl|rfl;all_goals
    refine HA (k:=0) (c:=a) rfl rfl (u a _ ⟨rfl,Bt m1 F ?_⟩);refine Fu (b:=decide (m<a.1)) (λz=> ?_) (λz=> ?_)
    .rw [AAU (ABX z)] at q;exact q
    .rw [AAS (ABY z)] at q;have i:∀f:C4->PV,((((a::r).map f).length:Nat):Int)=r.length+1:=λf=>by simp
     refine⟨⟨by decide,by decide,by rw[i];omega,by rw[i];omega⟩, ?_⟩;rw[i,show ((r.length:Int)+1-1).toNat=r.length by omega];refine JD (λw τ=>∃(k:Nat) (j:ke AV) (c:C4) (ds:km C4),w=rng ((k:Int)+1) ds.length/\(a::r)[k]? =some c/\(a::r).drop (k+1)=ds/\spotG c ds m=spotG a r m/\τ= [some (.val _),some (.val (fr m)),j]) ?_ ?_ _ _ ⟨0,none,a,r,rfl,rfl,rfl,rfl,rfl⟩
     .rintro τ ⟨k,j,c,ds,g,h,o,es,rfl⟩;have:ds= [] :=by
       cases ds with
       | nil=>rfl
       | cons d ds=>rw[AAv,L8] at g;cases g
      subst this;rw[<-es] at q;exact q
     .rintro x w τ R I ⟨k,j,c,ds,g,h,o,es,rfl⟩;cases ds with
      | nil=>cases g
      | cons d ds=>
        rw[AAv,L8] at g;cases g;have e:(a::r)[k+1]? =some d:=by have:=congrArg (λl=>l[0]?) o;simpa[AC1] using this
        have y:=hc d (AA9 e);have J:=hc c (AA9 h);refine HA (k:=k+1) (by omega) e (u d _ ⟨rfl,Bt (y.m.mono (by omega)) m1 ?_⟩);refine Fu (b:= !decide (d.1<m)) (λz=> ?_) (λz=> ?_)
        .have p:¬d.1<m:=by simpa using z
         rw[<-es] at q;simp only[spotG,AAS p,Ho] at q;exact HA (k:=k) (by omega) h (HA (k:=k+1) (by omega) e ⟨rfl,LP t J y s (kZ A h e) D q⟩)
        .have p:d.1<m:=by simpa using z
         refine I _ ⟨k+1,_,d,ds, ?_,e, ?_, ?_,rfl⟩
         .rw [show (((k+1:Nat):Int)+1)=(k:Int)+1+1 by omega]
         .have:=congrArg List.tail o;simpa[List.tail_drop] using this
         .rw [<-es];simp only[spotG,AAU p]
theorem Qy {m:Rat}:∀{a:C4} {r:km C4},KF (a::r)->(∀l,(a::r).getLast?=some l->l.1<m)->spotG a r m=none
 | a, [],_,_=>rfl
 | a,b::r,hr,h=>by
   have d:KF (b::r):=(AAZ.mp hr).2;have hb:b.1<m:=by
    cases r with
    | nil=>exact h b rfl
    | cons c r=> obtain⟨l,hl⟩:∃l,(c::r).getLast?=some l:=⟨_,AC2 (by simp)⟩;have h1:l.1<m:=h l (by simpa[AC3] using hl);have h2:b.1<l.1:=(AAZ.mp d).1 l (ABf hl);grind
   simp only[spotG,AAU hb];exact Qy d λl hl=>h l (by simpa[AC3] using hl)
def WG {a b:C4}(h:a.1<b.1):inter a b a.1=a.2:=by
 have s:(a.1-a.1)/(b.1-a.1)=0:=by grind
 simp only[inter,s];obtain⟨m,x,y,z⟩:=a;show (x+0*(b.2.1-x),y+0*(b.2.2.1-y),z+0*(b.2.2.2-z))=(x,y,z);rw[show x+0*(b.2.1-x)=x by grind,show y+0*(b.2.2.1-y)=y by grind,show z+0*(b.2.2.2-z)=z by grind]
def P9 {a b:C4}(h:a.1<b.1):inter a b b.1=b.2:=by
 have s:(b.1-a.1)/(b.1-a.1)=1:=by grind
 simp only[inter,s];obtain⟨m,x,y,z⟩:=b;show (a.2.1+1*(x-a.2.1),a.2.2.1+1*(y-a.2.2.1),a.2.2.2+1*(z-a.2.2.2))=(x,y,z);rw[show a.2.1+1*(x-a.2.1)=x by grind,show a.2.2.1+1*(y-a.2.2.1)=y by grind,show a.2.2.2+1*(z-a.2.2.2)=z by grind]
def W3 {a:C4}{r:km C4}{m:Rat}(h:m<a.1):spotC (a::r) m=none:=by simp only[spotC,AAU h]
def U0 {a:C4}{r:km C4}{m:Rat}(b:KF (a::r))(h:∀l,(a::r).getLast?=some l->l.1<m):spotC (a::r) m=none:=by
 simp only[spotC];split
 .rfl
 .exact Qy b h
def LI:AS:=
 (AZ (As (Eb (CA (Hl (A1 (AB (aC (.int 1)) (AB (aC (.int 2)) (AB (aC (.int 3)) AL))))) 1 [4,3,2] (Ar 0) Dh (AN 2 BU (AB (aV 1) (AB (AN 2 Bh (AB (AX Ai (aV 2) (aV 0)) (AB (AX Ai (aV 3) (aV 0)) AL))) AL))))) (Ar 5))
   (Ak (DD Bw (AB (Eb (CA (RM (AB (aC (.int 3)) AL)) 1 [2,5] (Ar 0) Dh (AN 2 B6 (AB (AX Ai (aV 1) (AX BQ (aV 0) (aC (.int 1)))) (AB (AX Ai (aV 2) (aV 0)) AL))))) AL))))
def PJ:AS:=
 (AZ (As (AN 2 CB (AB (AN 2 Bh (AB (aV 1) (AB (AX Ai (aV 2) (aC (.int 0))) AL))) (AB (AN 2 Bh (AB (AX Ai (aV 3) (aC (.int 0))) (AB (AX Ai (aV 2) (aC (.int 0))) AL))) AL))) (Ar 4))
   LI)
def PK:AS:=
 (AZ (FO (nD (AB (aV 0) (AB (XF (aV 0) (XH (aC (.int 1))) XG) AL))) (IM 2 (Ae (Ar 2) (Ae (Ar 3) Bu))) (BD (Bc (Ag (AN 2 Am (AB (AX Ai (aV 3) (aC (.int 0))) (AB (aV 1) AL))))) PJ Ay))
   (Ak (aC .non)))
def VF:AS:=
 (AZ (BD (DI (Ag (AN 2 Am (AB (aV 1) (AB (AX Ai (AX Ai (aV 0) (aC (.int 0))) (aC (.int 0))) AL)))) (Ag (AN 2 Am (AB (AX Ai (AX Ai (aV 0) (LZ El (aC (.int 1)))) (aC (.int 0))) (AB (aV 1) AL))))) (Ak (aC .non)) Ay)
   PK)
def DO:AF:=Av 6 VF
def Ck {cs:km C4}{B M:Nat}{m:Rat}(hc:∀c∈cs,EF B c)(D:KF cs)(H:cs≠ [])(hl:cs.length<=1000)(p:Bd M m)(O:M+6*B+10<=3990){Q:PV->Prop}(q:Q (Ho (spotC cs m))):DO [An cs,fr m] Q:=by
 have m1:=p.mono (n:=4000) (by omega);cases cs with
 | nil=>exact absurd rfl H
 | cons a r=>
   have I:=hc a (by simp);have J:=I.m.mono (n:=4000) (by omega);obtain⟨l,t⟩:∃l,(a::r).getLast?=some l:=⟨_,AC2 (by simp)⟩;have K:=hc l (ABf t);refine HA (f:=cor) (k:=0) (c:=a) rfl rfl ⟨rfl,Bt m1 J ?_⟩;refine Fu (b:=decide (m<a.1)) (λz=> ?_) (λz=> ?_)
   .rw [W3 (ABX z)] at q;exact q
   refine Li (f:=cor) t ⟨rfl,Bt (K.m.mono (by omega)) m1 ?_⟩;refine Fu (b:=decide (l.1<m)) (λj=> ?_) (λj=> ?_)
   .rw [U0 D (λP E=>by rw[t] at E;cases E;exact ABX j)] at q;exact q
   simp only[spotC,AAS (ABY z)] at q;have L:r.length+1<=1000:=hl;refine aA (cs:=a::r) (i:=1) (k:=1) rfl (by simp) ?_;refine JD (λF τ=>∃(c:C4) (ds:km C4) (j u v w:ke AV),F=Fv ((c::ds).map cor) (ds.map cor)/\KF (c::ds)/\(∀d∈c::ds,EF B d)/\spotG c ds m=spotG a r m/\τ= [some (.val (An (a::r))),some (.val (fr m)),j,u,v,w]) ?_ ?_ _ _ ⟨a,r,none,none,none,none,rfl,D,hc,rfl,rfl⟩
   .rintro τ ⟨c,ds,j,u,v,w,o,A,hb,es,rfl⟩;have:ds= [] :=by cases ds with | nil=>rfl|cons d ds=>cases o
    subst this;rw[<-es] at q;exact q
   .rintro x F τ R N ⟨c,ds,j,u,v,w,o,A,hb,es,rfl⟩;cases ds with
    | nil=>cases o
    | cons d ds=>
      cases o;have g:=hb c (by simp);have h:=hb d (by simp);have G:=(AAZ.mp A).1 d (by simp);refine⟨rfl,rfl,Bt (h.m.mono (by omega)) m1 ?_⟩;refine Fu (b:= !decide (d.1<m)) (λz=> ?_) (λz=> ?_)
      .have C:¬d.1<m:=by simpa using z
       rw[<-es] at q;simp only[spotG,AAS C,Ho,qO,inter] at q;have s:=Bd.share g h p G;refine⟨rfl,C9 m1 (g.m.mono (by omega)) ⟨rfl,C9 (h.m.mono (by omega)) (g.m.mono (by omega)) ⟨rfl,Hg (U4 G) ((p.sub g.m).mono (by omega)) ((h.m.sub g.m).mono (by omega)) ?_⟩⟩⟩;refine⟨lz,lz, ?_⟩;refine⟨rfl,C9 (h.x.mono (by omega)) (g.x.mono (by omega)) ⟨rfl,DF (s.mono (by omega)) ((h.x.sub g.x).mono (by omega)) ?_⟩⟩;refine⟨rfl,C9 (h.y.mono (by omega)) (g.y.mono (by omega)) ⟨rfl,DF (s.mono (by omega)) ((h.y.sub g.y).mono (by omega)) ?_⟩⟩;refine⟨rfl,C9 (h.z.mono (by omega)) (g.z.mono (by omega)) ⟨rfl,DF (s.mono (by omega)) ((h.z.sub g.z).mono (by omega)) ?_⟩⟩;refine⟨⟨by decide,by decide⟩,lz, ?_⟩;refine⟨rfl,Ds (g.x.mono (by omega)) ((s.mul (h.x.sub g.x)).mono (by omega)) ?_⟩;refine⟨rfl,Ds (g.y.mono (by omega)) ((s.mul (h.y.sub g.y)).mono (by omega)) ?_⟩;exact⟨rfl,Ds (g.z.mono (by omega)) ((s.mul (h.z.sub g.z)).mono (by omega)) q⟩
      .have C:d.1<m:=by simpa using z
       exact N _ ⟨d,ds,_,_,_,_,rfl,(AAZ.mp A).2,λe he=>hb e (by simp[he]),by rw[<-es];simp only[spotG,AAU C],rfl⟩
def m7.t3 {t:T3}(h:Ea 1900 t):m7 (qO t):=(Sh.tup (sN (Sh.fr h.x) (Sh.fr h.y) (Sh.fr h.z))).go (by decide) lz
def sp (cs:km C4)(m:Rat):C4:=(m,(spotC cs m).getD (0,0,0))
def Mw (f t:Rat)(c:C4):kc:=decide (f<c.1)&&decide (c.1<t)
theorem Qz {m:Rat}:∀{a:C4} {r:km C4} {l:C4},r≠ [] ->(a::r).getLast?=some l->m<=l.1->∃t,spotG a r m=some t
 | a, [],l,h,_,_=>absurd rfl h
 | a,b::r,l,_,e,hm=>by
   simp only[spotG];split
   .rename_i h;cases r with
    | nil=>
      have:b=l:=by simpa using e
      subst this;grind
    | cons c r=>exact Qz (l:=l) (by simp) (by simpa[AC3] using e) hm
   .exact ⟨_,rfl⟩
def HS {a:C4}{r:km C4}{l:C4}{m:Rat}(h2:r≠ [])(e:(a::r).getLast?=some l)(b:a.1<=m)(h1:m<=l.1):∃t,spotC (a::r) m=some t:=by simp only[spotC];rw[AAS (by grind)];exact Qz h2 e h1
def bS {a b l:C4}{r:km C4}(e:(a::b::r).getLast?=some l):(b::r).getLast?=some l:=by simpa[AC3] using e
def mx (b a:Rat):Rat:=if b<a then a else b
def mn (e l:Rat):Rat:=if e<l then e else l
def O7:AS:=
 (Ak (ib (Ag (AN 2 Am (AB (aV 0) (AB (aV 1) AL)))) (aV 1) (aV 0)))
def DM:AF:=Av 2 O7
def LN {a b:Rat}(ha:Bd 4000 a)(hb:Bd 4000 b){Q:PV->Prop}(q:Q (fr (mx a b))):DM [fr a,fr b] Q:=by
 refine⟨rfl,Bt ha hb ?_⟩;refine Fu (b:=decide (a<b)) (λz=> ?_) (λz=> ?_)
 .rw [mx,AAU (ABX z)] at q;exact q
 .rw [mx,AAS (ABY z)] at q;exact q
def dA:AS:=
 (Ak (ib (Ag (AN 2 Am (AB (aV 1) (AB (aV 0) AL)))) (aV 1) (aV 0)))
def Fb:AF:=Av 2 dA
def Vk {a b:Rat}(ha:Bd 4000 a)(hb:Bd 4000 b){Q:PV->Prop}(q:Q (fr (mn a b))):Fb [fr a,fr b] Q:=by
 refine⟨rfl,Bt hb ha ?_⟩;refine Fu (b:=decide (b<a)) (λz=> ?_) (λz=> ?_)
 .have c:=ABX z;rw[show mn a b=b by unfold mn;split <;> grind] at q;exact q
 .have c:=ABY z;rw[show mn a b=a by unfold mn;split <;> grind] at q;exact q
theorem D5 {i:Type}{g:AG}{j:AT}{te:AE}{d:BN}{Q:km PV->Prop}(f k:i->PV)(p:i->kc)(P:i->Prop)(hs:∀a,P a->∀(R:PV->Prop) (N:Prop),(p a=true->R (k a))->(p a=false->N)->g (f a) d λe=>j e λok=>if ok=true then te e R else N):∀(xs:km i) (c:km PV),(∀a∈xs,P a)->Q (c++(xs.filter p).map k)->De g j te d Q (xs.map f) c
 | [],c,_,h=>(by simpa using h:Q c)
 | a::xs,c,hp,h=>by
   refine hs a (hp a (by simp)) (λy=>De g j te d Q (xs.map f) (c ++ [y])) _ (λz=> ?_) (λz=> ?_)
   .exact D5 f k p P hs xs _ (λb hb=>hp b (by simp[hb])) (by simpa[ABZ,z] using h)
   .exact D5 f k p P hs xs _ (λb hb=>hp b (by simp[hb])) (by simpa[ABZ,z] using h)
def both {f t:Rat}{c:C4}{b:(kc->Prop)->Prop}{A:Prop}{N:Prop}(h1:Mw f t c=true->A)(h2:Mw f t c=false->N):if decide (f<c.1)=true then (if decide (c.1<t)=true then A else N) else N:=by unfold Mw at h1 h2;refine Fu (λz=>Fu (λa=>h1 (by rw[z,a];rfl)) (λa=>h2 (by rw[z,a];rfl))) (λz=>h2 (by rw[z];rfl))
def LJ:AS:=
 (Ak (Eb (CA (Hl (aV 0)) 1 [1,2] (Ar 0) (Hk (Ag (AN 2 Am (AB (aV 1) (AB (AX Ai (aV 0) (aC (.int 0))) AL)))) (Ag (AN 2 Am (AB (AX Ai (aV 0) (aC (.int 0))) (AB (aV 2) AL))))) (DD Bw (AB (aV 0) AL)))))
def CY:AF:=Av 3 LJ
def E1 {cs:km C4}{v:PV}{B:Nat}{f t:Rat}(hv:CP cs v)(hl:cs.length<=1000)(hc:∀c∈cs,EF B c)(h:B<=4000)(i:Bd 4000 f)(j:Bd 4000 t){Q:PV->Prop}(q:Q (.lst ((cs.filter (Mw f t)).map cor))):CY [v,fr f,fr t] Q:=by
 obtain⟨g,k,hv⟩:=hv;have a:(cs.map g).length<sizeLine:=by rw[AAb];exact ABW hl (by decide)
 have key:∀(c:C4),EF B c->∀(R:PV->Prop) (N:Prop),(Mw f t c=true->R (cor c))->(Mw f t c=false->N)->
  (Ar 0) (g c) [none,some (.val (fr f)),some (.val (fr t))] λd=>(Hk (Ag (AN 2 Am (AB (aV 1) (AB (AX Ai (aV 0) (aC (.int 0))) AL)))) (Ag (AN 2 Am (AB (AX Ai (aV 0) (aC (.int 0))) (AB (aV 2) AL))))) d λok=>if ok=true then (DD Bw (AB (aV 0) AL)) d R else N:=by
  intro c l R N h1 h2;have bm:=l.m.mono h;rcases k with rfl|rfl;all_goals
   refine⟨rfl,Bt i bm ?_⟩;refine Fu (b:=decide (f<c.1)) (λz=> ?_) (λz=>h2 (by unfold Mw;rw[z];rfl));refine⟨rfl,Bt bm j ?_⟩;exact Fu (b:=decide (c.1<t)) (λe=>h1 (by unfold Mw;rw[z,e];rfl)) (λe=>h2 (by unfold Mw;rw[z,e];rfl))
 rcases hv with rfl|rfl
 .exact ⟨a,D5 g cor (Mw f t) (EF B) key cs [] hc q⟩
 .exact ⟨a,D5 g cor (Mw f t) (EF B) key cs [] hc q⟩
def Bd.mx {n:Nat}{a b:Rat}(ha:Bd n a)(hb:Bd n b):Bd n (mx a b):=by unfold PL.mx;split <;> assumption
def Bd.mn {n:Nat}{a b:Rat}(ha:Bd n a)(hb:Bd n b):Bd n (mn a b):=by unfold PL.mn;split <;> assumption
section
variable {a b:AS}{ta tb:AE}{tt tu:AT}{g:AG}{gs:XM}{nx bk ct:BN->Prop}{rt:PV->Prop}{τ:BN}{Q:PV->Prop}{QB:kc->Prop}{QL:km PV->Prop}{QT:BN->Prop}{r:AA}{ai:AI}{F:AF}{n i j:Nat}{x y z:PV}{xs ys:km PV}
def tS {f:Hw}(e:VB τ i=some (.val x))(h:ta τ λy=>f x y λz=>nx (τ.set i (some (.val z)))):Xa i f ta ⟨nx,rt,bk,ct⟩ τ:=by unfold Xa;rw[e];exact h
def tj (e:VB τ i=some (.own xs))(h:QL xs):OI i τ QL:=by unfold OI;rw[e];exact h
def s_V (e:VB τ i=some (.val x))(h:Q x):aV i τ Q:=by unfold aV;rw[e];exact h
def yi (x:PV)(i:Int):ke PV:=match x with | .tup xs=>JA xs i | .lst xs=>JA xs i|_=>none
def wg {i:Int}(e:yi x i=some z)(h:Q z):Ai x (.int i) Q:=by cases x <;> first | (cases e;done)|(show c5 (JA _ i) Q;rw[show JA _ i=some z from e];exact h)
def gv {a:C4}{cs:km C4}(h:Q (cor a)):Ai (An (a::cs)) (.int 0) Q:=HA (k:=0) (c:=a) rfl rfl h
def pP {l:C4}{cs:km C4}(c:cs.getLast?=some l)(h:Q (cor l)):Ai (An cs) (.int (-1)) Q:=Li c h
def tT {a b:Rat}(h:Q (.bl (decide (a=b)))):GM (fr a) (fr b) Q:=⟨⟨Zq 29 _,Zq 29 _⟩,by rw[KM];exact h⟩
def tZ {a b:Rat}(h:Q (.bl (!decide (a=b)))):Lh (fr a) (fr b) Q:=⟨⟨Zq 29 _,Zq 29 _⟩,by rw[KM];exact h⟩
def pQ {cs:km C4}(h:Q (.int cs.length)):EJ [An cs] Q:=by show Q (.int (cs.map cor).length);rw[AAb];exact h
def tY {T:String}{k:Kd}(c:IS T)(e:kdOf x=some k)(h:Q (.bl (JX k T))):M5 [x, .ty T] Q:=by refine⟨c, ?_⟩;rw[e];exact h
def mN {g:km kc->kc}{bs:km kc}(e:Lc xs=some bs)(h:Q (.bl (g bs))):Tp g [.lst xs] Q:=by show (match Lc xs with | some bs=>Q (.bl (g bs))|none=>False);rw[e];exact h
def tV {c:kc}{A B:Prop}(e:c=true)(h:A):if c=true then A else B:=by rw[AAU e];exact h
def tU {c:kc}{A B:Prop}(e:c=false)(h:B):if c=true then A else B:=by rw[AAS (by rw[e];exact AAg)];exact h
def tW {p:Prop}[Decidable p]{A B:Prop}(h1:p->A)(h2:¬p->B):if decide p=true then A else B:=by
 by_cases h:p
 .rw [AAU (AAi h)];exact h1 h
 .rw [AAS (by simp[h])];exact h2 h
def tX {p:Prop}[Decidable p]{A B:Prop}(h1:¬p->A)(h2:p->B):if (!decide p)=true then A else B:=by
 by_cases h:p
 .rw [AAS (by simp[h])];exact h2 h
 .rw [AAU (by simp[h])];exact h1 h
end
def qG:Bd 1 (0:Rat):=⟨by decide,by decide⟩
def jD:Bd 1 (1:Rat):=⟨by decide,by decide⟩
section
variable {g:AG}{b:AS}{nx bk ct:BN->Prop}{rt:PV->Prop}
def Tl (P:Nat->BN->Prop){lo:Int}{n:Nat}(hd:∀τ,P n τ->nx τ)(hs:∀i,i<n->∀τ (R:BN->Prop),(∀τ,P (i+1) τ->R τ)->P i τ->g (.int (lo+i)) τ λc=>b ⟨R,rt,nx,R⟩ c){τ:BN}(f:P 0 τ):DG g b ⟨nx,rt,bk,ct⟩ (rng lo n) τ:=by
 refine JD (λr τ=>∃i,i<=n/\r=rng (lo+i) (n-i)/\P i τ) ?_ ?_ _ _ ⟨0,ABO _,by simp,f⟩
 .rintro τ ⟨i,hi,a,hp⟩;have:n-i=0:=by
   cases e:n-i with
   | zero=>rfl
   | succ k=>rw[e,L8] at a;cases a
  have:i=n:=by omega
  subst this;exact hd τ hp
 .rintro x r τ R h ⟨i,hi,a,hp⟩;cases e:n-i with
  | zero=>rw[e] at a;cases a
  | succ k=> rw[e,L8] at a;cases a;exact hs i (by omega) τ R (λd h2=>h d ⟨i+1,by omega,by rw[show n-(i+1)=k by omega,show lo+((i+1:Nat):Int)=lo+i+1 by omega],h2⟩) hp
def EU {d:Type}(f:d->PV)(P:km d->km d->BN->Prop){cs:km d}(hd:∀τ,P cs [] τ->nx τ)(hs:∀a c vs,a++c::vs=cs->∀τ (R:BN->Prop),(∀τ,P (a ++ [c]) vs τ->R τ)->P a (c::vs) τ->g (f c) τ λi=>b ⟨R,rt,nx,R⟩ i){τ:BN}(k:P [] cs τ):DG g b ⟨nx,rt,bk,ct⟩ (cs.map f) τ:=by
 refine JD (λr τ=>∃a vs,a++vs=cs/\r=vs.map f/\P a vs τ) ?_ ?_ _ _ ⟨[],cs,rfl,rfl,k⟩
 .rintro τ ⟨a,vs,e,h,hp⟩;cases vs with
  | nil=>rw[ABb] at e;subst e;exact hd τ hp
  | cons v vs=>cases h
 .rintro x r τ R l ⟨a,vs,e,h,hp⟩;cases vs with
  | nil=>cases h
  | cons c vs=> cases h;exact hs a c vs e τ R (λj h2=>l j ⟨a ++ [c],vs,by simpa using e,rfl,h2⟩) hp
def uO {c:AT}(P:Nat->BN->Prop)(hs:∀n τ (R:BN->Prop),(∀τ,P n τ->R τ)->P (n+1) τ->c (frz τ) λk=>if k=true then b ⟨R,rt,nx,R⟩ τ else nx τ)(a:∀τ,¬P 0 τ){n:Nat}{τ:BN}(d:P n τ):Ms c b ⟨nx,rt,bk,ct⟩ τ:=
 ⟨n,Y2 P a (λn τ R e hp=>hs n τ R e hp) n τ d⟩
end
end PL
namespace PL
section
variable {p:Prop}[Decidable p]{A B:Prop}
def pO (h:¬p)(a:B):if decide p=true then A else B:=by rw[AAS (by simp[h])];exact a
end
end PL
namespace PL
open PySem PySem.Spec PyProof.Rows L2
section
variable {K:AAR}{T M:kf->Prop}{H:Hp}
inductive KR (K:AAR):List Value->List PV->Prop where
 | nil:KR K [] []
 | cons {u:Value} {x:PV} {us:List Value} {xs:List PV} (h:∃V,RelV V u/\∀T M H,Cp K T M H V x) (t:KR K us xs):KR K (u::us) (x::xs)
def KR.length:∀{a:km kj} {xs:km PV},KR K a xs->a.length=xs.length
 | _,_, .nil=>rfl
 | _,_, .cons _ t=>by simp[t.length]
end
def i4 (K:AAR)(d:kf):km (Str×PV)->Prop
 | [] =>True
 | p::r=>(∃(u:kj) (V:V),PySem.W.nsIn K d p.1=some (some u)/\RelV V u/\∀T M H,Cp K T M H V p.2)/\i4 K d r
theorem i4.get {K:AAR}{d:kf}:∀{c:km (Str×PV)},i4 K d c->∀s v,c.lookup s=some v->∃(u:kj) (V:V),PySem.W.nsIn K d s=some (some u)/\RelV V u/\∀T M H,Cp K T M H V v
 | [],_,s,v,e=>by cases e
 | (a,b)::r,h,s,v,e=>by
   rw[ACv] at e;split at e
   .rename_i hb;cases e;have:s=a:=eq_of_beq hb;subst this;exact h.1
   .exact i4.get h.2 s v e
section
variable {X:Cx}
def l8 (x:PV)(xs:km PV):kc:=xs.any λy=>G9 y x
def lh (neg:kc):Hw:=λx y Q=>Wc y λys=>(D2 29 x=true/\Hz 29 ys=true)/\Q (.bl (if neg then !l8 x ys else l8 x ys))
def kW (K:AAR)(neg:kc):R2:=λu v H Q=>∃(T M:kf->Prop) (x y:PV) (ys:km PV),Cp K T M H u x/\Cp K T M H v y/\(y= .tup ys\/y= .lst ys)/\D2 29 x=true/\Hz 29 ys=true/\Q (.bl (if neg then !l8 x ys else l8 x ys)) H
def Zt (xs:km PV)(x:PV):(Nx xs).any (λy=>PyData.eqv y (pd x))=l8 x xs:=by
 induction xs with
 | nil=>rfl
 | cons y ys ih=>simp only[Nx,ABP,ih,l8,G9]
def oh {k:Nat}(e:Room k X.A):ET X (compareOp .In) (kW X.K false):=by
 intro Tb s i H u v j l Q I f rv h;obtain⟨T,M,x,y,ys,g,b,hy,c,ky,q⟩:=h;obtain⟨as,ra⟩:=E3 I 29 g c f;obtain⟨d,m,_⟩:=JG 29 x c;obtain⟨b1,b2,_⟩:=L0 29 ys ky;have hu:X.A.units+1+min (PyData.depthAll (Nx ys)) (pd x).depth<cLine:=by have:=e.un;omega
 rcases hy with rfl|rfl
 .obtain ⟨bs,a⟩:=E3 I 30 b (by simpa[D2] using ky) rv;exact SeqAt.in_tuple_reads a ra b1 d hu (by rw[Zt];exact⟨.bl _,H,I,rfl,q⟩)
 .obtain ⟨bs,a⟩:=E3 I 30 b (by simpa[D2] using ky) rv;exact SeqAt.in_list_reads a ra b1 d hu (by rw[Zt];exact⟨.bl _,H,I,rfl,q⟩)
def lB {neg:kc}:B9 X.K (kW X.K neg) (lh neg):=λT M H u v x y Q b va a rv h k=>by obtain⟨ys,hy,h1,q⟩:=KU h;exact⟨T,M,x,y,ys,a,rv,hy,h1.1,h1.2,k _ _ T H (.refl va.tp) (.bl _) q⟩
def iC {k:Nat}(a:Room k X.A):ET X (compareOp .In) (kW X.K false)/\B9 X.K (kW X.K false) (lh false):=⟨oh a,lB⟩
end
end PL
namespace PL
open PySem L2 PyProof.Rows
class Wp (P:Prop) (P':outParam Prop):Prop where
 go:P'->P
class Q6 (P:Prop) (C P':outParam Prop):Prop where
 go:C->P'->P
class qw (P:Prop) (P':outParam Prop):Prop where
 go:P'->P
class vY (P:Prop) (A B:outParam Prop):Prop where
 go:A->B->P
class lW (τ:BN) (i:Nat) (x:outParam AV):Prop where
 e:VB τ i=some x
instance n_0 {v:AV}{r:BN}:lW (some v::r) 0 v:=⟨rfl⟩
instance n_1 {y:ke AV}{r:BN}{i:Nat}{v:AV}[h:lW r i v] :lW (y::r) (i+1) v:=⟨h.e⟩
class dU (τ:BN) (i:Nat) (v:AV) (τ':outParam BN):Prop where
 e:τ.set i (some v)=τ'
instance ABp {y:ke AV}{r:BN}{v:AV}:dU (y::r) 0 v (some v::r):=⟨rfl⟩
instance ABq {y:ke AV}{r a:BN}{i:Nat}{v:AV}[h:dU r i v a] :dU (y::r) (i+1) v (y::a):=⟨by rw[ACo,h.e]⟩
class cw (τ:BN) (τ':outParam BN):Prop where
 e:frz τ=τ'
instance AA3:cw [] [] :=⟨rfl⟩
instance (priority:=low) AA7 {z:ke AV}{r a:BN}[h:cw r a] :cw (z::r) (jL z::a):=⟨by rw[<-h.e];rfl⟩
instance AA4 {r a:BN}[h:cw r a] :cw (none::r) (none::a):=⟨by rw[<-h.e];rfl⟩
instance AA6 {x:PV}{r a:BN}[h:cw r a] :cw (some (.val x)::r) (some (.val x)::a):=⟨by rw[<-h.e];rfl⟩
instance AA5 {x:km PV}{r a:BN}[h:cw r a] :cw (some (.own x)::r) (some (.val (.lst x))::a):=⟨by rw[<-h.e];rfl⟩
class qe (ix:List Nat) (τ:BN) (τ':outParam BN):Prop where
 e:(ix.map λi=>af (VB τ i))=τ'
instance b_0 {τ:BN}:qe [] τ [] :=⟨rfl⟩
instance b_1 {τ r:BN}{i:Nat}{ix:km Nat}{x:PV}[h:lW τ i (.val x)][h2:qe ix τ r] :qe (i::ix) τ (some (.val x)::r):=⟨by rw[AAc,h.e,h2.e];rfl⟩
class qt (n:Nat) (τ:outParam BN):Prop where
 e:List.replicate n none=τ
instance r_0:qt 0 [] :=⟨rfl⟩
instance r_1 {n:Nat}{τ:BN}[h:qt n τ] :qt (n+1) (none::τ):=⟨by rw[List.replicate_succ,h.e]⟩
class dB (xs ys:BN) (zs:outParam BN):Prop where
 e:xs++ys=zs
instance c_0 {ys:BN}:dB [] ys ys:=⟨rfl⟩
instance c_1 {x:ke AV}{xs ys a:BN}[h:dB xs ys a] :dB (x::xs) ys (x::a):=⟨by rw[AEn,h.e]⟩
class dC (xs ys:List PV) (zs:outParam (List PV)):Prop where
 e:xs++ys=zs
instance AA1 {ys:km PV}:dC [] ys ys:=⟨rfl⟩
instance AA2 {x:PV}{xs ys a:km PV}[h:dC xs ys a] :dC (x::xs) ys (x::a):=⟨by rw[AEn,h.e]⟩
class i6 (xs:List PV) (n:outParam Nat):Prop where
 e:xs.length=n
instance ABl:i6 [] 0:=⟨rfl⟩
instance ABm {x:PV}{xs:km PV}{n:Nat}[h:i6 xs n] :i6 (x::xs) (n+1):=⟨by rw[AAv,h.e]⟩
class Ix (x:PV) (i:Int) (y:outParam PV):Prop where
 e:yi x i=some y
class AtN (xs:List PV) (n:Nat) (y:outParam PV):Prop where
 e:xs[n]? =some y
section
variable {a b:AS}{ta tb:AE}{tt tu:AT}{g:AG}{gs:XM}{nx bk ct:BN->Prop}{rt:PV->Prop}{τ τ' τ2:BN}{Q:PV->Prop}{QB:kc->Prop}{QL:km PV->Prop}{QT:BN->Prop}{r:AA}{ai:AI}{F:AF}{n i j:Nat}{x y z:PV}{xs ys zs:km PV}
instance uq {c:PV}{q:km PV}:Ix (.tup (c::q)) 0 c:=⟨Ci (j:=0) rfl⟩
instance uj {c:PV}{q:km PV}:Ix (.lst (c::q)) 0 c:=⟨Ci (j:=0) rfl⟩
instance ur {c p1:PV}{q:km PV}:Ix (.tup (c::p1::q)) 1 p1:=⟨Ci (j:=1) rfl⟩
instance uk {c p1:PV}{q:km PV}:Ix (.lst (c::p1::q)) 1 p1:=⟨Ci (j:=1) rfl⟩
instance ut {c p1 p2:PV}{q:km PV}:Ix (.tup (c::p1::p2::q)) 2 p2:=⟨Ci (j:=2) rfl⟩
instance um {c p1 p2:PV}{q:km PV}:Ix (.lst (c::p1::p2::q)) 2 p2:=⟨Ci (j:=2) rfl⟩
instance uv {d p1 p2 c:PV}{q:km PV}:Ix (.tup (d::p1::p2::c::q)) 3 c:=⟨Ci (j:=3) rfl⟩
instance uo {d p1 p2 c:PV}{q:km PV}:Ix (.lst (d::p1::p2::c::q)) 3 c:=⟨Ci (j:=3) rfl⟩
instance yp {q:Rat}:Ix (fr q) 0 (.int q.num):=⟨rfl⟩
instance yq {q:Rat}:Ix (fr q) 1 (.int q.den):=⟨rfl⟩
instance yk {c:C4}:Ix (cor c) 0 (fr c.1):=⟨rfl⟩
instance ym {c:C4}:Ix (cor c) 1 (fr c.2.1):=⟨rfl⟩
instance yn {c:C4}:Ix (cor c) 2 (fr c.2.2.1):=⟨rfl⟩
instance yo {c:C4}:Ix (cor c) 3 (fr c.2.2.2):=⟨rfl⟩
def vd {f:C4->PV}{c:C4}{cs:km C4}:JA ((c::cs).map f) 0=some (f c):=Ci (j:=0) rfl
instance yr {c:C4}{cs:km C4}:Ix (An (c::cs)) 0 (cor c):=⟨vd⟩
instance AAA:Wp (AZ a b ⟨nx,rt,bk,ct⟩ τ) (a ⟨b ⟨nx,rt,bk,ct⟩,rt,bk,ct⟩ τ):=⟨id⟩
instance zH:Wp (As ta g ⟨nx,rt,bk,ct⟩ τ) (ta τ λx=>g x τ nx):=⟨id⟩
instance zy [h:cw τ τ'] :Wp (Ak ta ⟨nx,rt,bk,ct⟩ τ) (ta τ' rt):=⟨λk=>by unfold Ak;rw[h.e];exact k⟩
instance w_next:Wp (Ay ⟨nx,rt,bk,ct⟩ τ) (nx τ):=⟨id⟩
instance zQ:Wp (BD tt a b ⟨nx,rt,bk,ct⟩ τ) (tt τ λk=>if k=true then a ⟨nx,rt,bk,ct⟩ τ else b ⟨nx,rt,bk,ct⟩ τ):=⟨id⟩
def Rp (τ:BN)(i:Nat)(v:AV)(QT:BN->Prop):Prop:=QT (τ.set i (some v))
instance xl {v:AV}[h:dU τ i v τ'] :Wp (Rp τ i v QT) (QT τ'):=⟨λk=>by unfold Rp;rw[h.e];exact k⟩
instance zj:Wp (KG r i ⟨nx,rt,bk,ct⟩ τ) (r τ λxs=>Rp τ i (.own xs) nx):=⟨id⟩
instance AB1 [h:dU τ i (.val x) τ'] :Wp (Ar i x τ QT) (QT τ'):=⟨λk=>by unfold Ar;rw[h.e];exact k⟩
instance zI {f:Hw}[h:lW τ i (.val x)] :Wp (Xa i f ta ⟨nx,rt,bk,ct⟩ τ) (ta τ λy=>f x y λz=>Rp τ i (.val z) nx):=⟨λk=>tS h.e k⟩
instance zu [h:lW τ i (.own xs)] :Wp (OI i τ QL) (QL xs):=⟨λk=>tj h.e k⟩
instance xU {f:m6}:Wp (FG i f r ⟨nx,rt,bk,ct⟩ τ) (OI i τ λxs=>r τ λys=>f xs ys λzs=>Rp τ i (.own zs) nx):=⟨id⟩
instance zG:Wp (Lw xs [y] QL) (xs.length<sizeLine/\QL (xs ++ [y])):=⟨id⟩
instance wz {k:Int}:Wp (fZ xs [.int k,y] QL) ((0<=k/\k<=(xs.length:Int)/\xs.length<sizeLine)/\QL (xs.take k.toNat++y::xs.drop k.toNat)):=⟨id⟩
instance zM:Wp (FO ai g b ⟨nx,rt,bk,ct⟩ τ) (ai τ λxs=>DG g b ⟨nx,rt,bk,ct⟩ xs τ):=⟨id⟩
instance xC:Wp (DG g b ⟨nx,rt,bk,ct⟩ [] τ) (nx τ):=⟨id⟩
instance xD {q:km PV}:qw (DG g b ⟨nx,rt,bk,ct⟩ (x::q) τ) (g x τ λc=>b ⟨DG g b ⟨nx,rt,bk,ct⟩ q,rt,nx,DG g b ⟨nx,rt,bk,ct⟩ q⟩ c):=⟨id⟩
instance xE:Wp (Bu [] τ QT) (QT τ):=⟨id⟩
instance u6 {t:km PV}:Wp (Ae g gs (x::t) τ QT) (g x τ λτ'=>gs t τ' QT):=⟨id⟩
instance AB2:Wp (IM n gs x τ QT) (Wc x λxs=>xs.length=n/\gs xs τ QT):=⟨id⟩
instance w_V [h:lW τ i (.val x)] :Wp (aV i τ Q) (Q x):=⟨λk=>s_V h.e k⟩
instance w_C:Wp (aC x τ Q) (Q x):=⟨id⟩
instance ACC {f:Hw}:Wp (AX f ta tb τ Q) (ta τ λx=>tb τ λy=>f x y Q):=⟨id⟩
instance ACF {f:PV->(PV->Prop)->Prop}:Wp (LZ f ta τ Q) (ta τ λx=>f x Q):=⟨id⟩
instance w_and:Wp (Tg ta tb τ Q) (ta τ λx=>j6 x λc=>if c=true then tb τ Q else Q (.bl false)):=⟨id⟩
instance AAN:Wp (Ag ta τ QB) (ta τ λx=>j6 x QB):=⟨id⟩
def uz (x:PV)(QB:kc->Prop):Prop:=match lQ x with | some b=>QB b|none=>False
instance AAM:Wp (Vr ta τ QB) (ta τ λx=>uz x QB):=⟨id⟩
instance xp {c:kc}:Wp (uz (.bl c) QB) (QB c):=⟨id⟩
instance qZ:Wp (uz (.tup (x::xs)) QB) (QB true):=⟨id⟩
instance qa {c:Type}[DecidableEq c]{f:c->PV}{cs:km c}:Wp (uz (.tup (cs.map f)) QB) (QB (decide (cs≠ []))):=⟨λh=>by show QB (!(cs.map f).isEmpty);cases cs <;> exact h⟩
instance xa:Wp (Bc tt τ QB) (tt τ λc=>QB (!c)):=⟨id⟩
instance wy:Wp (Hk tt tu τ QB) (tt τ λc=>if c=true then tu τ QB else QB false):=⟨id⟩
instance zt:Wp (DI tt tu τ QB) (tt τ λc=>if c=true then QB true else tu τ QB):=⟨id⟩
instance AB7:Wp (ib tt ta tb τ Q) (tt τ λc=>if c=true then ta τ Q else tb τ Q):=⟨id⟩
instance AAP:Wp (Dh τ QB) (QB true):=⟨id⟩
instance w_bor [h:cw τ τ'] :Wp (Vo ta τ Q) (ta τ' λx=>cz x=true/\Q x):=⟨λk=>by unfold Vo;rw[h.e];exact k⟩
instance w4 [h:cw τ τ'] :Wp (Vp tt τ QB) (tt τ' QB):=⟨λk=>by unfold Vp;rw[h.e];exact k⟩
instance zk:Wp (AL τ QL) (QL []):=⟨id⟩
instance xB:Wp (AB ta r τ QL) (ta τ λx=>r τ λxs=>QL (x::xs)):=⟨id⟩
def cy (xs:km PV)(Q:PV->Prop):Prop:=xs.length<=sizeLine/\Q (.tup xs)
instance AAO:Wp (A1 r τ Q) (r τ λxs=>cy xs Q):=⟨id⟩
instance zU:Wp (DQ r τ QL) (r τ λxs=>xs.length<=sizeLine/\QL xs):=⟨id⟩
instance AB0:Wp (Eb r τ Q) (r τ λxs=>Q (.lst xs)):=⟨id⟩
instance w_call:Wp (AN n F r τ Q) (r τ λxs=>xs.length=n/\F xs Q):=⟨id⟩
instance ABx:Wp (DD F r τ Q) (r τ λxs=>F xs Q):=⟨id⟩
instance xS:Wp (dZ r τ QL) (r τ λxs=>ZY xs QL):=⟨id⟩
instance xA {own:Nat}{ix:km Nat}{te:AE}{c d:BN}[h1:qt own c][h2:qe ix τ d][f:dB c d τ'] :Wp (CA ai own ix g tt te τ QL) (ai τ λxs=>xs.length<sizeLine/\De g tt te τ' QL xs []):=⟨λk=>by unfold CA Lb;rw[h1.e,h2.e,f.e];exact k⟩
instance w6 {te:AE}{c:km PV}:Wp (De g tt te τ QL [] c) (QL c):=⟨id⟩
instance w9 {te:AE}{c q:km PV}:Wp (De g tt te τ QL (x::q) c) (g x τ λd=>tt d λok=>if ok=true then te d λy=>De g tt te τ QL q (c ++ [y]) else De g tt te τ QL q c):=⟨id⟩
instance AB5:Wp (Hl ta τ QL) (ta τ λx=>Wc x QL):=⟨id⟩
instance zN:Wp (RM (AB ta AL) τ QL) (ta τ λx=>gD x λj=>(-(2^62)<=j/\j<2^62)/\QL (rng 0 j.toNat)):=⟨λh=>by have e:(λx=>gD x λj=>(-(2^62)<=j/\j<2^62)/\QL (rng 0 j.toNat))=(λx=>match [x] with | [.int j] =>(-(2^62)<=j/\j<2^62)/\QL (rng 0 j.toNat)|_=>False):=(funext λx=>by cases x <;> rfl);rw[e] at h;exact h⟩
instance zO:Wp (jA (AB ta (AB tb AL)) τ QL) (ta τ λx=>tb τ λy=>cE x y λi j=>(-(2^62)<=i/\i<2^62/\ -(2^62)<=j/\j<2^62)/\QL (rng i (j-i).toNat)):=⟨λh=>by have e:(λx=>tb τ λy=>cE x y λi j=>(-(2^62)<=i/\i<2^62/\ -(2^62)<=j/\j<2^62)/\QL (rng i (j-i).toNat))=(λx=>tb τ λy=>match [x,y] with | [.int i, .int j] =>(-(2^62)<=i/\i<2^62/\ -(2^62)<=j/\j<2^62)/\QL (rng i (j-i).toNat)|_=>False):=(funext λx=>congrArg (tb τ) (funext λy=>by cases x <;> cases y <;> rfl));rw[e] at h;exact h⟩
instance AB6:Wp (nD (AB ta (AB tb AL)) τ QL) (ta τ λx=>tb τ λy=>Wc x λxs=>Wc y λys=>QL (Fv xs ys)):=⟨id⟩
instance zw:Wp (RL i j (AB ta (AB tb AL)) ⟨nx,rt,bk,ct⟩ τ) (ta τ λx=>tb τ λy=>Rp τ i (.val x) λc=>Rp c j (.val y) nx):=⟨id⟩
instance zr {R:Int->Prop}{k:Int}:Wp (gD (.int k) R) (R k):=⟨id⟩
instance xb {R:Int->Int->Prop}{k l:Int}:Wp (cE (.int k) (.int l) R) (R k l):=⟨id⟩
instance zn {R:kc->Prop}{c:kc}:Wp (j6 (.bl c) R) (R c):=⟨id⟩
instance xk:Wp (Wc (.tup xs) QL) (QL xs):=⟨id⟩
instance xi:Wp (Wc (.lst xs) QL) (QL xs):=⟨id⟩
instance xh {q:Rat}:Wp (Wc (fr q) QL) (QL [.int q.num, .int q.den]):=⟨id⟩
instance xj {cs:km C4}:Wp (Wc (An cs) QL) (QL (cs.map cor)):=⟨id⟩
instance w_I {f:Int->Int->PV}{k l:Int}:Wp (fI f (.int k) (.int l) Q) (Q (f k l)):=⟨id⟩
instance ABw {C:Int->Int->Prop}{f:Int->Int->PV}{k l:Int}:Wp (rB C f (.int k) (.int l) Q) (C k l/\Q (f k l)):=⟨id⟩
instance qQ:Wp (Tk .non .non Q) (Q (.bl true)):=⟨id⟩
instance qX:Wp (Nm .non .non Q) (Q (.bl false)):=⟨id⟩
instance qR:Wp (Tk (.tup xs) .non Q) (Q (.bl false)):=⟨id⟩
instance qY:Wp (Nm (.tup xs) .non Q) (Q (.bl true)):=⟨id⟩
instance uN {k:Rat}:Wp (Nm (fr k) .non Q) (Q (.bl true)):=⟨id⟩
instance AB8 {k:Int}[h:Ix x k z] :Wp (Ai x (.int k) Q) (Q z):=⟨λq=>wg h.e q⟩
instance zh {k:Int}:Wp (El (.int k) Q) (Q (.int (-k))):=⟨id⟩
instance w_not {c:kc}:Wp (nN (.bl c) Q) (Q (.bl (!c))):=⟨id⟩
instance ww {k l:Int}:Wp (BQ (.int k) (.int l) Q) (Q (.int (k+l))):=⟨id⟩
instance (priority:=high) u3 [h:dC xs ys zs]{n:Nat}[h2:i6 zs n] :Wp (BQ (.tup xs) (.tup ys) Q) (n<=sizeLine/\Q (.tup zs)):=⟨λk=>⟨by have e:=h2.e;rw[<-h.e,AA8] at e;rw[e];exact k.1,by rw[h.e];exact k.2⟩⟩
instance wx:Wp (BQ (.lst xs) (.lst ys) Q) (xs.length+ys.length<=sizeLine/\Q (.lst (xs++ys))):=⟨id⟩
instance zL {k l:Int}:Wp (GM (.int k) (.int l) Q) (Q (.bl (decide (k=l)))):=⟨id⟩
instance zf {k l:Int}:Wp (Lh (.int k) (.int l) Q) (Q (.bl (!decide (k=l)))):=⟨id⟩
instance zg {k l:Str}:Wp (Lh (.str k) (.str l) Q) (Q (.bl (!decide (k=l)))):=⟨id⟩
instance zK {k l:Rat}:Wp (GM (fr k) (fr l) Q) (Q (.bl (decide (k=l)))):=⟨tT⟩
instance ze {k l:Rat}:Wp (Lh (fr k) (fr l) Q) (Q (.bl (!decide (k=l)))):=⟨tZ⟩
instance xR:Wp (EJ [.tup xs] Q) (Q (.int xs.length)):=⟨id⟩
instance xO:Wp (EJ [.lst xs] Q) (Q (.int xs.length)):=⟨id⟩
instance xQ {c:km Int}:Wp (EJ [.scr c] Q) (Q (.int c.length)):=⟨id⟩
instance xP {cs:km C4}:Wp (EJ [An cs] Q) (Q (.int cs.length)):=⟨pQ⟩
instance (priority:=high) qT {c:Type}{f:c->PV}{cs:km c}:Wp (EJ [.tup (cs.map f)] Q) (Q (.int cs.length)):=⟨λh=>by show Q (.int (cs.map f).length);rw[AAb];exact h⟩
instance (priority:=high) qS {c:Type}{f:c->PV}{cs:km c}:Wp (EJ [.lst (cs.map f)] Q) (Q (.int cs.length)):=⟨λh=>by show Q (.int (cs.map f).length);rw[AAb];exact h⟩
instance zE {k:Int}:Wp (Py [.int k] Q) (Q (.int k.natAbs)):=⟨id⟩
instance AB3 {f:Int->Int->Int}{k l:Int}:Wp (rG f [.int k, .int l] Q) (Q (.int (f k l))):=⟨id⟩
instance xH {c:kc}:Wp (RT [.bl c] Q) (Q (.int (if c then 1 else 0))):=⟨id⟩
instance xt:Wp (Bw [.tup xs] Q) (Q (.tup xs)):=⟨id⟩
instance xr:Wp (Bw [.lst xs] Q) (Q (.tup xs)):=⟨id⟩
instance xq {c:Rat}:Wp (Bw [fr c] Q) (Q (fr c)):=⟨id⟩
instance xT:Wp (ZY [.lst xs] QL) (QL xs):=⟨id⟩
instance AAB {lo hi:ke Int}:Wp (Xq (.lst xs) lo hi Q) (Q (.lst (Gh xs lo hi))):=⟨FR⟩
instance ACE {l h:AO}:Wp (XF ta l h τ Q) (ta τ λx=>l τ λlo=>h τ λhi=>Xq x lo hi Q):=⟨id⟩
instance ACA {R:ke Int->Prop}:Wp (XG τ R) (R none):=⟨id⟩
instance ACB {R:ke Int->Prop}:Wp (XH ta τ R) (ta τ λx=>gD x λi=>R (some i)):=⟨id⟩
instance zS {A B:Prop}:Wp (if true=true then A else B) (A):=⟨λh=>by rw[AAU rfl];exact h⟩
instance zR {A B:Prop}:Wp (if false=true then A else B) (B):=⟨λh=>by rw[AAS AAg];exact h⟩
instance xG {A B:Prop}:Wp (if (!true)=true then A else B) (B):=⟨λh=>h⟩
instance xF {A B:Prop}:Wp (if (!false)=true then A else B) (A):=⟨λh=>h⟩
instance w_d {p A B:Prop}[Decidable p] :vY (if decide p=true then A else B) (p->A) (¬p->B):=⟨tW⟩
instance ABz {p A B:Prop}[Decidable p] :vY (if (!decide p)=true then A else B) (¬p->A) (p->B):=⟨tX⟩
instance AAG {A:Prop}:Wp (([] :km PV).length<=sizeLine/\A) (A):=⟨λh=>⟨lz,h⟩⟩
instance AAC {A:Prop}:Wp (([] :km PV).length<sizeLine/\A) (A):=⟨λh=>⟨lz,h⟩⟩
instance xJ {c:PV}{A:Prop}:Wp ([c].length=1/\A) (A):=⟨λh=>⟨rfl,h⟩⟩
instance AAH {c:PV}{A:Prop}:Wp ([c].length<=sizeLine/\A) (A):=⟨λh=>⟨lz,h⟩⟩
instance xK {c p1:PV}{A:Prop}:Wp ([c,p1].length=2/\A) (A):=⟨λh=>⟨rfl,h⟩⟩
instance AAI {c p1:PV}{A:Prop}:Wp ([c,p1].length<=sizeLine/\A) (A):=⟨λh=>⟨lz,h⟩⟩
instance AAD {c p1:PV}{A:Prop}:Wp ([c,p1].length<sizeLine/\A) (A):=⟨λh=>⟨lz,h⟩⟩
instance xL {c p1 p2:PV}{A:Prop}:Wp ([c,p1,p2].length=3/\A) (A):=⟨λh=>⟨rfl,h⟩⟩
instance AAJ {c p1 p2:PV}{A:Prop}:Wp ([c,p1,p2].length<=sizeLine/\A) (A):=⟨λh=>⟨lz,h⟩⟩
instance AAE {c p1 p2:PV}{A:Prop}:Wp ([c,p1,p2].length<sizeLine/\A) (A):=⟨λh=>⟨lz,h⟩⟩
instance xM {c p1 p2 d:PV}{A:Prop}:Wp ([c,p1,p2,d].length=4/\A) (A):=⟨λh=>⟨rfl,h⟩⟩
instance AAF {c p1 p2 d:PV}{A:Prop}:Wp ([c,p1,p2,d].length<sizeLine/\A) (A):=⟨λh=>⟨lz,h⟩⟩
instance xN {c p1 p2 d e:PV}{A:Prop}:Wp ([c,p1,p2,d,e].length=5/\A) (A):=⟨λh=>⟨rfl,h⟩⟩
instance AAK {c p1 p2 d e:PV}{A:Prop}:Wp ([c,p1,p2,d,e].length<=sizeLine/\A) (A):=⟨λh=>⟨lz,h⟩⟩
instance zV:Wp (cy [] Q) (Q (.tup [])):=⟨λh=>⟨lz,h⟩⟩
instance zW {c:PV}:Wp (cy [c] Q) (Q (.tup [c])):=⟨λh=>⟨lz,h⟩⟩
instance zX {c p1:PV}:Wp (cy [c,p1] Q) (Q (.tup [c,p1])):=⟨λh=>⟨lz,h⟩⟩
instance zY {c p1 p2:PV}:Wp (cy [c,p1,p2] Q) (Q (.tup [c,p1,p2])):=⟨λh=>⟨lz,h⟩⟩
instance zZ {c p1 p2 d:PV}:Wp (cy [c,p1,p2,d] Q) (Q (.tup [c,p1,p2,d])):=⟨λh=>⟨lz,h⟩⟩
instance (priority:=high+10) xV:Wp (cy [.int 0, .int 1] Q) (Q (fr 0)):=⟨λh=>⟨lz,h⟩⟩
instance (priority:=high+10) xW:Wp (cy [.int 1, .int 1] Q) (Q (fr 1)):=⟨λh=>⟨lz,h⟩⟩
instance (priority:=high) xX {k:Int}:Wp (cy [.int k, .int 1] Q) (Q (fr (k:Rat))):=⟨λh=>⟨lz,U8 h⟩⟩
instance (priority:=high) AAL {k:Rat}{p q r:Rat}:Wp (BQ (.tup [fr k]) (.tup [fr p,fr q,fr r]) Q) (Q (cor (k,p,q,r))):=⟨λh=>⟨lz,h⟩⟩
def nO:PV.tup [.int 1, .int 2] =fr (1/2):=by unfold fr;rw[show ((1:Rat)/2).num=1 by decide +kernel,show ((1:Rat)/2).den=2 by decide +kernel];rfl
instance (priority:=high) qU:Wp (cy [.int 1, .int 2] Q) (Q (fr (1/2))):=⟨λh=>⟨lz,by rw[nO];exact h⟩⟩
def nP:PV.tup [.int 1, .int 3] =fr (1/3):=by unfold fr;rw[show ((1:Rat)/3).num=1 by decide +kernel,show ((1:Rat)/3).den=3 by decide +kernel];rfl
instance (priority:=high) qV:Wp (cy [.int 1, .int 3] Q) (Q (fr (1/3))):=⟨λh=>⟨lz,by rw[nP];exact h⟩⟩
def nQ:PV.tup [.int 3, .int 2] =fr (3/2):=by unfold fr;rw[show ((3:Rat)/2).num=3 by decide +kernel,show ((3:Rat)/2).den=2 by decide +kernel];rfl
instance (priority:=high) qW:Wp (cy [.int 3, .int 2] Q) (Q (fr (3/2))):=⟨λh=>⟨lz,by rw[nQ];exact h⟩⟩
instance zb {q:Rat}{A:Prop}:Wp (cz (fr q)=true/\A) (A):=⟨λh=>⟨rfl,h⟩⟩
instance zc {k:Int}{A:Prop}:Wp (cz (.int k)=true/\A) (A):=⟨λh=>⟨rfl,h⟩⟩
instance za {k:C4}{A:Prop}:Wp (cz (cor k)=true/\A) (A):=⟨λh=>⟨rfl,h⟩⟩
class Zp (xs ys:List PV) (zs:outParam (List PV)):Prop where
 e:Fv xs ys=zs
instance ACG:Zp [] [] [] :=⟨rfl⟩
instance ACH [h:Zp xs ys zs] :Zp (x::xs) (y::ys) (.tup [x,y] :: zs):=⟨by rw[<-h.e];rfl⟩
instance xu [h:Zp xs ys zs] :Wp (DG g b ⟨nx,rt,bk,ct⟩ (Fv xs ys) τ) (DG g b ⟨nx,rt,bk,ct⟩ zs τ):=⟨λk=>by rw[h.e];exact k⟩
instance (priority:=high) w5 {te:AE}{c q zs:km PV}[h:dC c [y] zs] :Wp (De g tt te τ QL q (c ++ [y])) (De g tt te τ QL q zs):=⟨λk=>by rw[h.e];exact k⟩
instance vE {m:Int}:Q6 (BV [.tape, .int m] Q) (0<m/\m<4611686018427387904) (∀r,0<=r->r<m->Q (.int r)):=⟨λc h=>DX c.1 c.2 h⟩
instance vG {d:km Int}{k:Int}:Q6 (Pe [.scr d, .int k] Q) (0<=k/\k<=1000) (Q .tape):=⟨λc h=>⟨c,h⟩⟩
instance qc {a b:Rat}:Q6 (IK [fr a,fr b] Q) (Bd 4000 a/\Bd 4000 b) (Q (fr (a+b))):=⟨λc h=>R1 c.1 c.2 h⟩
instance p6 {a b:Rat}:Q6 (EQ [fr a,fr b] Q) (Bd 4000 a/\Bd 4000 b) (Q (fr (a-b))):=⟨λc h=>Eg c.1 c.2 h⟩
instance p7 {a b:Rat}:Q6 (Fx [fr a,fr b] Q) (Bd 4000 a/\Bd 4000 b) (Q (fr (a*b))):=⟨λc h=>Pf c.1 c.2 h⟩
instance ig {a b:Rat}:Q6 (B6 [fr a,fr b] Q) (Bd 4000 a/\Bd 4000 b) (Q (fr (a+b))):=⟨λc h=>Ds c.1 c.2 h⟩
instance ie {a b:Rat}:Q6 (Bh [fr a,fr b] Q) (Bd 4000 a/\Bd 4000 b) (Q (fr (a-b))):=⟨λc h=>C9 c.1 c.2 h⟩
instance aP {a b:Rat}:Q6 (BU [fr a,fr b] Q) (Bd 4000 a/\Bd 4000 b) (Q (fr (a*b))):=⟨λc h=>DF c.1 c.2 h⟩
instance aO {a b:Rat}:Q6 (DM [fr a,fr b] Q) (Bd 4000 a/\Bd 4000 b) (Q (fr (mx a b))):=⟨λc h=>LN c.1 c.2 h⟩
instance mW {a b:Rat}:Q6 (Fb [fr a,fr b] Q) (Bd 4000 a/\Bd 4000 b) (Q (fr (mn a b))):=⟨λc h=>Vk c.1 c.2 h⟩
instance mV {a b:Rat}:Q6 (Am [fr a,fr b] Q) (Bd 4000 a/\Bd 4000 b) (Q (.bl (decide (a<b)))):=⟨λc h=>Bt c.1 c.2 h⟩
instance qb {a b:Rat}:Q6 (KB [fr a,fr b] Q) (b≠0/\Bd 4000 a/\Bd 4000 b) (Q (fr (a/b))):=⟨λc h=>Mo c.1 c.2.1 c.2.2 h⟩
instance c7 {a b:Rat}:Q6 (CB [fr a,fr b] Q) (b≠0/\Bd 4000 a/\Bd 4000 b) (Q (fr (a/b))):=⟨λc h=>Hg c.1 c.2.1 c.2.2 h⟩
instance c6:Q6 (BE [.tape] Q) (True) (∀a,Bd 8 a->Q (fr a)):=⟨λ_ h=>BK λa m=>h a (m.bd (by decide) (by decide))⟩
instance ACD {lo:Int}{A:Prop}:Wp ((rng lo n).length<sizeLine/\A) (n<16777216/\A):=⟨λk=>⟨by rw[Yd];exact k.1,k.2⟩⟩
instance AB9 {c:Type}{f:c->PV}{cs:km c}{A:Prop}:Wp ((cs.map f).length<sizeLine/\A) (cs.length<16777216/\A):=⟨λk=>⟨by rw[AAb];exact k.1,k.2⟩⟩
instance (priority:=high) u5 {c:Type}{k:c}[Decidable (k=k)]{A B:Prop}:Wp (if decide (k=k)=true then A else B) A:=⟨λh=>by rw[AAU (AAi rfl)];exact h⟩
instance (priority:=high) uM {c:Type}{k:c}[Decidable (k=k)]{A B:Prop}:Wp (if (!decide (k=k))=true then A else B) B:=⟨λh=>by rw[AAS (by simp)];exact h⟩
def nI (xs:km PV):Gh xs none (some (-1))=xs.dropLast:=by
 unfold Gh;rw[HT.sIx_none];cases xs with
 | nil=>rfl
 | cons x xs=>
   have e:HT.sIx (x::xs).length (x::xs).length (some (-1))=xs.length:=by simp only[HT.sIx,AAv];rw[AAU (by decide)];omega
   rw[e,List.dropLast_eq_take];simp
instance vF {cs:km C4}{k:Int}:Q6 (Xq (An cs) none (some k) Q) (0<=k/\k<=cs.length) (Q (An (cs.take k.toNat))):=⟨λc h=>t5 (k:=k.toNat) (by omega) (by omega) h⟩
instance qd {cs:km C4}{k:Int}:Q6 (Xq (An cs) (some k) none Q) (0<=k/\k<=cs.length) (Q (An (cs.drop k.toNat))):=⟨λc h=>aA (k:=k.toNat) (by omega) (by omega) h⟩
instance vD {cs ds:km C4}:Q6 (BQ (An cs) (An ds) Q) (cs.length+ds.length<=10000) (Q (An (cs++ds))):=⟨λc h=>Vu c h⟩
instance vC {cs:km C4}{c:C4}:Q6 (BQ (An cs) (.tup [cor c]) Q) (cs.length<=9000) (Q (An (cs ++ [c]))):=⟨λk h=>Vu (ds:= [c]) (by simp;omega) h⟩
def mD {d:Type}{f:d->PV}{cs:km d}{k:Int}{R:PV->Prop}(c:0<=k/\k<cs.length)(h:∀c,cs[k.toNat]? =some c->c∈cs->R (f c)):c5 (JA (cs.map f) k) R:=by
 have hk:k.toNat<cs.length:=by omega
 have e:JA (cs.map f) ((k.toNat:Nat):Int)=some (f cs[k.toNat]):=Ci (by rw[AA0,AAs hk] <;> rfl);rw[show k=((k.toNat:Nat):Int) by omega,e];exact h _ (AAs hk) (AD0 hk)
instance xw {cs:km C4}{k:Int}:Q6 (Ai (An cs) (.int k) Q) (0<=k/\k<cs.length) (∀c,cs[k.toNat]? =some c->c∈cs->Q (cor c)):=⟨λc h=>mD c h⟩
instance xv {d:Type}{f:d->PV}{cs:km d}{k:Int}:Q6 (Ai (.lst (cs.map f)) (.int k) Q) (0<=k/\k<cs.length) (∀c,cs[k.toNat]? =some c->c∈cs->Q (f c)):=⟨λc h=>mD c h⟩
instance xo {c:C4}:Wp (Xq (cor c) (some 1) none Q) (Q (.tup [fr c.2.1,fr c.2.2.1,fr c.2.2.2])):=⟨λh=>HQ h⟩
class Lk (tb:List (Str×PV)) (s:Str) (v:outParam PV):Prop where
 e:tb.lookup s=some v
end
end PL
namespace L2
open PySem PySem.Spec PyProof.Rows
abbrev dM (h:da)(T:kf)(a b c:kj):Prop:=h.get? T=some {cls:= .type "tuple",data:= .seq #[a,b,c] }
structure Z3A (z TI TO i j k l m n:Addr):Prop where
 TIz:TI≠z
 TOz:TO≠z
 iz:i≠z
 jz:j≠z
 kz:k≠z
 TITO:TI≠TO
 TIi:TI≠i
 TIj:TI≠j
 TIk:TI≠k
 TOi:TO≠i
 TOj:TO≠j
 TOk:TO≠k
 ij:i≠j
 ik:i≠k
 jk:j≠k
 lo:∀x∈ [l,m,n],x≠z/\x≠TI/\x≠TO/\x≠i/\x≠j/\x≠k
structure Z3 (b c d:Bool) (z TI TO i j k l m n:Addr) (t:Nat) (f:Value) (h:Heap):Prop where
 zip:IsZip h z TI TO f
 its:dM h TI (.ref i) (.ref j) (.ref k)
 own:∃x y w,dM h TO x y w
 one:RJ b h i l t
 two:RJ c h j m t
 tre:RJ d h k n t
def Z3.mv {b c d:kc}{z TI TO i j k l m n:kf}{t:Nat}{f:kj}{h h':da}(Z:Z3 b c d z TI TO i j k l m n t f h)(e:∀p∈ [z,TI,TO,i,j,k],∀o,h.get? p=some o->h'.get? p=some o):Z3 b c d z TI TO i j k l m n t f h':=by obtain⟨a,g,⟨x,y,w,r⟩,s,u,v⟩:=Z;exact⟨e z (by simp) _ a,e TI (by simp) _ g,⟨x,y,w,e TO (by simp) _ r⟩,s.mv (e i (by simp)),u.mv (e j (by simp)),v.mv (e k (by simp))⟩
abbrev y1 (b:kc)(h:da)(l:kf):da:=h.push (bR b l)
abbrev y2 (b c:kc)(h:da)(l m:kf):da:=(y1 b h l).push (bR c m)
abbrev y3 (b c d:kc)(h:da)(l m n:kf):da:=(y2 b c h l m).push (bR d n)
abbrev y4 (b c d:kc)(h:da)(l m n:kf):da:=(y3 b c d h l m n).push {cls:= .type "tuple",data:= .seq #[.ref h.objs.size, .ref (y1 b h l).objs.size, .ref (y2 b c h l m).objs.size] }
abbrev y5 (b c d:kc)(h:da)(l m n:kf):da:=(y4 b c d h l m n).push {cls:= .type "tuple",data:= .seq #[.none, .none, .none] }
end L2
namespace L2
open PySem PySem.Spec PyProof.Rows
def We:Manifest.owners.lookup (String.ofList ['d','e','s','r','e','v','e','r'].reverse)=some Manifest.sig_reversed:=by kernel_rfl
def HR:Slot "reversed" "__next__" "reversed.__next__" :=
 .of (owner:="reversed") (n:="__next__") (by rw[AEH,AEI];kernel_rfl) (by decide +kernel) (by decide +kernel) (by decide +kernel)
   (by first | exact .inl (by decide +kernel)|exact .inr (by decide +kernel)) (by rw[ABA];kernel_rfl)
def RR:entryFor table "reversed.__next__" =some Builtin.«reversed.__next__»:=entryFor_of_tree (by kernel_rfl)
def Pp (a:kj):argsOk "reversed.__next__" ⟨[a], []⟩:=by unfold argsOk;rw[signature?_of (id:="reversed.__next__") (n:= ['_','_','t','x','e','n','_','_']) (o:= ['d','e','s','r','e','v','e','r']) (by kernel_rfl) We];kernel_rfl
def MJ:Slot "reversed" "__iter__" "reversed.__iter__" :=
 .of (owner:="reversed") (n:="__iter__") (by rw[AEH,AEI];kernel_rfl) (by decide +kernel) (by decide +kernel) (by decide +kernel)
   (by first | exact .inl (by decide +kernel)|exact .inr (by decide +kernel)) (by rw[ABA];kernel_rfl)
def Po (a:kj):argsOk "reversed.__iter__" ⟨[a], []⟩:=by unfold argsOk;rw[signature?_of (id:="reversed.__iter__") (n:= ['_','_','r','e','t','i','_','_']) (o:= ['d','e','s','r','e','v','e','r']) (by kernel_rfl) We];kernel_rfl
def RQ:entryFor table "reversed.__iter__" =some Builtin.«dict_keyiterator.__iter__»:=
 entryFor_alias (id':="dict_keyiterator.__iter__") (by kernel_rfl) (by first | rfl|decide +kernel|(unfold String.splitOn;simp +decide [String.splitOnAux])) (by decide +kernel) (by kernel_rfl)
def cZ:typeLookup (.type "tuple") "__reversed__" =pure none:=by rw[AEH,AEI];kernel_rfl
def U5:isSubtype (.type "tuple") (.type "dict")=pure false:=by rw[ABA];kernel_rfl
def ic (m:kf)(i:Int):Obj:={cls:= .type "reversed",data:= .fields #[.ref m,rawInt i] }
def KD (h:da)(q m:kf)(i:Int):Prop:=h.get? q=some (ic m i)
section
variable {prog:gn}{w:fe}{A:Wf}{E:kj->ki->Prop}{s:ki}
def KD.typeIs {q m:kf}{i:Int}(x:KD s.heap q m i):s.TypeIs (.ref q) "reversed" :=⟨_,x,rfl⟩
end
def gt (l:kf)(items:Array kj)(c:(items.size:Int)<2^63):Meets (Builtin.«reversed.__new__» ⟨[.type "reversed", .ref l], []⟩) (λ_ R s=>IsTup s.heap l items/\R (.ok (.ret (.ref s.heap.objs.size))) {s with heap:=s.heap.push (ic l ((items.size:Int)-1)),toks:=s.toks+1+1}):=
 .of_wp λprog w A R s h=>by
   obtain⟨hl,h⟩:=h;unfold Builtin.«reversed.__new__»;refine AAQ (ACV (newClass_reversed _) ?_);try dsimp only
   refine AAQ (ACV (a:=()) (by first | rfl|kernel_rfl) ?_);refine AAQ (ACV (a:=()) (by first | rfl|kernel_rfl) ?_);try dsimp only
   refine AAQ (ABg hl.typeIs cZ ?_);try dsimp only
   refine AAQ ?_
   wp_delta
   refine AAQ (ACQ (T:="tuple") (b:=false) hl.typeIs U5 ?_);rw[AAS (by decide)];refine AAQ (ABg hl.typeIs ACU.lookup ?_);dsimp only;rw[AAU (by decide +kernel)];refine AAT ?_;rw[AAS (by decide)];refine AAQ (len_tuple hl c ?_);refine AAQ (ACV (a:=some (items.size:Int)) rfl ?_);dsimp only;unfold Builtin.SmallTypes.newRecord;refine AAQ (ABN (AAT ?_));exact⟨_,rfl,h⟩
def kb:Slot "reversed" "__init__" "object.__init__" :=
 .of (owner:="object") (n:="__init__") (by rw[AEH,AEI];kernel_rfl) (by decide +kernel) (by decide +kernel) (by decide +kernel)
   (by first | exact .inl (by decide +kernel)|exact .inr (by decide +kernel)) (by rw[ABA];kernel_rfl)
def ak:TypeCalled "reversed" "reversed.__new__" "object.__init__" :=
 ⟨by decide +kernel,by decide +kernel,⟨_,_,F.mro_reversed⟩,F.made_reversed,by decide +kernel,by rw[ABA];kernel_rfl,kb⟩
section
variable {prog:gn}{w:fe}{A:Wf}{E:kj->ki->Prop}{s:ki}
def jG {l:kf}{items:Array kj}{Q:kj->ki->Prop}(hl:IsTup s.heap l items)(a:(items.size:Int)<2^63)(h:Q (.ref s.heap.objs.size) {s with heap:=s.heap.push (ic l ((items.size:Int)-1)),toks:=s.toks+1+1}):wpAny (model prog w) A (call (.type "reversed") [.ref l]) Q E s:=by refine callType_new ak (by decide) (F.typeCall_reversed_1 _) (F.newCall_reversed_1 _) (λobj=>F.args_object_init_2 obj _) F.entry_reversed_new (gt l items a) ⟨hl, ?_⟩;exact⟨⟨_,AAd _ rfl,rfl⟩,h⟩
def jg {q m:kf}{i:Int}{Q:kj->ki->Prop}(hq:KD s.heap q m i)(h:Q (.ref q) s):wpAny (model prog w) A (pyIter (.ref q)) Q E s:=by refine wpAny_pyIter_slot hq.typeIs MJ (ABH MJ hq.typeIs RQ ?_ (Po _));show wpAny _ _ (ret (.ref q)) _ _ s;exact AAT ⟨_,rfl,"reversed",_,hq.typeIs,HR.lookup,h⟩
def jr {q m:kf}{k:Nat}{xs:Array kj}{x:kj}{Q:kj->ki->Prop}(hq:KD s.heap q m ((xs.size:Int)-1-k))(hl:IsTup s.heap m xs)(g:(xs.size:Int)<2^63)(hk:k<xs.size)(hx:xs[xs.size-1-k]? =some x)(hQ:∀h' b,KD h' q m ((xs.size:Int)-1-(k+1:Nat))->Heap.SameBut q s.heap h'->Q x {s with heap:=h',toks:=b}):wpAny (model prog w) A (Builtin.SmallTypes.nextOf (.ref q)) Q E s:=by
 unfold Builtin.SmallTypes.nextOf;refine AAQ (ABc (name:=Str.ofString "__next__") hq.typeIs HR (ABH HR hq.typeIs RR ?_ (Pp _)));unfold Builtin.«reversed.__next__»;refine AAQ (ACV (a:=(Value.ref q, [])) rfl ?_);try dsimp only
 refine AAQ (AAm hq rfl (x:= .ref m) rfl ?_);refine AAQ (AAm hq rfl (x:=rawInt ((xs.size:Int)-1-k)) rfl ?_);show wpAny _ _ (if ((xs.size:Int)-1-k)<0 then _ else _) _ _ s;rw[AAS (by omega)];refine AAQ (ABg hl.typeIs ACU.lookup ?_);rw[AAS (by decide)];refine AAQ (wpAny_mkInt ?_);have c:seqIndex? ((xs.size:Int)-1-k) xs.size=some (xs.size-1-k):=by
  unfold seqIndex?;have d:¬((xs.size:Int)-1-k<0):=by omega
  have e:(0:Int)<=(xs.size:Int)-1-k:=by omega
  have f:(xs.size:Int)-1-k<xs.size:=by omega
  simp only[AAS d,e,f,decide_true,Bool.and_true,ABK];congr 1;omega
 refine AAQ (ACj (getItem_tuple hl (by omega) (by omega) c hx ?_));refine AAQ (AAm (s:={s with toks:=s.toks+1}) hq rfl (x:=rawInt ((xs.size:Int)-1-k)) rfl ?_);refine AAQ (ADK (s:={s with toks:=s.toks+1}) hq rfl (by simp) (AAT ⟨x,rfl,AAT (hQ _ _ ?_ (ADL ..))⟩));unfold KD;rw[ACf _ hq (AEg (ADM rfl _))];rw[show (xs.size:Int)-1-(k+1:Nat)=(xs.size:Int)-1-k-1 by omega];rfl
end
structure ZR (z TI TO i j l m:Addr) (n:Nat) (k:Nat) (f:Value) (h:Heap):Prop where
 zip:IsZip h z TI TO f
 its:IsPair h TI (.ref i) (.ref j)
 own:∃x y,IsPair h TO x y
 one:RJ false h i l k
 two:KD h j m ((n:Int)-1-k)
def ZR.mv {z TI TO i j l m:kf}{n k:Nat}{f:kj}{h h':da}(Z:ZR z TI TO i j l m n k f h)(e:∀p∈ [z,TI,TO,i,j],∀o,h.get? p=some o->h'.get? p=some o):ZR z TI TO i j l m n k f h':=by obtain⟨a,b,⟨x,y,c⟩,d,g⟩:=Z;exact⟨e z (by simp) _ a,e TI (by simp) _ b,⟨x,y,e TO (by simp) _ c⟩,d.mv (e i (by simp)),e j (by simp) _ g⟩
section
variable {prog:gn}{w:fe}{A:Wf}{E:kj->ki->Prop}{s:ki}
variable {z TI TO i j l m:kf}{k:Nat}{xs ys:Array kj}
def qA {x y:kj}{Q:kj->ki->Prop}(D:ZipApart z TI TO i j l m)(Z:ZR z TI TO i j l m ys.size k .none s.heap)(hl:Oc false s.heap l xs)(hm:IsTup s.heap m ys)(WA:(ys.size:Int)<2^63)(hx:xs[k]? =some x)(hk:k<ys.size)(hy:ys[ys.size-1-k]? =some y)(hQ:∀h' J,IsZip h' z TI TO (rawInt s.heap.objs.size)->IsPair h' TI (.ref i) (.ref j)->IsPair h' TO x y->RJ false h' i l (k+1)->KD h' j m ((ys.size:Int)-1-(k+1:Nat))->IsPair h' s.heap.objs.size x y-> (∀p o,p≠z->p≠TO->p≠i->p≠j->s.heap.get? p=some o->h'.get? p=some o)->Q (.ref s.heap.objs.size) {s with heap:=h',toks:=J}):wpAny (model prog w) A (Builtin.«zip.__next__» ⟨[.ref z], []⟩) (λK s'=>∃v,K= .done (.ret v)/\Q v s') E s:=by
 obtain⟨f,X,⟨x0,L,zo⟩,z1,z2⟩:=Z;show wpAny _ _ (field (.ref z) 2 >>= _) _ _ _;refine AAQ (AAm f rfl (x:= .bool false) rfl ?_);show wpAny _ _ (field (.ref z) 3 >>= _) _ _ _;refine AAQ (AAm f rfl (x:= .ref TI) rfl (AAQ (ABC X rfl ?_)));refine AAQ (m:=Builtin.SmallTypes.ownedTupleIsFree (.ref z)) ?_;unfold Builtin.SmallTypes.ownedTupleIsFree;refine AAQ (AAm f rfl (x:= .none) rfl (AAT ?_));simp only[ABK];refine AAQ (ABS (AAQ (AAm f rfl (x:= .ref TO) rfl (AAQ (ABe f (by simp) λg1 M b1=> ?_)))));have M:IsZip g1 z TI TO .ellipsis:=M;refine AAQ ?_;simp only[AD4,AD5,ACw,ADN];refine AAQ (AAQ (ACi ?_));refine AAQ (m:=Builtin.SmallTypes.nextOf (.ref i)) (Lg (z1.mv λo=>b1.extBut _ o D.i1z) (hl.mv λo=>b1.extBut _ o D.l1z) hx λg2 e2 b2=>AAT ?_);have Y:IsPair g2 TO x0 L:=b2.extBut _ _ D.TOi1 (b1.extBut _ _ D.TOz zo);refine AAQ (ABC Y rfl (AAQ (ADO Y λN O d=>AAQ (ACx (AAT ?_)))));have O:IsPair N TO x L:=O;refine AAQ (AAQ (ACi ?_));have P:∀h h':da,(∀o,h.get? m=some o->h'.get? m=some o)->IsTup h m ys->IsTup h' m ys:=λh h' e x=>(show Oc false h m ys from x).mv e;have R:IsTup N m ys:=P _ _ (λo=>d.extBut _ o D.l2TO) (P _ _ (λo=>b2.extBut _ o D.l2i1) (P _ _ (λo=>b1.extBut _ o D.l2z) hm));have S:KD N j m ((ys.size:Int)-1-k):=d.extBut _ _ D.TOi2.symm (b2.extBut _ _ D.i12.symm (b1.extBut _ _ D.i2z z2));refine AAQ (m:=Builtin.SmallTypes.nextOf (.ref j)) (jr S R WA hk hy λg4 J e4 g=>AAT ?_);have o4:IsPair g4 TO x L:=g.extBut _ _ D.TOi2 O;refine AAQ (ABC o4 rfl (AAQ (ADO o4 λa C n=>AAQ (ACx (AAT (AAT ?_))))));have C:IsPair a TO x y:=C;refine AAQ (ABC C rfl (AAQ (wpAny_newTuple ?_)));have sz:a.objs.size=s.heap.objs.size:=by rw[n.1,g.1,d.1,b2.1,b1.1]
 have k5:IsZip a z TI TO .ellipsis:=n.extBut _ _ D.TOz.symm (g.extBut _ _ D.i2z.symm (d.extBut _ _ D.TOz.symm (b2.extBut _ _ D.i1z.symm M)));have b:∀p o,p≠z->p≠TO->p≠i->p≠j->s.heap.get? p=some o->a.get? p=some o:=λp o F G T U e=>
  n.extBut _ _ G (g.extBut _ _ U (d.extBut _ _ G (b2.extBut _ _ T (b1.extBut _ _ F e))))
 have r:RJ false a i l (k+1):=((e2.mv λo=>d.extBut _ o D.TOi1.symm).mv λo=>g.extBut _ o D.i12).mv λo=>n.extBut _ o D.TOi1.symm;have t:KD a j m ((ys.size:Int)-1-(k+1:Nat)):=n.extBut _ _ D.TOi2.symm e4;have u:z<a.objs.size:=AAW k5;refine AAQ (m:=Builtin.SmallTypes.ownedTupleHandOut (.ref z) (.ref a.objs.size)) ?_;unfold Builtin.SmallTypes.ownedTupleHandOut;have k6:IsZip (a.push {cls:= .type "tuple",data:= .seq #[x,y] }) z TI TO .ellipsis:=AAX _ k5;refine AAQ (ABe k6 (by simp) λg7 W b7=> ?_);have W:IsZip g7 z TI TO (rawInt a.objs.size):=W;refine ABe W (by simp) λH I b8=> ?_;have I:IsZip H z TI TO (rawInt a.objs.size):=I;have B:∀p o,p≠z->a.get? p=some o->H.get? p=some o:=λp o q e=>b8.extBut _ _ q (b7.extBut _ _ q (AAX _ e));have c:IsPair H a.objs.size x y:=b8.extBut _ _ (ABE u) (b7.extBut _ _ (ABE u) (AAd _ rfl));rw[sz] at I c;refine AAT ⟨_,rfl, ?_⟩;show Q (.ref a.objs.size) _;rw[sz];exact hQ H J I (B _ _ D.TIz (b _ _ D.TIz D.TITO D.TIi1 D.TIi2 X)) (B _ _ D.TOz C) (r.mv λo=>B _ o D.i1z) (B _ _ D.i2z t) c λp o F G T U e=>B p o F (b p o F G T U e)
def uQ {n:Nat}{Q:Fin->ki->Prop}(r:A.handled=none)(D:ZipApart z TI TO i j l m)(Z:ZR z TI TO i j l m n k .none s.heap)(hl:Oc false s.heap l xs)(hx:xs[k]? =none)(t:∀h' e,(∀p o,p≠z->p≠TO->p≠i->p≠j->s.heap.get? p=some o->h'.get? p=some o)->(∃o,h'.get? e=some o/\o.cls= .type "StopIteration")->E (.ref e) {s with heap:=h'}):wpAny (model prog w) A (Builtin.«zip.__next__» ⟨[.ref z], []⟩) Q E s:=by
 obtain⟨a,u,⟨I,J,K⟩,v,L⟩:=Z;show wpAny _ _ (field (.ref z) 2 >>= _) _ _ _;refine AAQ (AAm a rfl (x:= .bool false) rfl ?_);show wpAny _ _ (field (.ref z) 3 >>= _) _ _ _;refine AAQ (AAm a rfl (x:= .ref TI) rfl (AAQ (ABC u rfl ?_)));refine AAQ (m:=Builtin.SmallTypes.ownedTupleIsFree (.ref z)) ?_;unfold Builtin.SmallTypes.ownedTupleIsFree;refine AAQ (AAm a rfl (x:= .none) rfl (AAT ?_));simp only[ABK];refine AAQ (ABS (AAQ (AAm a rfl (x:= .ref TO) rfl (AAQ (ABe a (by simp) λy b b1=> ?_)))));have b:IsZip y z TI TO .ellipsis:=b;refine AAQ ?_;simp only[AD4,AD5,ACw,ADN];refine AAQ (AAQ (ACi ?_));refine AAQ (m:=Builtin.SmallTypes.nextOf (.ref i)) (M0 r (v.mv λo=>b1.extBut _ o D.i1z) (hl.mv λo=>b1.extBut _ o D.l1z) hx λB e b2 he=> ?_);obtain⟨C,c,d⟩:=he;have f:IsZip B z TI TO .ellipsis:=b2 _ _ D.i1z.symm b;have F:e≠z:=λq=>by subst q;rw[f] at c;cases c;simp at d
 refine ABe f (by simp) λG _ g=>t G e (λp o h _ H _ q=>g.extBut _ _ h (b2 _ _ H (b1.extBut _ _ h q))) ⟨C,g.extBut _ _ F c,d⟩
end
def lV {n l m:Nat}(h1:l<n)(h2:m<n):ZipApart (n+4) (n+2) (n+3) (n+1) n l m where
 TIz:=(by omega:(n+2:Nat)≠n+4)
 TOz:=(by omega:(n+3:Nat)≠n+4)
 i1z:=(by omega:(n+1:Nat)≠n+4)
 i2z:=(by omega:(n:Nat)≠n+4)
 TITO:=(by omega:(n+2:Nat)≠n+3)
 TIi1:=(by omega:(n+2:Nat)≠n+1)
 TIi2:=(by omega:(n+2:Nat)≠n)
 TOi1:=(by omega:(n+3:Nat)≠n+1)
 TOi2:=(by omega:(n+3:Nat)≠n)
 i12:=(by omega:(n+1:Nat)≠n)
 l1z:=(by omega:(l:Nat)≠n+4)
 l1TO:=(by omega:(l:Nat)≠n+3)
 l1i1:=(by omega:(l:Nat)≠n+1)
 l1i2:=(by omega:(l:Nat)≠n)
 l2z:=(by omega:(m:Nat)≠n+4)
 l2TO:=(by omega:(m:Nat)≠n+3)
 l2i1:=(by omega:(m:Nat)≠n+1)
 l2i2:=(by omega:(m:Nat)≠n)
abbrev rA (h:da)(l:kf):da:=h.push (bR false l)
abbrev rC (h:da)(l r:kf):da:=(rA h l).push {cls:= .type "tuple",data:= .seq #[.ref h.objs.size, .ref r] }
abbrev rD (h:da)(l r:kf):da:=(rC h l r).push {cls:= .type "tuple",data:= .seq #[.none, .none] }
abbrev rF (h:da)(l r:kf):da:=(rD h l r).push {cls:= .type "zip",data:= .fields #[.none, .bool false, .bool false, .ref (rA h l).objs.size, .ref (rC h l r).objs.size] }
def fN {prog:gn}{w:fe}{A:Wf}{E:kj->ki->Prop}{h:da}{g:Array GenState}{d:Drawn}{a:Nat}{os:OsState}{q m:kf}{i:Int}{Q:kj->ki->Prop}(hq:KD h q m i)(k:Q (.ref q) ⟨h,g,d,a,os⟩):wpAny (model prog w) A (pyIter (.ref q)) Q E ⟨h,g,d,a,os⟩:=jg (s:=⟨h,g,d,a,os⟩) hq k
def Y3 (l r m:kf)(i:Int)(xs:Array kj):Meets (Builtin.«zip.__new__» ⟨[.type "zip", .ref l, .ref r], []⟩) (λ_ R s=>Oc false s.heap l xs/\KD s.heap r m i/\R (.ok (.ret (.ref (rD s.heap l r).objs.size))) {s with heap:=rF s.heap l r}):=
 .of_wp λprog w A R s h=>by
   obtain⟨hp,g,d,e,os⟩:=s;obtain⟨hl,a,h⟩:=h;have f:=sub_zip;have b:Oc false hp l xs:=hl;have c:KD (hp.push (bR false l)) r m i:=AAX _ a
   wp_walk using X5 b,fN c
   exact⟨_,rfl,h⟩
section
variable {prog:gn}{w:fe}{A:Wf}{E:kj->ki->Prop}{s:ki}{l m r:kf}{xs:Array kj}{n:Nat}
def lT (hl:Oc false s.heap l xs)(f:KD s.heap r m ((n:Int)-1)){Q:kj->ki->Prop}(h:∀h',ZR (s.heap.objs.size+3) (s.heap.objs.size+1) (s.heap.objs.size+2) s.heap.objs.size r l m n 0 .none h'->(∀p o,s.heap.get? p=some o->h'.get? p=some o)->Q (.ref (s.heap.objs.size+3)) {s with heap:=h'}):wpAny (model prog w) A (call (.type "zip") [.ref l, .ref r]) Q E s:=by
 refine callType_new F.called_zip (by decide) (F.typeCall_zip_2 _ _) (F.newCall_zip_2 _ _) (λobj=>F.args_object_init_3 obj _ _) F.entry_zip_new (Y3 l r m _ xs) ⟨hl,f, ?_⟩;have b:(rA s.heap l).objs.size=s.heap.objs.size+1:=ABU ..;have c:(rC s.heap l r).objs.size=s.heap.objs.size+2:=by rw[ABU,b]
 have i:(rD s.heap l r).objs.size=s.heap.objs.size+3:=by rw[ABU,c]
 have a:∀(g:da) (x:Obj) (p:kf) (o:Obj),g.get? p=some o->(g.push x).get? p=some o:=λg x p o e=>AAX _ e;have d:(rF s.heap l r).get? (rD s.heap l r).objs.size=some _:=AAd _ rfl;have j:(rF s.heap l r).get? (rC s.heap l r).objs.size=some _:=a _ _ _ _ (AAd _ rfl);have k:(rF s.heap l r).get? (rA s.heap l).objs.size=some _:=a _ _ _ _ (a _ _ _ _ (AAd _ rfl));have p1:(rF s.heap l r).get? s.heap.objs.size=some (bR false l):=a _ _ _ _ (a _ _ _ _ (a _ _ _ _ (AAd _ rfl)));have all:∀p o,s.heap.get? p=some o->(rF s.heap l r).get? p=some o:=λp o e=>a _ _ _ _ (a _ _ _ _ (a _ _ _ _ (a _ _ _ _ e)));rw[b,c,i] at d;rw[b] at k;rw[c] at j;show _/\_;rw[i];exact⟨⟨_,d,rfl⟩,h _ ⟨d,k,⟨_,_,j⟩,fM p1,by rw[show (n:Int)-1-(0:Nat)=(n:Int)-1 by omega];exact all _ _ f⟩ all⟩
end
def vR (K:AAR)(l m:kf)(n:Nat):It:=
 ⟨λi H=>∃xs ys x y,Sq K false H l xs/\Sq K false H m ys/\ys.length=n/\xs[i]? =some x/\i<n/\ys[n-1-i]? =some y,
  λi H v a=>∃T x y,v= .ref T/\H T=none/\a=upd H T (.tup [x,y])/\(∀xs,Sq K false H l xs->xs[i]? =some x)/\∀ys,Sq K false H m ys->ys[n-1-i]? =some y,
  λi H=>∃xs,Sq K false H l xs/\xs.length<=i⟩
def cn {P:gn}{w:fe}{K:AAR}{es:km kd}{O:Nat}{r:Pos}{z TI TO i j l m:kf}{n:Nat}(D:ZipApart z TI TO i j l m):LX P w K (.Tuple es O r) (vR K l m n) [z,TI,TO,i,j] z (λk h=>ZR z TI TO i j l m n k .none h) where
 mem:=by simp
 obj:=λk h Z p hp=>by
  have a:p=z\/p=TI\/p=TO\/p=i\/p=j:=by simpa using hp
  rcases a with e|e|e|e|e
  .subst e;exact⟨_,Z.zip,λv q=>nomatch q⟩
  .subst e;exact⟨_,Z.its,λv q=>nomatch q⟩
  .subst e;obtain⟨x,y,q⟩:=Z.own;exact⟨_,q,λv q=>nomatch q⟩
  .subst e;exact Z.one.obj
  .subst e;exact⟨_,Z.two,λv q=>nomatch q⟩
 keep:=λk h h' Z e=>Z.mv e
 item:=by
  intro X t hw A hc k Tb s J H E I g Z B;subst t hw A;obtain⟨xs,ys,x,y,hl,L,hn,hx,hk,hy⟩:=B;obtain⟨Q,C,F,_⟩:=I.sq hl;obtain⟨vs,rv,sv,hz⟩:=I.sq L;obtain⟨u,hu,R⟩:=C.get hx;obtain⟨v,hv,S⟩:=rv.get hy;have d:vs.toArray.size=n:=by rw[AAh,<-rv.length];exact hn
  have f:s.TypeIs (.ref z) "zip" :=⟨_,Z.zip,rfl⟩;rw[<-d] at Z;unfold pyNext;refine AAQ (ACj (ABc (name:=Str.ofString "__next__") f ACW (ABH ACW f AD6
   (qA D Z F sv (by rw[d,<-hn];exact Int.lt_of_le_of_lt (Int.ofNat_le.mpr hz) (by decide)) (x:=u) (y:=v) (by simpa using hu) (by rw[d];exact hk) (by rw[d];simpa using hv) λh1 M U W Y a4 N a6 a7=>AAT ?_) (AD7 _))))
  refine⟨_,rfl,wpAny_letOwnedTupleGo_zip (s:={s with heap:=h1,toks:=M}) U λh2 c1 c2=> ?_⟩;have G:∀p∈ [z,TI,TO,i,j],p<s.heap.objs.size:=λp hp=>by
   have a:p=z\/p=TI\/p=TO\/p=i\/p=j:=by simpa using hp
   rcases a with e|e|e|e|e
   .subst e;exact AAW Z.zip
   .subst e;exact AAW Z.its
   .subst e;obtain⟨x,y,q⟩:=Z.own;exact AAW q
   .subst e;obtain⟨o,q,_⟩:=Z.one.obj;exact AAW q
   .subst e;exact AAW Z.two
  have c:∀p o,p≠z->h1.get? p=some o->h2.get? p=some o:=λp o q e=>c2.extBut _ _ q e;have kp:∀p o,p ∉ [z,TI,TO,i,j] ->s.heap.get? p=some o->h2.get? p=some o:=λp o hp e=>by
   have a:p≠z/\p≠TI/\p≠TO/\p≠i/\p≠j:=by simpa using hp
   exact c p o a.1 (a7 p o a.1 a.2.2.1 a.2.2.2.1 a.2.2.2.2 e)
  have wS:s.heap.objs.size≠z:=ABE (G z (by simp));have I2:Inv X Tb J (upd H s.heap.objs.size (.tup [x,y])) {s with heap:=h2,toks:=M}:=I.turnedN g G kp (AAY _)
   ⟨(by show 2<=sizeLine;decide), [u,v], .cons R (.cons S .nil),⟨_,c _ _ wS a6,rfl,_,rfl⟩⟩
  have WB:H s.heap.objs.size=none:=I.fresh;refine⟨.ref s.heap.objs.size,upd H s.heap.objs.size (.tup [x,y]),I2,rfl,⟨_,x,y,rfl,WB,rfl,λxs' h'=> ?_,λys' h'=> ?_⟩, ?_,λp hp=> ?_⟩
  .rw [I.sq_inj h' hl];exact hx
  .rw [I.sq_inj h' L];exact hy
  .rw [d] at N;exact⟨c1,c _ _ D.TIz W,⟨_,_,c _ _ D.TOz Y⟩,a4.mv λo=>c _ o D.i1z,c _ _ D.i2z N⟩
  .rw [Aq (AAa (G p hp))];exact(g p hp).1
 done:=by
  intro X t hw A hc k Tb s J H E I g Z B;subst t hw A;obtain⟨xs,hl,he⟩:=B;obtain⟨Q,C,F,_⟩:=I.sq hl;have e1:=C.length;have f:s.TypeIs (.ref z) "zip" :=⟨_,Z.zip,rfl⟩;unfold pyNext;refine AAQ (ACj (ABc (name:=Str.ofString "__next__") f ACW (ABH ACW f AD6
   (uQ (I.ok.hd hc) D Z F (by simp;omega) λh1 e hk he=> ?_) (AD7 _))))
  obtain⟨o,ho,nX⟩:=he;refine AAQ (ACQ (T:="StopIteration") (b:=true) ⟨o,ho,nX⟩ isSubtype_stop (AAT ⟨rfl, ?_⟩));exact I.turnedL (t':=s.toks) g λp o hp e=>by
   have a:p≠z/\p≠TI/\p≠TO/\p≠i/\p≠j:=by simpa using hp
   exact hk p o a.1 a.2.2.1 a.2.2.2.1 a.2.2.2.2 e
 self:=λ_ _ _ _ _ Z h=>AD8 Z.zip h
section
variable {X:Cx}
def kK {e f:kd}{te z:TE}{p p2 n c i:Pos}{es:km kd}{L:Nat}(M:Gl X "zip")(N:X.mg "zip" =none)(O:Gl X "reversed")(P:X.mg "reversed" =none)(he:PE X e te)(Q:PE X f z)(hs:starEach [e, .Call (.Name "reversed" p2) [f] [] c] X.env= [(false,eval e X.env),(false,eval (.Call (.Name "reversed" p2) [f] [] c) X.env)] :=by rfl)(A:starEach [f] X.env= [(false,eval f X.env)] :=by rfl):PI X (.Tuple es L i) (.Call (.Name "zip" p) [e, .Call (.Name "reversed" p2) [f] [] c] [] n) (λd H R=>te d H λu r=>z d r λv g=>∃l m ys,u= .ref l/\v= .ref m/\(∃xs,Sq X.K false g l xs)/\Sq X.K false g m ys/\R (vR X.K l m ys.length) g):=by
 intro Tb s d H R I h;refine Call_ (F9 I M N boot_zip (ACe ?_ (by rw[hs];rfl) rfl));rw[hs];show wpAny _ _ (spliced ((false,eval e X.env) :: [(false,eval (.Call (.Name "reversed" p2) [f] [] c) X.env)])) _ _ s;refine ACS (Bk (he Tb s d H _ I h) λv B ⟨x,r,C,r1,S⟩=> ?_);refine ACS ?_;refine Call_ (F9 C O P boot_reversed (ACe ?_ (by rw[A];rfl) rfl));rw[A];show wpAny _ _ (spliced ((false,eval f X.env) :: [])) _ _ B;refine ACS (Bk (Q Tb B d r _ C S) λv2 a ⟨x2,g,j,r2,T⟩=>ADE ?_);obtain⟨l,m,ys,rfl,rfl,⟨xs,hl⟩,U,q⟩:=T;cases r1;cases r2;obtain⟨W,ru,D,_⟩:=j.sq hl;obtain⟨vs,rv,sv,hz⟩:=j.sq U;have E:vs.toArray.size=ys.length:=by rw[AAh,<-rv.length]
 have t:l<a.heap.objs.size:=by obtain⟨o,e,_⟩:=D;exact AAW e
 have w:m<a.heap.objs.size:=by obtain⟨o,e,_⟩:=sv;exact AAW e
 refine jG sv (by rw[E];exact Int.lt_of_le_of_lt (Int.ofNat_le.mpr hz) (by decide)) (ADE ?_);have F:∀b o,a.heap.get? b=some o->(a.heap.push (ic m ((vs.toArray.size:Int)-1))).get? b=some o:=λb o e=>AAX _ e;have k:(a.heap.push (ic m ((vs.toArray.size:Int)-1))).objs.size=a.heap.objs.size+1:=ABU ..;have y:Oc false (a.heap.push (ic m ((vs.toArray.size:Int)-1))) l W.toArray:=D.mv λo e=>F _ o e;have Y:KD (a.heap.push (ic m ((vs.toArray.size:Int)-1))) a.heap.objs.size m ((ys.length:Int)-1):=by rw[<-E];exact AAd _ rfl
 refine lT (s:={a with heap:=a.heap.push (ic m ((vs.toArray.size:Int)-1)),toks:=a.toks+1+1}) y Y λh1 Z kp=>AD8 Z.zip ?_;have I3:Inv X Tb d g {a with heap:=h1,toks:=a.toks+1+1}:=j.kept (t':=a.toks+1+1) λb G q=>kp b G (F b G q);have Z':ZR (a.heap.objs.size+4) (a.heap.objs.size+2) (a.heap.objs.size+3) (a.heap.objs.size+1) a.heap.objs.size l m ys.length 0 .none h1:=by have Z2:=Z;rw[show ({a with heap:=a.heap.push (ic m ((vs.toArray.size:Int)-1)),toks:=a.toks+1+1}:ki).heap.objs.size=a.heap.objs.size+1 from k] at Z2;exact Z2
 refine⟨_,_,_,_,g, ?_,I3,cn (lV t w),Z',λp hp=> ?_,q⟩
 .exact congrArg Value.ref (by show (a.heap.push (ic m ((vs.toArray.size:Int)-1))).objs.size+3=_;rw[k])
 have J:a.heap.objs.size<=p:=by
  have nu:p=a.heap.objs.size+4\/p=a.heap.objs.size+2\/p=a.heap.objs.size+3\/p=a.heap.objs.size+1\/p=a.heap.objs.size:=by simpa using hp
  rcases nu with e|e|e|e|e <;> (rw[e];first | exact AAY _|exact Nat.le_add_right _ _)
 exact j.fpOk J (j.hok.fresh J)
end
end L2
namespace PL
open PySem PySem.Spec PyProof.Rows L2
def XE {xs ys:km PV}{i:Nat}{u:PV}(h:(Fv xs ys)[i]? =some u):∃x y,xs[i]? =some x/\ys[i]? =some y/\u= .tup [x,y] :=by
 unfold Fv at h;rw[AE9] at h;cases hx:xs[i]? with
 | none=>rw[hx] at h;simp at h
 | some x=>
   cases hy:ys[i]? with
   | none=>rw[hx,hy] at h;simp at h
   | some y=>rw[hx,hy] at h;simp at h;exact⟨x,y,rfl,rfl,h.symm⟩
def bQ {K:AAR}{T M:kf->Prop}{H:Hp}{l m:kf}{xs ys:km PV}{n:Nat}(va:Hx T M H)(z:xs.length=ys.length)(u:ys.length=n)(r:Cp K T M H (.ref l) (.tup xs))(r2:Cp K T M H (.ref m) (.tup ys)):Vm K M (vR K l m n) (Fv xs ys.reverse) T H:=by
 obtain⟨_,vs,e,hq,rs⟩:=Dn r;cases e;obtain⟨_,g,e,j,c⟩:=Dn r2;cases e;have A:=c.length;have k:∀i b,ys.reverse[i]? =some b->i<n/\ys[n-1-i]? =some b:=λi b h=>by have hi:i<ys.reverse.length:=(AAy.mp h).1;rw[List.length_reverse] at hi;rw[List.getElem?_reverse hi,u] at h;exact⟨by omega,h⟩
 refine⟨λi w h=> ?_,λi w v B h x=> ?_,λi h=>⟨vs,hq, ?_⟩⟩
 .obtain ⟨a,b,ha,hb,_⟩:=XE h;obtain⟨hi,hb⟩:=k i b hb;obtain⟨d,h1,_⟩:=rs.get ha;obtain⟨f,h2,_⟩:=c.get hb;exact⟨vs,g,d,f,hq,j,by omega,h1,hi,h2⟩
 .obtain ⟨a,b,ha,hb,rfl⟩:=XE h;obtain⟨hi,hb⟩:=k i b hb;obtain⟨p,d,f,rfl,hn,rfl,h1,h2⟩:=x;obtain⟨C,s,ra⟩:=rs.get' (h1 vs hq);obtain⟨D,t,y⟩:=c.get' (h2 g j);rw[ha] at s;cases s;rw[hb] at t;cases t;have st:=EG.lay (o:= .tup [d,f]) va.tp hn;exact⟨st, .tup (.inl Au) (.cons (ra.stp st va) (.cons (y.stp st va) .nil))⟩
 .have:(Fv xs ys.reverse).length=xs.length:=by unfold Fv;rw[List.length_zipWith,List.length_reverse];omega
  rw[this] at h;rw[rs.length];exact h
section
variable {X:Cx}
def nE (a b:AE):AI:=λτ Q=>a τ λx=>b τ λy=>match x,y with | .tup xs, .tup ys=>xs.length=ys.length/\Q (Fv xs ys.reverse)|_,_=>False
def tz {e f:kd}{n o:AE}{p p2 d a b:Pos}{es:km kd}{A:Nat}(C:Gl X "zip")(D:X.mg "zip" =none)(E:Gl X "reversed")(F:X.mg "reversed" =none)(ha:SE X e n)(hb:SE X f o)(hs:starEach [e, .Call (.Name "reversed" p2) [f] [] a] X.env= [(false,eval e X.env),(false,eval (.Call (.Name "reversed" p2) [f] [] a) X.env)] :=by rfl)(G:starEach [f] X.env= [(false,eval f X.env)] :=by rfl):SI X (.Tuple es A b) (.Call (.Name "zip" p) [e, .Call (.Name "reversed" p2) [f] [] a] [] d) true (nE n o):=by
 obtain⟨t,I,s⟩:=ha;obtain⟨t',J,K⟩:=hb;refine⟨_,kK C D E F I J hs G,λB T r τ H R W g h k=>s B T r τ H _ _ g h λu x L M i r1 h1=>K B L r τ M _ _ (g.stp i) h1 λv y N O w r2 h2=> ?_⟩;split at h2 <;> first | exact h2.elim|skip
 obtain⟨P,h2⟩:=h2;have c:=r1.stp w (g.stp i).va;obtain⟨l,Q,rfl,hq,rs⟩:=Dn c;obtain⟨m,S,rfl,U,j⟩:=Dn r2;exact⟨l,m,S,rfl,rfl,⟨Q,hq⟩,U,k _ _ N O (i.trans w) (λM2 T3 Y z va _=>bQ va P (by rw[j.length]) (c.mv z) (r2.mv z)) h2⟩
end
end PL
namespace L2
open PySem PySem.Spec PyProof.Rows
def HC (h:da):da:=(h.push {cls:= .type "dict",data:= .dict #[] }).push {cls:= .type "cell",data:= .cell none}
def Rl {h:da}{b:kf}{o:Obj}(e:h.get? b=some o):(HC h).get? b=some o:=AAX _ (AAX _ e)
def YW {h:da}:(HC h).Ns h.objs.size (λ_=>none):=(Heap.Ns.new h (.type "dict")).keeps λb o e=>AAX _ e
def UW {h:da}:(HC h).IsCell (h.objs.size+1) none:=by have e:(h.push {cls:= .type "dict",data:= .dict #[] }).objs.size=h.objs.size+1:=ABU ..;rw[<-e];exact⟨_,AAd _ rfl,rfl⟩
def fi {M:Model}{A:Wf}{E:kj->ki->Prop}{s:ki}{scope:Scope}{c:Str}{globals:kf}{cl:km (Str×kf)}{qual:Str}{env:Env}{Q:Env->ki->Prop}(d:∀n a,cellsFrom n scope.names a=(c,n)::a)(e:∀h,pushCells h scope.names=h.push {cls:= .type "cell",data:= .cell none})(hQ:Q (newEnv scope s.heap.objs.size globals ((c,s.heap.objs.size+1)::cl) qual none .none (some env) builtinsNs) {s with heap:=HC s.heap}):wpAny M A (newFunctionEnv scope globals cl [] qual none .none (some env)) Q E s:=by simp only[newFunctionEnv,Option.isSome_some,ABK];refine AAQ (wpAny_alloc ?_);refine AAQ (wpAny_layCells _ (λname kind cells=>by cases b:kind==NameKind.cell <;> simp[b]) _ _ _ _ ?_);rw[d,e];rw[show ({s with heap:=s.heap.push {cls:= .type "dict",data:= .dict #[] }}:ki).heap.objs.size=s.heap.objs.size+1 from ABU ..];rw[ADN];exact AAQ (AAT (AAT hQ))
def KH (X:Cx)(sc:Scope)(N:km Str)(a:Str)(cl:km (Str×kf))(C:kf)(s:ki)(H:Hp)(ex:km kf)(pn:km (kf×Obj)):Cx:=
 {blk X sc N ((a,C+1)::cl) C s H ex pn with fn:=λx=>x==a}
section
variable {X:Cx}{Tb:km (kf×Obj)}{σ:St}{H:Hp}{s:ki}{fp:km kf}{sc:Scope}{N:km Str}{cl:km (Str×kf)}{y0:Str}
def mF {C:kf}{y:Str}{c:kf}(e:((y0,C+1)::cl).lookup y=some c):(y=y0/\c=C+1)\/cl.lookup y=some c:=by
 rw[ACv] at e;cases hb:y==y0 with
 | true=>rw[hb] at e;cases e;exact .inl ⟨beq_iff_eq.mp hb,rfl⟩
 | false=>rw[hb] at e;exact .inr e
def jF (I:Inv X Tb σ H s)(d:∀b∈fp,Ej X Tb H b)(h:∀b∈fp,b<s.heap.objs.size)(hk:sc.kind= .function)(h1:∀y c,cl.lookup y=some c->X.env.cells.lookup y=some c)(h2:∀y,(sc.names.lookup y=some .cell\/sc.names.lookup y=some .free)->∃c,((y0,s.heap.objs.size+1)::cl).lookup y=some c):(KH X sc N y0 cl s.heap.objs.size s H fp (X.pn++Tb)).Ok where
 mod:=I.ok.mod
 kind:=hk
 glob:=I.ok.glob
 blt:=I.ok.blt
 above:=AAY _
 inj:=λx y c a b=>by
  have lo:∀y c,cl.lookup y=some c->c<s.heap.objs.size:=λy c e=>I.szLt (h1 y c e);rcases mF a with⟨l,m⟩|g
  .rcases mF b with⟨i,j⟩|f
   .rw [l,i]
   .rw [m] at f;exact absurd (lo _ _ f) (Nat.not_lt.mpr (ADY _))
  .rcases mF b with⟨i,j⟩|f
   .rw [j] at g;exact absurd (lo _ _ g) (Nat.not_lt.mpr (ADY _))
   .exact I.ok.inj x y c (h1 x c g) (h1 y c f)
 has:=λx hx=>h2 x hx
 cab:=λx c z e=>by
  have z:(x==y0)=true:=z;rcases mF e with⟨_,rfl⟩|e
  .exact ADY _
  .have k:((y0,s.heap.objs.size+1)::cl).lookup x=some c:= ‹_›;rw[ACv,z] at k;cases k;exact ADY _
 hd:=I.ok.hd
 frames:=I.ok.frames
 stk:= .inl rfl
 exf:=λb hb=>⟨AAa (h b hb),λx c e=>by
  rcases mF e with⟨_,rfl⟩|e
  .exact ABE (Nat.lt_succ_of_lt (h b hb))
  .exact (d b hb).2.2.2.2.1 x c (h1 x c e)⟩
 bs:=I.bs
 bsz:=AAu I.ok.bsz I.sz
 noex:=λb o e hb=>by
  rcases (d b hb).2.2.2.1 with z|z
  .exact I.ok.noex b o e z
  .exact absurd (AAt (AAW (I.ok.bs b o e).1) z) (ABi _)
 exfs:=λb hb=>I.notStk (d b hb).2.1 (d b hb).2.2.1
 funs:=I.stack
 frf:=I.stkFree
def jE {own:Nat}{ix:km Nat}{h':da}{m:Str->ke kj}{t':Nat}(I:Inv X Tb σ H s)(K:∀b∈fp,Ej X Tb H b)(L:∀b∈fp,b<s.heap.objs.size)(hk:sc.kind= .function)(h1:∀y c,cl.lookup y=some c->X.env.cells.lookup y=some c)(h2:∀y,(sc.names.lookup y=some .cell\/sc.names.lookup y=some .free)->∃c,((y0,s.heap.objs.size+1)::cl).lookup y=some c)(F:R3 X sc own ix N)(h:∀(j i:Nat) (x:Str),ix[j]? =some i->N[own+j]? =some x->x≠y0)(hn:h'.Ns s.heap.objs.size m)(M:h'.IsCell (s.heap.objs.size+1) none)(k:∀b o,s.heap.get? b=some o->h'.get? b=some o):Inv (KH X sc N y0 cl s.heap.objs.size s H fp (X.pn++Tb)) [] (CZ own ix σ) H {s with heap:=h',toks:=t'} where
 ok:=jF I K L hk h1 h2
 os:=rfl
 bare:=I.bare
 base:=Un.kept k
 loc:=by
  refine⟨m,hn,λi x v O P Z=> ?_⟩;obtain⟨bK,Q,B,es⟩:=Fi P;obtain⟨y,C,R,D,E⟩:=F.out _ _ B;have n:x=y:=by have t:N[i]? =some x:=O;have f:=C;rw[show own+(i-own)=i by omega,t] at f;exact AAn f
  subst n;have S:=h _ _ _ B C;obtain⟨m0,T,U⟩:=I.loc;obtain⟨u,r,l⟩:=U Q x v R es (.inr (.inl D));refine⟨u,r, ?_⟩;rcases l with⟨z,_⟩|⟨_,c,W,z⟩
  .have G:X.env.scope.names.lookup x=some .local:=z;rw[D] at G;cases G
  .obtain ⟨J,g⟩:=h2 x (.inl E);have w:cl.lookup x=some J:=by
    rcases mF g with⟨e,_⟩|e
    .exact absurd e S
    .exact e
   have:=h1 x J w;rw[W] at this;cases this;obtain⟨o,A,hd⟩:=z;exact .inr ⟨.inl E,c,g,o,k c o A,hd⟩
 cell:=λx c e=>by
  rcases mF e with⟨_,rfl⟩|e
  .exact ⟨none,M⟩
  .obtain ⟨v,o,A,hd⟩:=I.cell x c (h1 x c e);exact⟨v,o,k c o A,hd⟩
 free:=I.hok.fresh (AAY _)
 freeC:=λx c e=>by
  rcases mF e with⟨_,rfl⟩|e
  .exact I.hok.fresh (ADY _)
  .exact I.freeC x c (h1 x c e)
 pin:=λp hp=>by
  have Y:p∈X.pn++Tb:=by simpa[KH,blk] using hp
  obtain⟨a,b,c,d,e⟩:=I.pin p Y;exact⟨k _ _ a,b,AAa (AAW a),I.notStk c d,e⟩
 hok:=I.hok.kept k
 len:=by rw[Mu];exact F.len.symm
def df {own:Nat}{ix:km Nat}{d:St}{e:Hp}{f:ki}{a:km (kf×Obj)}(I:Inv X Tb σ H s)(c:∀b∈fp,Ej X Tb H b)(g:∀b∈fp,b<s.heap.objs.size)(B:Inv (KH X sc N y0 cl s.heap.objs.size s H fp (X.pn++Tb)) a d e f):Inv X Tb σ e f:=
 I.call' (ch:=fp) B.os B.base B.hok B.bare λb hb=>⟨(c b hb).2.2.2.1,(c b hb).2.1,(c b hb).2.2.2.2.1,(c b hb).2.2.2.2.2⟩
end
section
variable {X:Cx}{tg elt iter:kd}{ifs:km kd}{scope:Scope}{pos:Pos}{wi:TI}{own:Nat}{ix:km Nat}{N:km Str}{y0:Str}{g:TG}{tt:TT}{te:TE}
structure Ob (X:Cx) (tg elt:Expr) (ifs:List Expr) (scope:Scope) (own:Nat) (ix:List Nat) (N:List Str) (y0:Str) (g:TG) (tt:TT) (te:TE):Prop where
 kind:scope.kind= .function
 cells:∀y∈scope.names,y.2= .cell->y.1=y0
 cf:∀n acc,cellsFrom n scope.names acc=(y0,n)::acc
 pc:∀h,pushCells h scope.names=h.push {cls:= .type "cell",data:= .cell none}
 far:∀(j i:Nat) (x:Str),ix[j]? =some i->N[own+j]? =some x->x≠y0
 names:∀y∈scope.names,y.2= .local->scope.names.lookup y.1=some .local
 frees:∀y∈scope.names,y.2= .free->X.env.scope.names.lookup y.1=some .cell
 ins:R3 X (relabel scope X.env) own ix N
 keep:IL own g
 tgt:∀cl C s H ex pn,PG (KH X (relabel scope X.env) N y0 cl C s H ex pn) tg g
 tst:∀cl C s H ex pn,Y9 (KH X (relabel scope X.env) N y0 cl C s H ex pn) ifs tt
 val:∀cl C s H ex pn,PE (KH X (relabel scope X.env) N y0 cl C s H ex pn) elt te
def L7 {env:Env}{y:Str}{k:NameKind}(c:∀y∈scope.names,y.2= .cell->y.1=y0)(h:(y,k)∈(relabel scope env).names)(hk:k= .cell\/k= .free):(y,NameKind.free)∈scope.names\/y=y0:=by
 obtain⟨⟨n,b⟩,a,e⟩:=AAe.mp (show (y,k)∈scope.names.map _ from h);dsimp only at e;split at e
 .rename_i hc;cases e;have:b= .free:=by cases b <;> simp_all
  subst this;exact .inl a
 .cases e;rcases hk with z|z
  .subst z;exact .inr (c _ a rfl)
  .subst z;exact .inl a
def Xl {Tb:km (kf×Obj)}{M:St}{H:Hp}{s:ki}{k:km kf}{cl:km (Str×kf)}{it:kf}{tn:Nat->da->Prop}{J:It}{D:kf}{R:Result->ki->Prop}{Qh:Hp->Prop}{W:Nat->Nat->Hp->Prop}(hc:X.calm=true)(O:Ob X tg elt ifs scope own ix N y0 g tt te)(T:LX X.prog X.w X.K tg J k it tn)(I:Inv X Tb M H s)(hf:∀b∈k,Ej X Tb H b)(Ey:∀b∈k,b<s.heap.objs.size)(hW:KI J D (CZ own ix M) g tt te Qh W)(hR:∀σ' a P,Inv (KH X (relabel scope X.env) N y0 cl s.heap.objs.size s H k (X.pn++Tb)) [] σ' a P->Qh a->R (.ok .next) P)(n:Nat)(s0:ki)(h0:∃i a,Inv (KH X (relabel scope X.env) N y0 cl s.heap.objs.size s H k (X.pn++Tb)) [] (CZ own ix M) a s0/\tn i s0.heap/\(∀b∈k,a b=none)/\W i n a):codeAny (model X.prog X.w) X.A (.compLoop (.ListComp elt [⟨tg,iter,ifs,0⟩] scope pos) 0 (.ref it) (.ref D) (F8 X.env (relabel scope X.env) ((y0,s.heap.objs.size+1)::cl) s.heap.objs.size)) R s0:=by
 refine ADx rfl (λn P=>∃i a,Inv (KH X (relabel scope X.env) N y0 cl s.heap.objs.size s H k (X.pn++Tb)) [] (CZ own ix M) a P/\tn i P.heap/\(∀b∈k,a b=none)/\W i n a) (λn s1 h1=> ?_) n h0;obtain⟨i,H1,B1,S,U,w1⟩:=h1;generalize f:KH X (relabel scope X.env) N y0 cl s.heap.objs.size s H k (X.pn++Tb)=Y at *;have eA:Y.A=X.A:=by rw[<-f];rfl
 have Z:Y.prog=X.prog:=by rw[<-f];rfl
 have eW:Y.w=X.w:=by rw[<-f];rfl
 have eK:Y.K=X.K:=by rw[<-f];rfl
 have eE:F8 X.env (relabel scope X.env) ((y0,s.heap.objs.size+1)::cl) s.heap.objs.size=Y.env:=by rw[<-f];rfl
 have eX:Y.xe=λ_ _=>False:=by rw[<-f];rfl
 have eC:Y.calm=true:=by rw[<-f];exact hc
 have hg:PG Y tg g:=by rw[<-f];exact O.tgt _ _ _ _ _ _
 have ht:Y9 Y ifs tt:=by rw[<-f];exact O.tst _ _ _ _ _ _
 have hv:PE Y elt te:=by rw[<-f];exact O.val _ _ _ _ _ _
 have l:∀{a:Hp},(∀b∈k,a b=none)->∀b∈k,Ej Y [] a b:=λ{a} hn b hb=>by
  obtain⟨_,a1,a2,a3,a4,a5⟩:=hf b hb;refine⟨hn b hb, ?_, ?_, ?_, ?_, ?_⟩
  .rw [<-f];exact AAa (Ey b hb)
  .rw [<-f];exact I.notStk a1 a2
  .rw [<-f];exact .inl hb
  .intro x c e;exact(B1.ok.exf b (by rw[<-f];exact hb)).2 x c e
  .intro p hp;have:p∈X.pn++Tb:=by rw[<-f] at hp;simpa[KH,blk] using hp
   exact a5 p this
 rw[eE,<-eA,<-Z,<-eW];show wpAny _ _ ((compTurn (.ListComp elt [⟨tg,iter,ifs,0⟩] scope pos) 0 (.ref it) (.ref D) Y.env).onRaise (λx=>do noteFrame x Y.env;theTreesLotGoes x)) _ _ s1;refine ADy ?_;rw[compTurn_list];have ff:∀{α:Type} {t:Sem α} {Q:α->ki->Prop} {E:kj->ki->Prop} {s:ki},wpAny (model Y.prog Y.w) Y.A t Q Y.xe s->wpAny (model Y.prog Y.w) Y.A t Q E s:=λh=>ABM h (λ_ _ q=>q) λ_ _ z=>by rw[eX] at z;exact z.elim
 refine AAQ (ABa (AAQ ?_));rcases hW i n H1 w1 with⟨stop,qn⟩|⟨go,step⟩
 .have zd:=λE=>T.done Y Z eW eK eC i [] s1 _ H1 E B1 (l U) S stop;rw[<-Z,<-eW] at zd;refine Bk (zd _) λr s4 ⟨hr,I4⟩=> ?_;subst hr;exact AAT (hR _ _ _ I4 qn)
 .have zi:=λE=>T.item Y Z eW eK eC i [] s1 _ H1 E B1 (l U) S go;rw[<-Z,<-eW] at zi;refine Bk (zi _) λr s4 ⟨u,hr,h4⟩=> ?_;subst hr;refine AAQ (Bk h4 λ_ s5 ⟨x,H5,I5,r5,y5,C,fr5⟩=> ?_);have I5':=I5.pinned (l fr5) (T.obj _ _ C);refine AAQ (Bk (ff (hg _ s5 _ H5 x u _ I5' r5 (O.keep _ _ _ _ (step x H5 y5)))) λ_ s6 ⟨B,H6,I6,q6,l6,k6⟩=> ?_);refine AAQ (Bk (ff (ht _ s6 B H6 _ I6 q6)) λok s7 ⟨H7,I7,q7⟩=> ?_);have back:∀{F:Hp} {G:ki} {L:Nat},Inv Y ([] ++ GA k s5.heap) B F G->L<n->W (i+1) L F->
   ∃m,m<n/\∃i a,Inv Y [] (CZ own ix M) a G/\tn i G.heap/\(∀b∈k,a b=none)/\W i m a:=λ{F G L} I8 hm w8=>by
   refine⟨L,hm,i+1,F,I8.unpinned.weak l6.symm (λj v hj=> ?_),T.keep _ _ _ C λb hb o e=>(I8.pin (b,o) (AAo _ (AAo _ (Cd hb e)))).1,λb hb=> ?_,w8⟩
   .rw [k6 j (Fi hj).1];exact hj
   .obtain ⟨o,e,d⟩:=T.obj _ _ C b hb;exact(I8.pin (b,o) (AAo _ (AAo _ (Cd hb e)))).2.1
  cases ok with
  | false=> obtain⟨L,hm,w8⟩:=q7;exact AAT ⟨rfl,back I7 hm w8⟩
  | true=> refine AAQ (AAQ (Bk (ff (hv _ s7 B H7 _ I7 q7)) λyv G ⟨y,F,I8,r8,ys,hD,hz,L,hm,w8⟩=> ?_));refine AAQ (Bk (ff (JF _ G B F (.ref D) [y] (.ref D) [yv] (λ_ H9=>H9=upd F D (.lst (ys ++ [y]))) I8 rfl (.cons r8 .nil) ⟨D,ys,y,rfl,rfl,hD,hz,rfl⟩)) λ_ s9 ⟨_,H9,I9,_,e9⟩=> ?_);subst e9;exact AAT (AAT ⟨rfl,back I9 hm w8⟩)
def au {Tb:km (kf×Obj)}{u:St}{H:Hp}{s:ki}{use:ke (kj->Sem Unit)}{Q:kj->ki->Prop}{it:kf}{j:km kf}{cl:km (Str×kf)}{tn:Nat->da->Prop}{J:It}{Qd:kf->Hp->Prop}(hc:X.calm=true)(O:Ob X tg elt ifs scope own ix N y0 g tt te)(T:LX X.prog X.w X.K tg J j it tn)(I:Inv X Tb u H s)(M:∀b∈j,Ej X Tb H b)(st:tn 0 s.heap)(h1:∀y c,cl.lookup y=some c->X.env.cells.lookup y=some c)(h2:∀y,(y,NameKind.free)∈scope.names->∃c,cl.lookup y=some c)(hq:∀D,H D=none->∃W:Nat->Nat->Hp->Prop,(∃m,W 0 m (upd H D (.lst [])))/\KI J D (CZ own ix u) g tt te (Qd D) W)(P:∀D C i k,(∃m,k.heap.Ns C m)->Inv X Tb u i k->(∀d v,Inv X Tb d i v->∀h',Heap.SameBut C v.heap h'->Inv X Tb d i {v with heap:=h'})->C≠X.env.locals->(∀x c,X.env.cells.lookup x=some c->C≠c)->Qd D i-> compPost (model X.prog X.w) X.A X.xe use Q (.ref D) C (.ok .next) k):wpAny (model X.prog X.w) X.A (newList []) (λl n=>wpAny (model X.prog X.w) X.A (newFunctionEnv scope X.env.globals cl [] X.env.qual none .none (some X.env)) (λa p=> codeAny (model X.prog X.w) X.A (.compStart (.ListComp elt [⟨tg,iter,ifs,0⟩] scope pos) 0 (.ref it) l {a with scope:=relabel scope X.env}) (compPost (model X.prog X.w) X.A X.xe use Q l a.locals) p) X.xe n) X.xe s:=by
 refine ABN ?_ (by simp[sizeOk]);have f:Inv X Tb u (upd H s.heap.objs.size (.lst [])) {s with heap:=s.heap.push {cls:= .type "list",data:= .seq ([] :km kj).toArray}}:=I.lnew (t':=s.toks) .nil (ABO _);have R:=I.fresh;obtain⟨W,⟨m0,S⟩,hW⟩:=hq _ R;have U:∀b∈j,b<s.heap.objs.size:=λb hb=>by obtain⟨o,e,_⟩:=T.obj _ _ st b hb;exact AAW e
 have E:∀b∈j,Ej X Tb (upd H s.heap.objs.size (.lst [])) b:=λb hb=>by obtain⟨Y,Z⟩:=M b hb;exact⟨by rw[Aq (AAa (U b hb))];exact Y,Z⟩
 generalize rj:({s with heap:=s.heap.push {cls:= .type "list",data:= .seq ([] :km kj).toArray}}:ki)=s3 at f;have r:tn 0 s3.heap:=T.keep _ _ _ st λb hb o e=>by rw[<-rj];exact AAX _ e
 have F:∀b∈j,b<s3.heap.objs.size:=λb hb=>by obtain⟨o,e,_⟩:=T.obj _ _ r b hb;exact AAW e
 refine fi O.cf O.pc ?_;have L:∀b o,s3.heap.get? b=some o->(HC s3.heap).get? b=some o:=λb o e=>Rl e;have lw:=YW (h:=s3.heap);have nX:=UW (h:=s3.heap);have rT:∀y,((relabel scope X.env).names.lookup y=some .cell\/(relabel scope X.env).names.lookup y=some .free)->∃c,((y0,s3.heap.objs.size+1)::cl).lookup y=some c:=λy hy=>by
  have go:(y,NameKind.free)∈scope.names\/y=y0:=by
   rcases hy with z|z
   .exact L7 O.cells (IU z) (.inl rfl)
   .exact L7 O.cells (IU z) (.inr rfl)
  rw[ACv];cases hb:y==y0 with
  | true=>exact⟨_,rfl⟩
  | false=>
    rcases go with z|z
    .exact h2 y z
    .rw [z] at hb;simp at hb
 have B:=jE (N:=N) (t':=s3.toks) f E F (sc:=relabel scope X.env) O.kind h1 rT O.ins O.far lw nX L;have t:tn 0 (HC s3.heap):=T.keep _ _ _ r λb hb o e=>L b o e;have loop:∀G:ki,G={s3 with heap:=HC s3.heap}->
  codeAny (model X.prog X.w) X.A (.compLoop (.ListComp elt [⟨tg,iter,ifs,0⟩] scope pos) 0 (.ref it) (.ref s.heap.objs.size) (F8 X.env (relabel scope X.env) ((y0,s3.heap.objs.size+1)::cl) s3.heap.objs.size)) (compPost (model X.prog X.w) X.A X.xe use Q (.ref s.heap.objs.size) s3.heap.objs.size) G:=by rintro G rfl;refine Xl (cl:=cl) (Qh:=Qd s.heap.objs.size) hc O T f E F hW (λσ' i k B' q'=> ?_) m0 _ ⟨0,_,B,t,λb hb=>(E b hb).1,S⟩;refine P _ _ i k (let ⟨m,hm,_⟩:=B'.loc;⟨m,hm⟩) (df (own:=own) (ix:=ix) f E F B') (λd v I2 h' hs=>Pq f rfl I2 B'.free hs) (ABE f.lt) (λx c e=>ABE (f.szLt e)) q'
 exact AEd (loop _ rfl) (T.self _ 0 _ _ _ t (loop _ rfl))
def gN (hc:X.calm=true)(hi:PI X tg iter wi)(O:Ob X tg elt ifs scope own ix N y0 g tt te)(hs:∀x,foldedSetIterable iter X.env x=pure x:=by intro _;rfl):PE X (.ListComp elt [⟨tg,iter,ifs,0⟩] scope pos) (aI wi own ix g tt te):=by intro Tb s c H Q I h;obtain⟨cl,d,h1,h2⟩:=G5 (env:=X.env) (scope:=scope) λy hy e=>I.ok.has y.1 (.inl (O.frees y hy e));rw[eval_ListComp];refine ADz (use:=none) rfl hs d O.kind O.names (Bk (hi Tb s c H _ I h) λv p hv=>Bk hv λf r i=> ?_);obtain⟨it,t,tn,J,u,rfl,j,T,a,f2,q⟩:=i;exact au (Qd:=λD b=>Q (.ref D) b) hc O T j f2 a h1 h2 q λD C b k hn l gone w z n=>by obtain⟨m,o⟩:=hn;exact⟨m,o,λh' hs=>⟨.ref D,b,gone c k l h' hs,rfl,n⟩⟩
end
end L2
namespace PL
open PySem PySem.Spec PyProof.Rows L2
section
variable {X:Cx}{ta:AE}{pos:Pos}
structure dF (X:Cx) (tg elt:Expr) (ifs:List Expr) (scope:Scope) (own:Nat) (ix:List Nat) (N:List Str) (y0:Str) (g:AG) (t:AT) (te:AE):Prop where
 ex:∃g' t' te',Ob X tg elt ifs scope own ix N y0 g' t' te'/\LV X.K g' g/\OH X.K t' t/\Fg X.K te' te
def gz {c a iter:kd}{b:km kd}{scope:Scope}{own:Nat}{ix:km Nat}{N:km Str}{e:Str}{g:AG}{t:AT}{s:kc}{d:AI}(hc:X.calm=true)(hi:SI X c iter s d)(O:dF X c a b scope own ix N e g t ta)(hs:∀x,foldedSetIterable iter X.env x=pure x:=by intro _;rfl):SF X (.ListComp a [⟨c,iter,b,0⟩] scope pos) (CA d own ix g t ta):=by obtain⟨l,f,h⟩:=hi;obtain⟨g',t',i,O,j,st,k⟩:=O.ex;exact⟨_,gN hc f O hs,Qu h j st k⟩
def jI {l b:kd}{c:km kd}{scope:Scope}{own:Nat}{ix:km Nat}{N:km Str}(a:Str){g:AG}{t:AT}{te:AE}(h1:scope.kind= .function)(h2:(scope.names.all λy=> !decide (y.2= .cell)||decide (y.1=a))=true)(m:∀n d,cellsFrom n scope.names d=(a,n)::d)(o:∀h,pushCells h scope.names=h.push {cls:= .type "cell",data:= .cell none})(p:(scope.names.all λy=> !decide (y.2= .local)||decide (scope.names.lookup y.1=some .local))=true)(r:(scope.names.all λy=> !decide (y.2= .free)||decide (X.env.scope.names.lookup y.1=some .cell))=true)(u:N.length=own+ix.length)(v:Px X (relabel scope X.env) own ix N=true)(w:((N.drop own).all λx=> !decide (x=a))=true)(f:∀cl C s H ex pn,SK own (KH X (relabel scope X.env) N a cl C s H ex pn) l g)(k:∀cl C s H ex pn,lY (KH X (relabel scope X.env) N a cl C s H ex pn) c t)(val:∀cl C s H ex pn,SE (KH X (relabel scope X.env) N a cl C s H ex pn) b te):dF X l b c scope own ix N a g t te:=by
 refine⟨nS X.K own g,qP X.K t,qH X.K te,⟨h1,λy hy e=> ?_,m,o,λj i x hj hx=> ?_,λy hy e=> ?_,λy hy e=> ?_,V2 u v,Lq,λcl C s H ex pn=>(f cl C s H ex pn).of,λcl C s H ex pn=>(k cl C s H ex pn).of,λcl C s H ex pn=>(val cl C s H ex pn).of⟩,Ou,Ov,Uu⟩
 .have:=ABd.mp h2 y hy;simpa[e] using this
 .have z:x∈N.drop own:=AA9 (i:=j) (by rw[AC1];exact hx);have:=ABd.mp w x z;simpa using this
 .have:=ABd.mp p y hy;simpa[e] using this
 .have:=ABd.mp r y hy;simpa[e] using this
end
end PL
namespace L2
open PySem PySem.Spec PyProof.Rows
def uL {T:String}(h:IS T):typeOf (.type T)=pure (.type "type"):=by rcases h with rfl|rfl|rfl|rfl <;> rfl
def uw:Kd->String
 | .int=>"int" | .bl=>"bool" | .non=>"NoneType" | .str=>"str" | .lst=>"list" | .tup=>"tuple"
section
variable {X:Cx}
def ji {K:AAR}{Tb:km (kf×Obj)}{s:ki}{d:St}{H:Hp}{x:V}{u:kj}{k:Kd}(I:Inv X Tb d H s)(r:RelV x u)(h:ql X.K x H k):s.TypeIs u (uw k):=by
 cases k with
 | int=>obtain⟨i,rfl⟩:=h;obtain⟨t,rfl⟩:=r;exact rfl
 | bl=>obtain⟨i,rfl⟩:=h;cases r;exact rfl
 | non=>have e:x= .non:=h;subst e;cases r;exact rfl
 | str=>obtain⟨i,rfl⟩:=h;obtain⟨t,rfl⟩:=r;exact rfl
 | lst=> obtain⟨a,ys,rfl,hq⟩:=h;cases r;obtain⟨b,f,g,hz⟩:=I.list hq;obtain⟨o,e,c,_⟩:=g.isList;exact⟨o,e,c⟩
 | tup=> obtain⟨a,ys,rfl,hq⟩:=h;cases r;obtain⟨b,f,⟨o,e,c,_⟩,hz⟩:=I.tuple hq;exact⟨o,e,c⟩
def nF {H:Hp}{x:V}{u:kj}{k:Kd}{T:String}(r:RelV x u)(h:ql X.K x H k)(c:IS T):Answers (λs=>s.TypeIs u (uw k)) u (.type T) (JX k T):=by
 have b:=uL c;cases k with
 | int=>
   obtain⟨i,rfl⟩:=h;obtain⟨t,rfl⟩:=r;rcases c with rfl|rfl|rfl|rfl
   .exact .of_true b (by rw[ABA];kernel_rfl)
   all_goals exact .of_false_int (by rfl) b (by rw[ABA];kernel_rfl)
 | bl=>
   obtain⟨i,rfl⟩:=h;cases r;rcases c with rfl|rfl|rfl|rfl
   .exact .of_true b (by rw[ABA];kernel_rfl)
   .exact .of_true b (by rw[ABA];kernel_rfl)
   all_goals exact .of_false_bool (by rfl) b (by rw[ABA];kernel_rfl)
 | non=> have e:x= .non:=h;subst e;cases r;rcases c with rfl|rfl|rfl|rfl;all_goals exact .of_false_none (by rfl) b (by rw[ABA];kernel_rfl)
 | str=> obtain⟨i,rfl⟩:=h;obtain⟨t,rfl⟩:=r;rcases c with rfl|rfl|rfl|rfl;all_goals exact .of_false_str (by rfl) b (by rw[ABA];kernel_rfl)
 | lst=>
   obtain⟨a,ys,rfl,hq⟩:=h;cases r;rcases c with rfl|rfl|rfl|rfl
   case inr.inr.inr=>exact .of_true b (by rw[ABA];kernel_rfl)
   all_goals exact .of_false_list (by rfl) b (by rw[ABA];kernel_rfl)
 | tup=>
   obtain⟨a,ys,rfl,hq⟩:=h;cases r;rcases c with rfl|rfl|rfl|rfl
   case inr.inr.inl=>exact .of_true b (by rw[ABA];kernel_rfl)
   all_goals exact .of_false_tuple (by rfl) b (by rw[ABA];kernel_rfl)
theorem ZC {H:Hp}{x:V}{u:kj}{k:Kd}(r:RelV x u)(h:ql X.K x H k):∀{a:km String},(∀T∈a,IS T)->AnswersAll (λs=>s.TypeIs u (uw k)) u (a.map Value.type) (a.map (JX k))
 | [],_=>True.intro
 | T::a,hT=>⟨nF r h (hT T (by simp)),ZC r h λT h=>hT T (by simp[h])⟩
def uD (K:AAR)(c:TE)(b:km String):TE:=λd H Q=>c d H λx a=>∀q,a q=none->∃k,ql K x a k/\Q (.bl (b.any (JX k))) (upd a q (.tup (b.map V.ty)))
def uI (a:km String):TA:=λ_ H Q=>Q (a.map V.ty) H
theorem XB:∀{a:km String} {b:km kj},A6 (a.map V.ty) b->b=a.map Value.type
 | [],_,h=>by cases h;rfl
 | T::a,_,h=>by
   rw[AAc] at h;cases h with
   | cons h t=>cases h;rw[XB t,AAc]
def kE {x:Str}{p p2 f:Pos}{e:kd}{es:km kd}{g:Nat}{m:TE}{d:km String}(A:Gl X x)(B:X.mg x=none)(hv:bootBuiltins x=some (.builtin "isinstance"))(ha:PE X e m)(C:PA X es (uI d))(D:∀T∈d,IS T)(hl:d.length<=sizeLine)(hn:x≠"__name__" :=by decide)(hdb:(x==("__debug__" :Str))=false:=by decide)(he:starEach (e :: [.Tuple es g p2]) X.env=(false,eval e X.env)::starEach [.Tuple es g p2] X.env:=by rfl)(hpl:(backTo f (starEach [.Tuple es g p2] X.env)).any (·.1)=false:=by rfl)(E:starEach [.Tuple es g p2] X.env=(false,eval (.Tuple es g p2) X.env)::starEach [] X.env:=by rfl):PE X (.Call (.Name x p) [e, .Tuple es g p2] [] f) (uD X.K m d):=by
 intro Tb s n H Q I h;refine ADu (F9 I A B hv ?_ hn hdb);refine AE5 ?_ he hpl;rw[he];show wpAny _ _ (spliced ((false,eval e X.env)::backTo f (starEach [.Tuple es g p2] X.env))) _ _ s;refine ACS (Bk (ha Tb s n H _ I h) λu r ⟨v,t,F,r1,G⟩=> ?_);rw[E];show wpAny _ _ (spliced ((false,eval (.Tuple es g p2) X.env)::backTo f (starEach [] X.env))) _ _ r;refine ACS (wpAny_Tuple_spliced (Bk (C p2 Tb r n t (λvs J=>vs=d.map V.ty/\J=t) F ⟨rfl,rfl⟩) λj i ⟨vs,L,l,r2,M,N⟩=> ?_));subst M N;have O:L i.heap.objs.size=none:=l.hok.fresh (AAY _);obtain⟨k,hk,P⟩:=G _ O;have y:=XB r2;have R:j.length<=sizeLine:=by rw[y,AAb];exact hl
 have S:=l.laid (t':=i.toks) (a:=i.heap.objs.size) (o:= .tup (d.map V.ty)) (h':=i.heap.push {cls:= .type "tuple",data:= .seq j.toArray}) (λb u e=>AAX _ e) (AAY _) (show Dd X.prog X.w _ _ _ (.tup (d.map V.ty)) from⟨by rw[AAb];exact hl,j,r2,⟨_,AAd _ rfl,rfl,_,rfl⟩⟩);have U:Shared.TypeIs {i with heap:=i.heap.push {cls:= .type "tuple",data:= .seq j.toArray}} u (uw k):=by
  have z:=ji (K:=X.K) l r1 hk;cases u with
  | ref a=>obtain⟨o,e,c⟩:=z;exact⟨o,AAX _ e,c⟩
  | _=>exact z
 refine⟨R,ADE ?_⟩;refine IsiPair.tupleOfB (cs:=d.map Value.type) (vs:=d.map (JX k)) (b:=d.any (JX k)) (ZC r1 hk D) U ?_ ?_ λW=>⟨.bl _,_,S.tok _,rfl,P⟩
 .rw [<-y];exact AAd _ rfl
 .rw [List.any_map];rfl
end
end L2
namespace PL
open PySem PySem.Spec PyProof.Rows L2
section
variable {X:Cx}
def LY (a:AE)(b:km String):AE:=λτ Q=>a τ λx=>match kdOf x with | some k=>Q (.bl (b.any (JX k)))|none=>False
def kh {x:Str}{p p2 f:Pos}{e:kd}{es:km kd}{c:Nat}{o:AE}(d:km String)(u:Gl X x)(w:X.mg x=none)(hv:bootBuiltins x=some (.builtin "isinstance"))(ha:SE X e o)(y:PA X es (uI d))(z:∀T∈d,IS T)(hl:d.length<=sizeLine)(hn:x≠"__name__" :=by decide)(hdb:(x==("__debug__" :Str))=false:=by decide)(he:starEach (e :: [.Tuple es c p2]) X.env=(false,eval e X.env)::starEach [.Tuple es c p2] X.env:=by rfl)(hpl:(backTo f (starEach [.Tuple es c p2] X.env)).any (·.1)=false:=by rfl)(A:starEach [.Tuple es c p2] X.env=(false,eval (.Tuple es c p2) X.env)::starEach [] X.env:=by rfl):SE X (.Call (.Name x p) [e, .Tuple es c p2] [] f) (LY o d):=by
 obtain⟨t,C,s⟩:=ha;refine⟨_,kE u w hv C y z hl hn hdb he hpl A,λB T D τ H Q E r h k=> ?_⟩;refine s B T D τ H _ _ r h λv x i j g r1 h1=> ?_;intro q hq;have l:=r.stp g;have m:EG i j i (upd j q (.tup (d.map V.ty))):=EG.lay l.tp hq;have a:∀b,E (.bl b)->Q (.bl b) (upd j q (.tup (d.map V.ty))):=λb hb=>k _ _ i _ (g.trans m) (.bl _) hb;cases r1 with
 | non=>exact⟨.non,rfl,a _ h1⟩
 | bl b=>exact⟨.bl,⟨_,rfl⟩,a _ h1⟩
 | int b=>exact⟨.int,⟨_,rfl⟩,a _ h1⟩
 | str b=>exact⟨.str,⟨_,rfl⟩,a _ h1⟩
 | ty b=>exact h1.elim
 | tup n _=>exact⟨.tup,⟨_,_,rfl,n.sq⟩,a _ h1⟩
 | lst n _ _ _=>exact⟨.lst,⟨_,_,rfl, .inl (.inl n)⟩,a _ h1⟩
 | tape _=>exact h1.elim
 | scr _=>exact h1.elim
 | dct _ _ _=>exact h1.elim
def Gm {x:Str}{p p2 b:Pos}{e:kd}{es:km kd}{a:Nat}{c:AE}(A B:String)(d:Gl X x)(f:X.mg x=none)(hv:bootBuiltins x=some (.builtin "isinstance"))(ha:SE X e c)(g:PA X es (MM (tC (.ty A)) (MM (tC (.ty B)) iL)))(h:∀T∈ [A,B],IS T)(hn:x≠"__name__" :=by decide)(hdb:(x==("__debug__" :Str))=false:=by decide)(he:starEach (e :: [.Tuple es a p2]) X.env=(false,eval e X.env)::starEach [.Tuple es a p2] X.env:=by rfl)(hpl:(backTo b (starEach [.Tuple es a p2] X.env)).any (·.1)=false:=by rfl)(i:starEach [.Tuple es a p2] X.env=(false,eval (.Tuple es a p2) X.env)::starEach [] X.env:=by rfl):SE X (.Call (.Name x p) [e, .Tuple es a p2] [] b) (LY c [A,B]):=
 kh [A,B] d f hv ha g h (ABn rfl) hn hdb he hpl i
def Lp:∀T∈ ["tuple","list"],IS T:=λT h=>by
 simp only[AAV,AAp,AAq] at h;rcases h with rfl|rfl
 .exact .inr (.inr (.inl rfl))
 .exact .inr (.inr (.inr rfl))
def QC:∀T∈ ["list","tuple"],IS T:=λT h=>Lp T (by simp only[AAV,AAp,AAq] at *;exact h.symm)
end
end PL
namespace PL
open PySem L2 PyProof.Rows
def wb (a:km String)(x:PV)(Q:PV->Prop):Prop:=match kdOf x with | some k=>Q (.bl (a.any (JX k)))|none=>False
instance xI {a:AE}{b:km String}{τ:BN}{Q:PV->Prop}:Wp (LY a b τ Q) (a τ λx=>wb b x Q):=⟨id⟩
class dS (Ts:List String):Prop where
 q:Ts.any (JX .tup)=true/\Ts.any (JX .lst)=true/\Ts.any (JX .int)=false/\Ts.any (JX .bl)=false/\Ts.any (JX .non)=false/\Ts.any (JX .str)=false
instance:dS ["tuple","list"] :=⟨by decide⟩
instance:dS ["list","tuple"] :=⟨by decide⟩
section
variable {Ts:km String}[h:dS Ts]{Q:PV->Prop}{xs:km PV}
instance xf:Wp (wb Ts (.tup xs) Q) (Q (.bl true)):=⟨λk=>by show Q _;rw[h.q.1];exact k⟩
instance xc:Wp (wb Ts (.lst xs) Q) (Q (.bl true)):=⟨λk=>by show Q _;rw[h.q.2.1];exact k⟩
end
end PL
namespace L2
open PySem PySem.Spec PyProof.Rows
section
variable {κ:Type}[DecidableEq κ]
def Fq (a:km (κ×V))(k:κ):ke V:=(a.find? λb=>decide (b.1=k)).map (·.2)
def IX (a:km (κ×V))(k:κ)(v:V):km (κ×V):=
 if (a.any λb=>decide (b.1=k))=true then a.map (λb=>if b.1=k then (b.1,v) else b) else a ++ [(k,v)]
def lb (a:km (κ×V))(k:κ):km (κ×V):=a.filter λb=>decide (b.1≠k)
def MQ {p:κ×V}{r:km (κ×V)}{k:κ}(e:p.1=k):Fq (p::r) k=some p.2:=by simp[Fq,ACY,e]
def MP {p:κ×V}{r:km (κ×V)}{k:κ}(e:¬p.1=k):Fq (p::r) k=Fq r k:=by simp[Fq,ACY,e]
theorem Q4 (k:κ):∀a:km (κ×V),(a.any λb=>decide (b.1=k))=(Fq a k).isSome
 | [] =>rfl
 | p::r=>by
   rw[ABP];by_cases e:p.1=k
   .simp only[MQ e,AAi e,Bool.true_or,Option.isSome_some]
   .rw [MP e,AAr e,Bool.false_or];exact Q4 k r
def WN (a:km (κ×V))(k:κ)(v:V):(IX a k v).length<=a.length+1:=by
 unfold IX;split
 .rw [AAb];omega
 .rw [AA8,AAv,ADZ];omega
def LR.isSome_eq {o:ke V}{u:ke kj}(r:LR o u):o.isSome=u.isSome:=by
 cases o with
 | none=>cases u with
   | none=>rfl
   | some _=>exact(show False from r).elim
 | some _=>cases u with
   | none=>exact(show False from r).elim
   | some _=>rfl
def LR.getD {o:ke V}{u:ke kj}{d:V}{d':kj}(r:LR o u)(a:RelV d d'):RelV (o.getD d) (u.getD d'):=by
 cases o with
 | none=>cases u with
   | none=>exact a
   | some _=>exact(show False from r).elim
 | some _=>cases u with
   | none=>exact(show False from r).elim
   | some _=>exact r
def KV.val {a:km (κ×V)}{vs:km (κ×kj)}(r:KV a vs)(k:κ):LR (Fq a k) (valueAt vs k):=by
 unfold KV at r;induction r with
 | nil=>exact True.intro
 | @cons p q d qs h t ih=>
   obtain⟨h1,h2⟩:=h;by_cases e:p.1=k
   .have c:q.1=k:=h1.symm.trans e;have b:valueAt (q::qs) k=some q.2:=by simp[valueAt,ACY,c]
    rw[MQ e,b];exact h2
   .have c:¬q.1=k:=λz=>e (h1.trans z);have b:valueAt (q::qs) k=valueAt qs k:=by simp[valueAt,ACY,c]
    rw[MP e,b];exact ih
def KV.any {a:km (κ×V)}{vs:km (κ×kj)}(r:KV a vs)(k:κ):(a.any λb=>decide (b.1=k))=vs.any λb=>decide (b.1=k):=by
 unfold KV at r;induction r with
 | nil=>rfl
 | cons h t ih=>rw[ABP,ABP,ih,h.1]
def KV.repl {b:km (κ×V)}{vs:km (κ×kj)}(r:KV b vs)(k:κ){y:V}{u:kj}(c:RelV y u):KV (b.map λa=>if a.1=k then (a.1,y) else a) (vs.map λa=>if a.1=k then (a.1,u) else a):=by
 unfold KV at r ⊢;induction r with
 | nil=>exact .nil
 | @cons p q d qs h t ih=>
   rw[AAc,AAc];refine .cons ?_ ih;obtain⟨h1,h2⟩:=h;by_cases e:p.1=k
   .rw [AAU e,AAU (h1.symm.trans e)];exact⟨h1,c⟩
   .rw [AAS e,AAS (λz=>e (h1.trans z))];exact⟨h1,h2⟩
def KV.put {a:km (κ×V)}{vs:km (κ×kj)}(r:KV a vs)(k:κ){y:V}{u:kj}(b:RelV y u):KV (IX a k y) (stored vs k u):=by
 unfold IX stored;rw[r.any k];by_cases e:(vs.any λc=>decide (c.1=k))=true
 .rw [AAU e,AAU e];exact r.repl k b
 .rw [AAS e,AAS e];exact Paired.snoc r ⟨rfl,b⟩
def KV.drop {c:km (κ×V)}{vs:km (κ×kj)}(r:KV c vs)(k:κ):KV (lb c k) (without vs k):=by
 unfold KV at r ⊢;unfold lb without;induction r with
 | nil=>exact .nil
 | @cons p q f qs h t ih=>
   obtain⟨h1,h2⟩:=h;rw[ABZ,ABZ];by_cases e:p.1=k
   .have a:¬decide (p.1≠k)=true:=by simp[e]
    have b:¬decide (q.1≠k)=true:=by simp[h1.symm.trans e]
    rw[AAS a,AAS b];exact ih
   .have d:¬q.1=k:=λz=>e (h1.trans z);have a:decide (p.1≠k)=true:=by simp[e]
    have b:decide (q.1≠k)=true:=by simp[d]
    rw[AAU a,AAU b];exact .cons ⟨h1,h2⟩ ih
def KV.keys {a:km (κ×V)}{vs:km (κ×kj)}(r:KV a vs):a.map (·.1)=vs.map (·.1):=by
 unfold KV at r;induction r with
 | nil=>rfl
 | cons h t ih=>rw[AAc,AAc,ih,h.1]
def KV.length {a:km (κ×V)}{vs:km (κ×kj)}(r:KV a vs):a.length=vs.length:=ADA r
end
abbrev KT (H:Hp):km (km GL×V)->km (km GL×kf×kj)->Prop:=Paired λp q=>p.1=q.1/\H q.2.1=some (.tup (p.1.map kV))/\RelV p.2 q.2.2
def KT.val {H:Hp}{a:km (km GL×V)}{xs:km (km GL×kf×kj)}(r:KT H a xs)(k:km GL):LR (Fq a k) ((atKey xs k).map (·.2)):=by
 induction r with
 | nil=>exact True.intro
 | @cons p q d qs h t ih=>
   obtain⟨h1,_,h2⟩:=h;by_cases e:p.1=k
   .have c:q.1=k:=h1.symm.trans e;have b:atKey (q::qs) k=some q.2:=by simp[atKey,ACY,c]
    rw[MQ e,b];exact h2
   .have c:¬q.1=k:=λz=>e (h1.trans z);have b:atKey (q::qs) k=atKey qs k:=by simp[atKey,ACY,c]
    rw[MP e,b];exact ih
def KT.repl {H:Hp}{a:km (km GL×V)}{xs:km (km GL×kf×kj)}(r:KT H a xs)(k:km GL){y:V}{u:kj}(c:RelV y u):KT H (a.map λb=>if b.1=k then (b.1,y) else b) (xs.map (putAt k u)):=by
 induction r with
 | nil=>exact .nil
 | @cons p q f qs h t ih=>
   rw[AAc,AAc];refine .cons ?_ ih;obtain⟨h1,h2,d⟩:=h;unfold putAt;by_cases e:p.1=k
   .rw [AAU e,AAU (h1.symm.trans e)];exact⟨h1,h2,c⟩
   .rw [AAS e,AAS (λz=>e (h1.trans z))];exact⟨h1,h2,d⟩
def KT.put {H:Hp}{a:km (km GL×V)}{xs:km (km GL×kf×kj)}(r:KT H a xs)(k:km GL){b:kf}{y:V}{u:kj}(hb:H b=some (.tup (k.map kV)))(c:RelV y u):KT H (IX a k y) (storedH xs k b u):=by
 have e:(a.any λd=>decide (d.1=k))=(atKey xs k).isSome:=by rw[Q4,(r.val k).isSome_eq,ADa]
 unfold IX storedH;rw[e];by_cases q:(atKey xs k).isSome=true
 .rw [AAU q,AAU q];exact r.repl k c
 .rw [AAS q,AAS q];exact Paired.snoc r ⟨rfl,hb,c⟩
def KT.keeps {H c:Hp}{a:km (km GL×V)}{xs:km (km GL×kf×kj)}(r:KT H a xs)(d:∀b ys,H b=some (.tup ys)->c b=some (.tup ys)):KT c a xs:=
 Paired.mapP r λ_ _ z=>⟨z.1,d _ _ z.2.1,z.2.2⟩
def iq (H:Hp)(a:kf)(y:V)(r:ke V):Prop:=
 (∃c k,Rd H a (.dK c)/\y=kV k/\r=Fq c k)\/∃c k b,Rd H a (.dT c)/\y= .ref b/\H b=some (.tup (k.map kV))/\r=Fq c k
def ir (H:Hp)(a:kf)(y v:V)(d:Hp):Prop:=
 (∃c k,H a=some (.dK c)/\y=kV k/\c.length<sizeLine/\d=upd H a (.dK (IX c k v)))\/
 ∃c k b,H a=some (.dT c)/\y= .ref b/\H b=some (.tup (k.map kV))/\c.length<sizeLine/\d=upd H a (.dT (IX c k v))
def iq.k {H:Hp}{a:kf}{b:km (GL×V)}{k:GL}(e:H a=some (.dK b)):iq H a (kV k) (Fq b k):= .inl ⟨b,k, .inl e,rfl,rfl⟩
def iq.t {H:Hp}{a b:kf}{c:km (km GL×V)}{k:km GL}(e:H a=some (.dT c))(d:H b=some (.tup (k.map kV))):iq H a (.ref b) (Fq c k):= .inr ⟨c,k,b, .inl e,rfl,d,rfl⟩
def ir.k {H:Hp}{a:kf}{b:km (GL×V)}{k:GL}{v:V}(e:H a=some (.dK b))(hl:b.length<sizeLine):ir H a (kV k) v (upd H a (.dK (IX b k v))):= .inl ⟨b,k,e,rfl,hl,rfl⟩
def ir.t {H:Hp}{a b:kf}{c:km (km GL×V)}{k:km GL}{v:V}(e:H a=some (.dT c))(d:H b=some (.tup (k.map kV)))(hl:c.length<sizeLine):ir H a (.ref b) v (upd H a (.dT (IX c k v))):= .inr ⟨c,k,b,e,rfl,d,hl,rfl⟩
section
variable {X:Cx}{Tb:km (kf×Obj)}{σ:St}{H:Hp}{s:ki}{a:kf}{y v:V}{u r:kj}{o:ke V}{A:Wf}{E:kj->ki->Prop}
def Inv.big (I:Inv X Tb σ H s):sysModules<s.heap.objs.size:=by have h:mainGlobals<s.heap.objs.size:=(I.mod.glob.keeps I.bk).lt;exact ACg (by decide) h
def jJ {h':da}{t':Nat}{c:HO}(I:Inv X Tb σ H s)(d:qq (H a))(hs:Heap.SameBut a s.heap h')(he:∃q,h'.get? a=some q)(new:Dd X.prog X.w (upd H a c) h' a c):Inv X Tb σ (upd H a c) {s with heap:=h',toks:=t'}:=
 I.write (x:=a) (e:=a) d (.inl rfl) (λb q hb z=>(hs.2 b hb).trans z) he new
end
def mr (i:kd):Prop:=∀a b,subscripted i false a b=operate [a,b] (getItem a b)
def lI {prog:gn}{w:fe}{A:Wf}{E:kj->ki->Prop}{s:ki}{env:Env}{value slice:kd}{j:Pos}{T id:String}{Q:kj->ki->Prop}(hl:typeLookup (.type T) "__getitem__" =pure (some (.builtin id)))(hs:mr slice)(h:wpAny (model prog w) A (eval value env) (λo c=>wpAny (model prog w) A (eval slice env) (λi a=>a.TypeIs o T/\wpAny (model prog w) A (getItem o i) Q E a) E c) E s):wpAny (model prog w) A (eval (.Subscript value slice j) env) Q E s:=by
 refine Subscript_ (ABM h (λo c f=>ABM f (λi a b=> ?_) λ_ _ x=>x) λ_ _ x=>x);obtain⟨k,b⟩:=b;unfold subscriptTail;refine AAQ ?_;rw[getitemInPython_of_ne k.not_modules];refine AAQ (ABg k hl ?_);have e:wpAny (model prog w) A (subscripted slice false o i) (λr d=>wpAny (model prog w) A (letTemporaryGo value o r >>= λ_=>pure r) Q E d) E a:=by rw[hs o i];exact wpAny_operating (ABM b (λr d g=>AAQ (wpAny_letTemporaryGo (AAT g))) λ_ _ x=>x)
 first
  | exact AAT (AAQ e)
  | exact AAQ (AAT (AAQ e))
  | exact AAQ e
structure M1 (X:Cx) (o:Expr) (m:Str) (apos:Pos) (e:Expr) (cpos:Pos):Prop where
 base:attributeBase o m X.env (eval o X.env)=eval o X.env
 few:((backTo cpos (starEach [e] X.env)).all (λx=> !x.1)&&(backToKw cpos (keywordEach [] X.env)).all (λx=>x.1.isSome)
  && decide (([e] :List Expr).length+([] :List Keyword).length+(if ([] :List Keyword).isEmpty then 0 else 1)<30))=true
 line:(apos.endLine==cpos.line)=true
 trees:backTo cpos (starEach [e] X.env)= [(false,eval e X.env)]
structure M2 (X:Cx) (o:Expr) (m:Str) (apos:Pos) (e f:Expr) (cpos:Pos):Prop where
 base:attributeBase o m X.env (eval o X.env)=eval o X.env
 few:((backTo cpos (starEach [e,f] X.env)).all (λx=> !x.1)&&(backToKw cpos (keywordEach [] X.env)).all (λx=>x.1.isSome)
  && decide (([e,f] :List Expr).length+([] :List Keyword).length+(if ([] :List Keyword).isEmpty then 0 else 1)<30))=true
 line:(apos.endLine==cpos.line)=true
 trees:backTo cpos (starEach [e,f] X.env)= [(false,eval e X.env),(false,eval f X.env)]
abbrev KN (K:AAR)(H:Hp):km (FK×V)->km (FK×kf×kj)->Prop:=Paired λp q=>p.1=q.1/\G2 K H q.2.1 p.1/\RelV p.2 q.2.2
def KN.val {K:AAR}{H:Hp}{a:km (FK×V)}{xs:km (FK×kf×kj)}(r:KN K H a xs)(k:FK):LR (Fq a k) ((atKey xs k).map (·.2)):=by
 induction r with
 | nil=>exact True.intro
 | @cons p q d qs h t ih=>
   obtain⟨h1,_,h2⟩:=h;by_cases e:p.1=k
   .have c:q.1=k:=h1.symm.trans e;have b:atKey (q::qs) k=some q.2:=by simp[atKey,ACY,c]
    rw[MQ e,b];exact h2
   .have c:¬q.1=k:=λz=>e (h1.trans z);have b:atKey (q::qs) k=atKey qs k:=by simp[atKey,ACY,c]
    rw[MP e,b];exact ih
def KN.repl {K:AAR}{H:Hp}{a:km (FK×V)}{xs:km (FK×kf×kj)}(r:KN K H a xs)(k:FK){y:V}{u:kj}(c:RelV y u):KN K H (a.map λb=>if b.1=k then (b.1,y) else b) (xs.map (putAt k u)):=by
 induction r with
 | nil=>exact .nil
 | @cons p q f qs h t ih=>
   rw[AAc,AAc];refine .cons ?_ ih;obtain⟨h1,h2,d⟩:=h;unfold putAt;by_cases e:p.1=k
   .rw [AAU e,AAU (h1.symm.trans e)];exact⟨h1,h2,c⟩
   .rw [AAS e,AAS (λz=>e (h1.trans z))];exact⟨h1,h2,d⟩
def KN.put {K:AAR}{H:Hp}{a:km (FK×V)}{xs:km (FK×kf×kj)}(r:KN K H a xs)(k:FK){b:kf}{y:V}{u:kj}(hb:G2 K H b k)(c:RelV y u):KN K H (IX a k y) (storedH xs k b u):=by
 have e:(a.any λd=>decide (d.1=k))=(atKey xs k).isSome:=by rw[Q4,(r.val k).isSome_eq,ADa]
 unfold IX storedH;rw[e];by_cases q:(atKey xs k).isSome=true
 .rw [AAU q,AAU q];exact r.repl k c
 .rw [AAS q,AAS q];exact Paired.snoc r ⟨rfl,hb,c⟩
def KN.keeps {K:AAR}{H c:Hp}{a:km (FK×V)}{xs:km (FK×kf×kj)}(r:KN K H a xs)(d:∀b ys,H b=some (.tup ys)->c b=some (.tup ys)):KN K c a xs:=
 Paired.mapP r λ_ _ z=>⟨z.1,z.2.1.stay d,z.2.2⟩
section
variable {P:gn}{w:fe}{H:Hp}{h:da}{a:kf}{K:AAR}
def Lr {k:FK}(ok:OG P w H h)(d:K.In h)(e:G2 K H a k):(fkKind P w).is h k a:=by
 obtain⟨b,h1,h2⟩:=e;obtain⟨_,j,r,o,l,m,n,p⟩:=(show Dd P w H h a (.tup [.ref b, .int k.2]) from ok a _ h1);cases r with
 | cons r1 r=>
 cases r with
 | cons r2 r=>
 cases r;cases r1;obtain⟨u,rfl⟩:=r2;have two:∀{g:km kj},A6 [.int k.1.1, .int k.1.2] g->ItemsAre (intKind P w) [k.1.1,k.1.2] g:=λhv=>by
  cases hv with
  | cons s hv=>
  cases hv with
  | cons t hv=> cases hv;obtain⟨C,rfl⟩:=s;obtain⟨D,rfl⟩:=t;exact .cons (by simp[intKind,Value.isInt]) (.cons (by simp[intKind,Value.isInt]) .nil)
 refine⟨o,_,n,b,u,l,m,p,by simp, ?_⟩;rcases h2 with h2|⟨i,c,f,v,x,y,z⟩
 .obtain ⟨_,c,r2,A,f1,f2,f,B⟩:=(show Dd P w H h b (.tup [.int k.1.1, .int k.1.2]) from ok b _ h2);exact⟨A,c.toArray,f,f1,f2,B,by simpa using two r2⟩
 .exact ⟨i,c,f,d b i v,x,y,two z⟩
def SM {b:km (FK×V)}(ok:OG P w H h)(c:K.In h)(e:H a=some (.dN K b)):b.length<=sizeLine/\(a==sysModules)=false/\∃xs,KN K H b xs/\h.DictOfH (fkKind P w) a xs:=by
 obtain⟨z,y,xs,r,o,es,ep,h1,h2,d,f,g⟩:=(show Dd P w H h a (.dN K b) from ok a _ e);refine⟨z,y,xs,r,o,es,ep,h1,h2,d,f,λx hx=> ?_,g⟩;have all:∀{l:km (FK×V)} {m:km (FK×kf×kj)},KN K H l m->∀x∈m,(fkKind P w).is h x.1 x.2.1:=by
  intro l m q;induction q with
  | nil=>intro x hx;exact nomatch hx
  | @cons p q i qs hq t ih=>
    intro x hx;rcases AAV.mp hx with e|hx
    .subst e;exact Lr ok c (by rw[<-hq.1];exact hq.2.1)
    .exact ih x hx
 exact all r x hx
end
section
variable {X:Cx}{Tb:km (kf×Obj)}{σ:St}{H:Hp}{s:ki}{a b:kf}{v d:V}{r:kj}{kvs:km (FK×V)}{k:FK}{A:Wf}{E:kj->ki->Prop}
def bZ {Q:kj->ki->Prop}(hu:A.units+2<cLine)(I:Inv X Tb σ H s)(e:H a=some (.dN X.K kvs))(hb:G2 X.K H b k)(l:Fq kvs k=some v)(h:∀c i,Inv X Tb σ H i->RelV v c->Q c i):wpAny (model X.prog X.w) A (getItem (.ref a) (.ref b)) Q E s:=by obtain⟨z,hd,xs,f,j⟩:=SM I.hok I.kIn e;obtain⟨c,hw,g⟩:=LR.some_of (v:=v) (o:=(atKey xs k).map (·.2)) (by rw[<-l];exact f.val k);obtain⟨p,hp,m⟩:=ACp.mp hw;refine wpAny_getItem_heap (D1 hu) (Lr I.hok I.kIn hb) j hp ?_;rw[m];exact h c _ (I.tok _) g
def wZ {Q:kj->ki->Prop}(hu:A.units+2<cLine)(I:Inv X Tb σ H s)(e:H a=some (.dN X.K kvs))(hb:G2 X.K H b k)(h:∀f,Inv X Tb σ H f->Q (.bool (Fq kvs k).isSome) f):wpAny (model X.prog X.w) A (compareOp .In (.ref b) (.ref a)) Q E s:=by obtain⟨z,hd,xs,c,g⟩:=SM I.hok I.kIn e;refine wpAny_in_heap (D1 hu) (Lr I.hok I.kIn hb) hd g ?_;have q:=(c.val k).isSome_eq;rw[ADa] at q;rw[<-q];exact h _ (I.tok _)
def bg {Q:Unit->ki->Prop}(hu:A.units+2<cLine)(I:Inv X Tb σ H s)(e:H a=some (.dN X.K kvs))(hb:G2 X.K H b k)(hl:kvs.length<sizeLine)(rv:RelV v r)(h:∀i,Inv X Tb σ (upd H a (.dN X.K (IX kvs k v))) i->Q () i):wpAny (model X.prog X.w) A (setItem (.ref a) (.ref b) r) Q E s:=by
 obtain⟨z,hd,xs,f,l⟩:=SM I.hok I.kIn e;have hz:xs.length<=sizeLine:=by rw[<-ADA f];exact z
 have hl:(IX kvs k v).length<=sizeLine:=by have:=WN kvs k v;omega
 refine wpAny_setItem_heap (hsz:=hz) (D1 hu) (Lr I.hok I.kIn hb) l λh' g hs=>h _ ?_;obtain⟨q,es,ep,hq,h2,m,n,_,o⟩:=g;refine jJ I (by rw[e];exact True.intro) hs ⟨q,hq⟩ ⟨hl,hd,_,(f.put k hb rv).keeps λc ys j=> ?_,q,es,ep,hq,h2,m,n,o⟩;rw[Aq (sU j e (λz=>nomatch z))];exact j
def oO {Q:kj->ki->Prop}(hu:A.units+2<cLine)(I:Inv X Tb σ H s)(e:H a=some (.dN X.K kvs))(hb:G2 X.K H b k)(j:RelV d r)(h:∀f g,Inv X Tb σ H g->RelV ((Fq kvs k).getD d) f->Q f g):wpAny (model X.prog X.w) A (call (.builtin "dict.get") [.ref a, .ref b,r]) Q E s:=by obtain⟨z,hd,xs,c,i⟩:=SM I.hok I.kIn e;refine call_meetsIn AFE i.typeIs PySem.F.entry_dict_get (PySem.F.args_dict_get_3 _ _ _) (meetsH_dict_get_default (fkKind X.prog X.w) a b hd r) ⟨D1 hu,k,xs,Lr I.hok I.kIn hb,i,h _ _ (I.tok _) ?_⟩;exact(c.val k).getD j
end
def mT (K:AAR):TE:=λ_ H Q=>∀p,H p=none->Q (.ref p) (upd H p (.dN K []))
def uE (K:AAR)(f g:TE):TE:=λe H Q=>f e H λx h=>g e h λy d=>∃a b c k v,x= .ref a/\y= .ref b/\d a=some (.dN K c)/\G2 K d b k/\Fq c k=some v/\Q v d
def uF (K:AAR)(f g:TE):TE:=λe H Q=>f e H λy h=>g e h λx d=>∃a b c k,x= .ref a/\y= .ref b/\d a=some (.dN K c)/\G2 K d b k/\Q (.bl (Fq c k).isSome) d
def gu (K:AAR)(f g h:TE):TS:=λD d H=>h d H λv i=>f d i λx j=>g d j λy e=>∃a b c k,x= .ref a/\y= .ref b/\e a=some (.dN K c)/\G2 K e b k/\c.length<sizeLine/\D.nx d (upd e a (.dN K (IX c k v)))
def Yx (K:AAR)(g h i:TE):TE:=λd H Q=>g d H λx f=>∃a c,x= .ref a/\f a=some (.dN K c)/\h d f λy j=>i d j λz e=>∃b c k,y= .ref b/\e a=some (.dN K c)/\G2 K e b k/\Q ((Fq c k).getD z) e
section
variable {X:Cx}{o i e f value:kd}{pos pos' apos cpos:Pos}{td ty tv tx:TE}
def eB {P:gn}{w:fe}{H:Hp}{K:AAR}(h:da)(hb:sysModules<h.objs.size):Dd P w H (h.push {cls:= .type "dict",data:= .dict #[] }) h.objs.size (.dN K []):=
 ⟨ABO _,AEV.mpr (ABQ (AAa hb)), [], .nil,_, #[],0,AAd _ rfl,⟨rfl,rfl,rfl⟩,rfl,rfl,List.nodup_nil⟩
def kH:PE X (.Dict [] [] pos) (mT X.K):=λTb s b H Q I h=>
 wpAny_Dict_empty ⟨.ref s.heap.objs.size,_,I.laid (a:=s.heap.objs.size) (o:= .dN X.K []) (t':=s.toks) (λ_ _ q=>AAX _ q) (AAY _) (eB s.heap I.big),rfl,h _ (I.hok.fresh (AAY _))⟩
def la {Tb:km (kf×Obj)}{h:St}{H:Hp}{s:ki}{a:kf}{d:km (FK×V)}(I:Inv X Tb h H s)(e:H a=some (.dN X.K d)):s.TypeIs (.ref a) "dict" /\(∀b,Value.ref a= .ref b->∃c,s.heap.get? b=some c/\c.dict=none):=by obtain⟨_,hd,xs,_,g⟩:=SM I.hok I.kIn e;refine⟨g.typeIs,λb q=> ?_⟩;cases q;obtain⟨c,_,_,h1,h2,_⟩:=g;exact⟨c,h1,h2.2.1⟩
def kF (hu:X.A.units+2<cLine)(j:PE X o td)(hi:PE X i ty)(hs:mr i):PE X (.Subscript o i pos) (uE X.K td ty):=by intro Tb s d H Q I h;refine lI PySem.F.slot_dict_getitem.lookup hs (Bk (j Tb s d H _ I h) λu m ⟨x,n,p,r,t⟩=>Bk (hi Tb m d n _ p t) λw J ⟨y,z,g,B,a,b,C,k,v,ex,D,e,hb,l,E⟩=> ?_);subst ex D;obtain rfl:u=Value.ref a:=r;obtain rfl:w=Value.ref b:=B;exact⟨(la g e).1,bZ hu g e hb l λL M G c=>⟨v,z,G,c,E⟩⟩
def ou (hu:X.A.units+2<cLine)(hi:PE X i ty)(d:PE X o td):PC X .In i o (uF X.K ty td):=by intro Tb s c H Q I h;refine Bk (hi Tb s c H _ I h) λg j ⟨y,l,m,n,p⟩=>Bk (d Tb j c l _ m p) λu D ⟨x,r,t,v,a,b,w,k,ex,z,e,hb,B⟩=> ?_;subst ex z;obtain rfl:u=Value.ref a:=v;obtain rfl:g=Value.ref b:=n;exact wZ hu t e hb λE C=>⟨.bl _,r,C,rfl,B⟩
def Zw (hu:X.A.units+2<cLine)(d:PE X o td)(hi:PE X i ty)(hv:PE X value tv)(hs:swapsWith value (some (.Subscript o i pos')) pos.line X.env=pure false):PS X (.Assign [.Subscript o i pos'] value pos) (gu X.K td ty tv):=by intro Tb s c H D I h;refine wpAny_Assign_Subscript (Bk (hv Tb s c H _ I h) λr g ⟨v,j,l,rv,m⟩=>Bk (d Tb g c j _ l m) λu n ⟨x,p,t,w,z⟩=>Bk (hi Tb n c p _ t z) λB M ⟨y,N,C,E,a,b,F,k,ex,G,e,hb,hl,J⟩=> ?_) hs;subst ex G;obtain rfl:u=Value.ref a:=w;obtain rfl:B=Value.ref b:=E;exact bg hu C e hb hl rv λO L=>⟨c,_,L,J⟩
def Wg (hu:X.A.units+2<cLine)(l:PE X o td)(he:PE X e ty)(n:PE X f tx)(m:M2 X o "get" apos e f cpos):PE X (.Call (.Attribute o "get" apos) [e,f] [] cpos) (Yx X.K td ty tx):=by
 intro Tb s c H Q I h;refine wpAny_Call_method m.base m.few m.line PySem.F.plainAttrs_dict AFE PySem.F.type_dict_get (Bk (l Tb s c H _ I h) λu p ⟨x,r,g,t,a,j,ex,v,w⟩=> ?_);subst ex;obtain rfl:u=Value.ref a:=t;obtain⟨t1,t2⟩:=la g v;refine⟨t1,t2, ?_⟩;rw[m.trees];refine Calls.callWith_builtin rfl (Calls.evalArgs_plain (ACS (Bk (he Tb p c r _ g w) λB C ⟨y,D,E,G,J⟩=>
  ACS (Bk (n Tb C c D _ E J) λT U ⟨z,L,M,N,b,O,k,P,e,hb,R⟩=>ADE ?_))))
 subst P;obtain rfl:B=Value.ref b:=G;exact oO hu M e hb N λW Y S d=>⟨_,L,S,d,R⟩
end
end L2
namespace PySem
open Sem (wp)
def Mq (h:da)(d:kf)(es:Array DictEntry)(ep:Nat):Prop:=∃o,h.get? d=some o/\o.ExactDict/\o.data= .dict es ep
section
variable {prog:gn}{w:fe}{A:Wf}{E:kj->ki->Prop}{s:ki}{d it:kf}{es:Array DictEntry}{ep i:Nat}
def Mq.typeIs (x:Mq s.heap d es ep):s.TypeIs (.ref d) "dict" :=let ⟨o,a,hc,_⟩:=x;⟨o,a,hc.1⟩
def Mq.at {h h':da}(x:Mq h d es ep)(e:∀o,h.get? d=some o->h'.get? d=some o):Mq h' d es ep:=let ⟨o,a,r⟩:=x;⟨o,e _ a,r⟩
def gh {Q:kj->ki->Prop}(hd:(d==sysModules)=false)(b:Mq s.heap d es ep)(hQ:Q (.ref s.heap.objs.size) {s with heap:=s.heap.push {cls:= .type "dict_keyiterator",data:= .fields #[.ref d, .int 0 0, .int es.size 0, .int ep 0] }}):wpAny (model prog w) A (pyIter (.ref d)) Q E s:=by have a:=b.typeIs;obtain⟨o,c,hc,e⟩:=b;refine wpAny_pyIter_slot a F.slot_dict_iter (ABH F.slot_dict_iter a F.entry_dict_iter ?_ (F.args_dict_iter_1 _));unfold Builtin.«dict.__iter__»;refine AAQ ?_;unfold Builtin.Dict.dictSlotNone;refine AAQ (wpAny_notOrdered_dict a (AAT ?_));show wpAny _ _ (Builtin.Dict.showsAll d >>= _) _ _ s;unfold Builtin.Dict.showsAll;rw[AAS (by rw[hd];exact AAg)];refine AAQ (AAT (AAQ (AEo c e (AAQ (AEp c e ?_)))));exact AAQ (ABN (AAT ⟨_,rfl,"dict_keyiterator",_,⟨_,AAd _ rfl,rfl⟩,ADb.lookup,by simpa[rawInt] using hQ⟩))
def gi {Q:ke kj->ki->Prop}(a:s.heap.IsKeyIter it d i es.size ep)(h:Mq s.heap d es ep)(j:i<es.size)(hQ:∀h',h'.IsKeyIter it d (i+1) es.size ep->Heap.SameBut it s.heap h'->Q (some es[i].key) {s with heap:=h'}):wpAny (model prog w) A (pyNext (.ref it)) Q E s:=by
 have b:=a.typeIs;obtain⟨o,c,hc,hd⟩:=a;obtain⟨k,e,l,f⟩:=h;unfold pyNext;refine AAQ (ACj (ABc (name:=Str.ofString "__next__") b ADb (ABH ADb b AFF ?_ (AFG _))));refine AAQ (AAT (AAQ (AAQ ?_)));refine AAQ (AEJ b (AAT (AAQ (wpAny_fieldsOf c hd ?_))));simp only[show Builtin.Dict_items.ownsTuple "dict_keyiterator" =false by decide,ABI,AAx];show wpAny _ _ (if (Value.ref d==Value.none)=true then _ else _) _ _ s;rw[AAS (show ¬((Value.ref d==Value.none)=true) from AAg)];refine AAQ (AAT (AAQ (AEo e f ?_)));rw[AAS (by simp)];refine AAQ (AAT (AAQ (AEp e f ?_)));rw[AAS (by simp)];refine AAT ?_;simp only[show ¬((i:Int)<0) from by omega,AAx,ACt,AFH j];refine AAQ ?_;refine AAQ (AEJ b (AAT (AAQ (wpAny_isOneOf_keyiter b ?_))));show wpAny _ _ (setField (.ref it) 1 (rawInt ((i:Int)+1)) >>= _) _ _ s;refine AAQ (ADK c hd (by simp) ?_);have g:(s.heap.update it (Obj.mapFields (·.setIfInBounds 1 (rawInt ((i:Int)+1))))).IsKeyIter it d (i+1) es.size ep:=
  ⟨_,ACf _ c (AEg (ADM hd _)),(Obj.cls_mapFields ..).trans hc,by rw[ADM hd];simp[rawInt]⟩
 refine AAQ (ABL (AAQ (wpAny_isOneOf_keyiter (s:={s with heap:=s.heap.update it (Obj.mapFields (·.setIfInBounds 1 (rawInt ((i:Int)+1))))}) g.typeIs ?_)));show wpAny _ _ (pure es[i].key) _ _ _;exact AAT (AAT ⟨_,rfl,AAT (hQ _ g (ADL ..))⟩)
def kX {Q:ke kj->ki->Prop}(j:A.handled=none)(c:s.heap.IsKeyIter it d es.size es.size ep)(k:Mq s.heap d es ep)(hQ:∀h',Heap.ExtBut it s.heap h'->Q none {s with heap:=h'}):wpAny (model prog w) A (pyNext (.ref it)) Q E s:=by have e:=c.typeIs;obtain⟨o,f,hc,hd⟩:=c;obtain⟨l,g,n,h⟩:=k;unfold pyNext;refine AAQ (ACj (ABc (name:=Str.ofString "__next__") e ADb (ABH ADb e AFF ?_ (AFG _))));refine AAQ (AAT (AAQ (AAQ ?_)));refine AAQ (AEJ e (AAT (AAQ (wpAny_fieldsOf f hd ?_))));simp only[show Builtin.Dict_items.ownsTuple "dict_keyiterator" =false by decide,ABI,AAx];show wpAny _ _ (if (Value.ref d==Value.none)=true then _ else _) _ _ s;rw[AAS (show ¬((Value.ref d==Value.none)=true) from AAg)];refine AAQ (AAT (AAQ (AEo g h ?_)));rw[AAS (by simp)];refine AAQ (AAT (AAQ (AEp g h ?_)));rw[AAS (by simp)];refine AAT ?_;simp only[show ¬((es.size:Int)<0) from by omega,AAx,ACt,Array.getElem?_eq_none (AAY es.size)];refine AAQ ?_;refine AAQ (AEJ e (AAT ?_));show wpAny _ _ (setField (.ref it) 0 .none >>= _) _ _ s;refine AAQ (ADK f hd (by simp) ?_);show wpAny _ _ (newExc (.type "StopIteration") [] >>= _) _ _ _;refine AAQ ?_;simp only[newExc,newTuple];refine AAQ (ABN ?_ (by size_fits));refine AAQ (m:=firstArgMember _ _) (ACV (a:=Value.none) (by first | rfl|(simp only[firstArgMember];rfl)) (ABN ?_ (by size_fits)));simp only[raiseNew];refine AAQ (wpAny_handled ?_);rw[show A.in1.handled=none from j];refine AAQ (AAT (wpAny_throw ?_));refine AAQ (ACQ (T:="StopIteration") (b:=true) ⟨_,AAd _ rfl,rfl⟩ isSubtype_stop ?_);exact AAT (hQ _ (((ADL ..).extBut.push _).push _))
def cr (f:A.handled=none)(g:d≠it):Walks prog w A it [it,d] [it] es.size (λi v=>∃e,es[i]? =some e/\v=e.key) (λi h=>h.IsKeyIter it d i es.size ep/\Mq h d es ep) where
 sub:=λb hb=>by simp at hb;simp[hb]
 frame:=λ_ _ _ st hk=>⟨st.1.at λo e=>hk it (by simp) o e,st.2.at λo e=>hk d (by simp) o e⟩
 item:=λi s Q E hi st hQ=>gi st.1 st.2 hi λh' j c=>
  hQ _ h' s.toks ⟨es[i],by simp[hi],rfl⟩ ⟨j,st.2.at λo e=>c.extBut d o g e⟩ λb o hb e=>c.extBut b o (λh=>hb (by simp[h])) e
 done:=λs Q E st hQ=>kX f st.1 st.2 λh' a=>hQ h' s.toks λb o hb e=>a b o (λh=>hb (by simp[h])) e
 self:=λ_ _ _ _ st hQ=>wpAny_pyIter_keyiter st.1 hQ
end
def gg {prog:gn}{w:fe}{A:Wf}{E:kj->ki->Prop}{s:ki}{d:kf}{es:Array DictEntry}{ep:Nat}{Q:kc->ki->Prop}(b:Mq s.heap d es ep)(h:Q false s):wpAny (model prog w) A (Builtin.List.listLengthHint (.ref d)) Q E s:=by
 have a:=b.typeIs;unfold Builtin.List.listLengthHint;refine AAQ (ABg a F.slot_dict_len.lookup ?_);have hs:splitId "dict.__len__" =some ("dict","__len__"):=by decide +kernel
 simp only[hs];refine AAQ (ACQ a (by rw[ABA];kernel_rfl:isSubtype (.type "dict") (.type "dict")=pure true) ?_);simp only[ACK,ABI,AAx];rw[AAU (by decide +kernel)];refine AAQ (ADH a ?_);exact AAT h
section
variable {prog:gn}{w:fe}{A:Wf}{s:ki}{R:Result->ki->Prop}{d:kf}{es:Array DictEntry}{ep:Nat}
def Yc (J:A.handled=none)(S:kf)(res:kj)(h:Nat)(hd:(d==sysModules)=false)(n:Mq s.heap d es ep)(hn:es.size<=sizeLine)(p:d≠S)(B:s.heap.get? S=some {cls:= .type "list",data:= .seq #[] h})(K:∀h' L a l,(∀b o,b≠S->s.heap.get? b=some o->h'.get? b=some o)->h'.get? S=some {cls:= .type "list",dict:=none,data:= .seq a l,slots:= #[] }->ItemsOf (λi v=>∃e,es[i]? =some e/\v=e.key) a es.size->R (.ok (.ret res)) {s with heap:=h',toks:=L}):wpAny (model prog w) A.in1 (Builtin.List.listExtendWith (.ref S) (.ref d) res) (λr c=>match r with | .done f=>R (.ok f) c | .again l=>l.quiet=true/\codeAny (model prog w) A l R c) (λe c=>R (.error e) c) s:=by
 have M:=n.typeIs;unfold Builtin.List.listExtendWith;refine AAQ (ADH M ?_);have h1:Builtin.List.listSameRef (.ref S) (.ref d)=false:=by simp[Builtin.List.listSameRef,ABQ p]
 have h2:(Value.type "dict" == Value.type "list")=false:=by decide
 have N:(Value.type "dict" == Value.type "tuple")=false:=by decide
 simp only[h1,h2,N,ADc,ABI,AAx];refine AAQ (gh hd n ?_);have O:d<s.heap.objs.size:=let ⟨o,P,_⟩:=n;AAW P;have t:S<s.heap.objs.size:=AAW B;have u:Mq (s.heap.push {cls:= .type "dict_keyiterator",data:= .fields #[.ref d, .int 0 0, .int es.size 0, .int ep 0] }) d es ep:=n.at λo e=>AAX _ e;refine AAQ (ABL (gg (s:={s with heap:=s.heap.push {cls:= .type "dict_keyiterator",data:= .fields #[.ref d, .int 0 0, .int es.size 0, .int ep 0] }}) u ?_));generalize x:({cls:= .type "dict_keyiterator",data:= .fields #[.ref d, .int 0 0, .int es.size 0, .int ep 0] }:Obj)=io at u ⊢;have C:(s.heap.push io).get? S=some {cls:= .type "list",data:= .seq #[] h}:=AAX _ B;have y:(s.heap.push io).get? s.heap.objs.size=some io:=AAd _ (by rw[<-x];rfl);have D:S≠s.heap.objs.size:=AAa t;rw[AAU (by decide +kernel)];refine AAQ (ABS (AAQ ?_));show wpAny _ A.in1 (updateSeq S (·.push .none) >>= λ_=>updateSeq S (·.pop)) _ _ _;refine AAQ (AEq (s:={s with heap:=s.heap.push io}) C rfl ?_);have g:=ACf (Obj.mapSeq (·.push Value.none)) C rfl;refine AEq (hz:=by seq_fits) g rfl ?_;have j:=ACf (Obj.mapSeq (·.pop)) g rfl;have k:∀b o,b≠S->(s.heap.push io).get? b=some o->(((s.heap.push io).update S (Obj.mapSeq (·.push Value.none))).update S (Obj.mapSeq (·.pop))).get? b=some o:=
  λb o hb e=>(ADI _ _ (ABQ hb)).trans ((ADI _ _ (ABQ hb)).trans e)
 have W:=(cr (prog:=prog) (w:=w) (A:=A.in1) (d:=d) (it:=s.heap.objs.size) (es:=es) (ep:=ep) J (AAa O)).toS;refine AAT ⟨plainId_quiet F.plain_extend_loop _,codeAny_extend_loopS W hn S ?_ res es.size 0 _ _ _ rfl (ABO _) ⟨⟨io,k _ _ (ABQ D) y,by rw[<-x],by rw[<-x];rfl⟩,u.at λo e=>k _ _ p e⟩ j (ItemsOf.nil _) λc a l z Q T=> ?_⟩
 .intro m;simp only[AAV,AAp,AAq] at m;rcases m with e|e
  .exact D e
  .exact p e.symm
 .obtain ⟨U,E,G,H,X⟩:=z;have e:c={s with heap:=c.heap,toks:=c.toks}:=by obtain⟨Y,Z,a3,a4,a5⟩:=c;simp only at E G H;subst E;subst G;subst H;rfl
  rw[e];refine K c.heap c.toks a l (λb o hb I=>U b o ?_ (k b o hb (AAX _ I))) Q T;intro m;simp only[AAV,AAp,AAq] at m;rcases m with e|e
  .exact hb e
  .exact AAa (AAW I) e
end
section
variable {prog:gn}{w:fe}{A:Wf}{E:kj->ki->Prop}{s:ki}{d:kf}{es:Array DictEntry}{ep:Nat}
def RN {Q:kj->ki->Prop}(t:A.handled=none)(hd:(d==sysModules)=false)(p:Mq s.heap d es ep)(hn:es.size<=sizeLine)(hQ:∀h' k l,(∀b o,s.heap.get? b=some o->h'.get? b=some o)->h'.get? s.heap.objs.size=some {cls:= .type "list",dict:=none,data:= .seq (es.map (·.key)) l,slots:= #[] }->Q (.ref s.heap.objs.size) {s with heap:=h',toks:=k}):wpAny (model prog w) A (call (.type "list") [.ref d]) Q E s:=by
 have u:d<s.heap.objs.size:=let ⟨o,v,_⟩:=p;AAW v;refine callType_codes (Q₁:=λobj c=>obj= .ref s.heap.objs.size/\c={s with heap:=s.heap.push {cls:= .type "list",data:= .seq #[] }}) F.called_list (F.typeCall_list_1 _) F.entry_list_init (code_list_new _ ⟨rfl,rfl⟩) λobj c g=> ?_;obtain⟨rfl,rfl⟩:=g;have j:(s.heap.push {cls:= .type "list",data:= .seq #[] }).get? s.heap.objs.size=some {cls:= .type "list",data:= .seq #[] }:=AAd _ rfl;refine⟨⟨_,j,rfl⟩,F.args_list_init_2 _ _, ?_⟩;show wpAny _ A.in1.in1 (do let m <-Builtin.List.listItems (.ref s.heap.objs.size);Builtin.List.listUpdate (.ref s.heap.objs.size) (λ_=> #[]);letGo m.toList.reverse;Builtin.List.listExtendWith (.ref s.heap.objs.size) (.ref d) .none) _ _ _;refine AAQ ?_;unfold Builtin.List.listItems;refine AAQ (ABC j rfl (AAT ?_));refine AAQ (AEq j rfl ?_);have f:=ACf (Obj.mapSeq (λ_=>(#[] :Array kj))) j rfl;refine AAQ (ACx ?_);have h:∀b o,s.heap.get? b=some o->((s.heap.push {cls:= .type "list",data:= .seq #[] }).update s.heap.objs.size (Obj.mapSeq (λ_=>(#[] :Array kj)))).get? b=some o:=λb o e=>by have hb:b≠s.heap.objs.size:=λz=>ABi _ (z ▸ AAW e);exact(ADI _ _ (ABQ hb)).trans (AAX _ e)
 refine Yc (s:={s with heap:=(s.heap.push {cls:= .type "list",data:= .seq #[] }).update s.heap.objs.size (Obj.mapSeq (λ_=>(#[] :Array kj)))}) (d:=d) (es:=es) (ep:=ep) (A:=A.in1) t s.heap.objs.size .none _ hd (p.at λo e=>h d o e) hn (AAa u) f ?_;intro h' k a l x y B;refine⟨rfl,hQ h' k l (λb o e=>x b o (λz=>ABi _ (z ▸ AAW e)) (h b o e)) ?_⟩;have C:a=es.map (·.key):=by
  obtain⟨h1,h2⟩:=B;refine Array.ext (by simp[h1]) λi hi hj=> ?_;obtain⟨e,r,D⟩:=h2 i _ (by simp[hi] :a[i]? =some a[i]);have n:i<es.size:=by simpa using hj
  rw[AFH n] at r;cases r;rw[D];simp
 rw[<-C];exact y
end
end PySem
namespace L2
open PySem PySem.Spec PyProof.Rows
section
variable {X:Cx}
def pJ (K:AAR):km V->Hp->VK->Prop:=λxs H Q=>∃p a,xs= [.ref p] /\H p=some (.dN K a)/\∀l cs,H l=none->Paired (λ(q:FK×V) (c:kf)=>G2 K H c q.1) a cs->Q (.ref l) (upd H l (.lst (cs.map V.ref)))
def Xf {k:Nat}(i:Room k X.A):DE X (.type "list") (pJ X.K):=by
 intro Tb s C H xs D Q I r h;obtain⟨p,c,rfl,hp,q⟩:=h;obtain⟨u,rfl,j⟩:=vals1 r;cases j;obtain⟨z,hd,ys,b,o,es,ep,h1,h2,m,d,n,v⟩:=SM I.hok I.kIn hp;have hl:ys.length=c.length:=(ADA b).symm;have f:es.size=ys.length:=by rw[<-ACb,d,AAb]
 refine RN (es:=es) (ep:=ep) i.hd hd ⟨o,h1,h2,m⟩ (by rw[f,hl];exact z) λh' x y B e=> ?_;have g:es.map (·.key)=((ys.map (·.2.1)).map Value.ref).toArray:=by apply Array.ext';rw[Array.toList_map,d];simp[entryOfKey]
 rw[g] at e;have hv:∀l:km kf,A6 (l.map V.ref) (l.map Value.ref):=λl=>by
  induction l with
  | nil=>exact .nil
  | cons a l ih=>exact .cons rfl ih
 refine⟨.ref s.heap.objs.size,_,I.laid (t':=x) B (AAY _) (show Dd X.prog X.w _ h' _ (.lst ((ys.map (·.2.1)).map V.ref)) from⟨by simp only[AAb];rw[hl];exact z,_,y,hv _,e⟩),rfl,q _ _ (I.hok.fresh (AAY _)) ?_⟩;clear q e g d v n f hl z hp;induction b with
 | nil=>exact .nil
 | cons h t ih=>exact .cons h.2.1 ih
end
end L2
namespace PL
open PySem PySem.Spec PyProof.Rows L2
def X6 (k:FK):PV:= .tup [.tup [.int k.1.1, .int k.1.2], .int k.2]
def Ba (a:km (FK×Int))(k:FK):ke Int:=(a.find? λp=>decide (p.1=k)).map (·.2)
def Y1 (a:km (FK×Int))(k:FK):Fq (Cf a) k=(Ba a k).map V.int:=by
 induction a with
 | nil=>rfl
 | cons p r ih=>
   by_cases e:p.1=k
   .simp [Ba,Cf,Fq,e]
   .simpa [Ba,Cf,Fq,e] using ih
section
variable {K:AAR}{T M:kf->Prop}{H:Hp}
def O0 {v:V}{t d:Int}(r:Cp K T M H v (.tup [.int t, .int d])):∃b,v= .ref b/\dY K H b t d:=by
 obtain⟨a,vs,rfl,hq,rs⟩:=iD r;cases rs with
 | cons r1 rs=>
 cases rs with
 | cons r2 rs=>
 cases rs;cases r1;cases r2;refine⟨a,rfl, ?_⟩;rcases hq with h|⟨o,c,n,h1,h2,e,_,f⟩
 .exact .inl h
 .exact .inr ⟨o,c,n,h1,h2,e,f⟩
def gk {b:kf}{t d:Int}(h:dY K H b t d):Cp K T M H (.ref b) (.tup [.int t, .int d]):=by
 refine .tup (vs:= [.int t, .int d]) ?_ (.cons (.int _) (.cons (.int _) .nil));rcases h with h|⟨o,a,n,h1,h2,e,c⟩
 .exact .inl h
 .refine .inr ⟨o,a,n,h1,h2,e, ?_,c⟩;have:=c.length;simp only[AAv,ADZ,ACb] at this;rw[<-this];exact ABn rfl
def gj {c:kf}{k:FK}(h:G2 K H c k):Cp K T M H (.ref c) (X6 k):=by obtain⟨b,h1,h2⟩:=h;exact .tup (.inl h1) (.cons (gk h2) (.cons (.int _) .nil))
end
section
variable {X:Cx}{a b d:kd}{pos p1:Pos}{ta tb td:AE}
def QU (x y:PV)(R:FK->Prop):Prop:=match x,y with | .tup [.int t, .int e], .int s=>R ((t,e),s)|_,_=>False
def Wb {x y:PV}{R:FK->Prop}(h:QU x y R):∃t e s,x= .tup [.int t, .int e] /\y= .int s/\R ((t,e),s):=by
 unfold QU at h;split at h
 .exact ⟨_,_,_,rfl,rfl,h⟩
 .exact h.elim
def qM (m:PV)(R:km (FK×Int)->Prop):Prop:=match m with | .dct kvs=>R kvs|_=>False
def gC {m:PV}{R:km (FK×Int)->Prop}(h:qM m R):∃c,m= .dct c/\R c:=by cases m <;> first | exact⟨_,rfl,h⟩|exact h.elim
def i9 (ta tb td:AE):AE:=λτ Q=>ta τ λx=>tb τ λy=>td τ λm=>qM m λc=>QU x y λk=>Q (.bl (Ba c k).isSome)
def db (td ta tb:AE):AE:=λτ Q=>td τ λm=>ta τ λx=>tb τ λy=>qM m λc=>QU x y λk=>match Ba c k with | some i=>Q (.int i)|none=>False
def WL {K:AAR}{B:Dg}{T:kf->Prop}{H:Hp}{f:L2.St}{τ:BN}{q:kf}{vs:km V}(c:SR K B T H f τ)(hq:H q=none):EG T H T (upd H q (.tup vs))/\¬T q:=by refine⟨EG.lay c.tp hq,λz=> ?_⟩;obtain⟨o,e,_⟩:=(c.tp q z).mut;rw[hq] at e;cases e
def lD {t1 t2 r:TE}(A:Fg X.K t1 ta)(C:Fg X.K t2 tb)(D:Fg X.K r td):Fg X.K (uF X.K (lN (MM t1 (MM t2 iL))) r) (i9 ta tb td):=by
 intro B T p τ H Q U z h k;refine A B T p τ H _ _ z h λv x E F n r1 h1=> ?_;have f:=z.stp n;refine C B E p τ F _ _ f h1 λw y G W g r2 h2=> ?_;have i:=f.stp g;refine⟨ABn rfl,λq hq=> ?_⟩;obtain⟨j,I⟩:=WL (vs:= [v,w]) i hq;have o:=i.stp j;refine D B G p τ _ _ _ o h2 λu m J L l M N=> ?_;obtain⟨O,rfl,P⟩:=gC N;obtain⟨t,e,s,rfl,rfl,R⟩:=Wb P;have rv:=((r1.stp g f.va).stp j i.va).stp l o.va;obtain⟨c,rfl,tn⟩:=O0 rv;cases r2;cases M with
 | dct S _ _=> refine⟨_,q,_,((t,e),s),rfl,rfl,S,⟨c,l.keep _ _ I Au,tn⟩, ?_⟩;rw[Y1,ADa];exact k _ _ J L (((n.trans g).trans j).trans l) (.bl _) R
def pY {c:Nat}{k:Nat}(e:Room k X.A)(ha:SE X a ta)(hb:SE X b tb)(hd:SE X d td)(f:behindInMarks .In d=false:=by rfl)(g:starEach (a :: [b]) X.env=(false,eval a X.env)::starEach [b] X.env:=by rfl)(h:starEach [b] X.env=(false,eval b X.env)::starEach [] X.env:=by rfl):Tf X (.Compare (.Tuple [a,b] c p1) [.In] [d] pos) (Ag (i9 ta tb td)):=by obtain⟨t1,i,j⟩:=ha;obtain⟨t2,l,m⟩:=hb;obtain⟨p,n,o⟩:=hd;exact⟨_,pD (ou (by have:=e.un;omega) (QW (BM i (BM l Dj h) g)) n) f,Ow (lD j m o)⟩
def ko {D:Nat}{k:Nat}(F:Room k X.A)(hd:SE X d td)(ha:SE X a ta)(hb:SE X b tb)(hs:mr (.Tuple [a,b] D p1))(G:starEach (a :: [b]) X.env=(false,eval a X.env)::starEach [b] X.env:=by rfl)(I:starEach [b] X.env=(false,eval b X.env)::starEach [] X.env:=by rfl):SE X (.Subscript d (.Tuple [a,b] D p1) pos) (db td ta tb):=by
 obtain⟨t1,J,K⟩:=ha;obtain⟨t2,L,M⟩:=hb;obtain⟨t3,N,O⟩:=hd;refine⟨_,kF (by have:=F.un;omega) N (QW (BM J (BM L Dj I) G)) hs,λB T z τ H Q AQ E h k=> ?_⟩;refine O B T z τ H _ _ E h λu m P R p S U=> ?_;have j:=E.stp p;refine K B P z τ R _ _ j U λv x W Y l r1 h1=> ?_;have f:=j.stp l;refine M B W z τ Y _ _ f h1 λw y Z H2 g r2 h2=> ?_;have n:=f.stp g;refine⟨ABn rfl,λq hq=> ?_⟩;obtain⟨o,nt⟩:=WL (vs:= [v,w]) n hq;obtain⟨C,rfl,h5⟩:=gC h2;obtain⟨t,e,s,rfl,rfl,r⟩:=Wb h5;have rv:=(r1.stp g f.va).stp o n.va;have r3:=((S.stp l j.va).stp g f.va).stp o n.va;obtain⟨c,rfl,tn⟩:=O0 rv;cases r2;cases ev:Ba C ((t,e),s) with
 | none=>rw[ev] at r;exact r.elim
 | some i=>
   rw[ev] at r;cases r3 with
   | dct hh _ _=> exact⟨_,q,_,((t,e),s), .int i,rfl,rfl,hh,⟨c,Au,tn⟩,by rw[Y1,ev];rfl,k _ _ Z _ (((p.trans l).trans g).trans o) (.int _) r⟩
def Xb (r:AA):AA:=λτ Q=>r τ λxs=>match xs with | [.dct kvs] =>Q (kvs.map λp=>X6 p.1)|_=>False
def g6 {x:Str}{p pos:Pos}{e:kd}{es:km kd}{r:AA}{k:Nat}(w:Room k X.A)(y:Gl X x)(z:X.mg x=none)(hv:bootBuiltins x=some (.type "list"))(ha:SA X (e::es) r)(hn:x≠"__name__" :=by decide)(hdb:(x==("__debug__" :Str))=false:=by decide)(he:starEach (e::es) X.env=(false,eval e X.env)::starEach es X.env:=by rfl)(hpl:(backTo pos (starEach es X.env)).any (·.1)=false:=by rfl):SF X (.Call (.Name x p) (e::es) [] pos) (Xb r):=by
 obtain⟨t,C,s⟩:=ha;refine⟨_,JI (Xf w) y z hv C hn hdb he hpl,λB T m τ H Q G n h k=>s B T m τ H _ _ n h λvs xs o D f r1 h1=> ?_⟩;have g:=n.stp f;split at h1 <;> first | exact h1.elim|skip
 rename_i c;cases r1 with
 | cons r t=>
   cases t;cases r with
   | dct u I J=>
     refine⟨_,_,rfl,u,λl cs hl v=> ?_⟩;have E:A8 X.K o (mt B m τ) D (cs.map V.ref) (c.map λp=>X6 p.1):=by
      clear h1 u;induction c generalizing cs with
      | nil=>cases v;exact .nil
      | cons q r ih=>
        cases v with
        | cons h t=>exact .cons (gj h) (ih _ t)
     obtain⟨F,i,j,r2⟩:=UE g hl E;exact k l _ _ o _ (f.trans F) i (f.none hl) Au j r2 h1
end
def Rm (m:km (FK×Int))(k:FK)(v:Int):km (FK×Int):=if (m.any λp=>decide (p.1=k)) then m.map λp=>if p.1=k then (p.1,v) else p else m ++ [(k,v)]
def bump (m:km (FK×Int))(k:FK)(d:Int):km (FK×Int):=Rm m k ((Ba m k).getD 0+d)
def gZ (m:km (FK×Int))(k:FK)(v:Int):IX (Cf m) k (.int v)=Cf (Rm m k v):=by
 unfold IX Rm;have e:((Cf m).any λa=>decide (a.1=k))=(m.any λp=>decide (p.1=k)):=by unfold Cf;rw[List.any_map];rfl
 rw[e];split
 .unfold Cf;rw[ACX,ACX];apply ACl;intro p _;by_cases h:p.1=k <;> simp[h]
 .simp [Cf]
def L6 (m:km (FK×Int))(k:FK)(v:Int):(Rm m k v).length<=m.length+1:=by unfold Rm;split <;> simp
def eO (m:km (FK×Int))(k:FK):(Fq (Cf m) k).getD (.int 0)= .int ((Ba m k).getD 0):=by rw[Y1];cases Ba m k <;> rfl
def ZS:PV->ke (ke (Int×Int))
 | .non=>some none
 | .tup [.int t, .int d] =>some (some (t,d))
 | _=>none
def Wk (x:PV):ke ((Int×Int)×Int×ke (Int×Int)):=
 match x with
 | .tup [.tup [.int t, .int d], .int h,e] =>(ZS e).map λe=>((t,d),h,e)
 | .lst [.tup [.int t, .int d], .int h,e] =>(ZS e).map λe=>((t,d),h,e)
 | _=>none
def HU (m:km (FK×Int))(b:Int×Int)(h:Int)(e:ke (Int×Int)):km (FK×Int):=
 match e with
 | none=>bump m (b,1-h) 1
 | some e=>bump (bump m (b,1-h) 1) (e,0) (-1)
def GK:km PV->km (FK×Int)->ke (km (FK×Int))
 | [],m=>some m
 | x::r,m=>match Wk x with | some (b,h,e)=>GK r (HU m b h e)|none=>none
def gc:R2:=λx y H Q=>y= .non/\Q (.bl (!decide (x= .non))) H
def Yu (K:AAR):TS:=
 cY (W6 (lN (MM (Gr 2) (MM (lM (QZ λi j=> .int (i-j)) (tC (.int 1)) (Gr 3)) iL))) (Dv 5))
  (cY (gu K (Gr 1) (Gr 5) (lM (QZ λi j=> .int (i+j)) (Yx K (Gr 1) (Gr 5) (tC (.int 0))) (tC (.int 1))))
    (uC (aJ (lM gc (Gr 4) (tC .non)))
      (cY (W6 (lN (MM (Gr 4) (MM (tC (.int 0)) iL))) (Dv 6))
        (gu K (Gr 1) (Gr 6) (lM (QZ λi j=> .int (i-j)) (Yx K (Gr 1) (Gr 6) (tC (.int 0))) (tC (.int 1))))) mU))
def pZ (K:AAR):TS:=
 cY (W6 (mT K) (Dv 1)) (cY (uB (sB K (Gr 0)) (ax K 3 (Fy (Dv 2) (Fy (Dv 3) (Fy (Dv 4) V3)))) (Yu K)) (iM (Gr 1)))
section
variable {K:AAR}{T M:kf->Prop}{H H':Hp}
def Hx.ext (va:Hx T M H)(ex:∀b o,H b=some o->H' b=some o):Mv K T M H T M H':=⟨va,λb o _ _ e=>ex b o e,λ_ t=>t,λ_ _ t=>t,λ_ _ m=>m⟩
def pL {v:V}{x:PV}{b:Int×Int}{h:Int}{e:ke (Int×Int)}(r:Cp K T M H v x)(f:Wk x=some (b,h,e)):∃a i c,v= .ref a/\(LW K H a [i, .int h,c] \/Fs K H a [i, .int h,c])/\Cp K T M H i (.tup [.int b.1, .int b.2])/\((e=none/\c= .non)\/∃t d,e=some (t,d)/\Cp K T M H c (.tup [.int t, .int d])):=by
 have g:∀{c:V} {ep:PV},Cp K T M H c ep->ZS ep=some e->((e=none/\c= .non)\/∃t d,e=some (t,d)/\Cp K T M H c (.tup [.int t, .int d])):=by
  intro c ep l he;unfold ZS at he;split at he
  .cases he;cases l;exact .inl ⟨rfl,rfl⟩
  .cases he;exact .inr ⟨_,_,rfl,l⟩
  .cases he
 unfold Wk at f;split at f
 .rename_i t d h' ep;obtain⟨m,he,j⟩:=ACp.mp f;cases j;obtain⟨a,vs,rfl,hq,rs⟩:=Dn r;cases rs with
  | cons r1 rs=>
  cases rs with
  | cons r2 rs=>
  cases rs with
  | cons k rs=> cases rs;cases r2;exact⟨a,_,_,rfl, .inl hq,r1,g k he⟩
 .rename_i t d h' ep;obtain⟨m,he,j⟩:=ACp.mp f;cases j;obtain⟨a,vs,rfl,hq,_,_,rs⟩:=Dm r;cases rs with
  | cons r1 rs=>
  cases rs with
  | cons r2 rs=>
  cases rs with
  | cons k rs=> cases rs;cases r2;exact⟨a,_,_,rfl, .inr (.inl (.inl hq)),r1,g k he⟩
 .cases f
def Yw {D:Pd}{p:kf}{O n s u w A:ke V}{f:Hp}{m:km (FK×Int)}{v:V}{b:Int×Int}{h:Int}{e:ke (Int×Int)}{x:PV}(va:Hx T M H)(ex:∀b o,H b=some o->f b=some o)(P:H p=none)(hp:f p=some (.dN K (Cf m)))(hl:m.length+2<sizeLine)(r:Cp K T M f v x)(S:Wk x=some (b,h,e))(nx:∀n s u w A k,(∀b o,H b=some o->k b=some o)->k p=some (.dN K (Cf (HU m b h e)))->D.nx [O,some (.ref p),n,s,u,w,A] k):ax K 3 (Fy (Dv 2) (Fy (Dv 3) (Fy (Dv 4) V3))) v [O,some (.ref p),n,s,u,w,A] f λB k=>Yu K D B k:=by
 obtain⟨a,C,ve,rfl,hq,U,E⟩:=pL r S;refine⟨a,_,rfl,hq,rfl,_,_,rfl,_,_,rfl,_,_,rfl,rfl, ?_⟩;have W:Hx T M H:=va;refine⟨C,rfl,_,rfl,_,_,rfl,rfl,ABn rfl,λq Q=> ?_⟩;have g:∀b o,f b=some o->upd f q (.tup [C, .int (1-h)]) b=some o:=λb o e=>by rw[Aq (A4 e Q)];exact e
 have F:upd f q (.tup [C, .int (1-h)]) p=some (.dN K (Cf m)):=g _ _ hp;have qp:q≠p:=λz=>by subst z;rw[Q] at hp;cases hp
 obtain⟨c,rfl,tn⟩:=O0 U;have G:dY K (upd f q (.tup [.ref c, .int (1-h)])) c b.1 b.2:=tn.elim (λz=> .inl (g _ _ z)) .inr;have R:G2 K (upd f q (.tup [.ref c, .int (1-h)])) q (b,1-h):=⟨c,Au,G⟩;refine⟨_,rfl,p,_,rfl,F,_,rfl,q,_,(b,1-h),rfl,F,R,_,_,eO m (b,1-h),rfl,_,rfl,_,rfl,p,q,_,(b,1-h),rfl,rfl,F,R,by rw[Cf,AAb];omega, ?_⟩;rw[gZ];have Y:Cf (Rm m (b,1-h) ((Ba m (b,1-h)).getD 0+1))=Cf (bump m (b,1-h) 1):=rfl;rw[Y];have hb:∀o,f p=some o->True:=λ_ _=>trivial;have ext2:∀(X:HO) b o,H b=some o->upd (upd f q (.tup [.ref c, .int (1-h)])) p X b=some o:=λX b o e=>by rw[Aq (A4 e P)];exact g _ _ (ex _ _ e)
 have bl:(bump m (b,1-h) 1).length<=m.length+1:=L6 _ _ _;rcases E with⟨rfl,rfl⟩|⟨t,d,rfl,E⟩
 .refine ⟨_,rfl,rfl,false,rfl, ?_⟩;exact nx _ _ _ _ _ _ (ext2 _) Au
 .obtain ⟨c2,rfl,I⟩:=O0 E;refine⟨_,rfl,rfl,true,rfl, ?_⟩;refine⟨_,rfl,ABn rfl,λi J=> ?_⟩;have Z:p≠i:=λz=>by subst z;rw[Au] at J;cases J
  have j:∀(a:kf) o,upd (upd f q (.tup [.ref c, .int (1-h)])) p (.dN K (Cf (bump m (b,1-h) 1))) a=some o->upd (upd (upd f q (.tup [.ref c, .int (1-h)])) p (.dN K (Cf (bump m (b,1-h) 1)))) i (.tup [.ref c2, .int 0]) a=some o:=λa o e=>by rw[Aq (A4 e J)];exact e
  have L:=j p _ Au;have N:dY K (upd (upd (upd f q (.tup [.ref c, .int (1-h)])) p (.dN K (Cf (bump m (b,1-h) 1)))) i (.tup [.ref c2, .int 0])) c2 t d:=I.elim (λz=> .inl (j _ _ (by
   rw[Aq (λy=>by subst y;rw[hp] at z;cases z)];exact g _ _ z))) .inr
  have l:G2 K (upd (upd (upd f q (.tup [.ref c, .int (1-h)])) p (.dN K (Cf (bump m (b,1-h) 1)))) i (.tup [.ref c2, .int 0])) i ((t,d),0):=⟨c2,Au,N⟩;refine⟨_,rfl,p,_,rfl,L,_,rfl,i,_,((t,d),0),rfl,L,l,_,_,eO _ ((t,d),0),rfl,_,rfl,_,rfl,p,i,_,((t,d),0),rfl,rfl,L,l,by rw[Cf,AAb];omega, ?_⟩;rw[gZ];refine nx _ _ _ _ _ _ (λa o e=> ?_) Au;rw[Aq (A4 e P)];exact j _ _ (ext2 _ _ _ e)
def N2 {m:km (FK×Int)}{b:Int×Int}{h:Int}{e:ke (Int×Int)}:(HU m b h e).length<=m.length+2:=by
 unfold HU;cases e with
 | none=>have:=L6 m (b,1-h) ((Ba m (b,1-h)).getD 0+1);unfold bump;simp only;omega
 | some e=> have h1:=L6 m (b,1-h) ((Ba m (b,1-h)).getD 0+1);have h2:=L6 (bump m (b,1-h) 1) (e,0) ((Ba (bump m (b,1-h) 1) (e,0)).getD 0 + -1);unfold bump at *;simp only;omega
theorem Z0:∀{vs:km V} {ys:km PV},A8 K T M H vs ys->∀{i:Nat} {x:V},vs[i]? =some x->∃y,ys[i]? =some y/\Cp K T M H x y
 | _,_, .nil,i,x,ev=>by simp at ev
 | _,_, .cons h t,0,x,ev=>by simp at ev;subst ev;exact⟨_,rfl,h⟩
 | _,_, .cons h t,i+1,x,ev=>by simpa using Z0 t (i:=i) (by simpa using ev)
def Q2 {D:Pd}{J:It}{t:V}{p:kf}{ys:km PV}{a:km (FK×Int)}{u:Hp}(va:Hx T M H)(G:H p=none)(go:∀H',(∀b o,H b=some o->H' b=some o)->∃vs,A8 K T M H' vs ys/\(∀i,i<ys.length->J.go i H')/\(∀i,ys.length<=i->J.stop i H')/\∀i x f,J.yld i H' x f->f=H'/\vs[i]? =some x)(I:∀b o,H b=some o->u b=some o)(hp:u p=some (.dN K (Cf [])))(hl:2*ys.length+2<sizeLine)(hs:GK ys [] =some a)(v:∀g j k l n H',(∀b o,H b=some o->H' b=some o)->H' p=some (.dN K (Cf a))->D.nx [some t,some (.ref p),g,j,k,l,n] H'):∃W:Nat->Nat->L2.St->Hp->Prop,(∃m,W 0 m [some t,some (.ref p),none,none,none,none,none] u)/\∀i m r H,W i m r H-> (J.stop i H/\D.nx r H)\/(J.go i H/\∃N:L2.St->Hp->Prop,(∀c H',N c H'->∃C,C<m/\W (i+1) C c H')/\∀x H',J.yld i H x H'->ax K 3 (Fy (Dv 2) (Fy (Dv 3) (Fy (Dv 4) V3))) x r H' λw f=>Yu K {D with nx:=N,ct:=N,bk:=D.nx} w f):=by
 let W:Nat->Nat->L2.St->Hp->Prop:=λi m r H'=>i+m=ys.length/\∃g j k l n s,r= [some t,some (.ref p),g,j,k,l,n] /\(∀b o,H b=some o->H' b=some o)/\H' p=some (.dN K (Cf s))/\GK (ys.drop i) s=some a/\s.length<=2*i;refine⟨W,⟨ys.length,Nat.zero_add _,_,_,_,_,_, [],rfl,I,hp,hs,ABO _⟩, ?_⟩;rintro i m r H' ⟨hi,g,j,k,l,n,s,rfl,ex,E,d,L⟩;obtain⟨vs,rs,O,P,Q⟩:=go H' ex;cases m with
 | zero=> left;refine⟨P i (by omega),v _ _ _ _ _ _ ex ?_⟩;rw[ADQ (by omega)] at d;cases d;exact E
 | succ m=>
   right;refine⟨O i (by omega),λc H'=>W (i+1) m c H',λc H' h=>⟨m,by omega,h⟩,λx f R=> ?_⟩;obtain⟨rfl,ev⟩:=Q i x f R;have hy:ys[i]? =some ys[i] :=AAs (by omega);obtain⟨y,F,S⟩:=Z0 rs ev;rw[ACk (by omega:i<ys.length)] at d;have z:ys[i] =y:=by rw[hy] at F;exact AAn F
   rw[z] at d;unfold GK at d;split at d
   .rename_i b h e U;refine Yw (H:=H) (m:=s) (b:=b) (h:=h) (e:=e) (x:=y) va ex G E (by omega) S U λg j k l n X A B=>⟨by omega,g,j,k,l,n,_,rfl,A,B,d, ?_⟩
    .have:=N2 (m:=s) (b:=b) (h:=h) (e:=e);omega
   .cases d
def Yv {D:Pd}{l:V}{x:PV}{ys:km PV}{f:km (FK×Int)}(va:Hx T M H)(r:Cp K T M H l x)(hx:x= .tup ys\/x= .lst ys)(hl:2*ys.length+2<sizeLine)(hs:GK ys [] =some f)(m:∀p H',(∀b o,H b=some o->H' b=some o)->H p=none->H' p=some (.dN K (Cf f))->D.rt (.ref p) H'):pZ K D [some l,none,none,none,none,none,none] H:=by
 intro p hp;have k:∀b o,H b=some o->upd H p (.dN K []) b=some o:=λb o e=>by rw[Aq (A4 e hp)];exact e
 have last:∀n s t u v H',(∀b o,H b=some o->H' b=some o)->H' p=some (.dN K (Cf f))->(iM (Gr 1)) D [some l,some (.ref p),n,s,t,u,v] H':=λn s t u v H' ex h=>⟨_,rfl,m p H' ex hp h⟩;rcases hx with rfl|rfl
 .obtain ⟨a,vs,rfl,hq,rs⟩:=Dn (r.mv (va.ext k));refine⟨_,rfl,a,rfl, .inr ⟨⟨vs,hq⟩, ?_⟩⟩;refine Q2 (D:={D with nx:=(iM (Gr 1)) D}) va hp (λH' ex=> ?_) k Au hl hs last;obtain⟨w,c,e,g,d⟩:=Dn (r.mv (va.ext ex));cases e;refine⟨c,d,λi hi=>⟨c,c[i]'(by rw[d.length];exact hi),g,AAs _⟩,λi hi=>⟨c,g,by rw[d.length];exact hi⟩,λi x y j=>⟨j.1,j.2 c g⟩⟩
 .obtain ⟨a,vs,rfl,hq,_,_,rs⟩:=Dm (r.mv (va.ext k));refine⟨_,rfl,a,rfl, .inl ⟨⟨vs, .inl (.inl hq)⟩, ?_⟩⟩;refine Q2 (D:={D with nx:=(iM (Gr 1)) D}) va hp (λH' ex=> ?_) k Au hl hs last;obtain⟨w,c,e,g,_,_,d⟩:=Dm (r.mv (va.ext ex));cases e;refine⟨c,d,λi hi=>⟨c,c[i]'(by rw[d.length];exact hi), .inl (.inl g),AAs _⟩,λi hi=>⟨c, .inl (.inl g),by rw[d.length];exact hi⟩,λi x y j=>⟨j.1,j.2 c (.inl (.inl g))⟩⟩
end
def Iw:AF:=λxs Q=>match xs with | [x] =>Wc x λys=>2*ys.length+2<sizeLine/\∃m,GK ys [] =some m/\Q (.dct m)|_=>False
def XX {xs:km PV}{Q:PV->Prop}(h:Iw xs Q):∃x ys m,xs= [x] /\(x= .tup ys\/x= .lst ys)/\2*ys.length+2<sizeLine/\GK ys [] =some m/\Q (.dct m):=by
 unfold Iw at h;split at h
 .obtain ⟨ys,hx,hz,m,a,q⟩:=KU h;exact⟨_,ys,m,rfl,hx,hz,a,q⟩
 .exact h.elim
section
variable {K:AAR}{T M:kf->Prop}{H H':Hp}
def ka {k:Nat}{A:Wf}(a:Room k A):A.units+2<cLine:=by have:=a.un;omega
def lH (va:Hx T M H)(ex:∀b o,H b=some o->H' b=some o):EG T H T H' where
 keep:=λb u _ e=>ex b u e
 sub:=λ_ t=>t
 new:=λ_ t=> .inl t
 tp:=λa t=>let ⟨d,x,e,q⟩:=va.tp a t;⟨d,x,ex _ _ e,q⟩
def kY {p:kf}{m:km (FK×Int)}(va:Hx T M H)(a:H p=none)(hp:H' p=some (.dN K (Cf m))):Cp K T M H' (.ref p) (.dct m):=by
 refine .dct hp (λz=> ?_) (λz=> ?_)
 .obtain ⟨o,e,_⟩:=(va.tp p z).mut;rw[a] at e;cases e
 .obtain ⟨o,e,_⟩:=va.mu p z;rw[a] at e;cases e
end
end PL
namespace L2
open PySem PySem.Spec PyProof.Rows
section
variable {elt tg iter tg2 iter2:kd}{ifs ifs2:km kd}{scope:Scope}{pos:Pos}{it acc:kj}{env:Env}
def cj:compTurn (.ListComp elt [⟨tg,iter,ifs,0⟩,⟨tg2,iter2,ifs2,0⟩] scope pos) 0 it acc env=(do
 standAt iter.pos
 match <-pyNext it with
 | none=>pure (.done .next)
 | some v=>
   letOwnedTupleGo tg it v
   assign tg env v
   let mut ok:=true
   for c in ifs do
    if ok then ok <-isTrue c env (eval c env)
   if ok then
    let x <-eval iter2 env
    standAt iter2.pos
    let x <-foldedSetIterable iter2 env x;let _ <-runOwn (.compStart (.ListComp elt [⟨tg,iter,ifs,0⟩,⟨tg2,iter2,ifs2,0⟩] scope pos) 1 (<-holding [x] (pyIter x)) acc env) env
   again (.compLoop (.ListComp elt [⟨tg,iter,ifs,0⟩,⟨tg2,iter2,ifs2,0⟩] scope pos) 0 it acc env)):=by rfl
def ck:compTurn (.ListComp elt [⟨tg,iter,ifs,0⟩,⟨tg2,iter2,ifs2,0⟩] scope pos) 1 it acc env=(do
 standAt iter2.pos
 match <-pyNext it with
 | none=>pure (.done .next)
 | some v=>
   letOwnedTupleGo tg2 it v
   assign tg2 env v
   let mut ok:=true
   for c in ifs2 do
    if ok then ok <-isTrue c env (eval c env)
   if ok then
    (do let _ <-call (.builtin "list.append") [acc,<-eval elt env])
   again (.compLoop (.ListComp elt [⟨tg,iter,ifs,0⟩,⟨tg2,iter2,ifs2,0⟩] scope pos) 1 it acc env)):=by rfl
variable {prog:gn}{w:fe}{A:Wf}{R:Result->ki->Prop}{s:ki}
def Yr (c:codeAny (model prog w) A (.compLoop (.ListComp elt [⟨tg,iter,ifs,0⟩,⟨tg2,iter2,ifs2,0⟩] scope pos) 1 it acc env) R s)(h:wpAny (model prog w) A (pyIter it) (λa b=>codeAny (model prog w) A (.compLoop (.ListComp elt [⟨tg,iter,ifs,0⟩,⟨tg2,iter2,ifs2,0⟩] scope pos) 1 a acc env) R b) (notedBy (model prog w) A env λx b=>R (.error x) b) s):codeAny (model prog w) A (.compStart (.ListComp elt [⟨tg,iter,ifs,0⟩,⟨tg2,iter2,ifs2,0⟩] scope pos) 1 it acc env) R s:=by
 refine codeAny_of_tree ?_;show wpAny _ _ ((compStart (.ListComp elt [⟨tg,iter,ifs,0⟩,⟨tg2,iter2,ifs2,0⟩] scope pos) 1 it acc env).onRaise (λx=>do noteFrame x env;standAt theWindowsPlace)) _ _ s;refine wpAny_notedAt ?_;unfold compStart;show wpAny _ _ (ask >>= _) _ _ s;refine AAQ (wpAny_askSetting (wpAny_ite ?_));split
 .first
   | exact AAQ (AAT (AAT (And.intro rfl c)))
   | exact AAT (And.intro rfl c)
 .first
   | exact AAQ (ABS (AAQ (ABa (AAQ (ABM h (λa b h'=>AAT (And.intro rfl h')) λ_ _ x=>x)))))
   | (refine AAQ (ABS ?_);show wpAny _ _ (standAt iter2.pos >>= _) _ _ s;exact AAQ (ABa (AAQ (ABM h (λa b h'=>AAT (And.intro rfl h')) λ_ _ x=>x))))
end
def OJ (own:Nat)(a:St):St:=List.replicate own none++a.drop own
def Mz {own:Nat}{a:St}{j:Nat}{v:V}(h:(OJ own a)[j]? =some (some v)):own<=j/\a[j]? =some (some v):=by
 unfold OJ at h;by_cases hj:j<own
 .rw [ABF (by simpa using hj),ACT,AAU hj] at h;cases h
 .have bK:own<=j:=by omega
  rw[ABV (by simpa using bK),ACO,AC1] at h;rw[show own+(j-own)=j by omega] at h;exact⟨bK,h⟩
def Vz {own:Nat}{a:St}(h:own<=a.length):(OJ own a).length=a.length:=by simp[OJ];omega
def Ti (J:It)(D:kf)(c:St)(g:TG)(k:TT)(d:TI)(own2:Nat)(l:TG)(e:TT)(te:TE)(Q:Hp->Prop)(W:Nat->Nat->Hp->Prop):Prop:=
 ∀i m H,W i m H->(J.stop i H/\Q H)\/(J.go i H/\∀x f,J.yld i H x f->g x c f λa n=>k a n λok h=>
  if ok=true then d a h λo p=>∃j:Nat->Nat->Hp->Prop,(∃m2,j 0 m2 p)/\KI o D (OJ own2 a) l e te (λr=>∃b,b<m/\W (i+1) b r) j else ∃b,b<m/\W (i+1) b h)
def iK (e:TI)(own:Nat)(ix:km Nat)(g:TG)(f:TT)(a:TI)(own2:Nat)(h:TG)(b:TT)(te:TE):TE:=λc H Q=>e c H λJ d=>∀D,d D=none->
 ∃W:Nat->Nat->Hp->Prop,(∃m,W 0 m (upd d D (.lst [])))/\Ti J D (CZ own ix c) g f a own2 h b te (Q (.ref D)) W
section
variable {X:Cx}{tg elt iter tg2 iter2:kd}{ifs ifs2:km kd}{scope:Scope}{pos:Pos}{wi wi2:TI}{own own2:Nat}{ix:km Nat}{N:km Str}{g g2:TG}{tt tt2:TT}{te:TE}
structure Oa (X:Cx) (tg elt:Expr) (ifs:List Expr) (tg2 iter2:Expr) (ifs2:List Expr) (scope:Scope) (own:Nat) (ix:List Nat) (N:List Str) (g:TG) (tt:TT) (wi2:TI) (own2:Nat) (g2:TG) (tt2:TT) (te:TE):Prop where
 kind:scope.kind= .function
 nocell:∀y∈scope.names,y.2≠ .cell
 names:∀y∈scope.names,y.2= .local->scope.names.lookup y.1=some .local
 frees:∀y∈scope.names,y.2= .free->X.env.scope.names.lookup y.1=some .cell
 ins:R3 X (relabel scope X.env) own ix N
 keep:IL own g
 keep2:IL own2 g2
 le2:own2<=own
 tgt:∀cl C s H ex pn,PG (blk X (relabel scope X.env) N cl C s H ex pn) tg g
 tst:∀cl C s H ex pn,Y9 (blk X (relabel scope X.env) N cl C s H ex pn) ifs tt
 itr2:∀cl C s H ex pn,PI (blk X (relabel scope X.env) N cl C s H ex pn) tg2 iter2 wi2
 set2:∀cl C s H ex pn x,foldedSetIterable iter2 (blk X (relabel scope X.env) N cl C s H ex pn).env x=pure x
 tgt2:∀cl C s H ex pn,PG (blk X (relabel scope X.env) N cl C s H ex pn) tg2 g2
 tst2:∀cl C s H ex pn,Y9 (blk X (relabel scope X.env) N cl C s H ex pn) ifs2 tt2
 val:∀cl C s H ex pn,PE (blk X (relabel scope X.env) N cl C s H ex pn) elt te
def jH {Y:Cx}{c0:Comprehension}{Tb:km (kf×Obj)}{f:St}{p:km kf}{it:kf}{tn:Nat->da->Prop}{J:It}{D:kf}{R:Result->ki->Prop}{Qh:Hp->Prop}{W:Nat->Nat->Hp->Prop}(U:∀it B,compTurn (.ListComp elt [c0,⟨tg2,iter2,ifs2,0⟩] scope pos) 1 it B Y.env=(do
   standAt iter2.pos
   match <-pyNext it with
   | none=>pure (.done .next)
   | some v=>
     letOwnedTupleGo tg2 it v
     assign tg2 Y.env v
     let mut ok:=true
     for c in ifs2 do
      if ok then ok <-isTrue c Y.env (eval c Y.env)
     if ok then
      (do let _ <-call (.builtin "list.append") [B,<-eval elt Y.env])
     again (.compLoop (.ListComp elt [c0,⟨tg2,iter2,ifs2,0⟩] scope pos) 1 it B Y.env)))(eX:Y.xe=λ_ _=>False)(eC:Y.calm=true)(hg:PG Y tg2 g2)(hk:IL own2 g2)(ht:Y9 Y ifs2 tt2)(hv:PE Y elt te)(T:LX Y.prog Y.w Y.K tg2 J p it tn)(Z:∀j v,f[j]? =some (some v)->own2<=j)(k:∀{a:Hp},(∀b∈p,a b=none)->∀b∈p,Ej Y Tb a b)(hW:KI J D f g2 tt2 te Qh W)(hR:∀a I,Inv Y Tb f a I->Qh a->R (.ok .next) I)(n:Nat)(s0:ki)(h0:∃i a,Inv Y Tb f a s0/\tn i s0.heap/\(∀b∈p,a b=none)/\W i n a):
 codeAny (model Y.prog Y.w) Y.A (.compLoop (.ListComp elt [c0,⟨tg2,iter2,ifs2,0⟩] scope pos) 1 (.ref it) (.ref D) Y.env) R s0:=by
 refine ADx rfl (λn I=>∃i a,Inv Y Tb f a I/\tn i I.heap/\(∀b∈p,a b=none)/\W i n a) (λn s1 h1=> ?_) n h0;obtain⟨i,H1,B1,L,M,w1⟩:=h1;show wpAny _ _ ((compTurn (.ListComp elt [c0,⟨tg2,iter2,ifs2,0⟩] scope pos) 1 (.ref it) (.ref D) Y.env).onRaise (λx=>do noteFrame x Y.env;theTreesLotGoes x)) _ _ s1;refine ADy ?_;rw[U];have ff:∀{α:Type} {t:Sem α} {Q:α->ki->Prop} {E:kj->ki->Prop} {s:ki},wpAny (model Y.prog Y.w) Y.A t Q Y.xe s->wpAny (model Y.prog Y.w) Y.A t Q E s:=λh=>ABM h (λ_ _ q=>q) λ_ _ z=>by rw[eX] at z;exact z.elim
 refine AAQ (ABa (AAQ ?_));rcases hW i n H1 w1 with⟨stop,qn⟩|⟨go,step⟩
 .refine Bk (T.done Y rfl rfl rfl eC i Tb s1 _ H1 _ B1 (k M) L stop) λr s4 ⟨hr,I4⟩=> ?_;subst hr;exact AAT (hR _ _ I4 qn)
 .refine Bk (T.item Y rfl rfl rfl eC i Tb s1 _ H1 _ B1 (k M) L go) λr s4 ⟨u,hr,h4⟩=> ?_;subst hr;refine AAQ (Bk h4 λ_ s5 ⟨x,H5,I5,r5,y5,C,fr5⟩=> ?_);have I5':=I5.pinned (k fr5) (T.obj _ _ C);refine AAQ (Bk (ff (hg _ s5 _ H5 x u _ I5' r5 (hk _ _ _ _ (step x H5 y5)))) λ_ s6 ⟨l,H6,I6,q6,l6,k6⟩=> ?_);refine AAQ (Bk (ff (ht _ s6 l H6 _ I6 q6)) λok s7 ⟨H7,I7,q7⟩=> ?_);have back:∀{F:Hp} {G:ki} {H:Nat},Inv Y (Tb++GA p s5.heap) l F G->H<n->W (i+1) H F->
   ∃m,m<n/\∃i a,Inv Y Tb f a G/\tn i G.heap/\(∀b∈p,a b=none)/\W i m a:=λ{F G H} O P S=>by
   refine⟨H,P,i+1,F,O.unpinned.weak l6.symm (λj v hj=> ?_),T.keep _ _ _ C λb hb o e=>(O.pin (b,o) (AAo _ (AAo _ (Cd hb e)))).1,λb hb=> ?_,S⟩
   .rw [k6 j (Z j v hj)];exact hj
   .obtain ⟨o,e,d⟩:=T.obj _ _ C b hb;exact(O.pin (b,o) (AAo _ (AAo _ (Cd hb e)))).2.1
  cases ok with
  | false=> obtain⟨H,P,S⟩:=q7;exact AAT ⟨rfl,back I7 P S⟩
  | true=> refine AAQ (AAQ (Bk (ff (hv _ s7 l H7 _ I7 q7)) λyv G ⟨y,F,O,r8,ys,hD,hz,H,P,S⟩=> ?_));refine AAQ (Bk (ff (JF _ G l F (.ref D) [y] (.ref D) [yv] (λ_ H9=>H9=upd F D (.lst (ys ++ [y]))) O rfl (.cons r8 .nil) ⟨D,ys,y,rfl,rfl,hD,hz,rfl⟩)) λ_ s9 ⟨_,H9,I9,_,e9⟩=> ?_);subst e9;exact AAT (AAT ⟨rfl,back I9 P S⟩)
def Xk {Tb:km (kf×Obj)}{L:St}{H:Hp}{s:ki}{l:km kf}{cl:km (Str×kf)}{it:kf}{tn:Nat->da->Prop}{J:It}{D:kf}{R:Result->ki->Prop}{Qh:Hp->Prop}{W:Nat->Nat->Hp->Prop}(hc:X.calm=true)(O:Oa X tg elt ifs tg2 iter2 ifs2 scope own ix N g tt wi2 own2 g2 tt2 te)(T:LX X.prog X.w X.K tg J l it tn)(I:Inv X Tb L H s)(hf:∀b∈l,Ej X Tb H b)(Ey:∀b∈l,b<s.heap.objs.size)(hW:Ti J D (CZ own ix L) g tt wi2 own2 g2 tt2 te Qh W)(hR:∀σ' a y,Inv (blk X (relabel scope X.env) N cl s.heap.objs.size s H l (X.pn++Tb)) [] σ' a y->Qh a->R (.ok .next) y)(n:Nat)(s0:ki)(h0:∃i a,Inv (blk X (relabel scope X.env) N cl s.heap.objs.size s H l (X.pn++Tb)) [] (CZ own ix L) a s0/\tn i s0.heap/\(∀b∈l,a b=none)/\W i n a):codeAny (model X.prog X.w) X.A (.compLoop (.ListComp elt [⟨tg,iter,ifs,0⟩,⟨tg2,iter2,ifs2,0⟩] scope pos) 0 (.ref it) (.ref D) (F8 X.env (relabel scope X.env) cl s.heap.objs.size)) R s0:=by
 refine ADx rfl (λn y=>∃i a,Inv (blk X (relabel scope X.env) N cl s.heap.objs.size s H l (X.pn++Tb)) [] (CZ own ix L) a y/\tn i y.heap/\(∀b∈l,a b=none)/\W i n a) (λn s1 h1=> ?_) n h0;obtain⟨i,H1,B1,S,U,w1⟩:=h1;have G:own2<=(CZ own ix L).length:=by rw[Mu];exact AAu O.le2 (Nat.le_add_right _ _)
 generalize k:blk X (relabel scope X.env) N cl s.heap.objs.size s H l (X.pn++Tb)=Y at *;have eA:Y.A=X.A:=by rw[<-k];rfl
 have Z:Y.prog=X.prog:=by rw[<-k];rfl
 have eW:Y.w=X.w:=by rw[<-k];rfl
 have eK:Y.K=X.K:=by rw[<-k];rfl
 have eE:F8 X.env (relabel scope X.env) cl s.heap.objs.size=Y.env:=by rw[<-k];rfl
 have eX:Y.xe=λ_ _=>False:=by rw[<-k];rfl
 have eC:Y.calm=true:=by rw[<-k];exact hc
 have hg:PG Y tg g:=by rw[<-k];exact O.tgt _ _ _ _ _ _
 have ht:Y9 Y ifs tt:=by rw[<-k];exact O.tst _ _ _ _ _ _
 have v7:PI Y tg2 iter2 wi2:=by rw[<-k];exact O.itr2 _ _ _ _ _ _
 have VA:∀x,foldedSetIterable iter2 Y.env x=pure x:=by rw[<-k];exact O.set2 _ _ _ _ _ _
 have jY:PG Y tg2 g2:=by rw[<-k];exact O.tgt2 _ _ _ _ _ _
 have wN:Y9 Y ifs2 tt2:=by rw[<-k];exact O.tst2 _ _ _ _ _ _
 have hv:PE Y elt te:=by rw[<-k];exact O.val _ _ _ _ _ _
 have B:∀{a:Hp},(∀b∈l,a b=none)->∀b∈l,Ej Y [] a b:=λ{a} hn b hb=>by
  obtain⟨_,a1,a2,a3,a4,a5⟩:=hf b hb;refine⟨hn b hb, ?_, ?_, ?_, ?_, ?_⟩
  .rw [<-k];exact AAa (Ey b hb)
  .rw [<-k];exact I.notStk a1 a2
  .rw [<-k];exact .inl hb
  .intro x c e;exact(B1.ok.exf b (by rw[<-k];exact hb)).2 x c e
  .intro p hp;have:p∈X.pn++Tb:=by rw[<-k] at hp;simpa[blk] using hp
   exact a5 p this
 rw[eE,<-eA,<-Z,<-eW];show wpAny _ _ ((compTurn (.ListComp elt [⟨tg,iter,ifs,0⟩,⟨tg2,iter2,ifs2,0⟩] scope pos) 0 (.ref it) (.ref D) Y.env).onRaise (λx=>do noteFrame x Y.env;theTreesLotGoes x)) _ _ s1;refine ADy ?_;rw[cj];have ff:∀{α:Type} {t:Sem α} {Q:α->ki->Prop} {E:kj->ki->Prop} {s:ki},wpAny (model Y.prog Y.w) Y.A t Q Y.xe s->wpAny (model Y.prog Y.w) Y.A t Q E s:=λh=>ABM h (λ_ _ q=>q) λ_ _ z=>by rw[eX] at z;exact z.elim
 refine AAQ (ABa (AAQ ?_));rcases hW i n H1 w1 with⟨stop,qn⟩|⟨go,step⟩
 .have zd:=λE=>T.done Y Z eW eK eC i [] s1 _ H1 E B1 (B U) S stop;rw[<-Z,<-eW] at zd;refine Bk (zd _) λr s4 ⟨hr,I4⟩=> ?_;subst hr;exact AAT (hR _ _ _ I4 qn)
 .have zi:=λE=>T.item Y Z eW eK eC i [] s1 _ H1 E B1 (B U) S go;rw[<-Z,<-eW] at zi;refine Bk (zi _) λr s4 ⟨u,hr,h4⟩=> ?_;subst hr;refine AAQ (Bk h4 λ_ s5 ⟨x,H5,I5,r5,y5,M,fr5⟩=> ?_);have I5':=I5.pinned (B fr5) (T.obj _ _ M);refine AAQ (Bk (ff (hg _ s5 _ H5 x u _ I5' r5 (O.keep _ _ _ _ (step x H5 y5)))) λ_ s6 ⟨C,H6,I6,q6,l6,k6⟩=> ?_);refine AAQ (Bk (ff (ht _ s6 C H6 _ I6 q6)) λok s7 ⟨H7,I7,q7⟩=> ?_);have back:∀{F:St} {H8:Hp} {s8:ki} {P:Nat},Inv Y ([] ++ GA l s5.heap) F H8 s8->F.length=C.length->(∀j v,own<=j->C[j]? =some (some v)->F[j]? =some (some v))->P<n->W (i+1) P H8->
   ∃m,m<n/\∃i a,Inv Y [] (CZ own ix L) a s8/\tn i s8.heap/\(∀b∈l,a b=none)/\W i m a:=λ{F H8 s8 P} I8 hl hsm hm w8=>by
   refine⟨P,hm,i+1,H8,I8.unpinned.weak (hl.trans l6).symm (λj v hj=> ?_),T.keep _ _ _ M λb hb o e=>(I8.pin (b,o) (AAo _ (AAo _ (Cd hb e)))).1,λb hb=> ?_,w8⟩
   .have yc:=(Fi hj).1;exact hsm j v yc (by rw[k6 j yc];exact hj)
   .obtain ⟨o,e,d⟩:=T.obj _ _ M b hb;exact(I8.pin (b,o) (AAo _ (AAo _ (Cd hb e)))).2.1
  cases ok with
  | false=> obtain⟨P,hm,w8⟩:=q7;exact AAT ⟨rfl,back I7 rfl (λ_ _ _ z=>z) hm w8⟩
  | true=>
    rw[AAU rfl] at q7;refine AAQ (Bk (ff (v7 _ s7 C H7 _ I7 q7)) λv2 s8 jd=> ?_);refine AAQ (ABa (AAQ (ACV (VA v2) (AAQ (ABL (Bk (ff jd) λitv s9 hv9=> ?_))))));obtain⟨it2,fp2,tn2,J2,H9,rfl,I9,T2,st9,f9,W2,⟨m2,w2⟩,hW2⟩:=hv9;have I9':Inv Y ([] ++ GA l s5.heap) (OJ own2 C) H9 s9:=I9.weak (Vz (by rw[l6];exact G)) (λj v hj=>(Mz hj).2);have loop:codeAny (model Y.prog Y.w) Y.A (.compLoop (.ListComp elt [⟨tg,iter,ifs,0⟩,⟨tg2,iter2,ifs2,0⟩] scope pos) 1 (.ref it2) (.ref D) Y.env) (λr y=>match r with | .ok f=>∃m,m<n/\∃i a,Inv Y [] (CZ own ix L) a y/\tn i y.heap/\(∀b∈l,a b=none)/\W i m a | .error e=>cameBackBy (model Y.prog Y.w) Y.A Y.env (notedBy (model Y.prog Y.w) Y.A Y.env λx y=>R (.error x) y) e y) s9:=by refine jH (own2:=own2) (Tb:= [] ++ GA l s5.heap) (λ_ _=>ck) eX eC jY O.keep2 wN hv T2 (λj v hj=>(Mz hj).1) (λhn b hb=>⟨hn b hb,(f9 b hb).2⟩) hW2 (λa y I' q'=> ?_) m2 s9 ⟨0,H9,I9',st9,λb hb=>(f9 b hb).1,w2⟩;obtain⟨P,hm,w8⟩:=q';refine back I' (Vz (by rw[l6];exact G)) (λj v hj e=> ?_) hm w8;have h2j:own2<=j:=AAu O.le2 hj;unfold OJ;rw[ABV (by simpa using h2j),ACO,AC1,show own2+(j-own2)=j by omega];exact e
    refine AAQ (wpAny_runOwn (h:=none) (Yr ?_ ?_))
    .exact ADF loop (λr y h'=>by
      cases r with
      | ok f=>exact AAT ⟨rfl,h'⟩
      | error e=>exact h')
    .exact T2.self _ 0 _ _ _ st9 (ADF loop (λr y h'=>by
      cases r with
      | ok f=>exact AAT ⟨rfl,h'⟩
      | error e=>exact h'))
def aq {Tb:km (kf×Obj)}{u:St}{H:Hp}{s:ki}{use:ke (kj->Sem Unit)}{Q:kj->ki->Prop}{it:kf}{j:km kf}{cl:km (Str×kf)}{tn:Nat->da->Prop}{J:It}{Qd:kf->Hp->Prop}(hc:X.calm=true)(O:Oa X tg elt ifs tg2 iter2 ifs2 scope own ix N g tt wi2 own2 g2 tt2 te)(T:LX X.prog X.w X.K tg J j it tn)(I:Inv X Tb u H s)(M:∀b∈j,Ej X Tb H b)(st:tn 0 s.heap)(h1:∀y c,cl.lookup y=some c->X.env.cells.lookup y=some c)(h2:∀y,(y,NameKind.free)∈scope.names->∃c,cl.lookup y=some c)(hq:∀D,H D=none->∃W:Nat->Nat->Hp->Prop,(∃m,W 0 m (upd H D (.lst [])))/\Ti J D (CZ own ix u) g tt wi2 own2 g2 tt2 te (Qd D) W)(P:∀D C i k,(∃m,k.heap.Ns C m)->Inv X Tb u i k->(∀f v,Inv X Tb f i v->∀h',Heap.SameBut C v.heap h'->Inv X Tb f i {v with heap:=h'})->C≠X.env.locals->(∀x c,X.env.cells.lookup x=some c->C≠c)->Qd D i-> compPost (model X.prog X.w) X.A X.xe use Q (.ref D) C (.ok .next) k):wpAny (model X.prog X.w) X.A (newList []) (λl n=>wpAny (model X.prog X.w) X.A (newFunctionEnv scope X.env.globals cl [] X.env.qual none .none (some X.env)) (λd p=> codeAny (model X.prog X.w) X.A (.compStart (.ListComp elt [⟨tg,iter,ifs,0⟩,⟨tg2,iter2,ifs2,0⟩] scope pos) 0 (.ref it) l {d with scope:=relabel scope X.env}) (compPost (model X.prog X.w) X.A X.xe use Q l d.locals) p) X.xe n) X.xe s:=by
 refine ABN ?_ (by simp[sizeOk]);have h:Inv X Tb u (upd H s.heap.objs.size (.lst [])) {s with heap:=s.heap.push {cls:= .type "list",data:= .seq ([] :km kj).toArray}}:=I.lnew (t':=s.toks) .nil (ABO _);have R:=I.fresh;obtain⟨W,⟨m0,S⟩,hW⟩:=hq _ R;have U:∀b∈j,b<s.heap.objs.size:=λb hb=>by obtain⟨o,e,_⟩:=T.obj _ _ st b hb;exact AAW e
 have E:∀b∈j,Ej X Tb (upd H s.heap.objs.size (.lst [])) b:=λb hb=>by obtain⟨Y,Z⟩:=M b hb;exact⟨by rw[Aq (AAa (U b hb))];exact Y,Z⟩
 generalize rj:({s with heap:=s.heap.push {cls:= .type "list",data:= .seq ([] :km kj).toArray}}:ki)=s3 at h;have r:tn 0 s3.heap:=T.keep _ _ _ st λb hb o e=>by rw[<-rj];exact AAX _ e
 have F:∀b∈j,b<s3.heap.objs.size:=λb hb=>by obtain⟨o,e,_⟩:=T.obj _ _ r b hb;exact AAW e
 refine wpAny_newFunctionEnv O.nocell (by intro y hy;simp at hy) (λa lw wL=> ?_) O.kind;have L:∀b o,s3.heap.get? b=some o->a.get? b=some o:=λb o e=>wL.extBut b o (AAa (AAW e)) (AAX _ e);have rT:∀y,((relabel scope X.env).names.lookup y=some .cell\/(relabel scope X.env).names.lookup y=some .free)->∃c,cl.lookup y=some c:=λy hy=>by
  rcases hy with z|z
  .exact h2 y (F2 O.nocell (IU z) (.inl rfl))
  .exact h2 y (F2 O.nocell (IU z) (.inr rfl))
 have B:=dg (N:=N) (t':=s3.toks+([] :km (Str×kj)).length) h E F (sc:=relabel scope X.env) O.kind h1 rT O.ins lw L;have t:tn 0 a:=T.keep _ _ _ r λb hb o e=>L b o e;have loop:∀G:ki,G={s3 with heap:=a,toks:=s3.toks+([] :km (Str×kj)).length}->
  codeAny (model X.prog X.w) X.A (.compLoop (.ListComp elt [⟨tg,iter,ifs,0⟩,⟨tg2,iter2,ifs2,0⟩] scope pos) 0 (.ref it) (.ref s.heap.objs.size) (F8 X.env (relabel scope X.env) cl s3.heap.objs.size)) (compPost (model X.prog X.w) X.A X.xe use Q (.ref s.heap.objs.size) s3.heap.objs.size) G:=by rintro G rfl;refine Xk (cl:=cl) (Qh:=Qd s.heap.objs.size) hc O T h E F hW (λσ' i k B' q'=> ?_) m0 _ ⟨0,_,B,t,λb hb=>(E b hb).1,S⟩;refine P _ _ i k (let ⟨m,hm,_⟩:=B'.loc;⟨m,hm⟩) (ZG (own:=own) (ix:=ix) h E F B') (λf v I2 h' hs=>Pq h rfl I2 B'.free hs) (ABE h.lt) (λx c e=>ABE (h.szLt e)) q'
 exact AEd (loop _ rfl) (T.self _ 0 _ _ _ t (loop _ rfl))
def gM (hc:X.calm=true)(hi:PI X tg iter wi)(O:Oa X tg elt ifs tg2 iter2 ifs2 scope own ix N g tt wi2 own2 g2 tt2 te)(hs:∀x,foldedSetIterable iter X.env x=pure x:=by intro _;rfl):PE X (.ListComp elt [⟨tg,iter,ifs,0⟩,⟨tg2,iter2,ifs2,0⟩] scope pos) (iK wi own ix g tt wi2 own2 g2 tt2 te):=by intro Tb s c H Q I h;obtain⟨cl,d,h1,h2⟩:=G5 (env:=X.env) (scope:=scope) λy hy e=>I.ok.has y.1 (.inl (O.frees y hy e));rw[eval_ListComp];refine ADz (use:=none) rfl hs d O.kind O.names (Bk (hi Tb s c H _ I h) λv p hv=>Bk hv λf r i=> ?_);obtain⟨it,t,tn,J,u,rfl,j,T,a,f2,q⟩:=i;exact aq (Qd:=λD b=>Q (.ref D) b) hc O T j f2 a h1 h2 q λD C b k hn l gone w z n=>by obtain⟨m,o⟩:=hn;exact⟨m,o,λh' hs=>⟨.ref D,b,gone c k l h' hs,rfl,n⟩⟩
end
end L2
namespace PL
open PySem PySem.Spec PyProof.Rows L2
def Pu (own:Nat)(τ:BN):BN:=List.replicate own none++τ.drop own
def KJ (g:AG)(t:AT)(a:AI)(own2:Nat)(d:AG)(t2:AT)(te:AE)(b:BN)(Q:km PV->Prop):km PV->km PV->Prop
 | [],acc=>Q acc
 | x::r,acc=>g x b λc=>t c λok=>if ok=true then a c λys=>acc.length+ys.length<sizeLine/\De d t2 te (Pu own2 c) (KJ g t a own2 d t2 te b Q r) ys acc else KJ g t a own2 d t2 te b Q r acc
def Mr (b:AI)(own:Nat)(ix:km Nat)(g:AG)(t:AT)(a:AI)(own2:Nat)(c:AG)(t2:AT)(te:AE):AA:=λτ Q=>b τ λxs=>KJ g t a own2 c t2 te (Lb own ix τ) Q xs []
def SR.noOwn {K:AAR}{B:Dg}{T:kf->Prop}{H:Hp}{a:L2.St}{τ:BN}(s:SR K B T H a τ)(c:∀b,¬Dx a τ b){i:Nat}{xs:km PV}:τ[i]? ≠some (some (.own xs)):=λe=>by obtain⟨p,vs,d,_⟩:=s.own i xs e;exact c p ⟨i,xs,e,d⟩
def SR.swap {K:AAR}{B:Dg}{m f:kf->Prop}{n g:Hp}{a k:L2.St}{τ l:BN}(c:SR K B m n a τ)(o:∀b,¬Dx a τ b)(d:SR K B f g k l)(s:Mv K m (mt B a τ) n f (mt B a τ) g):SR K B f g a τ:=
 ⟨c.len,λi x e=>let ⟨v,h,r⟩:=c.val i x e;⟨v,h,r.mv s⟩,λi xs e=>absurd e (c.noOwn o),λi j xs ys p e=>absurd e (c.noOwn o),d.tp,d.bm,d.bt,d.st⟩
def Lf {own:Nat}{τ:BN}{j:Nat}{x:AV}(h:(Pu own τ)[j]? =some (some x)):own<=j/\τ[j]? =some (some x):=by
 unfold Pu at h;by_cases hj:j<own
 .rw [ABF (by simpa using hj),ACT,AAU hj] at h;cases h
 .have bK:own<=j:=by omega
  rw[ABV (by simpa using bK),ACO,AC1] at h;rw[show own+(j-own)=j by omega] at h;exact⟨bK,h⟩
def SR.cut {K:AAR}{B:Dg}{T:kf->Prop}{H:Hp}{c:L2.St}{τ:BN}{own:Nat}(s:SR K B T H c τ)(d:∀b,¬Dx c τ b):SR K B T H (OJ own c) (Pu own τ)/\∀b,¬Dx (OJ own c) (Pu own τ) b:=by have g:∀b,¬Dx (OJ own c) (Pu own τ) b:=λb ⟨i,xs,h,f⟩=>d b ⟨i,xs,(Lf h).2,(Mz f).2⟩;refine⟨⟨by simp[OJ,Pu,s.len],λi x e=> ?_,λi xs e=>absurd (Lf e).2 (s.noOwn d),λi j xs ys p e=>absurd (Lf e).2 (s.noOwn d),s.tp,s.bm,s.bt,s.st⟩,g⟩;obtain⟨bK,f⟩:=Lf e;obtain⟨v,hv,r⟩:=s.val i x f;refine⟨v, ?_,r.mv (.anti s.va λa z=>z.elim .inl λz=>absurd z (g a))⟩;unfold OJ;rw[ABV (by simpa using bK),ACO,AC1,show own+(i-own)=i by omega];exact hv
structure RK (D:Addr) (T:Addr->Prop) (H:Hp) (T':Addr->Prop) (H':Hp):Prop where
 keep:∀b o,¬T b->b≠D->H b=some o->H' b=some o
 sub:∀b,T b->T' b
 new:∀b,T' b->T b\/H b=none
 tp:∀b,H b≠none->H' b≠none
def RK.refl {D:kf}{T:kf->Prop}{H:Hp}:RK D T H T H:=⟨λ_ _ _ _ e=>e,λ_ e=>e,λ_ e=> .inl e,λ_ e=>e⟩
def EG.atD {D:kf}{T a:kf->Prop}{H c:Hp}(s:EG T H a c):RK D T H a c:=⟨λb o t _ e=>s.keep b o t e,s.sub,s.new,λb e=>s.some e⟩
def RK.upd {D:kf}{T:kf->Prop}{H:Hp}{o:HO}:RK D T H T (upd H D o):=⟨λb a _ n e=>by rw[Aq n];exact e,λ_ e=>e,λ_ e=> .inl e,λb e=>by
 by_cases h:b=D
 .subst h;rw[Au];exact λz=>nomatch z
 .rw [Aq h];exact e⟩
def RK.trans {D:kf}{T c d:kf->Prop}{H f g:Hp}(a:RK D T H c f)(b:RK D c f d g):RK D T H d g where
 keep:=λx o t n e=>b.keep x o (λz=>(a.new x z).elim t λz=>by rw[e] at z;cases z) n (a.keep x o t n e)
 sub:=λx t=>b.sub x (a.sub x t)
 new:=λx t=>(b.new x t).elim (λz=>a.new x z) λz=> .inr (by
  cases e:H x with
  | none=>rfl
  | some o=>exact absurd z (a.tp x (by rw[e];exact λz=>nomatch z)))
 tp:=λx e=>b.tp x (a.tp x e)
def cV {K:AAR}{s:kc}{wi wi2:TI}{ai Y:AI}{own own2:Nat}{ix:km Nat}{g g2:TG}{ag N:AG}{tt tt2:TT}{Z O:AT}{te:TE}{ta:AE}(hi:ae K s wi ai)(hg:LV K g ag)(ht:OH K tt Z)(v7:ae K true wi2 Y)(jY:LV K g2 N)(wN:OH K tt2 O)(he:Fg K te ta):dW K (iK wi own ix g tt wi2 own2 g2 tt2 te) (Mr ai own ix ag Z Y own2 N O ta):=by
 intro B T j τ H Q AQ sr h k;refine hi B T j τ H _ _ sr h λJ xs T1 H1 s1 walk h1 D hD=> ?_;have E:=sr.stp s1;have nt1:¬T1 D:=λz=>by obtain⟨o,e,_⟩:=(E.tp D z).mut;rw[hD] at e;cases e
 have lay:=EG.lay (o:= .lst []) E.tp hD;refine⟨λi m H2=>m=xs.length-i/\∃T2 vs r,EG T1 H1 T2 H2/\H2 D=some (.lst vs)/\¬T2 D/\A8 K T2 (λa=>mt B j τ a\/a=D) H2 vs r/\KJ ag Z Y own2 N O ta (Lb own ix τ) AQ (xs.drop i) r,
  ⟨_,rfl,T1, [], [],lay,Au,nt1, .nil,h1⟩, ?_⟩
 rintro i m H2 ⟨rfl,T2,vs,r,s2,jT,F,r2,h2⟩;have srb:=E.blk (own:=own) (ix:=ix) s2 hD jT F;have va2:Hx T2 (λa=>mt B j τ a\/a=D) H2:=⟨srb.tp,srb.bm⟩;have w:=walk (λa=>mt B j τ a\/a=D) T2 H2 ⟨E.va,λb o t _ e=>s2.keep b o t e,s2.sub,λb n t=>(s2.new b t).elim id λz=>absurd z n,λb n z=>z.elim id λz=>by subst z;exact absurd hD n⟩ va2 (.inr s2.keep);by_cases Ey:i<xs.length
 .have WC:xs[i]? =some xs[i] :=AAs Ey;rw[ACk Ey] at h2;refine .inr ⟨w.go i _ WC,λv H3 yl=> ?_⟩;obtain⟨s3,r3⟩:=w.yld i _ v H3 WC yl;have P:=srb.stp s3;refine hg _ T2 _ _ H3 v _ _ _ P (r3.mv (.anti ⟨P.tp,P.bm⟩ λa z=>z.elim id λ⟨_,_,z,_⟩=>absurd z Gg)) h2 λu l sr4 o4 h4=> ?_;have no4:∀b,¬Dx u l b:=λb z=>by obtain⟨_,_,z,_⟩:=o4 b z;exact absurd z Gg
  refine ht _ T2 u l H3 _ _ sr4 h4 λok T5 H5 s5 h5=> ?_;have sr5:=sr4.stp s5;have nW:=s3.keep D _ F jT;have jU:=s5.keep D _ F nW;have nt5:¬T5 D:=λz=>(s5.new D z).elim F λn=>by rw[n] at nW;cases nW
  have r5:=(r2.stp s3 va2).stp s5 ⟨P.tp,P.bm⟩;cases ok with
  | false=> rw[AAS AAg] at h5 ⊢;exact⟨_,by omega,rfl,T5,vs,r,(s2.trans s3).trans s5,jU,nt5,r5,h5⟩
  | true=>
    rw[AAU rfl] at h5 ⊢;refine v7 _ T5 u l H5 _ _ sr5 h5 λJ2 ys T6 H6 s6 walk2 h6=> ?_;obtain⟨hl,h6⟩:=h6;have R:=sr5.stp s6;have vo:=s6.keep D _ nt5 jU;have nt6:¬T6 D:=λz=>(s6.new D z).elim nt5 λn=>by rw[n] at jU;cases jU
    have va6:Hx T6 (λa=>mt B j τ a\/a=D) H6:=⟨R.tp,R.bm⟩;have r6:=r5.stp s6 ⟨sr5.tp,sr5.bm⟩;have s06:=((s2.trans s3).trans s5).trans s6;refine⟨λG m2 H7=>m2=ys.length-G/\∃M f c,EG T1 H1 M H7/\RK D T6 H6 M H7/\H7 D=some (.lst f)/\¬M D/\A8 K M (λa=>mt B j τ a\/a=D) H7 f c/\c.length<=r.length+G/\
     De N O ta (Pu own2 l) (KJ ag Z Y own2 N O ta (Lb own ix τ) AQ (xs.drop (i+1))) (ys.drop G) c,
     ⟨_,rfl,T6,vs,r,s06, .refl,vo,nt6,r6,AAY _,h6⟩, ?_⟩
    rintro G m2 H7 ⟨rfl,M,f,c,s7,d7,vp,S,r7,ha7,h7⟩;have U:=E.blk (own:=own) (ix:=ix) s7 hD vp S;have mEq:∀a,mt (B.blk j τ D) u l a->mt B j τ a\/a=D:=λa z=>z.elim id λz=>absurd z (no4 a);have mv7:Mv K T6 (mt (B.blk j τ D) u l) H6 M (mt (B.blk j τ D) u l) H7:=⟨R.va,λb o t m e=>d7.keep b o t (λz=>m (.inl (.inr z))) e,d7.sub,λb n t=>(d7.new b t).elim id λz=>absurd z n,λ_ _ z=>z⟩;have mv7':Mv K T6 (mt (B.blk j τ D) u l) H6 M (λa=>mt B j τ a\/a=D) H7:=⟨R.va,λb o t m e=>d7.keep b o t (λz=>m (.inl (.inr z))) e,d7.sub,λb n t=>(d7.new b t).elim id λz=>absurd z n,λ_ _ z=> .inl z⟩;have sr7:=R.swap no4 U mv7;have va7:Hx M (λa=>mt B j τ a\/a=D) H7:=⟨U.tp,U.bm⟩;obtain⟨sc7,no7⟩:=sr7.cut (own:=own2) no4;have w2:=walk2 (λa=>mt B j τ a\/a=D) M H7 mv7' va7 (.inl rfl);by_cases rX:G<ys.length
    .have lq:ys[G]? =some ys[G] :=AAs rX;rw[ACk rX] at h7;refine .inr ⟨w2.go G _ lq,λv8 H8 yl8=> ?_⟩;obtain⟨s8,r8⟩:=w2.yld G _ v8 H8 lq yl8;have W:=sc7.stp s8;refine jY _ M _ _ H8 v8 _ _ _ W (r8.mv (.anti ⟨W.tp,W.bm⟩ λa z=>z.elim id λz=>absurd z (no7 a))) h7 λσ9 τ9 sr9 o9 h9=> ?_;refine wN _ M σ9 τ9 H8 _ _ sr9 h9 λok T10 mo p uc=> ?_;have A:=sr9.stp p;have vq:=s8.keep D _ S vp;have jS:=p.keep D _ S vq;have X:¬T10 D:=λz=>(p.new D z).elim S λn=>by rw[n] at vq;cases vq
     have r10:=(r7.stp s8 va7).stp p ⟨W.tp,W.bm⟩;cases ok with
     | false=> rw[AAS AAg] at uc ⊢;exact⟨_,by omega,rfl,T10,f,c,(s7.trans s8).trans p,(d7.trans s8.atD).trans p.atD,jS,X,r10,by omega,uc⟩
     | true=>
       rw[AAU rfl] at uc ⊢;refine he _ T10 σ9 τ9 mo _ _ A uc λvy y I qB L r11 h11=> ?_;have C:=A.stp L;have vm:=L.keep D _ X jS;have nt11:¬I D:=λz=>(L.new D z).elim X λn=>by rw[n] at jS;cases jS
       have va11:Hx I (λa=>mt B j τ a\/a=D) qB:=⟨C.tp,C.bm⟩;have r12:=r10.stp L ⟨A.tp,A.bm⟩;have s12:=((s7.trans s8).trans p).trans L;have tp13:∀a,I a->Fh (upd qB D (.lst (f ++ [vy]))) a:=λa t=>by obtain⟨d,x,e,z⟩:=C.tp a t;exact⟨d,x,by rw[Aq (λw=>by subst w;exact nt11 t)];exact e,z⟩
       have mv13:Mv K I (λa=>mt B j τ a\/a=D) qB I (λa=>mt B j τ a\/a=D) (upd qB D (.lst (f ++ [vy]))):=⟨va11,λb o _ m e=>by rw[Aq (λw=>m (.inr w))];exact e,λ_ t=>t,λ_ _ t=>t,λ_ _ z=>z⟩;refine⟨f,vm,by rw[r7.length];omega,_,(by omega:ys.length-(G+1)<ys.length-G),rfl,I,f ++ [vy],c ++ [y],⟨λb o t e=> ?_,s12.sub,s12.new,tp13⟩,((((d7.trans s8.atD).trans p.atD).trans L.atD).trans .upd),Au,nt11,(r12.append (.cons (r11.mv (.anti C.va λa z=> .inl z)) .nil)).mv mv13,by simp;omega,h11⟩;rw[Aq (A4 e hD)];exact s12.keep b o t e
    .rw [ADQ (as:=ys) (i:=G) (by omega)] at h7;exact .inl ⟨w2.stop G (by omega),_,(by omega:xs.length-(i+1)<xs.length-i),rfl,M,f,c,s7,vp,S,r7,h7⟩
 .rw [ADQ (by omega)] at h2;refine .inl ⟨w.stop i (by omega), ?_⟩;exact k D vs r T2 H2 (s1.trans s2) (E.add s2 hD jT Mp.lst F) (s1.none hD) jT F (r2.mv (.anti va2 λa z=>by
   rcases z with(z|z)|z
   .exact .inl (.inl z)
   .exact .inr z
   .exact .inl (.inr z))) h2
def wT (K:AAR)(s:kc)(a:AI):TI:=λf H R=>∃(B:Dg) (T:kf->Prop) (τ:BN) (g:km PV->Prop),SR K B T H f τ/\a τ g/\
 ∀J xs d b,EG T H d b->(∀M2 e c,Mv K d (mt B f τ) b e M2 c->Hx e M2 c->(s=true\/Y7 d b c)->Vm K M2 J xs e c)->g xs->R J b
def lA {K:AAR}{s:kc}{a:AI}:ae K s (wT K s a) a:=λB T d τ H R b c h k=>⟨B,T,τ,b,c,h,k⟩
section
variable {X:Cx}
def SI.of {b iter:kd}{s:kc}{a:AI}(h:SI X b iter s a):PI X b iter (wT X.K s a):=by obtain⟨t,p,e⟩:=h;intro Tb f d H R I hw;obtain⟨B,T,τ,g,i,h,c⟩:=hw;exact p Tb f d H R I (e B T d τ H R g i h c)
structure dE (X:Cx) (tg elt:Expr) (ifs:List Expr) (tg2 iter2:Expr) (ifs2:List Expr) (scope:Scope) (own:Nat) (ix:List Nat) (N:List Str) (g:AG) (t:AT) (ai2:AI) (own2:Nat) (g2:AG) (t2:AT) (te:AE):Prop where
 ex:∃g' t' wi2 g2' t2' te',Oa X tg elt ifs tg2 iter2 ifs2 scope own ix N g' t' wi2 own2 g2' t2' te'/\LV X.K g' g/\OH X.K t' t/\ae X.K true wi2 ai2/\LV X.K g2' g2/\OH X.K t2' t2/\Fg X.K te' te
def Wx {h c iter d a:kd}{e b:km kd}{scope:Scope}{i:Pos}{own own2:Nat}{ix:km Nat}{N:km Str}{g m:AG}{t t2:AT}{s:kc}{n f:AI}{o:AE}(hc:X.calm=true)(hi:SI X h iter s n)(O:dE X h c e d a b scope own ix N g t f own2 m t2 o)(hs:∀x,foldedSetIterable iter X.env x=pure x:=by intro _;rfl):SF X (.ListComp c [⟨h,iter,e,0⟩,⟨d,a,b,0⟩] scope i) (Mr n own ix g t f own2 m t2 o):=by obtain⟨B,p,r⟩:=hi;obtain⟨g',t',u,v,w,y,O,z,st,j,k,l,A⟩:=O.ex;exact⟨_,gM hc p O hs,cV r z st j k l A⟩
def ZL {n e c a:kd}{f b:km kd}{scope:Scope}{own own2:Nat}{ix:km Nat}{N:km Str}{g k:AG}{t t2:AT}{d:AI}{te:AE}(h1:scope.kind= .function)(h2:(scope.names.all λy=> !decide (y.2= .cell))=true)(o:(scope.names.all λy=> !decide (y.2= .local)||decide (scope.names.lookup y.1=some .local))=true)(p:(scope.names.all λy=> !decide (y.2= .free)||decide (X.env.scope.names.lookup y.1=some .cell))=true)(r:N.length=own+ix.length)(u:Px X (relabel scope X.env) own ix N=true)(v:own2<=own)(l:∀cl C s H ex pn,SK own (blk X (relabel scope X.env) N cl C s H ex pn) n g)(m:∀cl C s H ex pn,lY (blk X (relabel scope X.env) N cl C s H ex pn) f t)(h:∀cl C s H ex pn,SI (blk X (relabel scope X.env) N cl C s H ex pn) c a true d)(i:∀cl C s H ex pn,SK own2 (blk X (relabel scope X.env) N cl C s H ex pn) c k)(j:∀cl C s H ex pn,lY (blk X (relabel scope X.env) N cl C s H ex pn) b t2)(val:∀cl C s H ex pn,SE (blk X (relabel scope X.env) N cl C s H ex pn) e te)(w:∀cl C s H ex pn x,foldedSetIterable a (blk X (relabel scope X.env) N cl C s H ex pn).env x=pure x:=by intro _ _ _ _ _ _ _;rfl):dE X n e f c a b scope own ix N g t d own2 k t2 te:=
 have O:=ZK (te:=qH X.K te) h1 h2 o p r u (Lq (K:=X.K) (ag:=g)) (λcl C s H ex pn=>(l cl C s H ex pn).of) (λcl C s H ex pn=>(m cl C s H ex pn).of) (λcl C s H ex pn=>(val cl C s H ex pn).of)
 ⟨nS X.K own g,qP X.K t,wT X.K true d,nS X.K own2 k,qP X.K t2,qH X.K te,⟨O.kind,O.nocell,O.names,O.frees,O.ins,O.keep,Lq,v,O.tgt,O.tst,λcl C s H ex pn=>(h cl C s H ex pn).of,w,λcl C s H ex pn=>(i cl C s H ex pn).of,λcl C s H ex pn=>(j cl C s H ex pn).of,O.val⟩,Ou,Ov,lA,Ou,Ov,Uu⟩
end
end PL
namespace PL
open PySem L2 PyProof.Rows
class ip (n:Nat) (τ:BN) (τ':outParam BN):Prop where
 e:Pu n τ=τ'
instance yO {τ:BN}:ip 0 τ τ:=⟨rfl⟩
instance yP {n:Nat}{x:ke AV}{r a:BN}[h:ip n r a] :ip (n+1) (x::r) (none::a):=⟨by rw[<-h.e];rfl⟩
section
variable {ai ai2:AI}{g g2:AG}{tt t2:AT}{te:AE}{τ τ':BN}{QL:km PV->Prop}{own own2:Nat}{ix:km Nat}
instance u4 {a b:BN}[h1:qt own a][h2:qe ix τ b][c:dB a b τ'] :Wp (Mr ai own ix g tt ai2 own2 g2 t2 te τ QL) (ai τ λxs=>KJ g tt ai2 own2 g2 t2 te τ' QL xs []):=⟨λk=>by unfold Mr Lb;rw[h1.e,h2.e,c.e];exact k⟩
instance zJ {a ys:km PV}[h:ip own2 τ τ'] :Wp (De g2 t2 te (Pu own2 τ) QL ys a) (De g2 t2 te τ' QL ys a):=⟨λk=>by rw[h.e];exact k⟩
instance zx {i:Nat}{a b:AE}{nx bk ct:BN->Prop}{rt:PV->Prop}:Wp (Vq i a b ⟨nx,rt,bk,ct⟩ τ) (b τ λy=>OI i τ λxs=>a τ λk=>gD k λk=>cF (Oi xs.length k) λj=>Rp τ i (.own (xs.set j y)) nx):=⟨id⟩
theorem Pt (d:km PV->km PV->Prop)(hd:∀a,d [] a->QL a)(hs:∀x r a (R:km PV->Prop),(∀b,d r b->R b)->d (x::r) a->g x τ λc=>tt c λok=>if ok=true then ai2 c λys=>a.length+ys.length<sizeLine/\De g2 t2 te (Pu own2 c) R ys a else R a):∀xs a,d xs a->KJ g tt ai2 own2 g2 t2 te τ QL xs a
 | [],a,h=>hd a h
 | x::r,a,h=>hs x r a _ (λb h2=>Pt d hd hs r b h2) h
theorem Xj {r:BN}:∀(ys a:km PV),QL (a++ys)->De (Ar 0) Dh (aV 0) (none::r) QL ys a
 | [],a,h=>by rw[ABb] at h;exact h
 | y::ys,a,h=>Xj ys (a ++ [y]) (by rw[AC4];exact h)
end
end PL
namespace L2
open PySem PySem.Spec PyProof.Rows
def vO (K:AAR)(l:kf):It:=
 ⟨λi H=>∃xs x,Fs K H l xs/\xs[i]? =some x,
  λi H v a=>∃T x,v= .ref T/\H T=none/\a=upd H T (.tup [.int i,x])/\∀xs,Fs K H l xs->xs[i]? =some x,
  λi H=>∃xs,Fs K H l xs/\xs.length<=i⟩
def cg {P:gn}{w:fe}{K:AAR}{es:km kd}{G:Nat}{n:Pos}{e it l:kf}(C:e≠it):LX P w K (.Tuple es G n) (vO K l) [e,it] e (λk h=>(∃b,IsEnum h e it (k:Nat) b)/\h.IsListIter it l k) where
 mem:=by simp
 obj:=λk h st p hp=>by
  obtain⟨⟨b,he⟩,hi⟩:=st;have f:p=e\/p=it:=by simpa using hp
  rcases f with q|q
  .subst q;exact⟨_,he,λv z=>nomatch z⟩
  .subst q;obtain⟨o,a,c,d⟩:=hi;exact⟨o,a,λv z=>by rw[d] at z;cases z⟩
 keep:=λk h h' st j=>by obtain⟨⟨b,he⟩,hi⟩:=st;exact⟨⟨b,j e (by simp) _ he⟩,hi.at λo a=>j it (by simp) o a⟩
 item:=by
  intro X r hw t hc k Tb s D H E I m st y;subst r hw t;obtain⟨⟨b,he⟩,hi⟩:=st;obtain⟨xs,x,hq,hx⟩:=y;obtain⟨A,rv,p,hz⟩:=I.list hq;obtain⟨u,hu,J⟩:=rv.get hx;have i:e<s.heap.objs.size:=AAW he;have B:it<s.heap.objs.size:=by obtain⟨o,a,_⟩:=id hi;exact AAW a
  refine wpAny_pyNext_enum_item he hi p.isList (x:=u) (by simpa using hu) C λh1 L M N U O=> ?_;refine⟨_,rfl,wpAny_letOwnedTupleGo_enum (s:={s with heap:=h1,toks:=s.toks+1}) L λh2 c1 c2=> ?_⟩;have g:∀p o,p≠e->h1.get? p=some o->h2.get? p=some o:=λp o q z=>c2.extBut _ _ q z;have F:∀p∈ [e,it],p<s.heap.objs.size:=λp hp=>by
   have f:p=e\/p=it:=by simpa using hp
   rcases f with q|q
   .rw [q];exact i
   .rw [q];exact B
  have j:∀p o,p ∉ [e,it] ->s.heap.get? p=some o->h2.get? p=some o:=λp o hp z=>by
   have f:p≠e/\p≠it:=by simpa using hp
   exact g p o f.1 (O p o f.1 f.2 z)
  have Q:Inv X Tb D (upd H s.heap.objs.size (.tup [.int k,x])) {s with heap:=h2,toks:=s.toks+1}:=I.turnedN m F j (AAY _)
   ⟨(by show 2<=sizeLine;decide), [.int k s.toks,u], .cons ⟨_,rfl⟩ (.cons J .nil),⟨_,g _ _ (ABE i) N,rfl,_,rfl⟩⟩
  have R:H s.heap.objs.size=none:=I.fresh;refine⟨.ref s.heap.objs.size,upd H s.heap.objs.size (.tup [.int k,x]),Q,rfl,⟨_,x,rfl,R,rfl,λS h'=> ?_⟩,⟨⟨u, ?_⟩, ?_⟩,λp hp=> ?_⟩
  .rw [I.list_inj h' hq];exact hx
  .have:((k+1:Nat):Int)=(k:Int)+1:=by push_cast;rfl
   rw[this];exact c1
  .exact M.at λo z=>g it o C.symm z
  .rw [Aq (AAa (F p hp))];exact(m p hp).1
 done:=by
  intro X r hw t hc k Tb s D H E I m st y;subst r hw t;obtain⟨⟨b,he⟩,hi⟩:=st;obtain⟨xs,hq,hx⟩:=y;obtain⟨A,rv,p,hz⟩:=I.list hq;have hl:=rv.length;refine wpAny_pyNext_enum_end (I.ok.hd hc) he hi p.isList (by simp;omega) λh' T=>⟨rfl, ?_⟩;exact I.turnedL (t':=s.toks) m λp o hp z=>by
   have f:p≠e/\p≠it:=by simpa using hp
   exact T p o f.2 z
 self:=λ_ _ _ _ _ st h=>by obtain⟨⟨b,he⟩,_⟩:=st;exact wpAny_pyIter_enum he h
section
variable {X:Cx}
def rq (K:AAR)(b:TA):TI:=λc H R=>b c H λvs a=>∃l,vs= [.ref l] /\(∃xs,Fs K a l xs)/\R (vO K l) a
def kI {e:kd}{f:TA}{p b c:Pos}{es:km kd}{i:Nat}(j:Gl X "enumerate")(k:X.mg "enumerate" =none)(ha:PA X [e] f)(hs:starEach [e] X.env= [(false,eval e X.env)] :=by rfl):PI X (.Tuple es i c) (.Call (.Name "enumerate" p) [e] [] b) (rq X.K f):=by
 intro Tb s m H R I h;refine Call_ (F9 I j k boot_enumerate (ACe (Bk (ha b Tb s m H _ I h) λw a ⟨vs,n,d,r1,o⟩=> ?_) (by rw[hs];rfl) rfl));obtain⟨l,rfl,⟨xs,hl⟩,q⟩:=o;cases r1 with
 | cons r t=>
 cases t;cases r;obtain⟨u,rv,p,hz⟩:=d.list hl;refine call_enumerate_list p.isList λh' b1 b2 x v=> ?_;refine wpAny_pyIter_enum b1 ?_;have g:∀p∈ [a.heap.objs.size+1,a.heap.objs.size],a.heap.objs.size<=p:=λp hp=>by
  have y:p=a.heap.objs.size+1\/p=a.heap.objs.size:=by simpa using hp
  omega
 exact⟨_,_,_,_,n,rfl,d.kept (t':=a.toks) v,cg (Nat.succ_ne_self _),⟨⟨.none,b1⟩,b2⟩,λp hp=>d.fpOk (g p hp) (d.hok.fresh (g p hp)),q⟩
end
end L2
namespace PL
open PySem PySem.Spec PyProof.Rows L2
def Fj (k:Nat):km PV->km PV
 | [] => []
 | x::r=> .tup [.int k,x] :: Fj (k+1) r
theorem SQ:∀(xs:km PV) (k:Nat),(Fj k xs).length=xs.length
 | [],_=>rfl
 | _::r,k=>by rw[Fj,AAv,SQ r,AAv]
theorem M3:∀(xs:km PV) (k i:Nat) (z:PV),(Fj k xs)[i]? =some z->∃x,xs[i]? =some x/\z= .tup [.int ((k+i:Nat):Int),x]
 | [],_,_,_,h=>by simp[Fj] at h
 | x::r,k,0,z,h=>⟨x,rfl,by simp[Fj] at h;rw[<-h];rfl⟩
 | x::r,k,i+1,z,h=>by obtain⟨y,h1,h2⟩:=M3 r (k+1) i z (by simpa[Fj] using h);refine⟨y,by simpa using h1, ?_⟩;rw[h2,show k+1+i=k+(i+1) by omega]
def bP {K:AAR}{T M:kf->Prop}{H:Hp}{l:kf}{xs:km PV}(va:Hx T M H)(r:Cp K T M H (.ref l) (.lst xs)):Vm K M (vO K l) (Fj 0 xs) T H:=by
 obtain⟨a,vs,e,hq,g,j,rs⟩:=Dm r;cases e;have b:Fs K H l vs:= .inl (.inl hq);refine⟨λi z h=> ?_,λi z v k h d=> ?_,λi h=>⟨vs,b, ?_⟩⟩
 .obtain ⟨x,hx,_⟩:=M3 xs 0 i z h;obtain⟨u,hu,_⟩:=rs.get hx;exact⟨vs,u,b,hu⟩
 .obtain ⟨x,hx,rfl⟩:=M3 xs 0 i z h;obtain⟨p,u,rfl,hn,rfl,hu⟩:=d;obtain⟨m,c,f⟩:=rs.get' (hu vs b);rw[hx] at c;cases c;have st:=EG.lay (o:= .tup [.int (i:Nat),u]) va.tp hn;rw[Nat.zero_add];exact⟨st, .tup (.inl Au) (.cons (.int _) (.cons (f.stp st va) .nil))⟩
 .rw [rs.length];rw[SQ] at h;exact h
section
variable {X:Cx}
def vc (r:AA):AI:=λτ Q=>r τ λa=>match a with | [.lst xs] =>Q (Fj 0 xs)|_=>False
def wj {e:kd}{r:AA}{p c b:Pos}{es:km kd}{d:Nat}(f:Gl X "enumerate")(g:X.mg "enumerate" =none)(ha:SA X [e] r)(hs:starEach [e] X.env= [(false,eval e X.env)] :=by rfl):SI X (.Tuple es d b) (.Call (.Name "enumerate" p) [e] [] c) true (vc r):=by
 obtain⟨t,i,s⟩:=ha;refine⟨_,kI f g i hs,λB T j τ H R w l h k=>s B T j τ H _ _ l h λvs xs m n o r1 h1=> ?_⟩;split at h1 <;> first | exact h1.elim|skip
 cases r1 with
 | cons ra t=> cases t;obtain⟨a,u,rfl,hq,_,_,rs⟩:=Dm ra;exact⟨a,rfl,⟨u, .inl (.inl hq)⟩,k _ _ m n o (λM2 x y v va _=>bP va (ra.mv v)) h1⟩
end
section
variable {X:Cx}{a b c:kd}{ta tb tc:AE}{pos:Pos}
def uZ (f d:Hw)(ta tb tc:AE):AE:=λτ Q=>ta τ λx=>tb τ λy=>f x y λz=>j6 z λk=>if k=true then tc τ λw=>d y w Q else Q (.bl false)
def pV {r p:R2}{f A:Hw}{t u v:TE}(E:B9 X.K r f)(F:B9 X.K p A)(ha:Fg X.K t ta)(hb:Fg X.K u tb)(hc:Fg X.K v tc):Fg X.K (iJ r p t u v) (uZ f A ta tb tc):=by
 intro B T m τ H Q G s h k;refine ha B T m τ H _ _ s h λI x J L e r1 h1=> ?_;refine hb B J m τ L _ _ (s.stp e) h1 λC y M N g r2 h2=> ?_;have n:=(s.stp e).stp g;refine E M _ N I C x y _ _ n.va (r1.stp g (s.stp e).va) r2 h2 λw z T3 D j O q=> ?_;obtain⟨i,rfl,l⟩:=UU q;clear q;refine⟨i,O.toB, ?_⟩;have d:=n.stp j;cases i with
 | false=> rw[AAS (by decide)] at l ⊢;exact k _ _ T3 D ((e.trans g).trans j) (.bl false) l
 | true=> rw[AAU rfl] at l ⊢;refine hc B T3 m τ D _ _ d l λP y4 R S o U W=> ?_;exact F R _ S C P y y4 Q G (d.stp o).va ((r2.stp j n.va).stp o d.va) U W λw z Y Z s5 r5 q=>k w z Y Z (((e.trans g).trans j).trans (o.trans s5)) r5 q
def t8 {op d:CmpOp}{r e:R2}{f g:Hw}(h:ET X (compareOp op) r/\B9 X.K r f)(i:ET X (compareOp d) e/\B9 X.K e g)(ha:SE X a ta)(hb:SE X b tb)(hc:SE X c tc)(j:lastMarks [op,d] [b,c] =false:=by with_unfolding_all rfl):Tf X (.Compare a [op,d] [b,c] pos) (Ag (uZ f g ta tb tc)):=
 let ⟨_,p,s⟩:=ha;let ⟨_,k,l⟩:=hb;let ⟨_,p2,m⟩:=hc;⟨_,gX h.1 i.1 p k p2 j,Ow (pV h.2 i.2 s l m)⟩
end
instance ABy {f a:Hw}{b c d:AE}{τ:BN}{Q:PV->Prop}:Wp (uZ f a b c d τ Q) (b τ λx=>c τ λy=>f x y λz=>j6 z λk=>if k=true then d τ λw=>a y w Q else Q (.bl false)):=⟨id⟩
end PL
namespace PL
open PySem L2 PyProof.Rows
variable {X:Cx}
def oi:ET X (compareOp .Is) (λx y H Q=>∃b c,x= .bl b/\y= .bl c/\Q (.bl (b==c)) H):=by intro Tb s e H x y v u Q I a d h;obtain⟨b,c,rfl,rfl,q⟩:=h;cases a;cases d;exact is_bool (BL I q rfl)
def kB:ET X (compareOp .IsNot) (λx y H Q=>∃b c,x= .bl b/\y= .bl c/\Q (.bl (!(b==c))) H):=by intro Tb s e H x y v u Q I a d h;obtain⟨b,c,rfl,rfl,q⟩:=h;cases a;cases d;refine wpAny_isNot_plain rfl (BL I q ?_);cases b <;> cases c <;> rfl
def nM:Hw:=λx y Q=>match x,y with | .bl b, .bl c=>Q (.bl (b==c))|_,_=>False
def eH:Hw:=λx y Q=>match x,y with | .bl b, .bl c=>Q (.bl (!(b==c)))|_,_=>False
def pX:ET X (compareOp .Is) (λx y H Q=>∃b c,x= .bl b/\y= .bl c/\Q (.bl (b==c)) H)/\B9 X.K (λx y H Q=>∃b c,x= .bl b/\y= .bl c/\Q (.bl (b==c)) H) nM:=by
 refine⟨oi,λT M H u v x y Q d va a rv h k=> ?_⟩;cases x <;> first | exact h.elim|skip
 cases y <;> first | exact h.elim|skip
 cases a;cases rv;exact⟨_,_,rfl,rfl,k _ _ T H (.refl va.tp) (.bl _) h⟩
def lG:ET X (compareOp .IsNot) (λx y H Q=>∃b c,x= .bl b/\y= .bl c/\Q (.bl (!(b==c))) H)/\B9 X.K (λx y H Q=>∃b c,x= .bl b/\y= .bl c/\Q (.bl (!(b==c))) H) eH:=by
 refine⟨kB,λT M H u v x y Q d va a rv h k=> ?_⟩;cases x <;> first | exact h.elim|skip
 cases y <;> first | exact h.elim|skip
 cases a;cases rv;exact⟨_,_,rfl,rfl,k _ _ T H (.refl va.tp) (.bl _) h⟩
variable {Q:PV->Prop}{b:kc}
instance zT:Wp (nM (.bl b) (.bl true) Q) (Q (.bl b)):=⟨λh=>by cases b <;> exact h⟩
instance xZ:Wp (eH (.bl b) (.bl true) Q) (Q (.bl (!b))):=⟨λh=>by cases b <;> exact h⟩
end PL
namespace PL
open PySem PySem.Spec PyProof.Rows L2
section
variable {X:Cx}{a b c d e:kd}{ta tb tc td:AE}{pos:Pos}
def BJ (ha:SE X a ta)(h:starEach [a] X.env=(false,eval a X.env)::starEach [] X.env:=by rfl):SA X [a] (AB ta AL):=BF ha Dk h
def Ao (ha:SE X a ta)(hb:SE X b tb)(h:starEach [a,b] X.env=(false,eval a X.env)::starEach [b] X.env:=by rfl)(h2:starEach [b] X.env=(false,eval b X.env)::starEach [] X.env:=by rfl):SA X [a,b] (AB ta (AB tb AL)):=BF ha (BJ hb h2) h
def D8 (ha:SE X a ta)(hb:SE X b tb)(hc:SE X c tc)(h:starEach [a,b,c] X.env=(false,eval a X.env)::starEach [b,c] X.env:=by rfl)(h2:starEach [b,c] X.env=(false,eval b X.env)::starEach [c] X.env:=by rfl)(f:starEach [c] X.env=(false,eval c X.env)::starEach [] X.env:=by rfl):SA X [a,b,c] (AB ta (AB tb (AB tc AL))):=BF ha (Ao hb hc h2 f) h
def AW (ha:SE X a ta)(hb:SE X b tb)(hs:Te b:=by exact λ_ _=>rfl):SE X (.Subscript a b pos) (AX Ai ta tb):=tq t6 ha hb hs
def EC {op:CmpOp}{r:R2}{f:Hw}(g:ET X (compareOp op) r/\B9 X.K r f)(ha:SE X a ta)(hb:SE X b tb)(h:behindInMarks op b=false:=by exact Bx _):Tf X (.Compare a [op] [b] pos) (Ag (AX f ta tb)):=iG g ha hb h
def Cn (i:Nat){x:Str}{pos':Pos}(hN:X.N.Nodup)(he:SE X e ta)(hi:X.N[i]? =some x:=by rfl)(hx:Loc X.env.scope x:=by exact Or.inl rfl)(hs:swapsWith e (some (.Name x pos')) pos.line X.env=pure false:=by rfl)(f:X.fn x=true\/X.env.scope.names.lookup x=some .local:=by first | exact .inl rfl|exact .inr rfl|assumption):SS X (.Assign [.Name x pos'] e pos) (As ta (Ar i)):=Iq hN hi hx he hs f
def EK (i:Nat){x:Str}(hN:X.N.Nodup)(hi:X.N[i]? =some x:=by rfl)(hx:Loc X.env.scope x:=by exact Or.inl rfl)(f:X.fn x=true\/X.env.scope.names.lookup x=some .local:=by first | exact .inl rfl|exact .inr rfl|assumption):SG X (.Name x pos) (Ar i):=EY hN hi hx f
def JY (i:Nat){own:Nat}{x:Str}(hN:X.N.Nodup)(hi:X.N[i]? =some x:=by rfl)(hx:Loc X.env.scope x:=by exact Or.inl rfl)(hk:i<own:=by decide)(f:X.fn x=true\/X.env.scope.names.lookup x=some .local:=by first | exact .inl rfl|exact .inr rfl|assumption):SK own X (.Name x pos) (Ar i):=Z9 hN hi hx hk f
end
def map_pair {a b c:Type}{o:ke a}{f:a->b}{g:a->c}{x:b}{y:c}(h1:o.map f=some x)(h2:o.map g=some y):o.map (λs=>(f s,g s))=some (x,y):=by
 cases o with
 | none=>cases h1
 | some s=>cases h1;cases h2;rfl
def map5 {a A B C D E:Type}{o:ke a}{F:a->A×B×C×D×E}{X:A×B×C×D×E}(h1:o.map (λs=>(F s).1)=some X.1)(h2:o.map (λs=>(F s).2.1)=some X.2.1)(b:o.map (λs=>(F s).2.2.1)=some X.2.2.1)(c:o.map (λs=>(F s).2.2.2.1)=some X.2.2.2.1)(d:o.map (λs=>(F s).2.2.2.2)=some X.2.2.2.2):o.map F=some X:=by
 cases o with
 | none=>cases h1
 | some s=>exact congrArg some (ACu (AAn h1) (ACu (AAn h2) (ACu (AAn b) (ACu (AAn c) (AAn d)))))
def A9 {P:gn}{w:fe}{K:AAR}{mg:Str->ke kj}{base:da}{k a:Nat}{x:Str}{b:km Str}{sp:Sp}(H:Has P w K mg base k x b sp)(h:k<=a:=by decide):Has P w K mg base a x b sp:=H.mono h
end PL
open PySem L2 PL PyProof.Rows
local macro_rules | `(tactic| decreasing_trivial_pre_omega)=> `(tactic| first | assumption|omega|((apply Bd.mono);(focus (repeat' (first | assumption|exact EF.m (by assumption)|exact EF.x (by assumption)|exact EF.y (by assumption)|exact EF.z (by assumption)|exact qG|exact jD|with_reducible apply Bd.add|with_reducible apply Bd.sub|with_reducible apply Bd.mul|with_reducible apply Bd.neg|with_reducible apply Bd.mx|with_reducible apply Bd.mn)));first | omega|decide)|decide|(simp only [List.length_map,List.length_append,List.length_cons,List.length_nil,List.length_take,List.length_drop,List.length_zip,List.length_reverse];omega)|(show _<=16777216;simp only [List.length_map,List.length_append,List.length_cons,List.length_nil,List.length_take,List.length_drop,List.length_zip,List.length_reverse];omega)|(show _<16777216;simp only [List.length_map,List.length_append,List.length_cons,List.length_nil,List.length_take,List.length_drop,List.length_zip,List.length_reverse];omega)|(refine And.intro ?_ ?_ <;> decreasing_trivial_pre_omega)|exact rfl)
local macro_rules | `(tactic| array_mem_dec)=> `(tactic| first
 | refine Wp.go ?_
 | ((refine Q6.go ?_ ?_);focus (first | exact True.intro|decreasing_trivial_pre_omega))
 | ((with_reducible apply And.intro);focus decreasing_trivial_pre_omega)
 | ((with_reducible apply s_ifdT);focus decide)
 | ((with_reducible apply pO);focus decide)
 | ((with_reducible apply s_ifnT);focus decide)
 | ((with_reducible apply s_ifnF);focus decide)
 | refine vY.go (λ_=> ?_) (λ_=> ?_)
 | ((with_reducible apply pP);focus assumption)
 | ((with_reducible apply mN);focus exact rfl)
 | ((with_reducible apply tY);(focus (first | exact .inl rfl|exact .inr (.inl rfl)|exact .inr (.inr (.inl rfl))|exact .inr (.inr (.inr rfl))));(focus exact rfl))
 | ((with_reducible apply tV);focus exact rfl)
 | ((with_reducible apply tU);focus exact rfl)
 | intro _
 | with_reducible rfl)
local macro_rules | `(tactic| array_get_dec)=> `(tactic| first | array_mem_dec|refine qw.go ?_|fail)
local macro_rules | `(tactic| ac_rfl)=> `(tactic| repeat' array_mem_dec)
namespace PL
open PySem L2 PyProof.Rows
abbrev Y6:AS:=
 (Ak (A1 (AB (aV 0) (AB (aC (.int 1)) AL))))
def Iz:AF:=Av 1 Y6
def cR {a:PV}{Q:PV->Prop}(h:Y6 ⟨λ_=>Q .non,Q,λ_=>False,λ_=>False⟩ [some (.val a)]):Iz [a] Q:=h
instance p8 {k:Int}{Q:PV->Prop}:Wp (Iz [.int k] Q) (Q (fr (k:Rat))):=⟨λh=>by
 apply cR;repeat' array_get_dec
 exact h⟩
def G3.open {n B:Nat}{cs:km C4}(p:G3 n B cs):∃a r l,cs=a::r/\r≠ [] /\(a::r).getLast?=some l/\a.1<l.1:=by
 obtain⟨two,c,d,b⟩:=p;match cs,two,b with
 | a::b0::r,_,b=>exact⟨a,b0::r,_,rfl,by simp,AC2 (by simp),(AAZ.mp b).1 _ (ABf (bS (AC2 (by simp))))⟩
abbrev R0:AS:=
 (Ak (ib (Ag (AX GM (aV 1) (aC (.int 2)))) (AX Ai (aV 0) (aC (.int 1))) (AX Ai (aV 0) (aC (.int 0)))))
def Eh:AF:=Av 2 R0
def Wv {a b:PV}{Q:PV->Prop}(h:R0 ⟨λ_=>Q .non,Q,λ_=>False,λ_=>False⟩ [some (.val a),some (.val b)]):Eh [a,b] Q:=h
def md (b:T3)(v:PV):Prop:=v=qO b\/v= .lst [fr b.1,fr b.2.1,fr b.2.2]
def qh (cs:km C4)(b:T3)(v:PV):Prop:=∃p w,CP cs p/\md b w/\(v= .tup [p,w] \/v= .lst [p,w])
def XN (d:Rat×Rat)(v:PV):Prop:=v= .tup [fr d.1,fr d.2] \/v= .lst [fr d.1,fr d.2]
def yx {a:C4}{r:km C4}{v:PV}{R:PV->Prop}(hv:CP (a::r) v)(h:∀x,(x=cor a\/x=corL a)->R x):Ai v (.int 0) R:=by
 obtain⟨f,b,hv⟩:=hv;have hx:f a=cor a\/f a=corL a:=by rcases b with rfl|rfl <;> simp
 rcases hv with rfl|rfl
 .show c5 (JA (f a::r.map f) 0) R;rw[show JA (f a::r.map f) 0=some (f a) from Ci (j:=0) rfl];exact h _ hx
 .show c5 (JA (f a::r.map f) 0) R;rw[show JA (f a::r.map f) 0=some (f a) from Ci (j:=0) rfl];exact h _ hx
def yy {cs:km C4}{l:C4}{v:PV}{R:PV->Prop}(hv:CP cs v)(a:cs.getLast?=some l)(h:∀x,(x=cor l\/x=corL l)->R x):Ai v (.int (-1)) R:=by
 obtain⟨f,b,hv⟩:=hv;have hx:f l=cor l\/f l=corL l:=by rcases b with rfl|rfl <;> simp
 rcases hv with rfl|rfl
 .exact Li a (h _ hx)
 .exact Li a (h _ hx)
def c0 {x:PV}{c:C4}{R:PV->Prop}(hx:x=cor c\/x=corL c)(h:R (fr c.1)):Ai x (.int 0) R:=by rcases hx with rfl|rfl <;> exact h
def f0 {cs:km C4}{b:T3}{v:PV}{R:PV->Prop}(hv:qh cs b v)(h:∀p,CP cs p->R p):Ai v (.int 0) R:=by obtain⟨p,w,hp,hw,hv⟩:=hv;rcases hv with rfl|rfl <;> exact h p hp
def f1 {cs:km C4}{b:T3}{v:PV}{R:PV->Prop}(hv:qh cs b v)(h:∀w,md b w->R w):Ai v (.int 1) R:=by obtain⟨p,w,hp,hw,hv⟩:=hv;rcases hv with rfl|rfl <;> exact h w hw
def b2 {b:T3}{w:PV}{R:PV->Prop}(hw:md b w)(h:R (fr b.2.2)):Ai w (.int 2) R:=by rcases hw with rfl|rfl <;> exact h
def sL {k n:Nat}(h:k<=n)(hn:n<1000000):k<sizeLine:=ABW h (AAt hn (ABn rfl))
def Z8 {w:PV}{x y:Rat}{k:Int}(a:∀{R:PV->Prop},R (fr x)->Ai w (.int 0) R)(h1:∀{R:PV->Prop},R (fr y)->Ai w (.int 1) R){Q:PV->Prop}(q:Q (fr (if k=2 then y else x))):Eh [w, .int k] Q:=by
 apply Wv;ac_rfl
 .rename_i h;rw[AAU h] at q;exact h1 q
 .rename_i h;rw[AAS h] at q;exact a q
def Pn {d:Rat×Rat}{w:PV}{k:Int}(hw:XN d w){Q:PV->Prop}(q:Q (fr (if k=2 then d.2 else d.1))):Eh [w, .int k] Q:=
 Z8 (λh=>by rcases hw with rfl|rfl <;> exact h) (λh=>by rcases hw with rfl|rfl <;> exact h) q
def oP (x y z:Rat):kc:=decide (x-y<z)&&decide (-(x-y)<z)
def nC (r:Rat):PV.tup [.int (r.num.natAbs:Int), .int r.den] =fr (if r<0 then -r else r):=by
 unfold fr;by_cases h:r<0
 .rw [AAU h,Rat.neg_num,Rat.neg_den];have:¬0<=r.num:=λz=>by have:=Rat.num_nonneg.mp z;grind
  rw[show ((r.num.natAbs:Nat):Int)= -r.num by omega]
 .rw [AAS h];have:0<=r.num:=Rat.num_nonneg.mpr (by grind);rw[show ((r.num.natAbs:Nat):Int)=r.num by omega]
def IC:AS:=
 (AZ (BD (Ag (AX lf (aV 5) (aC (.int 3)))) (As (Eb (DQ (AB (AN 1 BE (AB (aV 0) AL)) (AB (AN 1 BE (AB (aV 0) AL)) (AB (AN 1 BE (AB (aV 0) AL)) AL))))) (Ar 3)) (BD (Ag (AX lf (aV 5) (aC (.int 0)))) (As (AX BQ (AX BQ (XF (aV 3) XG (XH (AX Gi (aV 5) (aC (.int 1))))) (Eb (DQ (AB (AN 1 BE (AB (aV 0) AL)) AL)))) (XF (aV 3) (XH (aV 5)) XG)) (Ar 3)) Ay))
   (FG 4 Lw (AB (A1 (AB (aV 2) (AB (AX Ai (aV 3) (aC (.int 0))) (AB (AX Ai (aV 3) (aC (.int 1))) (AB (AX Ai (aV 3) (aC (.int 2))) AL))))) AL)))
def IB:AS:=
 (AZ (As (AN 2 BV (AB (aV 0) (AB (aC (.int 6)) AL))) (Ar 5))
   IC)
def LA:AS:=
 (AZ (As (AN 2 B6 (AB (aV 2) (AB (AN 1 DN (AB (aV 0) AL)) AL))) (Ar 2))
   IB)
def LF:AS:=
 (AZ (Ms (Ag (AX ZU (DD EJ (AB (aV 4) AL)) (aV 1))) LA)
   (Ak (DD Bw (AB (aV 4) AL))))
def LD:AS:=
 (AZ (KG (DQ (AB (A1 (AB (aV 2) (AB (AX Ai (aV 3) (aC (.int 0))) (AB (AX Ai (aV 3) (aC (.int 1))) (AB (AX Ai (aV 3) (aC (.int 2))) AL))))) AL)) 4)
   LF)
def LC:AS:=
 (AZ (As (Eb (DQ (AB (AN 1 BE (AB (aV 0) AL)) (AB (AN 1 BE (AB (aV 0) AL)) (AB (AN 1 BE (AB (aV 0) AL)) AL))))) (Ar 3))
   LD)
def Fw:AS:=
 (AZ (As (A1 (AB (AN 2 BV (AB (aV 0) (AB (aC (.int 12)) AL))) (AB (aC (.int 1)) AL))) (Ar 2))
   LC)
def LB:AS:=
 (AZ (BD (Ag (AX GM (AN 2 BV (AB (aV 0) (AB (aC (.int 8)) AL))) (aC (.int 0)))) (As (AX Ai (Eb (DQ (AB (aC (.int 7)) (AB (aC (.int 8)) (AB (aC (.int 9)) (AB (aC (.int 12)) AL)))))) (AN 2 BV (AB (aV 0) (AB (aC (.int 4)) AL)))) (Ar 1)) Ay)
   Fw)
def PD:AS:=
 (AZ (As (AX BQ (aC (.int 2)) (AN 2 BV (AB (aV 0) (AB (aC (.int 4)) AL)))) (Ar 1))
   LB)
def CI:AF:=Av 6 PD
def Gj (many:Int)(B k f:ke AV)(j:ke AV)(H:2<=many)(h1:many<=12){Q:PV->Prop}(h:∀cs,Pi 12 6 600 cs->Q (An cs)):Fw {nx:=λ_=>Q .non,rt:=Q,bk:=λ_=>False,ct:=λ_=>False} [some (.val .tape),some (.val (.int many)),B,k,j,f] :=by
 refine⟨rfl,DX (by decide) (by decide) λm m0 m1=>⟨lz, ?_⟩⟩;refine⟨rfl,BK λx hx=>⟨rfl,BK λy hy=>⟨rfl,BK λz hz=>⟨lz, ?_⟩⟩⟩⟩;refine⟨lz,lz, ?_⟩;refine⟨(many-1).toNat+1,Y2 (λn τ=>∃(cs:km C4) (c:C4) (f:ke AV),n+(cs.length+1)=many.toNat+1/\1<=n/\(∀d∈cs ++ [c],PX 6 (66+48*cs.length) d)/\(Mul 6 60 c.2.1/\Mul 6 60 c.2.2.1/\Mul 6 60 c.2.2.2)/\KF (cs ++ [c])/\
  τ= [some (.val .tape),some (.val (.int many)),some (.val (fr c.1)),some (.val (.lst [fr c.2.1,fr c.2.2.1,fr c.2.2.2])),some (.own ((cs ++ [c]).map cor)),f]) ?_ ?_ _ _ ⟨[],((m:Rat),x,y,z),f, ?_, ?_, ?_, ?_, ?_, ?_⟩⟩
 .rintro τ ⟨cs,c,f,_,hn,_⟩;omega
 .rintro n τ R C ⟨cs,c,f,hn,I,hb,g,r,rfl⟩;have t:(((cs ++ [c]).map cor).length:Int)=(cs.length:Int)+1:=by simp
  refine Fu (b:=decide ((((cs ++ [c]).map cor).length:Int)<many)) (λz=> ?_) (λz=> ?_)
  .have l:(((cs ++ [c]).map cor).length:Int)<many:=ABX z;rw[t] at l;have u:=hb c (by simp);refine⟨rfl,Hh λs D J E=>⟨rfl,Ds ((u.m.bd (n:=12) (by omega) (by decide)).mono (by omega)) (D.mono (by omega)) ?_⟩⟩;refine⟨rfl,DX (by decide) (by decide) λw K L=> ?_⟩;have a:∀(o:HX) (x y z:Rat) (f:ke AV),o.nx=R->Mul 6 60 x->Mul 6 60 y->Mul 6 60 z->FG 4 Lw (AB (A1 (AB (aV 2) (AB (AX Ai (aV 3) (aC (.int 0))) (AB (AX Ai (aV 3) (aC (.int 1))) (AB (AX Ai (aV 3) (aC (.int 2))) AL))))) AL)
    o [some (.val .tape),some (.val (.int many)),some (.val (fr (c.1+s))),some (.val (.lst [fr x,fr y,fr z])),some (.own ((cs ++ [c]).map cor)),f] :=by
    intro o x y z f F v i A;refine⟨lz, ?_, ?_⟩
    .show _<16777216;omega
    .rw [F];have G:Mul 6 (66+48*(cs.length+1)) (c.1+s):=(u.m.add E).mono (by omega);refine C _ ⟨cs ++ [c],(c.1+s,x,y,z),f,by simp;omega,by omega, ?_,⟨v,i,A⟩,gm r ?_, ?_⟩
     .intro d hd;rcases AAj.mp hd with hd|hd
      .exact (hb d hd).mono (by simp;omega)
      .simp at hd;subst hd;have e:(cs ++ [c]).length=cs.length+1:=by simp
       rw[e];exact⟨G,v.mono (by omega),i.mono (by omega),A.mono (by omega)⟩
     .show c.1<c.1+s;grind
     .rw [AAk (l₁:=cs ++ [c])];rfl
   refine Fu (b:=decide (3<w)) (λ_=> ?_) (λk=> ?_)
   .exact ⟨rfl,BK λx hx=>⟨rfl,BK λy hy=>⟨rfl,BK λz hz=>⟨lz,a _ x y z _ rfl hx hy hz⟩⟩⟩⟩
   refine Fu (b:=decide (0<w)) (λj=> ?_) (λj=> ?_)
   .have M:¬3<w:=ABY k;have N:0<w:=ABX j;have hw:w=1\/w=2\/w=3:=by omega
    rcases hw with rfl|rfl|rfl
    .exact FR ⟨rfl,BK λp hp=>⟨lz,lz,FR ⟨lz,a _ p _ _ _ rfl hp g.2.1 g.2.2⟩⟩⟩
    .exact FR ⟨rfl,BK λp hp=>⟨lz,lz,FR ⟨lz,a _ _ p _ _ rfl g.1 hp g.2.2⟩⟩⟩
    .exact FR ⟨rfl,BK λp hp=>⟨lz,lz,FR ⟨lz,a _ _ _ p _ rfl g.1 g.2.1 hp⟩⟩⟩
   .exact a _ _ _ _ _ rfl g.1 g.2.1 g.2.2
  .have l:¬(((cs ++ [c]).map cor).length:Int)<many:=ABY z;rw[t] at l;refine h (cs ++ [c]) ⟨by simp;omega,by simp;omega,λd hd=>(hb d hd).mono (by omega),r⟩
 .simp;omega
 .omega
 .intro d hd;simp at hd;subst hd;exact⟨.int (by decide) (by simp;omega),hx.mono (by decide),hy.mono (by decide),hz.mono (by decide)⟩
 .exact ⟨hx,hy,hz⟩
 .exact AEK _ _
 .simp only[cor,eI,ABG,AAc,ADJ];rfl
def JJ {Q:PV->Prop}(h:∀cs,Pi 12 6 600 cs->Q (An cs)):CI [.tape] Q:=by
 refine⟨rfl,DX (by decide) (by decide) λa d e=>⟨rfl,DX (by decide) (by decide) λb f b1=> ?_⟩⟩;refine Fu (b:=decide (b=0)) (λ_=> ?_) (λ_=> ?_)
 .refine ⟨lz,rfl,DX (by decide) (by decide) λc c0 c1=> ?_⟩;have hc:c=0\/c=1\/c=2\/c=3:=by omega
  rcases hc with rfl|rfl|rfl|rfl
  .exact Gj 7 _ _ _ _ (by omega) (by omega) h
  .exact Gj 8 _ _ _ _ (by omega) (by omega) h
  .exact Gj 9 _ _ _ _ (by omega) (by omega) h
  .exact Gj 12 _ _ _ _ (by omega) (by omega) h
 .exact Gj (2+a) _ _ _ _ (by omega) (by omega) h
abbrev HZ:AS:=
 (Ak (DD Bw (AB (Eb (CA (Hl (aV 0)) 1 [1,2] (Ar 0) Dh (AX BQ (A1 (AB (AN 2 B6 (AB (AX Ai (aV 0) (aC (.int 0))) (AB (aV 1) AL))) AL)) (DD Bw (AB (Eb (CA (RM (AB (aC (.int 3)) AL)) 1 [0,2] (Ar 0) Dh (AN 2 B6 (AB (AX Ai (aV 1) (AX BQ (aV 0) (aC (.int 1)))) (AB (AX Ai (aV 2) (aV 0)) AL))))) AL))))) AL)))
def B4:AF:=Av 3 HZ
def MA {a b c:PV}{Q:PV->Prop}(h:HZ ⟨λ_=>Q .non,Q,λ_=>False,λ_=>False⟩ [some (.val a),some (.val b),some (.val c)]):B4 [a,b,c] Q:=h
abbrev K8:AS:=
 (AZ (As (Eb (DQ (AB (A1 (AB (aC (.int 1)) (AB (aC (.int 1)) AL))) (AB (A1 (AB (aC (.int 2)) (AB (aC (.int 1)) AL))) (AB (A1 (AB (aC (.int 3)) (AB (aC (.int 2)) AL))) (AB (A1 (AB (aC (.int 1)) (AB (aC (.int 3)) AL))) (AB (A1 (AB (aC (.int 5)) (AB (aC (.int 1)) AL))) AL))))))) (Ar 1))
   (Ak (A1 (AB (AX Ai (aV 1) (AN 2 BV (AB (aV 0) (AB (aC (.int 5)) AL)))) (AB (AX Ai (aV 1) (AN 2 BV (AB (aV 0) (AB (aC (.int 5)) AL)))) AL)))))
def DV:AF:=Av 2 K8
def Qb {a:PV}{Q:PV->Prop}(h:K8 ⟨λ_=>Q .non,Q,λ_=>False,λ_=>False⟩ [some (.val a),none]):DV [a] Q:=h
def jh {xs:km PV}{k:Int}{R:PV->Prop}(a:0<=k)(h1:k<xs.length)(h:∀x∈xs,R x):Ai (.lst xs) (.int k) R:=by show c5 (JA xs k) R;have hk:xs[k.toNat]? =some (xs[k.toNat]'(by omega)):=AAs (by omega);have e:=Ci hk;rw[show ((k.toNat:Nat):Int)=k by omega] at e;rw[e];exact h _ (AD0 _)
def M9 {xs:km Rat}{k:Int}{R:PV->Prop}(a:0<=k)(h1:k<xs.length)(h:∀x∈xs,R (fr x)):Ai (.lst (xs.map fr)) (.int k) R:=by refine jh a (by simpa using h1) λx hx=> ?_;obtain⟨y,hy,rfl⟩:=AAe.mp hx;exact h y hy
def y7 {r:Rat}(h:r.num.natAbs<2^8:=by decide +kernel)(h2:r.den<2^8:=by decide +kernel):Bd 8 r:=⟨h,h2⟩
abbrev jn (t:Rat)(o:T3)(c:C4):C4:=(c.1+t,c.2.1+o.1,c.2.2.1+o.2.1,c.2.2.2+o.2.2)
def KP {cs:km C4}{t:Rat}{o:T3}{v:PV}{B m:Nat}(hv:v= .lst [fr o.1,fr o.2.1,fr o.2.2])(hl:cs.length<=100)(hc:∀c∈cs,EF B c)(bt:Bd m t)(a:Ea m o)(e:B<=4000)(f:m<=4000){Q:PV->Prop}(q:Q (An (cs.map (jn t o)))):B4 [An cs,fr t,v] Q:=by
 subst hv;have g:=a.x;have b:=a.y;have h:=a.z;apply MA;ac_rfl;refine Cu cor cor (jn t o) (EF B) (λc i R d=> ?_) cs [] hc ?_
 .ac_rfl;rw[show rng 0 (Int.toNat 3)= [.int 0, .int 1, .int 2] from rfl];repeat' array_get_dec
  rw[show (0:Int)+1=1 from rfl];repeat' array_get_dec
  rw[show (1:Int)+1=2 from rfl];repeat' array_get_dec
  rw[show (2:Int)+1=3 from rfl];repeat' array_get_dec
  exact d
 ac_rfl;exact q
instance zP {a b:AE}{τ:BN}{c:km PV->Prop}:Wp (nE a b τ c) (a τ λx=>b τ λy=>match x,y with | .tup xs, .tup ys=>xs.length=ys.length/\c (Fv xs ys.reverse)|_,_=>False):=⟨id⟩
section
variable {τ:BN}
instance vA {i:Nat}{a b:AE}{nx bk ct:BN->Prop}{rt:PV->Prop}:Wp (Vq i a b ⟨nx,rt,bk,ct⟩ τ) (b τ λy=>OI i τ λxs=>a τ λk=>gD k λk=>cF (Oi xs.length k) λj=>Rp τ i (.own (xs.set j y)) nx):=⟨id⟩
instance u9 {i:Nat}{xs:km PV}{P:km PV->Prop}[h:lW τ i (.own xs)] :Wp (OI i τ P) (P xs):=⟨λk=>by unfold OI;rw[h.e];exact k⟩
end
instance xn {c:C4}{Q:PV->Prop}:Wp (Xq (cor c) none (some 1) Q) (Q (.tup [fr c.1])):=⟨λh=>HQ h⟩
abbrev MR:AS:=
 (AZ (As (AN 1 CI (AB (aV 0) AL)) (Ar 6))
   (Ak (AN 3 B4 (AB (aV 6) (AB (AN 2 Bh (AB (AX Ai (AX Ai (aV 1) (LZ El (aC (.int 1)))) (aC (.int 0))) (AB (AX Ai (AX Ai (aV 6) (aC (.int 0))) (aC (.int 0))) AL))) (AB (Eb (DQ (AB (A1 (AB (aC (.int 0)) (AB (aC (.int 1)) AL))) (AB (A1 (AB (aC (.int 0)) (AB (aC (.int 1)) AL))) (AB (A1 (AB (aC (.int 0)) (AB (aC (.int 1)) AL))) AL))))) AL))))))
abbrev JM:AS:=
 (AZ (As (A1 (AB (AN 1 BE (AB (aV 0) AL)) (AB (AN 1 BE (AB (aV 0) AL)) (AB (AN 1 BE (AB (aV 0) AL)) AL)))) (Ar 8))
   (Ak (AX BQ (AX BQ (XF (aV 1) XG (XH (aV 7))) (A1 (AB (AX BQ (XF (AX Ai (aV 1) (aV 7)) XG (XH (aC (.int 1)))) (aV 8)) AL))) (XF (aV 1) (XH (AX BQ (aV 7) (aC (.int 1)))) XG))))
abbrev MS:AS:=
 (AZ (As (AN 2 BV (AB (aV 0) (AB (DD EJ (AB (aV 1) AL)) AL))) (Ar 7))
   JM)
abbrev MT:AS:=
 (AZ (As (XF (AX Ai (aV 1) (AN 2 BV (AB (aV 0) (AB (DD EJ (AB (aV 1) AL)) AL)))) (XH (aC (.int 1))) XG) (Ar 8))
   (Ak (A1 (AB (AX BQ (A1 (AB (AX Ai (AX Ai (aV 1) (aC (.int 0))) (aC (.int 0))) AL)) (aV 8)) (AB (AX BQ (A1 (AB (AN 2 B6 (AB (AX Ai (AX Ai (aV 1) (LZ El (aC (.int 1)))) (aC (.int 0))) (AB (AN 1 DN (AB (aV 0) AL)) AL))) AL)) (aV 8)) AL)))))
abbrev K9:AS:=
 (AZ (BD (Ag (AX GM (aV 3) (aC (.int 6)))) MT Ay)
   (Ak (AN 1 CI (AB (aV 0) AL))))
abbrev Mb:AS:=
 (AZ (BD (Ag (AX GM (aV 3) (aC (.int 5)))) MS Ay)
   K9)
abbrev Ma:AS:=
 (AZ (BD (Ag (AX GM (aV 3) (aC (.int 4)))) MR Ay)
   Mb)
abbrev MZ:AS:=
 (AZ (BD (Ag (AX GM (aV 3) (aC (.int 3)))) (Ak (DD Bw (AB (Eb (CA (nE (aV 1) (aV 1)) 2 [] (IM 2 (Ae (Ar 0) (Ae (Ar 1) Bu))) Dh (AX BQ (A1 (AB (AX Ai (aV 0) (aC (.int 0))) AL)) (XF (aV 1) (XH (aC (.int 1))) XG)))) AL))) Ay)
   Ma)
abbrev MY:AS:=
 (AZ (BD (Ag (AX GM (aV 3) (aC (.int 2)))) (Ak (AN 3 B4 (AB (aV 1) (AB (AX Ai (Eb (DQ (AB (AN 1 DN (AB (aV 0) AL)) (AB (A1 (AB (aC (.int 0)) (AB (aC (.int 1)) AL))) AL)))) (AN 2 BV (AB (aV 0) (AB (aC (.int 2)) AL)))) (AB (aV 4) AL))))) Ay)
   MZ)
abbrev GO:AS:=
 (AZ (BD (Ag (AX ZU (aV 3) (aC (.int 2)))) (Ak (AN 3 B4 (AB (aV 1) (AB (A1 (AB (aC (.int 0)) (AB (aC (.int 1)) AL))) (AB (aV 4) AL))))) Ay)
   MY)
abbrev MX:AS:=
 (AZ (BD (Ag (AX GM (aV 3) (aC (.int 0)))) (Vq 4 (aV 5) (Vo (AN 2 BU (AB (AX Ai (aV 4) (aV 5)) (AB (AX Ai (Eb (DQ (AB (A1 (AB (aC (.int 1)) (AB (aC (.int 2)) AL))) (AB (A1 (AB (LZ El (aC (.int 1))) (AB (aC (.int 1)) AL))) (AB (A1 (AB (LZ El (aC (.int 1))) (AB (aC (.int 3)) AL))) AL))))) (AN 2 BV (AB (aV 0) (AB (aC (.int 3)) AL)))) AL))))) Ay)
   GO)
abbrev MW:AS:=
 (AZ (Vq 4 (aV 5) (AX Ai (aV 2) (DD RT (AB (AX GM (aV 5) (aC (.int 2))) AL))))
   MX)
abbrev MV:AS:=
 (AZ (As (AN 2 BV (AB (aV 0) (AB (aC (.int 3)) AL))) (Ar 5))
   MW)
abbrev MU:AS:=
 (AZ (KG (DQ (AB (A1 (AB (aC (.int 0)) (AB (aC (.int 1)) AL))) (AB (A1 (AB (aC (.int 0)) (AB (aC (.int 1)) AL))) (AB (A1 (AB (aC (.int 0)) (AB (aC (.int 1)) AL))) AL)))) 4)
   MV)
abbrev JZ:AS:=
 (AZ (As (AN 2 BV (AB (aV 0) (AB (aC (.int 9)) AL))) (Ar 3))
   MU)
def Dp:AF:=Av 9 JZ
def OS {a b c:PV}{Q:PV->Prop}(h:JZ ⟨λ_=>Q .non,Q,λ_=>False,λ_=>False⟩ [some (.val a),some (.val b),some (.val c),none,none,none,none,none,none]):Dp [a,b,c] Q:=h
def Z4 {cs ds:km C4}(h:KF cs)(e:ds.map (·.1)=cs.map (·.1)):KF ds:=by have h1:(cs.map (·.1)).Pairwise (· < ·):=ADd.mpr h;rw[<-e] at h1;exact ADd.mp h1
def lU (a b:km C4):Fv (a.map cor) (b.map cor)=(a.zip b).map λp:C4×C4=> .tup [cor p.1,cor p.2] :=by unfold Fv;rw[List.zipWith_map,List.zip,List.map_zipWith]
def Mul.negQ {D N:Nat}{a:Rat}(h:Mul D N a):Mul D N (-a):=by obtain⟨b,k,rfl,hk⟩:=h;exact⟨b, -k,by rw[Rat.neg_divInt],by omega⟩
def Mul.subQ {D N M:Nat}{a b:Rat}(ha:Mul D N a)(hb:Mul D M b):Mul D (N+M) (a-b):=by rw[Rat.sub_eq_add_neg];exact ha.add (Mul.negQ hb)
def l9 {a b c:PV}:Oi [a,b,c].length 0=some 0:=by show Oi 3 0=_;decide
def mB {a b c:PV}:Oi [a,b,c].length 1=some 1:=by show Oi 3 1=_;decide
def mC {a b c:PV}:Oi [a,b,c].length 2=some 2:=by show Oi 3 2=_;decide
def uJ:PV.tup [.int (-1), .int 3] =fr (-1/3):=by unfold fr;rw[show (-1/3:Rat).num= -1 by decide +kernel,show (-1/3:Rat).den=3 by decide +kernel];rfl
abbrev O5:AS:=
 (AZ (BD (Ag (AX GM (AN 2 BV (AB (aV 2) (AB (aC (.int 2)) AL))) (aC (.int 0)))) (RL 4 5 (AB (aV 5) (AB (aV 4) AL))) Ay)
   (Ak (A1 (AB (aV 2) (AB (aV 4) (AB (aV 5) (AB (aV 3) AL)))))))
abbrev O4:AS:=
 (AZ (As (AN 3 Dp (AB (aV 2) (AB (aV 4) (AB (aV 3) AL)))) (Ar 5))
   O5)
abbrev O3:AS:=
 (AZ (As (AN 1 CI (AB (aV 2) AL)) (Ar 4))
   O4)
abbrev O2:AS:=
 (AZ (As (AN 1 DV (AB (aV 2) AL)) (Ar 3))
   O3)
abbrev Ng:AS:=
 (AZ (As (AN 2 Pe (AB (aV 0) (AB (aV 1) AL))) (Ar 2))
   O2)
def Ez:AF:=Av 6 Ng
def Rn {a b:PV}{Q:PV->Prop}(h:Ng ⟨λ_=>Q .non,Q,λ_=>False,λ_=>False⟩ [some (.val a),some (.val b),none,none,none,none]):Ez [a,b] Q:=h
abbrev RG:AS:=
 (AZ (As (AN 2 Fb (AB (AX Ai (AX Ai (aV 0) (LZ El (aC (.int 1)))) (aC (.int 0))) (AB (AX Ai (AX Ai (aV 1) (LZ El (aC (.int 1)))) (aC (.int 0))) AL))) (Ar 3))
   (Ak (ib (Ag (AN 2 Am (AB (aV 2) (AB (aV 3) AL)))) (A1 (AB (aV 2) (AB (aV 3) AL))) (aC .non))))
abbrev PQ:AS:=
 (AZ (As (AN 2 DM (AB (AX Ai (AX Ai (aV 0) (aC (.int 0))) (aC (.int 0))) (AB (AX Ai (AX Ai (aV 1) (aC (.int 0))) (aC (.int 0))) AL))) (Ar 2))
   RG)
def D4:AF:=Av 4 PQ
def Ug {a b:PV}{Q:PV->Prop}(h:PQ ⟨λ_=>Q .non,Q,λ_=>False,λ_=>False⟩ [some (.val a),some (.val b),none,none]):D4 [a,b] Q:=h
abbrev TF:AS:=
 (AZ (As (AN 2 Ei (AB (aV 1) (AB (aV 3) AL))) (Ar 5))
   (Ak (Eb (CA (RM (AB (aC (.int 3)) AL)) 1 [2,4,5] (Ar 0) Dh (AN 2 KB (AB (AN 2 EQ (AB (AX Ai (aV 2) (aV 0)) (AB (AX Ai (aV 3) (aV 0)) AL))) (AB (AN 2 Eh (AB (aV 1) (AB (aV 0) AL))) AL)))))))
abbrev Rx:AS:=
 (AZ (As (AN 2 Ei (AB (aV 0) (AB (aV 3) AL))) (Ar 4))
   TF)
def GZ:AF:=Av 6 Rx
def Ws {a b c d:PV}{Q:PV->Prop}(h:Rx ⟨λ_=>Q .non,Q,λ_=>False,λ_=>False⟩ [some (.val a),some (.val b),some (.val c),some (.val d),none,none]):GZ [a,b,c,d] Q:=h
abbrev CF:AS:=
 (AZ (As (AN 2 CB (AB (AN 2 Bh (AB (AX Ai (aV 7) (aV 6)) (AB (AX Ai (aV 8) (aV 6)) AL))) (AB (AX Ai (aV 2) (DD RT (AB (AX GM (aV 6) (aC (.int 2))) AL))) AL))) (Ar 9))
   (BD (Ag (AN 2 Am (AB (aV 5) (AB (A1 (AB (DD Py (AB (AX Ai (aV 9) (aC (.int 0))) AL)) (AB (AX Ai (aV 9) (aC (.int 1))) AL))) AL)))) (As (A1 (AB (DD Py (AB (AX Ai (aV 9) (aC (.int 0))) AL)) (AB (AX Ai (aV 9) (aC (.int 1))) AL))) (Ar 5)) Ay))
abbrev RC:AS:=
 (AZ (FO (RM (AB (aC (.int 3)) AL)) (Ar 6) CF)
   (Ak (aV 5)))
abbrev RB:AS:=
 (AZ (As (A1 (AB (aC (.int 0)) (AB (aC (.int 1)) AL))) (Ar 5))
   RC)
abbrev RA:AS:=
 (AZ (BD (DI (Ag (AX Tk (aV 7) (aC .non))) (Ag (AX Tk (aV 8) (aC .non)))) (Ak (aC .non)) Ay)
   RB)
abbrev Q9:AS:=
 (AZ (RL 7 8 (AB (AN 2 DO (AB (aV 0) (AB (aV 3) AL))) (AB (AN 2 DO (AB (aV 1) (AB (aV 3) AL))) AL)))
   RA)
abbrev Q8:AS:=
 (AZ (BD (Hk (Bc (Vr (aV 4))) (DI (Bc (Ag (AN 2 Am (AB (aV 3) (AB (AX Ai (AX Ai (aV 0) (LZ El (aC (.int 1)))) (aC (.int 0))) AL))))) (Bc (Ag (AN 2 Am (AB (aV 3) (AB (AX Ai (AX Ai (aV 1) (LZ El (aC (.int 1)))) (aC (.int 0))) AL))))))) (Ak (aC .non)) Ay)
   Q9)
abbrev O6:AS:=
 (AZ (BD (DI (Ag (AN 2 Am (AB (aV 3) (AB (AX Ai (AX Ai (aV 0) (aC (.int 0))) (aC (.int 0))) AL)))) (Ag (AN 2 Am (AB (aV 3) (AB (AX Ai (AX Ai (aV 1) (aC (.int 0))) (aC (.int 0))) AL))))) (Ak (aC .non)) Ay)
   Q8)
def Fa:AF:=Av 10 O6
def Ue {a b c d e:PV}{Q:PV->Prop}(h:O6 ⟨λ_=>Q .non,Q,λ_=>False,λ_=>False⟩ [some (.val a),some (.val b),some (.val c),some (.val d),some (.val e),none,none,none,none,none]):Fa [a,b,c,d,e] Q:=h
def absR (r:Rat):Rat:=if r<0 then -r else r
def Bd.absR {n:Nat}{r:Rat}(h:Bd n r):Bd n (absR r):=by unfold PL.absR;split;exact h.neg;exact h
def Eo (p q:T3)(d:Rat×Rat):T3:=((p.1-q.1)/d.1,(p.2.1-q.2.1)/d.1,(p.2.2-q.2.2)/d.2)
def RU (o:T3):Rat:=mx (mx (mx 0 (absR o.1)) (absR o.2.1)) (absR o.2.2)
def ED (a l b c:C4)(m:Rat):Prop:=(¬m<a.1/\¬m<b.1)/\m<l.1/\m<c.1
instance {a l b c:C4}{m:Rat}:Decidable (ED a l b c m):=by unfold ED;infer_instance
def nU:ke Rat->PV
 | none=> .non
 | some r=>fr r
def ay (a l b c:C4)(cs ds:km C4)(d:Rat×Rat)(m:Rat):ke Rat:=if ED a l b c m then some (RU (Eo ((spotC cs m).getD (0,0,0)) ((spotC ds m).getD (0,0,0)) d)) else none
def jx {cs ds:km C4}{v w u:PV}{d:Rat×Rat}{m:Rat}{p a:T3}(hv:CP cs v)(hw:CP ds w)(hu:XN d u)(hc:∀c∈cs,EF 150 c)(b:∀c∈ds,EF 150 c)(e:KF cs)(f:KF ds)(i:cs≠ [])(j:ds≠ [])(hl:cs.length<=100)(o:ds.length<=100)(bm:Bd 200 m)(b1:Bd 100 d.1)(b2:Bd 100 d.2)(p1:d.1≠0)(p2:d.2≠0)(g:spotC cs m=some p)(h:spotC ds m=some a){Q:PV->Prop}(q:Q (.lst [fr (Eo p a d).1,fr (Eo p a d).2.1,fr (Eo p a d).2.2])):GZ [v,w,u,fr m] Q:=by
 have t1:=Ea.spotC bm e hc p g;have t2:=Ea.spotC bm f b a h;have k:=t1.x;have l:=t1.y;have n:=t1.z;have y1:=t2.x;have y2:=t2.y;have y3:=t2.z;have r:=k.sub y1;have s:=l.sub y2;have t:=n.sub y3;apply Ws;ac_rfl;refine FN hv hc e i (by omega) bm (by decide) ?_;rw[g,show Ho (some p)= .tup [fr p.1,fr p.2.1,fr p.2.2] from rfl];ac_rfl;refine FN hw b f j (by omega) bm (by decide) ?_;rw[h,show Ho (some a)= .tup [fr a.1,fr a.2.1,fr a.2.2] from rfl];ac_rfl;rw[show rng 0 (Int.toNat 3)= [.int 0, .int 1, .int 2] from rfl];repeat' array_get_dec
 refine Pn hu ?_;rw[AAS (by decide)];repeat' array_get_dec
 refine Pn hu ?_;rw[AAS (by decide)];repeat' array_get_dec
 refine Pn hu ?_;rw[AAU (by decide)];repeat' array_get_dec
 exact q
def Mt (r:Rat):PV.tup [.int (r.num.natAbs:Int), .int r.den] =fr (absR r):=nC r
def W7 {a l b c:C4}{r r2:km C4}{v w:PV}(hv:CP (a::r) v)(hw:CP (b::r2) w)(e:(a::r).getLast?=some l)(d:(b::r2).getLast?=some c)(j:Bd 3000 a.1)(k:Bd 3000 l.1)(f:Bd 3000 b.1)(g:Bd 3000 c.1){Q:PV->Prop}(h:mx a.1 b.1<mn l.1 c.1->Q (.tup [fr (mx a.1 b.1),fr (mn l.1 c.1)]))(i:¬mx a.1 b.1<mn l.1 c.1->Q .non):D4 [v,w] Q:=by
 apply Ug;ac_rfl;refine yx hv λx hx=> ?_;ac_rfl;refine c0 hx ?_;ac_rfl;refine yx hw λx hx=> ?_;ac_rfl;refine c0 hx ?_;ac_rfl;refine yy hv e λx hx=> ?_;ac_rfl;refine c0 hx ?_;ac_rfl;refine yy hw d λx hx=> ?_;ac_rfl;refine c0 hx ?_;ac_rfl
 .exact h ‹_›
 .exact i ‹_›
abbrev Mf:AS:=
 (AZ (As (AX RS (AX BQ (aV 2) (aV 3)) (aC (.int 2))) (Ar 4))
   (BD (Ag (AN 2 Am (AB (AX Ai (aV 0) (aV 4)) (AB (aV 1) AL)))) (As (AX BQ (aV 4) (aC (.int 1))) (Ar 2)) (As (aV 4) (Ar 3))))
abbrev Mi:AS:=
 (AZ (Ms (Ag (AX ZU (aV 2) (aV 3))) Mf)
   (Ak (aV 2)))
abbrev Mh:AS:=
 (AZ (As (DD EJ (AB (aV 0) AL)) (Ar 3))
   Mi)
abbrev Je:AS:=
 (AZ (As (aC (.int 0)) (Ar 2))
   Mh)
def Du:AF:=Av 5 Je
def OX {a b:PV}{Q:PV->Prop}(h:Je ⟨λ_=>Q .non,Q,λ_=>False,λ_=>False⟩ [some (.val a),some (.val b),none,none,none]):Du [a,b] Q:=h
abbrev Nj:AS:=
 (AZ (As (Vo (AN 2 Du (AB (aV 1) (AB (aV 2) AL)))) (Ar 3))
   (BD (Vp (DI (Ag (AX GM (aV 3) (DD EJ (AB (aV 1) AL)))) (Ag (AX Lh (AX Ai (aV 1) (aV 3)) (aV 2))))) (FG 1 fZ (AB (aV 3) (AB (aV 2) AL))) Ay))
abbrev VX:AS:=
 (AZ (FO (Hl (aV 0)) (Ar 2) Nj)
   (Ak (aV 1)))
abbrev VW:AS:=
 (AZ (KG (DQ AL) 1)
   VX)
def Gc:AF:=Av 4 VW
def Yi {a:PV}{Q:PV->Prop}(h:VW ⟨λ_=>Q .non,Q,λ_=>False,λ_=>False⟩ [some (.val a),none,none,none]):Gc [a] Q:=h
abbrev VL:AS:=
 (AZ (Xa 3 q9 (db (aV 1) (aV 4) (aV 5)))
   (FG 2 Lw (AB (A1 (AB (aV 4) (AB (aV 5) (AB (aV 3) AL)))) AL)))
abbrev VO:AS:=
 (AZ (FO (Hl (AN 1 Gc (AB (Eb (CA (Hl (Eb (Xb (AB (aV 1) AL)))) 2 [] (IM 2 (Ae (Ar 0) (Ae (Ar 1) Bu))) Dh (aV 0))) AL))) (Ar 4) (FO (Hl (A1 (AB (aC (.int 0)) (AB (aC (.int 1)) AL)))) (Ar 5) (BD (Ag (i9 (aV 4) (aV 5) (aV 1))) VL Ay)))
   (Ak (aV 2)))
abbrev VN:AS:=
 (AZ (As (aC (.int 0)) (Ar 3))
   VO)
abbrev VM:AS:=
 (AZ (KG (DQ AL) 2)
   VN)
abbrev VJ:AS:=
 (AZ (As (AN 1 Iw (AB (aV 0) AL)) (Ar 1))
   VM)
def II:AF:=Av 6 VJ
def Yg {a:PV}{Q:PV->Prop}(h:VJ ⟨λ_=>Q .non,Q,λ_=>False,λ_=>False⟩ [some (.val a),none,none,none,none,none]):II [a] Q:=h
abbrev Sx:AS:=
 (AZ (FG 2 Lw (AB (A1 (AB (AX Ai (aV 3) (aC (.int 0))) (AB (AX Ai (aV 3) (aC (.int 1))) (AB (aV 4) AL)))) AL))
   (As (aC .non) (Ar 3)))
abbrev Gv:AS:=
 (AZ (BD (Ag (AX Nm (aV 3) (aC .non))) (FG 2 Lw (AB (A1 (AB (AX Ai (aV 3) (aC (.int 0))) (AB (AX Ai (aV 3) (aC (.int 1))) (AB (aC .non) AL)))) AL)) Ay)
   (Ak (DD Bw (AB (aV 2) AL))))
abbrev S0:AS:=
 (AZ (FO (Hl (AN 1 II (AB (aV 0) AL))) (IM 3 (Ae (Ar 4) (Ae (Ar 5) (Ae (Ar 6) Bu)))) (BD (Hk (Ag (AX Tk (aV 3) (aC .non))) (Ag (AX lc (aV 6) (aV 1)))) (As (A1 (AB (aV 4) (AB (AX Gi (aC (.int 1)) (aV 5)) AL))) (Ar 3)) (BD (Hk (Ag (AX Nm (aV 3) (aC .non))) (Ag (AX ZU (aV 6) (aV 1)))) Sx Ay)))
   Gv)
abbrev Sy:AS:=
 (AZ (As (aC .non) (Ar 3))
   S0)
abbrev Rr:AS:=
 (AZ (KG (DQ AL) 2)
   Sy)
def FT:AF:=Av 7 Rr
def Wm {a b:PV}{Q:PV->Prop}(h:Rr ⟨λ_=>Q .non,Q,λ_=>False,λ_=>False⟩ [some (.val a),some (.val b),none,none,none,none,none]):FT [a,b] Q:=h
abbrev PR:AS:=
 (Ak (AN 2 FT (AB (aV 0) (AB (aC (.int 1)) AL))))
def Fe:AF:=Av 1 PR
def Uh {a:PV}{Q:PV->Prop}(h:PR ⟨λ_=>Q .non,Q,λ_=>False,λ_=>False⟩ [some (.val a)]):Fe [a] Q:=h
def ins:km Rat->Rat->km Rat
 | [],x=> [x]
 | q::r,x=>if q<x then q::ins r x else if q=x then q::r else x::q::r
abbrev Q5 (qs:km Rat):Prop:=qs.Pairwise (· < ·)
theorem UH {x y:Rat}:∀{qs:km Rat},y∈ins qs x↔y=x\/y∈qs
 | [] =>by simp[ins]
 | q::r=>by
   unfold ins;split
   .rw [AAV,UH,AAV];grind
   .split
    .rename_i h;subst h;simp
    .simp
theorem aF {x:Rat}:∀{qs:km Rat},Q5 qs->Q5 (ins qs x)
 | [],_=>by simp[ins]
 | q::r,h=>by
   obtain⟨h1,h2⟩:=AAZ.mp h;unfold ins;split
   .rename_i hq;refine AAZ.mpr ⟨λy hy=> ?_,aF h2⟩;rcases UH.mp hy with rfl|hy
    .exact hq
    .exact h1 y hy
   .split
    .exact h
    .refine AAZ.mpr ⟨λy hy=> ?_,h⟩;rcases AAV.mp hy with rfl|hy
     .grind
     .have:=h1 y hy;grind
theorem Zh {x:Rat}:∀{qs:km Rat},(ins qs x).length<=qs.length+1
 | [] =>by simp[ins]
 | q::r=>by
   have:=Zh (x:=x) (qs:=r);unfold ins;split
   .simp;omega
   .split <;> simp
structure At (qs:List Rat) (x:Rat) (k:Nat):Prop where
 le:k<=qs.length
 lo:∀q∈qs.take k,q<x
 hi:∀q∈qs.drop k,¬q<x
theorem Xd:∀{qs:km Rat} {x:Rat} {k:Nat},Q5 qs->At qs x k->ins qs x=if qs[k]? =some x then qs else qs.take k++x::qs.drop k
 | [],x,k,_,h=>by have:=h.le;simp at this;subst this;simp[ins]
 | q::r,x,0,_,h=>by
   have:=h.hi q (by simp);unfold ins;rw[AAS this];by_cases e:q=x
   .rw [AAU e,AAU (by simp[e])]
   .rw [AAS e,AAS (by simp[e])];rfl
 | q::r,x,k+1,hs,h=>by have hq:=h.lo q (by simp);have ih:=Xd (qs:=r) (x:=x) (k:=k) (AAZ.mp hs).2 ⟨by have:=h.le;simp at this;exact this,λy hy=>h.lo y (by simp[hy]),λy hy=>h.hi y (by simpa using hy)⟩;unfold ins;rw[AAU hq,ih];simp only[List.getElem?_cons_succ,AEA,List.drop_succ_cons];split <;> rfl
theorem U2:∀{a b:km Rat},Q5 a->Q5 b->(∀x,x∈a↔x∈b)->a=b
 | [], [],_,_,_=>rfl
 | [],y::b,_,_,h=>by have:=(h y).mpr (by simp);simp at this
 | x::a, [],_,_,h=>by have:=(h x).mp (by simp);simp at this
 | x::a,y::b,ha,hb,h=>by
   obtain⟨f,g⟩:=AAZ.mp ha;obtain⟨b1,b2⟩:=AAZ.mp hb;have c:x=y:=by
    rcases AAV.mp ((h x).mp (by simp)) with e|e
    .exact e
    .rcases AAV.mp ((h y).mpr (by simp)) with d|d
     .exact d.symm
     .have:=b1 x e;have:=f y d;grind
   subst c;congr 1;refine U2 g b2 λz=>⟨λhz=> ?_,λhz=> ?_⟩
   .rcases AAV.mp ((h z).mp (by simp[hz])) with e|e
    .subst e;have:=f z hz;grind
    .exact e
   .rcases AAV.mp ((h z).mpr (by simp[hz])) with e|e
    .subst e;have:=b1 z hz;grind
    .exact e
def Cw (xs:km Rat):km Rat:=xs.foldl ins []
theorem Os:∀(xs qs:km Rat),Q5 qs->Q5 (xs.foldl ins qs)/\(∀y,y∈xs.foldl ins qs↔y∈xs\/y∈qs)/\(xs.foldl ins qs).length<=qs.length+xs.length
 | [],qs,h=>⟨h,by simp,by simp⟩
 | x::xs,qs,h=>by
   obtain⟨h1,h2,a⟩:=Os xs (ins qs x) (aF h);refine⟨h1,λy=> ?_, ?_⟩
   .rw [ABo,h2,UH,AAV];grind
   .have:=Zh (x:=x) (qs:=qs);rw[ABo,AAv];omega
def Bz {xs:km Rat}:Q5 (Cw xs):=(Os xs [] .nil).1
def Bn {xs:km Rat}{y:Rat}:y∈Cw xs↔y∈xs:=by rw[Cw,(Os xs [] .nil).2.1];simp
def Fl {xs:km Rat}:(Cw xs).length<=xs.length:=by have:=(Os xs [] .nil).2.2;unfold Cw;simpa using this
def gr {a b:km Rat}(h:∀x,x∈a↔x∈b):Cw a=Cw b:=U2 Bz Bz λx=>by rw[Bn,Bn,h]
theorem aK:∀{qs:km Rat} {m:Nat} {c x:Rat},Q5 qs->qs[m]? =some c->c<x->∀q∈qs.take (m+1),q<x
 | [],m,c,x,_,e,_=>by simp at e
 | a::r,0,c,x,_,e,h=>by simp at e;subst e;simp[h]
 | a::r,m+1,c,x,hs,e,h=>by
   obtain⟨h1,h2⟩:=AAZ.mp hs;have b:r[m]? =some c:=by simpa using e
   intro q hq;rw[AEA] at hq;rcases AAV.mp hq with rfl|hq
   .have:=h1 c (AA9 b);grind
   .exact aK h2 b h q hq
theorem ZQ:∀{qs:km Rat} {m:Nat} {c x:Rat},Q5 qs->qs[m]? =some c->¬c<x->∀q∈qs.drop m,¬q<x
 | [],m,c,x,_,e,_=>by simp at e
 | a::r,0,c,x,hs,e,h=>by
   simp at e;subst e;intro q hq;rcases AAV.mp hq with rfl|hq
   .exact h
   .have:=(AAZ.mp hs).1 q hq;grind
 | a::r,m+1,c,x,hs,e,h=>by intro q hq;exact ZQ (AAZ.mp hs).2 (by simpa using e) h q (by simpa using hq)
def dw {qs:km Rat}{x:Rat}{B M:Nat}(hs:Q5 qs)(hl:qs.length<=1000000)(hq:∀q∈qs,Bd B q)(hx:Bd M x)(r:B<=4000)(hM:M<=4000){Q:PV->Prop}(q:∀k:Nat,At qs x k->Q (.int k)):Du [.lst (qs.map fr),fr x] Q:=by
 apply OX;repeat' array_get_dec
 refine uO (λn τ=>∃(lo hi:Nat) (z:ke AV),hi-lo<n/\lo<=hi/\hi<=qs.length/\(∀q∈qs.take lo,q<x)/\(∀q∈qs.drop hi,¬q<x)/\τ= [some (.val (.lst (qs.map fr))),some (.val (fr x)),some (.val (.int lo)),some (.val (.int hi)),z]) ?_ ?_ (n:=qs.length+1) ⟨0,qs.length,none,by omega,by omega,by omega,by simp,by simp,rfl⟩
 .rintro n τ R d ⟨lo,hi,z,h1,h2,i,f,g,rfl⟩;have j:frz [some (.val (.lst (qs.map fr))),some (.val (fr x)),some (.val (.int lo)),some (.val (.int hi)),z] = [some (.val (.lst (qs.map fr))),some (.val (fr x)),some (.val (.int lo)),some (.val (.int hi)),jL z] :=rfl;rw[j];repeat' array_get_dec
  .rename_i l;refine⟨⟨by decide,by decide⟩, ?_⟩;have o:((lo:Int)+hi).fdiv 2=((lo+hi)/2:Nat):=by rw[ACh _ (by decide)];omega
   rw[o];have m1:(lo+hi)/2<hi:=by omega
   have m2:lo<=(lo+hi)/2:=by omega
   generalize (lo+hi)/2=m at *;repeat' array_get_dec
   rename_i c p hc;have a:qs[m]? =some c:=p;have s:=hq c hc;repeat' array_get_dec
   .rename_i b;refine d _ ⟨m+1,hi,_,by omega,by omega,i,aK hs a b,g,rfl⟩
   .rename_i b;refine d _ ⟨lo,m,_,by omega,m2,by omega,f,ZQ hs a b,rfl⟩
  .rename_i l;have e:lo=hi:=by omega
   subst e;exact q lo ⟨by omega,f,g⟩
 .rintro τ ⟨lo,hi,z,h,_⟩;omega
def Sc {v:PV}{xs:km Rat}{B:Nat}(hv:v= .lst (xs.map fr)\/v= .tup (xs.map fr))(hl:xs.length<=1000)(hx:∀x∈xs,Bd B x)(n:B<=4000){Q:PV->Prop}(q:Q (.lst ((Cw xs).map fr))):Gc [v] Q:=by
 apply Yi;have key:∀{b f:ke AV},DG (Ar 2) Nj ⟨Ak (aV 1) ⟨λ_=>Q .non,Q,λ_=>False,λ_=>False⟩,Q,λ_=>False,λ_=>False⟩ (xs.map fr) [some (.val v),some (.own []),b,f] :=by
  intro b f;refine EU fr (λa vs τ=>∃b f,τ= [some (.val v),some (.own ((Cw a).map fr)),b,f]) ?_ ?_ ⟨_,_,rfl⟩
  .rintro τ ⟨b,f,rfl⟩;repeat' array_get_dec
   exact q
  .rintro a c vs e τ R o ⟨b,f,rfl⟩;have ul:a.length<=1000:=by have:=congrArg List.length e;simp at this;omega
   have s:=Fl (xs:=a);have p:∀y∈Cw a,Bd B y:=λy hy=>hx y (by rw[<-e];simp[Bn.mp hy]);have r:Bd B c:=hx c (by rw[<-e];simp);have g:∀(m:km Rat) b f,m=ins (Cw a) c->R [some (.val v),some (.own (m.map fr)),b,f] :=λm b f h=>o _ ⟨b,f,by rw[h,show Cw (a ++ [c])=ins (Cw a) c by unfold Cw;rw[ADe];rfl]⟩;repeat' array_get_dec
   refine dw Bz (by omega) p r n n λk hk=> ?_;have t:=hk.le;have j:=Xd Bz hk;repeat' array_get_dec
   .rename_i h1;have l:(Cw a)[k]? =none:=AFI (by omega);rw[l,AAS (by simp)] at j;have:=g _ (some (.val (fr c))) (some (.val (.int k))) j.symm;rw[AAk,AAc,ADX,ACn] at this;exact this
   .rename_i h1 d l _ h2;have i:(Cw a)[k]? =some d:=l;rw[i,AAS (by simpa using h2)] at j;have:=g _ (some (.val (fr c))) (some (.val (.int k))) j.symm;rw[AAk,AAc,ADX,ACn] at this;exact this
   .rename_i h1 d l _ h2;have i:(Cw a)[k]? =some d:=l;rw[i,AAU (by rw[h2])] at j;exact g _ _ _ j.symm
 rcases hv with rfl|rfl;all_goals
  ac_rfl;exact key
abbrev Pl:=Rat×Int
abbrev Bq:=Rat×Int×ke Rat
def bp (s:Bq):Pl:=(s.1,1-s.2.1)
def ep (s:Bq):ke Pl:=s.2.2.map λe=>(e,0)
def F0 (p:Pl):FK:=((p.1.num,p.1.den),p.2)
def UA {p q:Pl}(h:F0 p=F0 q):p=q:=by obtain⟨a,i⟩:=p;obtain⟨b,j⟩:=q;unfold F0 at h;simp only[AEr,Int.ofNat_inj] at h;obtain⟨⟨h1,h2⟩,c⟩:=h;have:a=b:=Rat.ext h1 h2;rw[this,c]
def av:ke Rat->PV|none=> .non|some e=>fr e
def D7 (s:Bq):PV:= .tup [fr s.1, .int s.2.1,av s.2.2]
def tQ (s:Bq):PV:= .lst [fr s.1, .int s.2.1,av s.2.2]
def pK {s:Bq}{x:PV}(h:x=D7 s\/x=tQ s):Wk x=some ((s.1.num,(s.1.den:Int)),s.2.1,s.2.2.map λe=>(e.num,(e.den:Int))):=by obtain⟨b,i,e⟩:=s;rcases h with rfl|rfl <;> cases e <;> rfl
def iU {m:km (FK×Int)}{k a:FK}{v:Int}:Ba (Rm m k v) a=if a=k then some v else Ba m a:=by
 unfold Rm;by_cases hk:(m.any λp=>decide (p.1=k))=true
 .rw [AAU hk];induction m with
  | nil=>simp at hk
  | cons p r ih=>
    by_cases e:p.1=k
    .by_cases b:a=k
     .subst b;simp[Ba,e]
     .have:¬k=a:=λz=>b z.symm;by_cases d:(r.any λp=>decide (p.1=k))=true
      .have:=ih d;simpa[Ba,e,b,this, ‹¬k=a›] using this
      .have f:r.map (λp=>if p.1=k then (p.1,v) else p)=r:=by
        conv=>rhs;rw[<-AC5 r]
        apply ACl;intro q hq;have:¬q.1=k:=λz=>d (AEs.mpr ⟨q,hq,by simpa using z⟩);rw[AAS this];rfl
       simp only[AAc,e,ABK,f];simp[Ba,e,b,this]
    .have d:(r.any λp=>decide (p.1=k))=true:=by simpa[e] using hk
     have:=ih d;by_cases c:p.1=a
     .have:¬a=k:=λz=>e (c.trans z);simp[Ba,e,c,this]
     .simpa [Ba,e,c] using this
 .rw [AAS hk];induction m with
  | nil=>
    by_cases b:a=k
    .subst b;simp[Ba]
    .have:¬k=a:=λz=>b z.symm;simp[Ba,b,this]
  | cons p r ih=>
    have e:¬p.1=k:=λz=>hk (by simp[z]);have d:¬(r.any λp=>decide (p.1=k))=true:=λz=>hk (by simp only[ABP,z,Bool.or_true]);have:=ih d;by_cases c:p.1=a
    .have:¬a=k:=λz=>e (c.trans z);simp[Ba,c,this]
    .simpa [Ba,c] using this
def jj {m:km (FK×Int)}{k a:FK}{v:Int}:a∈(Rm m k v).map (·.1)↔a=k\/a∈m.map (·.1):=by
 unfold Rm;split
 .rename_i hk;obtain⟨q,hq,e⟩:=AEs.mp hk;have e:q.1=k:=by simpa using e
  have:(m.map λp=>if p.1=k then (p.1,v) else p).map (·.1)=m.map (·.1):=by rw[ACX];apply ACl;intro p _;by_cases z:p.1=k <;> simp[z]
  rw[this];refine⟨.inr,λh=>h.elim (λz=> ?_) id⟩;rw[z,<-e];exact AAe.mpr ⟨q,hq,rfl⟩
 .rw [AAk,AAj];simp only[AAc,ADJ,AC6];exact Or.comm
def lR {m:km (FK×Int)}{k:FK}:(Ba m k).isSome=true↔k∈m.map (·.1):=by
 unfold Ba;rw[ADa,List.find?_isSome,AAe];constructor
 .rintro ⟨p,hp,e⟩;exact⟨p,hp,by simpa using e⟩
 .rintro ⟨p,hp,e⟩;exact⟨p,hp,by simpa using e⟩
def QV (s:Bq)(p:Pl):Int:=(if bp s=p then 1 else 0)-(if ep s=some p then 1 else 0)
def cnt (ss:km Bq)(p:Pl):Int:=(ss.map λs=>QV s p).sum
def Lo (ss:km Bq)(p:Pl):Prop:=∃s∈ss,bp s=p\/ep s=some p
def M6 {m:km (FK×Int)}{k a:FK}{d:Int}:(Ba (bump m k d) a).getD 0=(Ba m a).getD 0+if a=k then d else 0:=by
 unfold bump;rw[iU];by_cases e:a=k
 .subst e;simp
 .simp [e]
def QD {m:km (FK×Int)}{k a:FK}{d:Int}:a∈(bump m k d).map (·.1)↔a=k\/a∈m.map (·.1):=jj
inductive Hi:List PV->List Bq->Prop where
 | nil:Hi [] []
 | cons {x:PV} {s:Bq} {xs:List PV} {ss:List Bq} (h:x=D7 s\/x=tQ s) (t:Hi xs ss):Hi (x::xs) (s::ss)
def Hi.length:∀{xs:km PV} {ss:km Bq},Hi xs ss->xs.length=ss.length
 | _,_, .nil=>rfl
 | _,_, .cons _ t=>by simp[t.length]
def cO (ss:km Bq):Hi (ss.map D7) ss:=by
 induction ss with
 | nil=>exact .nil
 | cons s ss ih=>exact .cons (.inl rfl) ih
def W5 {m:km (FK×Int)}{s:Bq}:(∀p,(Ba (HU m (s.1.num,(s.1.den:Int)) s.2.1 (s.2.2.map λe=>(e.num,(e.den:Int)))) (F0 p)).getD 0=(Ba m (F0 p)).getD 0+QV s p)/\ ∀k,k∈(HU m (s.1.num,(s.1.den:Int)) s.2.1 (s.2.2.map λe=>(e.num,(e.den:Int)))).map (·.1)↔k∈m.map (·.1)\/∃p,(bp s=p\/ep s=some p)/\k=F0 p:=by
 obtain⟨b,h,e⟩:=s;have a:∀p:Pl,(F0 p=((b.num,(b.den:Int)),1-h))↔bp (b,h,e)=p:=λp=>⟨λz=>(UA (p:=p) (q:=(b,1-h)) z).symm,λz=>by rw[<-z];rfl⟩;cases e with
 | none=>
   refine⟨λp=> ?_,λk=> ?_⟩
   .show (Ba (bump m ((b.num,(b.den:Int)),1-h) 1) (F0 p)).getD 0=_;rw[M6];simp only[a,QV,ep];simp
   .show k∈(bump m ((b.num,(b.den:Int)),1-h) 1).map (·.1)↔_;rw[QD];constructor
    .rintro (z|z)
     .exact .inr ⟨_, .inl rfl,z⟩
     .exact .inl z
    .rintro (z|⟨p,z|z,hk⟩)
     .exact .inr z
     .exact .inl (by rw[hk,<-z];rfl)
     .cases z
 | some e=>
   have c:∀p:Pl,(F0 p=((e.num,(e.den:Int)),0))↔ep (b,h,some e)=some p:=λp=>⟨λz=>by rw[<-UA (p:=(e,0)) (q:=p) z.symm];rfl,λz=>by cases z;rfl⟩;refine⟨λp=> ?_,λk=> ?_⟩
   .show (Ba (bump (bump m ((b.num,(b.den:Int)),1-h) 1) ((e.num,(e.den:Int)),0) (-1)) (F0 p)).getD 0=_;rw[M6,M6];simp only[a,c,QV];split <;> split <;> omega
   .show k∈(bump (bump m ((b.num,(b.den:Int)),1-h) 1) ((e.num,(e.den:Int)),0) (-1)).map (·.1)↔_;rw[QD,QD];constructor
    .rintro (z|z|z)
     .exact .inr ⟨(e,0), .inr rfl,z⟩
     .exact .inr ⟨_, .inl rfl,z⟩
     .exact .inl z
    .rintro (z|⟨p,z|z,hk⟩)
     .exact .inr (.inr z)
     .exact .inr (.inl (by rw[hk,<-z];rfl))
     .exact .inl (by rw[hk];exact(c p).mpr z)
theorem Sn:∀{xs:km PV} {ss:km Bq} (m0:km (FK×Int)),Hi xs ss->∃m,GK xs m0=some m/\(∀p,(Ba m (F0 p)).getD 0=(Ba m0 (F0 p)).getD 0+cnt ss p)/\(∀k,k∈m.map (·.1)↔k∈m0.map (·.1)\/∃p,Lo ss p/\k=F0 p)/\m.length<=m0.length+2*ss.length
 | _,_,m0, .nil=>⟨m0,rfl,λp=>by simp[cnt],λk=>by simp[Lo],by simp⟩
 | x::xs,s::ss,m0, .cons h t=>by
   obtain⟨m,h1,h2,d,f⟩:=Sn (HU m0 (s.1.num,(s.1.den:Int)) s.2.1 (s.2.2.map λe=>(e.num,(e.den:Int)))) t;obtain⟨t1,t2⟩:=W5 (m:=m0) (s:=s);refine⟨m, ?_,λp=> ?_,λk=> ?_, ?_⟩
   .unfold GK;rw[pK h];exact h1
   .rw [h2,t1];simp[cnt];omega
   .rw [d,t2];constructor
    .rintro ((z|⟨p,z,e⟩)|⟨p,⟨c,a,z⟩,e⟩)
     .exact .inl z
     .exact .inr ⟨p,⟨s,by simp,z⟩,e⟩
     .exact .inr ⟨p,⟨c,by simp[a],z⟩,e⟩
    .rintro (z|⟨p,⟨c,a,z⟩,e⟩)
     .exact .inl (.inl z)
     .rcases AAV.mp a with rfl|a
      .exact .inl (.inr ⟨p,z,e⟩)
      .exact .inr ⟨p,⟨c,a,z⟩,e⟩
   .have:=N2 (m:=m0) (b:=(s.1.num,(s.1.den:Int))) (h:=s.2.1) (e:=s.2.2.map λe=>(e.num,(e.den:Int)));simp only[AAv];omega
def Q7 (x p:Pl):kc:=decide (x.1<p.1)||(decide (x.1=p.1)&&decide (x.2<=p.2))
def Bl (s:Bq)(p:Pl):kc:=(decide (s.1<p.1)||(decide (s.1=p.1)&&decide (0<s.2.1+p.2)))&&(match s.2.2 with | none=>true|some e=>decide (p.1<e))
structure Ct (B:Nat) (s:Bq):Prop where
 b:Bd B s.1
 h:s.2.1=0\/s.2.1=1
 e:∀e,s.2.2=some e->s.1<e/\Bd B e
def tm (s:Bq)(p:Pl):Int:=(if Q7 (bp s) p=true then 1 else 0)-(if (ep s).any (Q7 · p)=true then 1 else 0)
def uK {B:Nat}{s:Bq}{p:Pl}(ok:Ct B s)(hp:0<=p.2):tm s p=if Bl s p=true then 1 else 0:=by
 obtain⟨b,h,e⟩:=s;obtain⟨q,i⟩:=p;have g:h=0\/h=1:=ok.h;have hp:0<=i:=hp;have d:Q7 (bp (b,h,e)) (q,i)=(decide (b<q)||(decide (b=q)&&decide (0<h+i))):=by unfold Q7 bp;congr 2;exact ACm.mpr (by show 1-h<=i↔0<h+i;omega)
 cases e with
 | none=> unfold tm Bl;rw[d];simp[ep]
 | some e=>
   have j:b<e:=(ok.e e rfl).1;have f:(ep (b,h,some e)).any (Q7 · (q,i))= !decide (q<e):=by
    show Q7 (e,0) (q,i)=_;unfold Q7;by_cases z:q<e
    .have a:¬e<q:=by grind
     have c:¬e=q:=by grind
     simp[z,a,c]
    .by_cases a:e<q
     .simp [z,a]
     .have c:e=q:=by grind
      simp[c,hp]
   unfold tm Bl;rw[d,f];by_cases z:q<e
   .simp [z]
   .have a:b<q:=by grind
    simp[z,a]
def Hn (ss:km Bq)(p:Pl):Nat:=(ss.filter (Bl · p)).length
theorem X1 {B:Nat}{p:Pl}(hp:0<=p.2):∀{ss:km Bq},(∀s∈ss,Ct B s)->(Hn ss p:Int)=(ss.map λs=>tm s p).sum
 | [],_=>rfl
 | s::ss,h=>by
   have ih:=X1 hp (ss:=ss) λx hx=>h x (by simp[hx]);have e:=uK (p:=p) (h s (by simp)) hp;rw[AAc,ADV,<-ih,e];unfold Hn;rw[ABZ];split
   .simp;omega
   .simp
def Ol (x p:Pl):Prop:=x.1<p.1\/(x.1=p.1/\x.2<p.2)
def ND {a b c:Pl}(h:Ol a b)(h2:Ol b c):Ol a c:=by
 unfold Ol at *;rcases h with h|⟨h,h'⟩ <;> rcases h2 with h2|⟨h2,d⟩
 .left;grind
 .left;grind
 .left;grind
 .right;exact⟨by grind,by omega⟩
def IT {x p:Pl}:Q7 x p=true↔Ol x p\/x=p:=by
 obtain⟨a,i⟩:=x;obtain⟨b,j⟩:=p;unfold Q7 Ol;simp only[ABr,ABJ,AC7,AEr];constructor
 .rintro (h|⟨h,h2⟩)
  .exact .inl (.inl h)
  .by_cases e:i=j
   .exact .inr ⟨h,e⟩
   .exact .inl (.inr ⟨h,by omega⟩)
 .rintro ((h|⟨h,h2⟩)|⟨h,h2⟩)
  .exact .inl h
  .exact .inr ⟨h,by omega⟩
  .exact .inr ⟨h,by omega⟩
def Om {p:Pl}:¬Ol p p:=by
 unfold Ol;rintro(h|⟨_,h⟩)
 .grind
 .omega
def WM (x:Pl):ke Pl->kc|none=>false|some p=>Q7 x p
def lO (s:Bq)(o:ke Pl):Int:=(if WM (bp s) o=true then 1 else 0)-(if (ep s).any (WM · o)=true then 1 else 0)
def wX:ke Pl->Pl->Prop|none,_=>True|some q,p=>Ol q p
def ML {x p:Pl}{o:ke Pl}(hx:WM x o=true\/x=p\/Ol p x)(a:wX o p):Q7 x p=(WM x o||decide (x=p))/\¬(WM x o=true/\x=p):=by
 have h1:WM x o=true->Ol x p:=λh=>by
  cases o with
  | none=>cases h
  | some q=>rcases IT.mp h with h|h
            .exact ND h a
            .rw [h];exact a
 refine⟨?_,λh=>by rw[h.2] at h1;exact Om (h1 (h.2 ▸ h.1))⟩;rw[ACR,ABr,AC7,IT];constructor
 .rintro (h|h)
  .rcases hx with z|z|z
   .exact .inl z
   .exact .inr z
   .exact absurd (ND h z) Om
  .exact .inr h
 .rintro (h|h)
  .exact .inl (h1 h)
  .exact .inr h
def fE {A:kc}{E:Prop}[Decidable E](h:¬(A=true/\E)):(if (A||decide E)=true then (1:Int) else 0)=(if A=true then 1 else 0)+if E then 1 else 0:=by cases A <;> by_cases e:E <;> simp_all
def lP {s:Bq}{p:Pl}{o:ke Pl}(hb:WM (bp s) o=true\/bp s=p\/Ol p (bp s))(he:∀x,ep s=some x->WM x o=true\/x=p\/Ol p x)(a:wX o p):tm s p=lO s o+QV s p:=by
 obtain⟨b1,b2⟩:=ML hb a;unfold tm lO QV;rw[b1,fE b2];cases e:ep s with
 | none=>simp
 | some x=>
   obtain⟨b,c⟩:=ML (he x e) a;have h1:(if (some x).any (Q7 · p)=true then (1:Int) else 0)=(if WM x o=true then 1 else 0)+if x=p then 1 else 0:=by show (if Q7 x p=true then (1:Int) else 0)=_;rw[b,fE c]
   rw[h1];show _=(_-(if WM x o=true then (1:Int) else 0))+(_-(if some x=some p then (1:Int) else 0));have h2:(if some x=some p then (1:Int) else 0)=if x=p then 1 else 0:=by by_cases z:x=p <;> simp[z]
   rw[h2];omega
def aa (X:km Pl):Prop:=X.Pairwise Ol
def J8 (ss:km Bq):Int->km Pl->Prop
 | _, [] =>True
 | c,p::r=>(Hn ss p:Int)=c+cnt ss p/\J8 ss (Hn ss p) r
theorem aH {a:Type}(f g:a->Int):∀xs:km a,(xs.map λx=>f x+g x).sum=(xs.map f).sum+(xs.map g).sum
 | [] =>rfl
 | x::xs=>by simp only[AAc,ADV,aH f g xs];omega
theorem Ps {B:Nat}{ss:km Bq}(ok:∀s∈ss,Ct B s):∀(X:km Pl) (o:ke Pl),aa X->(∀p∈X,wX o p/\0<=p.2)->(∀s∈ss,(WM (bp s) o=true\/bp s∈X)/\∀x,ep s=some x->WM x o=true\/x∈X)->J8 ss ((ss.map λs=>lO s o).sum) X
 | [],_,_,_,_=>True.intro
 | p::r,o,hs,ho,hk=>by
   obtain⟨h1,h2⟩:=AAZ.mp hs;obtain⟨op,a⟩:=ho p (by simp);have cls:∀x,(WM x o=true\/x∈p::r)->WM x o=true\/x=p\/Ol p x:=λx h=>by
    rcases h with h|h
    .exact .inl h
    .rcases AAV.mp h with h|h
     .exact .inr (.inl h)
     .exact .inr (.inr (h1 x h))
   have e:(Hn ss p:Int)=(ss.map λs=>lO s o).sum+cnt ss p:=by rw[X1 a ok];unfold cnt;rw[<-aH];congr 1;apply ACl;intro s hs;exact lP (cls _ (hk s hs).1) (λx ex=>cls x ((hk s hs).2 x ex)) op
   refine⟨e, ?_⟩;have:=Ps ok r (some p) h2 (λq hq=>⟨h1 q hq,(ho q (by simp[hq])).2⟩) (λs hs=>⟨?_,λx ex=> ?_⟩)
   .rw [show (ss.map λs=>lO s (some p)).sum=(Hn ss p:Int) from(X1 a ok).symm] at this;exact this
   .rcases cls _ (hk s hs).1 with z|z|z
    .exact .inl (by rw[show WM (bp s) (some p)=Q7 (bp s) p from rfl,(ML (.inl z) op).1,z];rfl)
    .exact .inl (IT.mpr (.inr z))
    .rcases (hk s hs).1 with y|y
     .exact .inl (by rw[show WM (bp s) (some p)=Q7 (bp s) p from rfl,(ML (.inl y) op).1,y];rfl)
     .rcases AAV.mp y with y|y
      .exact .inl (IT.mpr (.inr y))
      .exact .inr y
   .rcases (hk s hs).2 x ex with y|y
    .exact .inl (by rw[show WM x (some p)=Q7 x p from rfl,(ML (.inl y) op).1,y];rfl)
    .rcases AAV.mp y with y|y
     .exact .inl (IT.mpr (.inr y))
     .exact .inr y
def places (qs:km Rat):km Pl:=qs.flatMap λq=> [(q,0),(q,1)]
def CJ {qs:km Rat}{p:Pl}:p∈places qs↔p.1∈qs/\(p.2=0\/p.2=1):=by
 obtain⟨a,i⟩:=p;unfold places;simp only[ABs,AAV,AAp,AAq,AEr];constructor
 .rintro ⟨q,hq,⟨rfl,rfl⟩|⟨rfl,rfl⟩⟩
  .exact ⟨hq, .inl rfl⟩
  .exact ⟨hq, .inr rfl⟩
 .rintro ⟨h,h2⟩;exact⟨a,h,h2.elim (λz=> .inl ⟨rfl,z⟩) (λz=> .inr ⟨rfl,z⟩)⟩
theorem Es:∀{qs:km Rat},Q5 qs->aa (places qs)
 | [],_=>List.Pairwise.nil
 | q::r,h=>by
   obtain⟨h1,h2⟩:=AAZ.mp h;have ih:=Es h2;have a:∀(i:Int),∀p∈places r,Ol (q,i) p:=λi p hp=> .inl (h1 _ (CJ.mp hp).1);show aa ((q,0)::(q,1)::places r);refine AAZ.mpr ⟨λp hp=> ?_,AAZ.mpr ⟨a 1,ih⟩⟩;rcases AAV.mp hp with rfl|hp
   .exact .inr ⟨rfl,by show (0:Int)<1;decide⟩
   .exact a 0 p hp
def Cq (ss:km Bq):km Rat:=ss.flatMap λs=>s.1::s.2.2.toList
def D0 (ss:km Bq):km Pl:=places (Cw (Cq ss))
def QE {B:Nat}{ss:km Bq}(ok:∀s∈ss,Ct B s){s:Bq}(hs:s∈ss):bp s∈D0 ss/\∀x,ep s=some x->x∈D0 ss:=by
 refine⟨CJ.mpr ⟨Bn.mpr (ABs.mpr ⟨s,hs,by simp[bp]⟩), ?_⟩,λx ex=> ?_⟩
 .have:=(ok s hs).h;unfold bp;simp only;omega
 .obtain ⟨e,he,rfl⟩:=ACp.mp ex;exact CJ.mpr ⟨Bn.mpr (ABs.mpr ⟨s,hs,by simp[he]⟩), .inl rfl⟩
def IN {B:Nat}{ss:km Bq}(ok:∀s∈ss,Ct B s):J8 ss 0 (D0 ss):=by
 have h:=Ps ok (D0 ss) none (Es Bz) (λp hp=>⟨True.intro,by rcases (CJ.mp hp).2 with z|z <;> omega⟩) (λs hs=>⟨.inr (QE ok hs).1,λx ex=> .inr ((QE ok hs).2 x ex)⟩);have:(ss.map λs=>lO s none).sum=0:=by
  clear h ok;induction ss with
  | nil=>rfl
  | cons s ss ih=> rw[AAc,ADV,ih];unfold lO;cases ep s <;> rfl
 rw[this] at h;exact h
def DH (val:Pl->ke Int)(st:km (Pl×Int)×Int)(p:Pl):km (Pl×Int)×Int:=match val p with | some v=>(st.1 ++ [(p,st.2+v)],st.2+v)|none=>st
theorem U9 {ss:km Bq}{val:Pl->ke Int}(h1:∀p v,val p=some v->v=cnt ss p)(h2:∀p,val p=none->cnt ss p=0):∀(X:km Pl) (a:km (Pl×Int)) (c:Int),J8 ss c X->(X.foldl (DH val) (a,c)).1=a++(X.filter λp=>(val p).isSome).map λp=>(p,(Hn ss p:Int))
 | [],a,c,_=>by simp
 | p::r,a,c,h=>by
   rw[ABo];cases e:val p with
   | none=>
     have hc:(Hn ss p:Int)=c:=by rw[h.1,h2 p e];omega
     rw[show DH val (a,c) p=(a,c) by unfold DH;rw[e],U9 h1 h2 r a c (hc ▸ h.2),ABZ,AAS (by rw[e];decide)]
   | some v=>
     have hc:c+v=(Hn ss p:Int):=by rw[h.1,h1 p v e]
     rw[show DH val (a,c) p=(a ++ [(p,c+v)],c+v) by unfold DH;rw[e],hc,U9 h1 h2 r _ _ h.2,ABZ,AAU (by rw[e];rfl),AAc,AC4];rfl
section
variable {ta tb td:AE}{r:AA}{τ:BN}{Q:PV->Prop}{QL:km PV->Prop}{m:km (FK×Int)}
def sY (xs:km PV)(Q:km PV->Prop):Prop:=match xs with | [.dct kvs] =>Q (kvs.map λp=>X6 p.1)|_=>False
instance u7:Wp (Xb r τ QL) (r τ λxs=>sY xs QL):=⟨id⟩
instance xg:Wp (sY [.dct m] QL) (QL (m.map λp=>X6 p.1)):=⟨id⟩
class i8 (m:List (FK×Int)) (k:FK) (i:outParam Int):Prop where
 e:Ba m k=some i
def wa (m:km (FK×Int))(k:FK)(Q:PV->Prop):Prop:=match Ba m k with | some i=>Q (.int i)|none=>False
instance zl:Wp (i9 ta tb td τ Q) (ta τ λx=>tb τ λy=>td τ λm=>qM m λa=>QU x y λk=>Q (.bl (Ba a k).isSome)):=⟨id⟩
instance xY:Wp (db td ta tb τ Q) (td τ λm=>ta τ λx=>tb τ λy=>qM m λa=>QU x y λk=>wa a k Q):=⟨id⟩
instance zq {k:FK}{i:Int}[h:i8 m k i] :Wp (wa m k Q) (Q (.int i)):=⟨λz=>by unfold wa;rw[h.e];exact z⟩
instance zp {R:km (FK×Int)->Prop}:Wp (qM (.dct m) R) (R m):=⟨id⟩
instance u8 {q:Rat}{i:Int}{R:FK->Prop}:Wp (QU (fr q) (.int i) R) (R (F0 (q,i))):=⟨id⟩
end
def iI {v:PV}{xs:km PV}{m:km (FK×Int)}(hv:v= .tup xs\/v= .lst xs)(hl:xs.length<=1000)(h:GK xs [] =some m){Q:PV->Prop}(q:Q (.dct m)):Iw [v] Q:=by
 have hz:2*xs.length+2<sizeLine:=ABW (by omega:_<=2002) (AAt (by decide:2002<2003) (ABn rfl));rcases hv with rfl|rfl
 .exact ⟨hz,m,h,q⟩
 .exact ⟨hz,m,h,q⟩
def un (k:FK):Rat:=mkRat k.1.1 k.1.2.toNat
def pw (p:Pl):un (F0 p)=p.1:=by unfold un F0;show mkRat p.1.num ((p.1.den:Int).toNat)=p.1;rw[ACt];exact Rat.mkRat_self p.1
def oC (p:Pl):X6 (F0 p)= .tup [fr p.1, .int p.2] :=rfl
def ux (x:Pl×Int):PV:= .tup [fr x.1.1, .int x.1.2, .int x.2]
def UG (ss:km Bq)(key:Pl->kc):km (Pl×Int):=((D0 ss).filter key).map λp=>(p,(Hn ss p:Int))
def bU {v:PV}{xs:km PV}{ss:km Bq}{B:Nat}(hv:v= .tup xs\/v= .lst xs)(F:Hi xs ss)(ok:∀s∈ss,Ct B s)(hl:ss.length<=400)(I:B<=4000){Q:PV->Prop}(q:∀key:Pl->kc,(∀p,key p=true↔Lo ss p)->Q (.lst ((UG ss key).map ux))):II [v] Q:=by
 obtain⟨m,t1,t2,D,J⟩:=Sn [] F;have hx:=F.length;have K:∀p:Pl,(Ba m (F0 p)).isSome=true↔Lo ss p:=λp=>by
  rw[lR,D];constructor
  .rintro (z|⟨S,z,e⟩)
   .cases z
   .rw [UA e];exact z
  .exact λz=> .inr ⟨p,z,rfl⟩
 have G:=q (λp=>(Ba m (F0 p)).isSome) K;have i:∀p w,Ba m (F0 p)=some w->w=cnt ss p:=λp w e=>by have:=t2 p;rw[e] at this;simpa[Ba] using this
 have M:∀p,Ba m (F0 p)=none->cnt ss p=0:=λp e=>by have:=t2 p;rw[e] at this;simp[Ba] at this;omega
 have N:=U9 i M (D0 ss) [] 0 (IN ok);have mk:∀k∈m,∃p,k.1=F0 p/\Lo ss p:=λk hk=>by
  rcases (D k.1).mp (AAe.mpr ⟨k,hk,rfl⟩) with z|⟨p,z,e⟩
  .cases z
  .exact ⟨p,e,z⟩
 have ms:∀x,x∈m.map (λk=>un k.1)↔x∈Cq ss:=λx=>by
  rw[AAe];unfold Cq;rw[ABs];constructor
  .rintro ⟨k,hk,rfl⟩;obtain⟨p,e,s,hs,z⟩:=mk k hk;rw[e,pw];refine⟨s,hs, ?_⟩;rcases z with z|z
   .rw [<-z];simp[bp]
   .obtain ⟨T,he,rfl⟩:=ACp.mp z;simp[he]
  .rintro ⟨s,hs,hx⟩;have go:∀p:Pl,Lo ss p->∃a∈m,un a.1=p.1:=λp hp=>by obtain⟨a,ha,e⟩:=AAe.mp ((D (F0 p)).mpr (.inr ⟨p,hp,rfl⟩));exact⟨a,ha,by rw[e,pw]⟩
   rcases AAV.mp hx with rfl|hx
   .exact go (bp s) ⟨s,hs, .inl rfl⟩
   .have hx:s.2.2=some x:=by simpa using hx
    exact go (x,0) ⟨s,hs, .inr (by unfold ep;rw[hx];rfl)⟩
 have bm:∀x∈m.map (λk=>un k.1),Bd B x:=λx h=>by
  obtain⟨s,hs,hx⟩:=ABs.mp ((ms x).mp h);rcases AAV.mp hx with rfl|hx
  .exact (ok s hs).b
  .exact ((ok s hs).e x (by simpa using hx)).2
 have H:Cw (m.map λk=>un k.1)=Cw (Cq ss):=gr ms;have U:m.length<=800:=by simp at J;omega
 apply Yg;ac_rfl;refine iI hv (by omega) t1 ?_;ac_rfl;refine Cu (λk:FK×Int=>X6 k.1) fr (λk=>un k.1) (λk=>k∈m) (λk hk R A=> ?_) m [] (λ_ h=>h) ?_
 .obtain ⟨p,e,_⟩:=mk k hk;rw[e,pw] at A;rw[e,oC];repeat' array_get_dec
  exact A
 ac_rfl;rw[ABG];refine Sc (.inl rfl) (by rw[AAb];omega) bm I ?_;rw[H];have W:(Cw (Cq ss)).length<=800:=by rw[<-H];exact AAu Fl (by rw[AAb];omega)
 ac_rfl;refine EU fr (λd vs τ=>∃t y,τ= [some (.val v),some (.val (.dct m)),some (.own (((places d).foldl (DH λp=>Ba m (F0 p)) ([],0)).1.map ux)),some (.val (.int ((places d).foldl (DH λp=>Ba m (F0 p)) ([],0)).2)),t,y]) ?_ ?_ ⟨_,_,rfl⟩
 .rintro τ ⟨t,y,rfl⟩;repeat' array_get_dec
  have e:UG ss (λp=>(Ba m (F0 p)).isSome)=((places (Cw (Cq ss))).foldl (DH λp=>Ba m (F0 p)) ([],0)).1:=by rw[show places (Cw (Cq ss))=D0 ss from rfl,N];rfl
  rw[e] at G;exact G
 .rintro d c vs e τ R A ⟨t,y,rfl⟩;have ep:places (d ++ [c])=places d ++ [(c,0),(c,1)] :=by unfold places;simp
  have es:(places (d ++ [c])).foldl (DH λp=>Ba m (F0 p)) ([],0)=DH (λp=>Ba m (F0 p)) (DH (λp=>Ba m (F0 p)) ((places d).foldl (DH λp=>Ba m (F0 p)) ([],0)) (c,0)) (c,1):=by rw[ep,ADe];rfl
  have O:((places d).foldl (DH λp=>Ba m (F0 p)) ([],0)).1.length<=2*d.length:=by
   have go:∀(X:km Pl) (st:km (Pl×Int)×Int),(X.foldl (DH λp=>Ba m (F0 p)) st).1.length<=st.1.length+X.length:=by
    intro X;induction X with
    | nil=>intro st;simp
    | cons p X ih=>
      intro st;have h1:=ih (DH (λp=>Ba m (F0 p)) st p);have h2:(DH (λp=>Ba m (F0 p)) st p).1.length<=st.1.length+1:=by unfold DH;split <;> simp
      rw[ABo,AAv];omega
   have h1:=go (places d) ([],0);have h2:(places d).length=2*d.length:=by
    unfold places;clear A es ep e h1;induction d with
    | nil=>rfl
    | cons u d ih=>rw[ADf,AA8,ih];simp;omega
   simp at h1;omega
  have ul:d.length<=800:=by have:=congrArg List.length e;simp at this;omega
  generalize (places d).foldl (DH λp=>Ba m (F0 p)) ([],0)=st at *;obtain⟨L,n⟩:=st;have j:∀(L2:km (Pl×Int)) E t y,(L2,E)=DH (λp=>Ba m (F0 p)) (DH (λp=>Ba m (F0 p)) (L,n) (c,0)) (c,1)->R [some (.val v),some (.val (.dct m)),some (.own (L2.map ux)),some (.val (.int E)),t,y] :=λL2 E t y h=>A _ ⟨t,y,by rw[es,<-h]⟩;clear A;have o:(Rat.num 0:Int)=0:=rfl;have r:((Rat.den 0:Nat):Int)=1:=rfl;have P:L.length<=1600:=by have h:L.length<=2*d.length:=O;omega
  cases l:Ba m (F0 (c,0)) with
  | none=>
    cases g:Ba m (F0 (c,1)) with
    | none=>
      have f:=j L n;repeat' array_get_dec
      simp only[o,r,l];repeat' array_get_dec
      simp only[o,r,g];repeat' array_get_dec
      exact f _ _ (by unfold DH;simp only[l,g])
    | some i=>
      have f:=j (L ++ [((c,1),n+i)]) (n+i);rw[AAk] at f;haveI:i8 m (F0 (c,1)) i:=⟨g⟩;repeat' array_get_dec
      simp only[o,r,l];repeat' array_get_dec
      simp only[o,r,g];repeat' array_get_dec
      exact f _ _ (by unfold DH;simp only[l,g])
  | some C=>
    haveI:i8 m (F0 (c,0)) C:=⟨l⟩;cases g:Ba m (F0 (c,1)) with
    | none=>
      have f:=j (L ++ [((c,0),n+C)]) (n+C);rw[AAk] at f;repeat' array_get_dec
      simp only[o,r,l];repeat' array_get_dec
      simp only[o,r,g];repeat' array_get_dec
      exact f _ _ (by unfold DH;simp only[l,g])
    | some i=>
      have f:=j (L ++ [((c,0),n+C)] ++ [((c,1),n+C+i)]) (n+C+i);rw[AAk,AAk] at f;haveI:i8 m (F0 (c,1)) i:=⟨g⟩;repeat' array_get_dec
      simp only[o,r,l];repeat' array_get_dec
      simp only[o,r,g];repeat' array_get_dec
      exact f _ _ (by unfold DH;simp only[l,g])
def stepI (st:km Bq×ke Pl)(x:Pl×kc):km Bq×ke Pl:=
 match st.2,x.2 with
 | none,true=>(st.1,some x.1)
 | some b,false=>(st.1 ++ [(b.1,1-b.2,some x.1.1)],none)
 | _,_=>st
def V1 (st:km Bq×ke Pl):km Bq:=match st.2 with | none=>st.1|some b=>st.1 ++ [(b.1,1-b.2,none)]
def Jl (X:km (Pl×kc)):km Bq:=V1 (X.foldl stepI ([],none))
def q0:ke Pl->PV|none=> .non|some b=> .tup [fr b.1, .int (1-b.2)]
def cW {st:km Bq×ke Pl}{x:Pl×kc}:(stepI st x).1.length<=st.1.length+1:=by unfold stepI;split <;> simp
theorem M4:∀(X:km (Pl×kc)) (st:km Bq×ke Pl),(X.foldl stepI st).1.length<=st.1.length+X.length
 | [],st=>by simp
 | x::X,st=>by have h1:=M4 X (stepI st x);have h2:=cW (st:=st) (x:=x);rw[ABo,AAv];omega
theorem NE:∀{ss:km Bq},(Cq ss).length<=2*ss.length
 | [] =>by simp[Cq]
 | s::ss=>by
   have ih:=NE (ss:=ss);unfold Cq at *;rw[ADf,AA8,AAv,AAv];have:s.2.2.toList.length<=1:=by cases s.2.2 <;> simp
   omega
theorem Ka:∀{qs:km Rat},(places qs).length=2*qs.length
 | [] =>rfl
 | q::qs=>by have ih:=Ka (qs:=qs);unfold places at *;rw[ADf,AA8,ih,AAv];simp;omega
def fY {ss:km Bq}{key:Pl->kc}:(UG ss key).length<=4*ss.length:=by unfold UG D0;rw[AAb];have h1:=ACq key (places (Cw (Cq ss)));have h2:=Ka (qs:=Cw (Cq ss));have a:=Fl (xs:=Cq ss);have b:=NE (ss:=ss);omega
def Xn {v:PV}{xs:km PV}{ss:km Bq}{B:Nat}{n:Int}(hv:v= .tup xs\/v= .lst xs)(u:Hi xs ss)(ok:∀s∈ss,Ct B s)(hl:ss.length<=400)(w:B<=4000){Q:PV->Prop}(q:∀key:Pl->kc,(∀p,key p=true↔Lo ss p)->Q (.tup ((Jl ((UG ss key).map λx=>(x.1,decide (n<=x.2)))).map D7))):FT [v, .int n] Q:=by
 apply Wm;ac_rfl;refine bU hv u ok hl w λkey hk=> ?_;have m:=q key hk;have y:(UG ss key).length<=2000:=AAu fY (by omega);clear q;generalize UG ss key=Ls at *;ac_rfl;refine EU ux (λj vs τ=>∃a d g,τ= [some (.val v),some (.val (.int n)),some (.own (((j.map λx=>(x.1,decide (n<=x.2))).foldl stepI ([],none)).1.map D7)),some (.val (q0 ((j.map λx=>(x.1,decide (n<=x.2))).foldl stepI ([],none)).2)),a,d,g]) ?_ ?_ ⟨_,_,_,rfl⟩
 .rintro τ ⟨a,d,g,rfl⟩;have o:=M4 (Ls.map λx=>(x.1,decide (n<=x.2))) ([],none);unfold Jl at m;generalize (Ls.map λx=>(x.1,decide (n<=x.2))).foldl stepI ([],none)=st at *;obtain⟨L,b⟩:=st;have r:L.length<=2000:=by have h:L.length<=0+_:=o;rw[AAb] at h;omega
  cases b with
  | none=>
    have l:Q (.tup (L.map D7)):=m;show Gv _ [some (.val v),some (.val (.int n)),some (.own (L.map D7)),some (.val .non),a,d,g];repeat' array_get_dec
    exact l
  | some b=>
    have l:Q (.tup ((L ++ [(b.1,1-b.2,none)]).map D7)):=m;rw[AAk] at l;show Gv _ [some (.val v),some (.val (.int n)),some (.own (L.map D7)),some (.val (.tup [fr b.1, .int (1-b.2)])),a,d,g];repeat' array_get_dec
    exact l
 .rintro j c vs e τ R t ⟨a,d,g,rfl⟩;have o:=M4 (j.map λx=>(x.1,decide (n<=x.2))) ([],none);have ul:j.length<=2000:=by have:=congrArg List.length e;simp at this;omega
  have es:((j ++ [c]).map λx=>(x.1,decide (n<=x.2))).foldl stepI ([],none)=stepI ((j.map λx=>(x.1,decide (n<=x.2))).foldl stepI ([],none)) (c.1,decide (n<=c.2)):=by rw[AAk,ADe];rfl
  generalize (j.map λx=>(x.1,decide (n<=x.2))).foldl stepI ([],none)=st at *;obtain⟨L,b⟩:=st;have r:L.length<=2000:=by have h:L.length<=0+_:=o;rw[AAb] at h;omega
  have i:∀L2 b2 a d g,(L2,b2)=stepI (L,b) (c.1,decide (n<=c.2))->R [some (.val v),some (.val (.int n)),some (.own (L2.map D7)),some (.val (q0 b2)),a,d,g] :=λL2 b2 a d g h=>t _ ⟨a,d,g,by rw[es,<-h]⟩;clear t;obtain⟨p,k⟩:=c;show IM 3 (Ae (Ar 4) (Ae (Ar 5) (Ae (Ar 6) Bu))) (.tup [fr p.1, .int p.2, .int k]) _ _;cases b with
  | none=>
    show IM 3 (Ae (Ar 4) (Ae (Ar 5) (Ae (Ar 6) Bu))) (.tup [fr p.1, .int p.2, .int k]) [some (.val v),some (.val (.int n)),some (.own (L.map D7)),some (.val .non),a,d,g] _;repeat' array_get_dec
    .rename_i h;exact i L (some p) _ _ _ (by unfold stepI;simp only[AAi h])
    .rename_i h;exact i L none _ _ _ (by unfold stepI;simp only[AAr h])
  | some b=>
    show IM 3 (Ae (Ar 4) (Ae (Ar 5) (Ae (Ar 6) Bu))) (.tup [fr p.1, .int p.2, .int k]) [some (.val v),some (.val (.int n)),some (.own (L.map D7)),some (.val (.tup [fr b.1, .int (1-b.2)])),a,d,g] _;repeat' array_get_dec
    .rename_i h;have f:=i (L ++ [(b.1,1-b.2,some p.1)]) none (some (.val (fr p.1))) (some (.val (.int p.2))) (some (.val (.int k))) (by unfold stepI;simp only[AAr (show ¬n<=k by omega)]);rw[AAk] at f;exact f
    .rename_i h;exact i L (some b) _ _ _ (by unfold stepI;simp only[AAi (show n<=k by omega)])
def XY (In key:Pl->kc):kc->km Pl->Prop
 | _, [] =>True
 | c,p::r=>(key p=false->In p=c)/\XY In key (In p) r
def Yt {st:km Bq×ke Pl}{p:Pl}{i:kc}:(stepI st (p,i)).2.isSome=i:=by obtain⟨L,b⟩:=st;cases b <;> cases i <;> rfl
def Ys {st:km Bq×ke Pl}{p:Pl}{i:kc}(h:i=st.2.isSome):stepI st (p,i)=st:=by obtain⟨L,b⟩:=st;cases b <;> cases i <;> first | rfl|cases h
theorem JK {In key:Pl->kc}:∀(X:km Pl) (st:km Bq×ke Pl),XY In key st.2.isSome X->(X.map λp=>(p,In p)).foldl stepI st=((X.filter key).map λp=>(p,In p)).foldl stepI st
 | [],st,_=>rfl
 | p::r,st,h=>by
   rw[AAc,ABo,ABZ];cases k:key p with
   | true=> rw[AAU rfl,AAc,ABo];exact JK r _ (by rw[Yt];exact h.2)
   | false=> have e:=h.1 k;rw[AAS (by decide),Ys e];exact JK r st (by have:=h.2;rw[e] at this;exact this)
theorem K3 {ss:km Bq}{key:Pl->kc}{n:Int}(hk:∀p,key p=false->cnt ss p=0):∀(X:km Pl) (c:Int),J8 ss c X->XY (λp=>decide (n<=(Hn ss p:Int))) key (decide (n<=c)) X
 | [],_,_=>True.intro
 | p::r,c,h=>⟨λk=>(by show decide (n<=(Hn ss p:Int))=_;rw[h.1,hk p k,Int.add_zero]),K3 hk r _ h.2⟩
def canon (n:Int)(ss:km Bq):km Bq:=Jl ((D0 ss).map λp=>(p,decide (n<=(Hn ss p:Int))))
def Vw {ss:km Bq}{p:Pl}(h:¬Lo ss p):cnt ss p=0:=by
 have key:∀ss:km Bq,(∀s∈ss,¬(bp s=p\/ep s=some p))->cnt ss p=0:=by
  intro ss;induction ss with
  | nil=>intro _;rfl
  | cons s ss ih=>
    intro h;have h1:=h s (by simp);have e:cnt (s::ss) p=QV s p+cnt ss p:=by simp[cnt]
    rw[e,ih λx hx=>h x (by simp[hx])];unfold QV;rw[AAS λz=>h1 (.inl z),AAS λz=>h1 (.inr z)];rfl
 exact key ss λs hs z=>h ⟨s,hs,z⟩
def dj {ss:km Bq}{B:Nat}{n:Int}{key:Pl->kc}(ok:∀s∈ss,Ct B s)(hn:0<n)(hk:∀p,key p=true↔Lo ss p):Jl ((UG ss key).map λx=>(x.1,decide (n<=x.2)))=canon n ss:=by
 unfold canon Jl UG;rw[ACX];have h:=JK (In:=λp=>decide (n<=(Hn ss p:Int))) (key:=key) (D0 ss) ([],none) (by
  have:=K3 (n:=n) (key:=key) (λp z=>Vw λy=>by rw[(hk p).mpr y] at z;cases z) (D0 ss) 0 (IN ok);rw[AAr (by omega)] at this;exact this)
 rw[h];rfl
def Xm {v:PV}{xs:km PV}{ss:km Bq}{B:Nat}{n:Int}(hv:v= .tup xs\/v= .lst xs)(a:Hi xs ss)(ok:∀s∈ss,Ct B s)(hl:ss.length<=400)(b:B<=4000)(hn:0<n){Q:PV->Prop}(q:Q (.tup ((canon n ss).map D7))):FT [v, .int n] Q:=
 Xn hv a ok hl b λkey hk=>by rw[dj ok hn hk];exact q
def W8 {v:PV}{xs:km PV}{ss:km Bq}{B:Nat}(hv:v= .tup xs\/v= .lst xs)(a:Hi xs ss)(ok:∀s∈ss,Ct B s)(hl:ss.length<=400)(b:B<=4000){Q:PV->Prop}(q:Q (.tup ((canon 1 ss).map D7))):Fe [v] Q:=by
 apply Uh;repeat' array_get_dec
 exact Xm hv a ok hl b (by decide) q
def T8 {ss:km Bq}{p:Pl}:decide ((1:Int)<=(Hn ss p:Int))=ss.any (Bl · p):=by
 rw[ACR,AC7,AEs];unfold Hn;constructor
 .intro h;obtain⟨s,hs⟩:=List.exists_mem_of_length_pos (l:=ss.filter (Bl · p)) (by omega);have:=ACN.mp hs;exact⟨s,this.1,this.2⟩
 .rintro ⟨s,hs,h⟩;have:=List.length_pos_of_mem (ACN.mpr ⟨hs,h⟩:s∈ss.filter (Bl · p));omega
def Dy (In:Pl->kc):km Pl->ke Pl->km Bq
 | [],none=> []
 | [],some b=> [(b.1,1-b.2,none)]
 | p::r,none=>if In p=true then Dy In r (some p) else Dy In r none
 | p::r,some b=>if In p=true then Dy In r (some b) else (b.1,1-b.2,some p.1)::Dy In r none
theorem Qa {In:Pl->kc}:∀(X:km Pl) (a:km Bq) (b:ke Pl),V1 ((X.map λp=>(p,In p)).foldl stepI (a,b))=a++Dy In X b
 | [],a,none=>by simp[V1,Dy]
 | [],a,some b=>by simp[V1,Dy]
 | p::r,a,none=>by
   rw[AAc,ABo];unfold Dy;cases e:In p with
   | true=>exact Qa r a (some p)
   | false=>exact Qa r a none
 | p::r,a,some b=>by
   rw[AAc,ABo];unfold Dy;cases e:In p with
   | true=>exact Qa r a (some b)
   | false=> show V1 ((r.map λp=>(p,In p)).foldl stepI (a ++ [(b.1,1-b.2,some p.1)],none))=a++((b.1,1-b.2,some p.1)::Dy In r none);rw[Qa r _ none];simp
def Sd {In:Pl->kc}{X:km Pl}:Jl (X.map λp=>(p,In p))=Dy In X none:=by unfold Jl;rw[Qa];rfl
def Oe {q p:Pl}{e:ke Rat}(hq:q.2=0\/q.2=1)(hp:0<=p.2):Bl (q.1,1-q.2,e) p=(Q7 q p&&(match e with | none=>true|some e=>decide (p.1<e))):=by unfold Bl Q7;congr 2;congr 1;exact ACm.mpr (by show 0<1-q.2+p.2↔q.2<=p.2;omega)
def J9 (In:Pl->kc):kc->km Pl->Prop
 | _, [] =>True
 | c,p::r=>(c=true->In p=false->p.2=0)/\J9 In (In p) r
theorem Zy {In:Pl->kc}:∀(X:km Pl),aa X->(∀x∈X,x.2=0\/x.2=1)-> (J9 In false X->(∀p:Pl,0<=p.2->(∀x∈X,Ol p x)->(Dy In X none).any (Bl · p)=false)/\∀p∈X,(Dy In X none).any (Bl · p)=In p)/\ (J9 In true X->∀q:Pl,(q.2=0\/q.2=1)->(∀x∈X,Ol q x)->(∀p:Pl,0<=p.2->(∀x∈X,Ol p x)->(Dy In X (some q)).any (Bl · p)=Q7 q p)/\∀p∈X,(Dy In X (some q)).any (Bl · p)=In p)
 | [],_,_=>⟨λ_=>⟨λp _ _=>rfl,λp hp=>by cases hp⟩,λ_ q hq _=>⟨λp hp _=>by show (Bl (q.1,1-q.2,none) p||false)=_;rw[Oe hq hp];simp,λp hp=>by cases hp⟩⟩
 | x::r,hs,h01=>by
   obtain⟨h1,h2⟩:=AAZ.mp hs;have ih:=Zy (In:=In) r h2 λy hy=>h01 y (by simp[hy]);have j:=h01 x (by simp);have f:0<=x.2:=by omega
   have g:∀p:Pl,(∀y∈x::r,Ol p y)->∀y∈r,Ol p y:=λp h y hy=>h y (by simp[hy]);have l:∀p:Pl,Ol p x->Q7 x p=false:=λp h=>by
    rw[<-Bool.not_eq_true,IT];rintro(z|z)
    .exact Om (ND z h)
    .rw [z] at h;exact Om h
   have m:Q7 x x=true:=IT.mpr (.inr rfl);refine⟨λhd=> ?_,λhd q hq k=> ?_⟩
   .unfold Dy;cases e:In x with
    | true=>
      have a:=hd.2;rw[e] at a;obtain⟨b,d⟩:=ih.2 a x j h1;rw[AAU rfl];refine⟨λp c hp=> ?_,λp hp=> ?_⟩
      .rw [b p c (g p hp),l p (hp x (by simp))]
      .rcases AAV.mp hp with rfl|hp
       .rw [b p f h1,m,e]
       .exact d p hp
    | false=>
      have a:=hd.2;rw[e] at a;obtain⟨b,d⟩:=ih.1 a;rw[AAS (by decide)];refine⟨λp c hp=>b p c (g p hp),λp hp=> ?_⟩;rcases AAV.mp hp with rfl|hp
      .rw [b p f h1,e]
      .exact d p hp
   .unfold Dy;have n:Q7 q x=true:=IT.mpr (.inl (k x (by simp)));cases e:In x with
    | true=>
      have a:=hd.2;rw[e] at a;obtain⟨b,d⟩:=ih.2 a q hq (g q k);rw[AAU rfl];refine⟨λp c hp=>b p c (g p hp),λp hp=> ?_⟩;rcases AAV.mp hp with rfl|hp
      .rw [b p f h1,n,e]
      .exact d p hp
    | false=>
      have a:=hd.2;rw[e] at a;obtain⟨b,d⟩:=ih.1 a;have s:=hd.1 rfl e;rw[AAS (by decide)];have i:∀p:Pl,(p=x\/Ol x p)->¬p.1<x.1:=λp h=>by rcases h with h|h|⟨h,_⟩ <;> grind
      refine⟨λp c hp=> ?_,λp hp=> ?_⟩
      .have o:p.1<x.1:=by
        rcases hp x (by simp) with z|⟨_,z⟩
        .exact z
        .omega
       show (Bl (q.1,1-q.2,some x.1) p||(Dy In r none).any (Bl · p))=_;rw[Oe hq c,b p c (g p hp)];simp[o]
      .show (Bl (q.1,1-q.2,some x.1) p||(Dy In r none).any (Bl · p))=_;rcases AAV.mp hp with rfl|hp
       .rw [Oe hq f,b p f h1,e];simp[i p (.inl rfl)]
       .rw [Oe hq (by have:=h01 p (by simp[hp]);omega),d p hp];simp[i p (.inr (h1 p hp))]
theorem Wi {In:Pl->kc}(P:Rat->Prop):∀(X:km Pl) (b:ke Pl),aa X->(∀x∈X,(x.2=0\/x.2=1)/\P x.1)->J9 In b.isSome X->(∀q,b=some q->(q.2=0\/q.2=1)/\P q.1/\∀x∈X,Ol q x)-> ∀s∈Dy In X b,P s.1/\(s.2.1=0\/s.2.1=1)/\∀e,s.2.2=some e->s.1<e/\P e
 | [],none,_,_,_,_=>λs hs=>by cases hs
 | [],some q,_,_,_,hb=>λs hs=>by obtain⟨h1,h2,_⟩:=hb q rfl;simp only[Dy,AC6] at hs;subst hs;exact⟨h2,by show 1-q.2=0\/1-q.2=1;omega,λe he=>by cases he⟩
 | x::r,b,hs,h01,hd,hb=>by
   obtain⟨h1,h2⟩:=AAZ.mp hs;have ih:=λb d hb=>Wi (In:=In) P r b h2 (λy hy=>h01 y (by simp[hy])) d hb;have a:=hd.2;cases b with
   | none=>
     unfold Dy;cases e:In x with
     | true=> rw[AAU rfl];rw[e] at a;exact ih (some x) a λq hq=>by cases hq;exact⟨(h01 x (by simp)).1,(h01 x (by simp)).2,h1⟩
     | false=> rw[AAS (by decide)];rw[e] at a;exact ih none a λq hq=>by cases hq
   | some q=>
     obtain⟨g,c,f⟩:=hb q rfl;unfold Dy;cases e:In x with
     | true=> rw[AAU rfl];rw[e] at a;exact ih (some q) a λh hq=>by cases hq;exact⟨g,c,λy hy=>f y (by simp[hy])⟩
     | false=>
       rw[AAS (by decide)];rw[e] at a;have i:=hd.1 rfl e;intro s hs;rcases AAV.mp hs with rfl|hs
       .refine ⟨c,by show 1-q.2=0\/1-q.2=1;omega,λj he=> ?_⟩;cases he;refine⟨?_,(h01 x (by simp)).2⟩;rcases f x (by simp) with z|⟨_,z⟩
        .exact z
        .omega
       .exact ih none a (λq hq=>by cases hq) s hs
theorem KL {ss:km Bq}:∀(X:km Pl) (c:Int),(∀x∈X,x.2=0\/x.2=1)->J8 ss c X->J9 (λp=>ss.any (Bl · p)) (decide (1<=c)) X
 | [],_,_,_=>True.intro
 | p::r,c,h01,h=>by
   have ih:=KL r (Hn ss p) (λx hx=>h01 x (by simp[hx])) h.2;rw[T8] at ih;refine⟨λhc hi=> ?_,ih⟩;rcases h01 p (by simp) with z|z
   .exact z
   .have hc:1<=c:=by simpa using hc
    have hi:ss.any (Bl · p)=false:=hi;rw[<-T8] at hi;have hi:¬(1:Int)<=Hn ss p:=by simpa using hi
    have c0:0<=cnt ss p:=by
     have go:∀ss:km Bq,0<=cnt ss p:=by
      intro ss;induction ss with
      | nil=>exact Int.le_refl _
      | cons s ss ih=>
        have e:cnt (s::ss) p=QV s p+cnt ss p:=by simp[cnt]
        have o:0<=QV s p:=by
         unfold QV;have:¬ep s=some p:=λy=>by obtain⟨b,_,a⟩:=ACp.mp y;have:(0:Int)=p.2:=congrArg Prod.snd a;omega
         rw[AAS this];split <;> decide
        omega
     exact go ss
    have:=h.1;omega
def U1 {ss:km Bq}:∀x∈D0 ss,x.2=0\/x.2=1:=λx hx=>(CJ.mp hx).2
def SD {ss:km Bq}:canon 1 ss=Dy (λp=>ss.any (Bl · p)) (D0 ss) none:=by unfold canon;rw[<-Sd];congr 1;apply ACl;intro p _;rw[T8]
def Q0 {ss:km Bq}{B:Nat}(ok:∀s∈ss,Ct B s):J9 (λp=>ss.any (Bl · p)) false (D0 ss):=KL (D0 ss) 0 U1 (IN ok)
def Xi {ss:km Bq}{B:Nat}(ok:∀s∈ss,Ct B s):∀s∈canon 1 ss,s.1∈Cq ss/\(s.2.1=0\/s.2.1=1)/\∀e,s.2.2=some e->s.1<e/\e∈Cq ss:=by rw[SD];exact Wi (· ∈Cq ss) (D0 ss) none (Es Bz) (λx hx=>⟨U1 x hx,Bn.mp (CJ.mp hx).1⟩) (Q0 ok) λq hq=>by cases hq
def Zm {ss:km Bq}{B:Nat}(ok:∀s∈ss,Ct B s):∀x∈Cq ss,Bd B x:=λx h=>by
 obtain⟨s,hs,hx⟩:=ABs.mp h;rcases AAV.mp hx with rfl|hx
 .exact (ok s hs).b
 .exact ((ok s hs).e x (by simpa using hx)).2
def dk {ss:km Bq}{B:Nat}(ok:∀s∈ss,Ct B s):∀s∈canon 1 ss,Ct B s:=λs hs=>by obtain⟨h1,h2,a⟩:=Xi ok s hs;exact⟨Zm ok _ h1,h2,λe he=>⟨(a e he).1,Zm ok _ (a e he).2⟩⟩
theorem Jk (f:Rat->kc):∀qs:km Rat,(places qs).filter (λp=>f p.1)=places (qs.filter f)
 | [] =>rfl
 | q::qs=>by show ((q,0)::(q,1)::places qs).filter (λp=>f p.1)=_;rw[ABZ,ABZ,ABZ,Jk f qs];cases f q <;> rfl
def j0 (d:Nat)(s:Bq):D2 (d+2) (D7 s)=true:=by obtain⟨a,i,e⟩:=s;cases e <;> simp[D7,D2,Hz,av,fr]
theorem R6:∀{qs:km Rat} {x:Rat},Q5 qs->At qs x (qs.filter λq=>decide (q<x)).length
 | [],x,_=>⟨AAY _,by simp,by simp⟩
 | q::r,x,h=>by
   obtain⟨h1,h2⟩:=AAZ.mp h;obtain⟨d,a,b⟩:=R6 (x:=x) h2;rw[ABZ];by_cases e:q<x
   .rw [AAU (AAi e),AAv];refine⟨by rw[AAv];omega,λy hy=> ?_,λy hy=>b y (by simpa using hy)⟩;rw[AEA] at hy;rcases AAV.mp hy with rfl|hy
    .exact e
    .exact a y hy
   .have hn:∀y∈q::r,¬y<x:=λy hy=>by
     rcases AAV.mp hy with rfl|hy
     .exact e
     .have:=h1 y hy;grind
    have c:r.filter (λq=>decide (q<x))= [] :=AFJ.mpr λy hy=>by simpa using hn y (by simp[hy])
    rw[AAS (by simpa using e),c];exact⟨ABO _,by simp,λy hy=>hn y (by simpa using hy)⟩
def EA (ms:km Rat)(ss:km Bq):km Pl:=places (Cw (ms++Cq ss))
def Le {B:Nat}{ms:km Rat}{ss:km Bq}(ok:∀s∈ss,Ct B s):J8 ss 0 (EA ms ss):=by
 have c:∀s∈ss,bp s∈EA ms ss/\∀x,ep s=some x->x∈EA ms ss:=λs hs=>by
  obtain⟨h1,h2⟩:=QE ok hs;have d:∀x∈D0 ss,x∈EA ms ss:=λx hx=>by obtain⟨a,b⟩:=CJ.mp hx;exact CJ.mpr ⟨Bn.mpr (AAo _ (Bn.mp a)),b⟩
  exact⟨d _ h1,λx ex=>d _ (h2 x ex)⟩
 have h:=Ps ok (EA ms ss) none (Es Bz) (λp hp=>⟨True.intro,by rcases (CJ.mp hp).2 with z|z <;> omega⟩) (λs hs=>⟨.inr (c s hs).1,λx ex=> .inr ((c s hs).2 x ex)⟩);have z:(ss.map λs=>lO s none).sum=0:=by
  clear h c ok;induction ss with
  | nil=>rfl
  | cons s ss ih=> rw[AAc,ADV,ih];unfold lO;cases ep s <;> rfl
 rw[z] at h;exact h
def Xh {B:Nat}{ms:km Rat}{ss:km Bq}{n:Int}(ok:∀s∈ss,Ct B s)(hn:0<n):Jl ((EA ms ss).map λp=>(p,decide (n<=(Hn ss p:Int))))=canon n ss:=by
 have hk:∀p:Pl,decide (p.1∈Cq ss)=false->cnt ss p=0:=λp hp=>Vw λ⟨s,hs,z⟩=>by
  have hp:¬p.1∈Cq ss:=by simpa using hp
  refine hp (ABs.mpr ⟨s,hs, ?_⟩);rcases z with z|z
  .rw [<-z];simp[bp]
  .obtain ⟨c,he,rfl⟩:=ACp.mp z;simp[he]
 have a:=K3 (n:=n) (ss:=ss) (key:=λp=>decide (p.1∈Cq ss)) hk (EA ms ss) 0 (Le ok);rw[AAr (by omega)] at a;have h:=JK (EA ms ss) ([],none) a;have b:(EA ms ss).filter (λp=>decide (p.1∈Cq ss))=D0 ss:=by unfold EA D0;rw[Jk (λx=>decide (x∈Cq ss))];congr 1;refine U2 (Bz.filter _) Bz λx=> ?_;rw[ACN,Bn,Bn,AC7];exact⟨λh=>h.2,λh=>⟨AAo _ h,h⟩⟩
 rw[b] at h;show V1 _=V1 _;rw[h]
def Vt {B:Nat}{ss:km Bq}(ok:∀s∈ss,Ct B s){p:Pl}(hp:p.2=0\/p.2=1):(canon 1 ss).any (Bl · p)=ss.any (Bl · p):=by
 have b:p∈EA [p.1] ss:=CJ.mpr ⟨Bn.mpr (by simp),hp⟩;have a:∀x∈EA [p.1] ss,x.2=0\/x.2=1:=λx hx=>(CJ.mp hx).2;have c:=KL (EA [p.1] ss) 0 a (Le ok);have e:canon 1 ss=Dy (λp=>ss.any (Bl · p)) (EA [p.1] ss) none:=by rw[<-Xh (ms:= [p.1]) ok (by decide),<-Sd];congr 1;apply ACl;intro q _;rw[T8]
 rw[e];exact((Zy (EA [p.1] ss) (Es Bz) a).1 c).2 p b
def hN (L:km Bq)(p:Pl):Nat:=(L.filter (Bl · p)).length
def q8 (xs:km PV):Gh xs (some 1) none=xs.drop 1:=by
 unfold Gh;rw[HT.sIx_none,show ((1:Int))=((1:Nat):Int) from rfl,HT.sIx_nat];cases xs with
 | nil=>rfl
 | cons x xs=> rw[Nat.min_eq_left (by simp)];simp
def iW (a b:km Rat):Fv (a.map fr) (b.map fr)=(a.zip b).map λp=> .tup [fr p.1,fr p.2] :=by unfold Fv;rw[List.zipWith_map,List.zip,List.map_zipWith]
theorem Pw:∀(X:km (Pl×kc)) (st:km Bq×ke Pl),2*(X.foldl stepI st).1.length+(if (X.foldl stepI st).2.isSome then 1 else 0)<=2*st.1.length+(if st.2.isSome then 1 else 0)+X.length
 | [],st=>AAY _
 | x::X,st=>by
   have h1:=Pw X (stepI st x);have h2:2*(stepI st x).1.length+(if (stepI st x).2.isSome then 1 else 0)<=2*st.1.length+(if st.2.isSome then 1 else 0)+1:=by obtain⟨L,b⟩:=st;obtain⟨p,c⟩:=x;cases b <;> cases c <;> simp[stepI] <;> omega
   rw[ABo,AAv];omega
def cN (X:km (Pl×kc)):2*(Jl X).length<=X.length+1:=by have h:=Pw X ([],none);unfold Jl;generalize X.foldl stepI ([],none)=st at *;obtain⟨L,b⟩:=st;cases b <;> simp[V1] at * <;> omega
def Xg {n:Int}{ss:km Bq}:(canon n ss).length<=2*ss.length:=by unfold canon D0;have h:=cN ((places (Cw (Cq ss))).map λp=>(p,decide (n<=(Hn ss p:Int))));have a:=Fl (xs:=Cq ss);have b:=NE (ss:=ss);have c:=Ka (qs:=Cw (Cq ss));rw[AAb] at h;omega
inductive LU:List PV->List (List Bq)->Prop where
 | nil:LU [] []
 | cons {x:PV} {xs:List PV} {ss:List Bq} {r:List PV} {rs:List (List Bq)} (h:x= .tup xs\/x= .lst xs) (hr:Hi xs ss) (t:LU r rs):LU (x::r) (ss::rs)
def LU.length:∀{xs:km PV} {ss:km (km Bq)},LU xs ss->xs.length=ss.length
 | _,_, .nil=>rfl
 | _,_, .cons _ _ t=>by simp[t.length]
def LU.app:∀{a b:km PV} {ss d:km (km Bq)},LU a ss->LU b d->LU (a++b) (ss++d)
 | _,_,_,_, .nil,h=>h
 | _,_,_,_, .cons a b c,h=> .cons a b (c.app h)
def lt_size {k n:Nat}(h:k<=n)(hn:n<1000000):k<sizeLine:=ABW h (AAt hn (ABn rfl))
def lin (p q:T3)(s:Rat):T3:=(p.1+s*(q.1-p.1),p.2.1+s*(q.2.1-p.2.1),p.2.2+s*(q.2.2-p.2.2))
def oH {a D b e m x X:Rat}(c:D≠0)(h:e-b≠0):x+(m-a)/D*X=(x+(b-a)/D*X)+(m-b)/(e-b)*((x+(e-a)/D*X)-(x+(b-a)/D*X)):=by grind
def bL {a c:C4}{b e m:Rat}(h1:a.1<c.1)(h2:b<e):inter a c m=lin (inter a c b) (inter a c e) ((m-b)/(e-b)):=by
 have d:c.1-a.1≠0:=by grind
 have f:e-b≠0:=by grind
 simp only[inter,lin];rw[<-oH d f,<-oH d f,<-oH d f]
def fU (p q:T3):lin p q 0=p:=by obtain⟨a,b,c⟩:=p;simp[lin,Rat.zero_mul,Rat.add_zero]
theorem NY {b e m:Rat}{p q:T3}(f:b<e)(h1:b<=m)(h2:m<=e):∀{a:C4} {r:km C4},KF (a::r)->(∀c∈r,¬(b<c.1/\c.1<e))->spotG a r b=some p->spotG a r e=some q->spotG a r m=some (lin p q ((m-b)/(e-b)))
 | a, [],_,_,hp,_=>by cases hp
 | a,c::r,hr,hn,hp,hq=>by
   have g:=(AAZ.mp hr).1 c (by simp);have h:KF (c::r):=(AAZ.mp hr).2;by_cases i:c.1<b
   .simp only[spotG] at hp hq ⊢;rw[AAU i] at hp;rw[AAU (by grind)] at hq ⊢;exact NY f h1 h2 h (λx hx=>hn x (by simp[hx])) hp hq
   .simp only[spotG] at hp hq ⊢;rw[AAS i] at hp;by_cases k:b=c.1
    .subst k;rw[P9 g] at hp;cases hp;by_cases j:c.1<m
     .rw [AAU j];rw[AAU (by grind)] at hq;refine NY f h1 h2 h (λx hx=>hn x (by simp[hx])) ?_ hq;cases r with
      | nil=>cases hq
      | cons d r=> have l:=(AAZ.mp h).1 d (by simp);simp only[spotG];rw[AAS (by grind),WG l]
     .have n:m=c.1:=by grind
      subst n;rw[AAS j,P9 g];have z:(c.1-c.1)/(e-c.1)=0:=by grind
      rw[z,fU]
    .have o:¬c.1<e:=λz=>hn c (by simp) ⟨by grind,z⟩;cases hp;rw[AAS o] at hq;cases hq;rw[AAS (by grind)];rw[<-bL g f]
def Sk {b e m:Rat}{p q:T3}{cs:km C4}(d:KF cs)(f:b<e)(h1:b<=m)(h2:m<=e)(hn:∀c∈cs,¬(b<c.1/\c.1<e))(hp:spotC cs b=some p)(hq:spotC cs e=some q):spotC cs m=some (lin p q ((m-b)/(e-b))):=by
 cases cs with
 | nil=>cases hp
 | cons a r=>
   simp only[spotC] at hp hq ⊢;by_cases k:b<a.1
   .rw [AAU k] at hp;cases hp
   .rw [AAS k] at hp;rw[AAS (by grind)] at hq ⊢;exact NY f h1 h2 d (λc hc=>hn c (by simp[hc])) hp hq
def Ct.mono {B C:Nat}{s:Bq}(h:Ct B s)(k:B<=C):Ct C s:=⟨h.b.mono k,h.h,λe he=>⟨(h.e e he).1,(h.e e he).2.mono k⟩⟩
def rH (r s:Bq):Prop:=∃e,r.2.2=some e/\(e<s.1\/(e=s.1/\s.2.1=0))
def Sep (ss:km Bq):Prop:=ss.Pairwise rH
def dh (q:Pl)(e:ke Rat):bp (q.1,1-q.2,e)=q:=by obtain⟨a,b⟩:=q;show (a,1-(1-b))=(a,b);rw[show 1-(1-b)=b by omega]
theorem Gk {In:Pl->kc}:∀(X:km Pl) (b:ke Pl),∀s∈Dy In X b,bp s∈X\/b=some (bp s)
 | [],none=>λs hs=>by cases hs
 | [],some q=>λs hs=>by simp only[Dy,AC6] at hs;subst hs;exact .inr (by rw[dh])
 | x::r,none=>λs hs=>by
   unfold Dy at hs;split at hs
   .rcases Gk r (some x) s hs with h|h
    .exact .inl (by simp[h])
    .cases h;exact .inl (by simp)
   .rcases Gk r none s hs with h|h
    .exact .inl (by simp[h])
    .cases h
 | x::r,some q=>λs hs=>by
   unfold Dy at hs;split at hs
   .rcases Gk r (some q) s hs with h|h
    .exact .inl (by simp[h])
    .exact .inr h
   .rcases AAV.mp hs with rfl|hs
    .exact .inr (by rw[dh])
    .rcases Gk r none s hs with h|h
     .exact .inl (by simp[h])
     .cases h
theorem Zz {In:Pl->kc}:∀(X:km Pl) (b:ke Pl),aa X->(∀x∈X,x.2=0\/x.2=1)->J9 In b.isSome X->Sep (Dy In X b)
 | [],none,_,_,_=> .nil
 | [],some q,_,_,_=>AEK _ _
 | x::r,b,hs,h01,hd=>by
   obtain⟨h1,h2⟩:=AAZ.mp hs;have ih:=λb d=>Zz (In:=In) r b h2 (λy hy=>h01 y (by simp[hy])) d;have a:=hd.2;cases b with
   | none=>
     unfold Dy;cases e:In x with
     | true=>rw[AAU rfl];rw[e] at a;exact ih (some x) a
     | false=>rw[AAS (by decide)];rw[e] at a;exact ih none a
   | some q=>
     unfold Dy;cases e:In x with
     | true=>rw[AAU rfl];rw[e] at a;exact ih (some q) a
     | false=>
       rw[AAS (by decide)];rw[e] at a;have g:=hd.1 rfl e;refine AAZ.mpr ⟨λs hs=> ?_,ih none a⟩;rcases Gk r none s hs with h|h
       .refine ⟨x.1,rfl, ?_⟩;have k:=h1 _ h;have c:=h01 _ (ABh x h);have c:1-s.2.1=0\/1-s.2.1=1:=c;rcases k with k|⟨k,f⟩
        .exact .inl k
        .have f:x.2<1-s.2.1:=f;exact .inr ⟨k,by omega⟩
       .cases h
def ao {B:Nat}{ss:km Bq}(ok:∀s∈ss,Ct B s):Sep (canon 1 ss):=by rw[SD];exact Zz (D0 ss) none (Es Bz) U1 (Q0 ok)
def Db {B:Nat}{s:Bq}{m x:Rat}(os:Ct B s)(hx:s.2.2=some x):Bl s (m,0)=true↔(s.1<m\/(s.1=m/\s.2.1=1))/\m<x:=by
 unfold Bl;rw[hx];have:0<s.2.1+0↔s.2.1=1:=by have:=os.h;omega
 simp only[ABJ,ABr,ADP,this]
section
variable {B:Nat}{s:Bq}{a:km Bq}{e:Rat}
theorem D9 (h:Sep (s::a))(ok:∀t∈s::a,Ct B t)(b:∀t∈s::a,∃x,t.2.2=some x)(he:s.2.2=some e){m:Rat}(g:m<=e):a.any (Bl · (m,0))=false:=by
 rw[ADD];intro t c z;obtain⟨x,hx⟩:=b t (by simp[c]);have k:=(Db (ok t (by simp[c])) hx).mp z;obtain⟨i,h1,h2⟩:=(AAZ.mp h).1 t c;rw[he] at h1;cases h1;rcases h2 with h2|⟨h2,j⟩
 .rcases k.1 with d|⟨d,f⟩ <;> grind
 .rcases k.1 with d|⟨d,f⟩
  .grind
  .omega
end
def IV {a b:Rat}(h:a<b):a<(a+b)/2/\(a+b)/2<b:=⟨by grind,by grind⟩
def Sf {B C:Nat}{s t:Bq}{a b:km Bq}{e f:Rat}(ha:Sep (s::a))(d:∀x∈s::a,Ct B x)(o:∀x∈s::a,∃y,x.2.2=some y)(hb:Sep (t::b))(c:∀x∈t::b,Ct C x)(l:∀x∈t::b,∃y,x.2.2=some y)(he:s.2.2=some e)(g:t.2.2=some f)(h:∀m:Rat,(s::a).any (Bl · (m,0))=(t::b).any (Bl · (m,0))):¬s.1<t.1:=by
 intro z;have os:=d s (by simp);have j:=c t (by simp);have i:=(os.e e he).1;have p:=(j.e f g).1;obtain⟨m,m1,m2,m3⟩:∃m,s.1<m/\m<e/\m<t.1:=by
  by_cases w:e<t.1
  .exact ⟨_,(IV i).1,(IV i).2,by have:=(IV i).2;grind⟩
  .exact ⟨_,(IV z).1,by have:=(IV z).2;grind,(IV z).2⟩
 have k:=h m;rw[ABP,ABP,(Db os he).mpr ⟨.inl m1,m2⟩,D9 hb c l g (by grind)] at k;have n:Bl t (m,0)=false:=AEL.mpr λy=>by have:=(Db j g).mp y;grind
 rw[n] at k;simp at k
theorem Qq {B C:Nat}:∀{a b:km Bq},Sep a->Sep b->(∀x∈a,Ct B x)->(∀x∈b,Ct C x)->(∀x∈a,∃y,x.2.2=some y)->(∀x∈b,∃y,x.2.2=some y)->(∀m:Rat,a.any (Bl · (m,0))=b.any (Bl · (m,0)))->a=b
 | [], [],_,_,_,_,_,_,_=>rfl
 | s::a, [],_,_,ok,_,fa,_,h=>by obtain⟨e,he⟩:=fa s (by simp);have os:=ok s (by simp);have l:=IV (os.e e he).1;have k:=h ((s.1+e)/2);rw[ABP,(Db os he).mpr ⟨.inl l.1,l.2⟩] at k;simp at k
 | [],s::a,_,_,_,ok,_,fa,h=>by obtain⟨e,he⟩:=fa s (by simp);have os:=ok s (by simp);have l:=IV (os.e e he).1;have k:=h ((s.1+e)/2);rw[ABP,(Db os he).mpr ⟨.inl l.1,l.2⟩] at k;simp at k
 | s::a,t::b,ha,hb,oka,okb,fa,fb,h=>by
   obtain⟨e,he⟩:=fa s (by simp);obtain⟨f,c⟩:=fb t (by simp);have os:=oka s (by simp);have d:=okb t (by simp);have u:=(os.e e he).1;have E:=(d.e f c).1;have F:=Sf ha oka fa hb okb fb he c h;have G:=Sf hb okb fb ha oka fa c he λm=>(h m).symm;have i:s.1=t.1:=by grind
   have A:∀m,(s::a).any (Bl · (m,0))=(Bl s (m,0)||a.any (Bl · (m,0))):=λm=>by rw[ABP]
   have g:∀m,(t::b).any (Bl · (m,0))=(Bl t (m,0)||b.any (Bl · (m,0))):=λm=>by rw[ABP]
   have o:s.2.1=t.2.1:=by
    have k:=h s.1;rw[A,g,D9 ha oka fa he (by grind),D9 hb okb fb c (by grind),ADc,ADc] at k;have p:=Db (m:=s.1) os he;have r:=Db (m:=s.1) d c;have:s.2.1=1↔t.2.1=1:=by
     constructor
     .intro z;have:=r.mp (by rw[<-k];exact p.mpr ⟨.inr ⟨rfl,z⟩,u⟩);rcases this.1 with w|⟨_,w⟩
      .grind
      .exact w
     .intro z;have:=p.mp (by rw[k];exact r.mpr ⟨.inr ⟨i.symm,z⟩,by grind⟩);rcases this.1 with w|⟨_,w⟩
      .grind
      .exact w
    have:=os.h;have:=d.h;omega
   have v:e=f:=by
    by_cases w:e<f
    .have k:=h e;rw[A,g,D9 ha oka fa he (by grind),(Db d c).mpr ⟨.inl (by grind),w⟩] at k;have n:Bl s (e,0)=false:=AEL.mpr λy=>by have:=(Db os he).mp y;grind
     rw[n] at k;simp at k
    .by_cases D:f<e
     .have k:=h f;rw[A,g,D9 hb okb fb c (by grind),(Db os he).mpr ⟨.inl (by grind),D⟩] at k;have n:Bl t (f,0)=false:=AEL.mpr λy=>by have:=(Db d c).mp y;grind
      rw[n] at k;simp at k
     .grind
   have j:s=t:=by obtain⟨x,y,z⟩:=s;obtain⟨H,I,J⟩:=t;simp only at i o he c;subst i o he c v;rfl
   subst j;congr 1;refine Qq (AAZ.mp ha).2 (AAZ.mp hb).2 (λx hx=>oka x (by simp[hx])) (λx hx=>okb x (by simp[hx])) (λx hx=>fa x (by simp[hx])) (λx hx=>fb x (by simp[hx])) λm=> ?_;by_cases w:m<=e
   .rw [D9 ha oka fa he w,D9 hb okb fb he w]
   .have k:=h m;have n:Bl s (m,0)=false:=AEL.mpr λy=>by have:=(Db os he).mp y;grind
    rw[A,g,n] at k;simpa using k
abbrev J1:AS:=
 (AZ (FO (Hl (aV 0)) (IM 2 (Ae (Ar 2) (Ae (Ar 3) Bu))) (Xa 1 DY (AX RS (aV 3) (AN 2 GW (AB (aV 1) (AB (aV 3) AL))))))
   (Ak (aV 1)))
abbrev He:AS:=
 (AZ (As (aC (.int 1)) (Ar 1))
   J1)
def C7:AF:=Av 4 He
def MF {a:PV}{Q:PV->Prop}(h:He ⟨λ_=>Q .non,Q,λ_=>False,λ_=>False⟩ [some (.val a),none,none,none]):C7 [a] Q:=h
def Wy (xs:km Rat):Nat:=xs.foldl (λN r=>N*(r.den/Nat.gcd N r.den)) 1
def Z7 (xs:km Rat)(r:Rat):Wy (xs ++ [r])=Wy xs*(r.den/Nat.gcd (Wy xs) r.den):=by unfold Wy;rw[ADe];rfl
def kr {N d:Nat}(hN:0<N)(hd:0<d):0<N*(d/Nat.gcd N d)/\N ∣ N*(d/Nat.gcd N d)/\d ∣ N*(d/Nat.gcd N d)/\N*(d/Nat.gcd N d)<=N*d:=by have g:Nat.gcd N d ∣ d:=ADT ..;have a:0<Nat.gcd N d:=ACz _ hd;refine⟨Nat.mul_pos hN (Nat.div_pos (AEE hd g) a),Nat.dvd_mul_right .., ?_,Nat.mul_le_mul_left _ (ADR ..)⟩;rw[<-Nat.mul_div_assoc _ g];exact Nat.dvd_lcm_right ..
theorem Us {W:Nat}:∀(n:Nat) (xs:km Rat),xs.length=n->(∀x∈xs,Bd W x)->0<Wy xs/\(∀x∈xs,x.den ∣ Wy xs)/\Wy xs<2^(n*W+1)
 | 0,xs,e,_=>by have:xs= [] :=List.length_eq_zero_iff.mp e;subst this;exact⟨by decide,by simp,by simp[Wy]⟩
 | n+1,xs,e,h=>by
   obtain⟨ys,r,rfl⟩:∃ys r,xs=ys ++ [r] :=⟨xs.dropLast,xs.getLast (by intro z;subst z;cases e),(List.dropLast_concat_getLast _).symm⟩;have a:ys.length=n:=by simpa using e
   obtain⟨h1,h2,b⟩:=Us n ys a λx hx=>h x (by simp[hx]);have c:=(h r (by simp)).bot;rw[Z7];obtain⟨d,f,g,i⟩:=kr h1 r.den_pos;refine⟨d,λx hx=> ?_, ?_⟩
   .rcases AAj.mp hx with hx|hx
    .exact Nat.dvd_trans (h2 x hx) f
    .simp at hx;subst hx;exact g
   .refine ABW i ?_;have:=fg b c;rw[show n*W+1+W=(n+1)*W+1 by rw[Nat.succ_mul];omega] at this;exact this
def cU {v:PV}{xs:km Rat}{W:Nat}(hv:v= .lst (xs.map fr))(hx:∀x∈xs,Bd W x)(hl:xs.length<=6)(hW:W<=1400){Q:PV->Prop}(q:Q (.int (Wy xs:Nat))):C7 [v] Q:=by
 subst hv;apply MF;ac_rfl;refine EU fr (λa vs τ=>∃b d,τ= [some (.val (.lst (xs.map fr))),some (.val (.int (Wy a:Nat))),b,d]) ?_ ?_ ⟨_,_,rfl⟩
 .rintro τ ⟨b,d,rfl⟩;ac_rfl;exact q
 .rintro a c vs e τ R g ⟨b,d,rfl⟩;have hu:∀x∈a,Bd W x:=λx h=>hx x (by rw[<-e];simp[h]);have ul:a.length<=6:=by rw[<-e] at hl;simp at hl;omega
  obtain⟨h1,h2,i⟩:=Us a.length a rfl hu;have f:=(hx c (by rw[<-e];simp)).bot;have k:a.length*W<=6*1400:=Nat.mul_le_mul ul hW;have l:0<Nat.gcd (Wy a) c.den:=ACz _ c.den_pos;have gl:Nat.gcd (Wy a) c.den<2^8900:=Ax (ABW (AEE c.den_pos (ADT ..)) f) (by omega);ac_rfl;refine IH _ _ _ ?_;ac_rfl;refine⟨⟨by omega,by simpa using gl⟩, ?_⟩;have j:((c.den:Nat):Int).fdiv ((Nat.gcd (Wy a) c.den:Nat):Int)=((c.den/Nat.gcd (Wy a) c.den:Nat):Int):=by rw[ACh _ (by omega),ADU]
  rw[j];have dl:c.den/Nat.gcd (Wy a) c.den<2^1400:=Ax (ABW (ADR ..) f) hW;ac_rfl;refine⟨MulOk.of (m:=8401) (n:=1400) (by simpa using Ax i (by omega)) (by rw[AEM];exact dl), ?_⟩;exact g _ ⟨some (.val (.int c.num)),some (.val (.int c.den)),by rw[Z7,AEF];rfl⟩
abbrev Ml:AS:=
 (AZ (FG 3 Lw (AB (A1 (AB (aV 6) (AB (aV 7) AL))) AL))
   (FG 3 Lw (AB (A1 (AB (LZ El (aV 6)) (AB (LZ El (aV 7)) AL))) AL)))
abbrev Mj:AS:=
 (AZ (As (AX DY (AX Ai (aV 5) (aC (.int 0))) (AX RS (aV 2) (AX Ai (aV 5) (aC (.int 1))))) (Ar 7))
   Ml)
abbrev RD:AS:=
 (AZ (As (AX DY (AX Ai (aV 4) (aC (.int 0))) (AX RS (aV 2) (AX Ai (aV 4) (aC (.int 1))))) (Ar 6))
   Mj)
abbrev RF:AS:=
 (AZ (FO (nD (AB (aV 0) (AB (aV 1) AL))) (IM 2 (Ae (Ar 4) (Ae (Ar 5) Bu))) RD)
   (Ak (A1 (AB (aV 2) (AB (aV 3) AL)))))
abbrev RE:AS:=
 (AZ (KG (DQ AL) 3)
   RF)
abbrev PN:AS:=
 (AZ (As (AN 1 C7 (AB (AX BQ (aV 0) (aV 1)) AL)) (Ar 2))
   RE)
def Fc:AF:=Av 8 PN
def Uf {a b:PV}{Q:PV->Prop}(h:PN ⟨λ_=>Q .non,Q,λ_=>False,λ_=>False⟩ [some (.val a),some (.val b),none,none,none,none,none,none]):Fc [a,b] Q:=h
def E7 (N:Nat)(r:Rat):Int:=r.num*((N:Int).fdiv (r.den:Int))
def Il {N:Nat}{r:Rat}(h:r.den ∣ N):(E7 N r:Rat)=r*N:=by
 obtain⟨k,rfl⟩:=h;have hd:=r.den_pos;unfold E7;rw[AEF,Int.mul_fdiv_cancel_left _ (by omega),AEN];have hn:((r.den:Int):Rat)≠0:=λz=>by have:(r.den:Int)=0:=Rat.intCast_inj.mp z;omega
 have e:r=(r.num:Rat)/((r.den:Int):Rat):=by rw[<-Rat.divInt_eq_div,ABk]
 have a:r*((r.den:Int):Rat)=r.num:=by
  conv=>lhs;arg 1;rw[e]
  grind
 rw[<-a,show ((r.den*k:Nat):Rat)=((r.den:Int):Rat)*((k:Int):Rat) by rw[<-AEN,<-AEF,Rat.intCast_natCast]];grind
abbrev Hy (p:Int×Int):PV:= .tup [.int p.1, .int p.2]
def YJ (t:T3):PV:= .lst [fr t.1,fr t.2.1,fr t.2.2]
structure Pc where
 b:Rat
 e:Rat
 o0:T3
 o1:T3
def Pc.six (p:Pc):km Rat:= [p.o0.1,p.o0.2.1,p.o0.2.2,p.o1.1,p.o1.2.1,p.o1.2.2]
def Pc.N (p:Pc):Nat:=Wy p.six
def Pc.lns (p:Pc):km (Int×Int):= [(E7 p.N p.o0.1,E7 p.N p.o1.1),(-E7 p.N p.o0.1, -E7 p.N p.o1.1),(E7 p.N p.o0.2.1,E7 p.N p.o1.2.1),(-E7 p.N p.o0.2.1, -E7 p.N p.o1.2.1),(E7 p.N p.o0.2.2,E7 p.N p.o1.2.2),(-E7 p.N p.o0.2.2, -E7 p.N p.o1.2.2)]
def qN (p:Pc):PV:= .tup [fr p.b,fr p.e, .int p.N, .lst (p.lns.map Hy)]
def iB {W:Nat}{p:Pc}(a:Ea W p.o0)(h1:Ea W p.o1):∀x∈p.six,Bd W x:=by
 intro x hx;simp only[Pc.six,AAV,AAp,AAq] at hx;rcases hx with rfl|rfl|rfl|rfl|rfl|rfl
 .exact a.x
 .exact a.y
 .exact a.z
 .exact h1.x
 .exact h1.y
 .exact h1.z
def ZV {N d k:Nat}(h:N<2^k):((N:Int).fdiv (d:Int)).natAbs<2^k:=by rw[ACh _ (by omega),<-ADU,AEM];exact ABW (ADR ..) h
def fV {p:Pc}{W:Nat}(b:Ea W p.o0)(h1:Ea W p.o1)(hW:W<=1400){Q:PV->Prop}(q:Q (.tup [.int p.N, .lst (p.lns.map Hy)])):Fc [YJ p.o0,YJ p.o1] Q:=by
 have hs:=iB b h1;obtain⟨f,g,d⟩:=Us 6 p.six rfl hs;have e:(p.N:Nat)<2^8401:=Ax d (by omega);have a:∀r:Rat,Bd W r->Ve (p.N:Int) (r.den:Int)/\MulOk r.num ((p.N:Int).fdiv (r.den:Int)):=λr c=>
  ⟨⟨BZ r,by simpa using Ax c.bot (by omega)⟩,MulOk.of (m:=1400) (n:=8401) (Ax c.top hW) (ZV e)⟩
 unfold YJ;apply Uf;repeat' array_get_dec
 refine cU (xs:=p.six) (W:=W) rfl hs (by show 6<=6;omega) hW ?_;have q:Q (.tup [.int p.N, .lst [Hy (E7 p.N p.o0.1,E7 p.N p.o1.1),Hy (-E7 p.N p.o0.1, -E7 p.N p.o1.1),Hy (E7 p.N p.o0.2.1,E7 p.N p.o1.2.1),Hy (-E7 p.N p.o0.2.1, -E7 p.N p.o1.2.1),Hy (E7 p.N p.o0.2.2,E7 p.N p.o1.2.2),Hy (-E7 p.N p.o0.2.2, -E7 p.N p.o1.2.2)]]):=q;unfold E7 at q;rw[show Wy p.six=p.N from rfl];generalize p.N=N at *;repeat' array_get_dec
 refine⟨(a _ b.x).1,(a _ b.x).2, ?_⟩;repeat' array_get_dec
 refine⟨(a _ h1.x).1,(a _ h1.x).2, ?_⟩;repeat' array_get_dec
 refine⟨(a _ b.y).1,(a _ b.y).2, ?_⟩;repeat' array_get_dec
 refine⟨(a _ h1.y).1,(a _ h1.y).2, ?_⟩;repeat' array_get_dec
 refine⟨(a _ b.z).1,(a _ b.z).2, ?_⟩;repeat' array_get_dec
 refine⟨(a _ h1.z).1,(a _ h1.z).2, ?_⟩;repeat' array_get_dec
 exact q
abbrev Y5:AS:=
 (AZ (As (AX BQ (AN 3 CY (AB (aV 0) (AB (aV 2) (AB (aV 3) AL)))) (AN 3 CY (AB (aV 1) (AB (aV 2) (AB (aV 3) AL))))) (Ar 4))
   (Ak (AN 1 Gc (AB (AX BQ (Eb (DQ (AB (aV 2) (AB (aV 3) AL)))) (Eb (CA (Hl (aV 4)) 1 [] (Ar 0) Dh (AX Ai (aV 0) (aC (.int 0)))))) AL))))
def Iy:AF:=Av 5 Y5
def cQ {a b c d:PV}{Q:PV->Prop}(h:Y5 ⟨λ_=>Q .non,Q,λ_=>False,λ_=>False⟩ [some (.val a),some (.val b),some (.val c),some (.val d),none]):Iy [a,b,c,d] Q:=h
def EE (cs ds:km C4)(b e:Rat):km Rat:=Cw ([b,e] ++ ((cs.filter (Mw b e)++ds.filter (Mw b e)).map (·.1)))
def DC {cs ds:km C4}{b e x:Rat}:x∈EE cs ds b e↔x=b\/x=e\/(b<x/\x<e/\∃c,(c∈cs\/c∈ds)/\c.1=x):=by
 unfold EE;rw[Bn];simp only[AEn,ABG,AAV,AAe,AAj,ACN,Mw,ABJ,ADP];constructor
 .rintro (h|h|⟨c,h,rfl⟩)
  .exact .inl h
  .exact .inr (.inl h)
  .rcases h with⟨h1,h2,a⟩|⟨h1,h2,a⟩
   .exact .inr (.inr ⟨h2,a,c, .inl h1,rfl⟩)
   .exact .inr (.inr ⟨h2,a,c, .inr h1,rfl⟩)
 .rintro (h|h|⟨h1,h2,c,h,rfl⟩)
  .exact .inl h
  .exact .inr (.inl h)
  .exact .inr (.inr ⟨c,h.elim (λh=> .inl ⟨h,h1,h2⟩) (λh=> .inr ⟨h,h1,h2⟩),rfl⟩)
def JL {cs ds:km C4}{b e:Rat}:(EE cs ds b e).length<=2+(cs.length+ds.length):=by unfold EE;refine AAu Fl ?_;have h1:=ACq (Mw b e) cs;have h2:=ACq (Mw b e) ds;simp only[AA8,AAb,AAv,ADZ];omega
def XA {cs ds:km C4}{v w:PV}{b e:Rat}{B:Nat}(hv:CP cs v)(hw:CP ds w)(hl:cs.length<=100)(j:ds.length<=100)(hc:∀c∈cs,EF B c)(g:∀c∈ds,EF B c)(a:B<=4000)(d:Bd B b)(f:Bd B e){Q:PV->Prop}(q:Q (.lst ((EE cs ds b e).map fr))):Iy [v,w,fr b,fr e] Q:=by
 have h1:=ACq (Mw b e) cs;have h2:=ACq (Mw b e) ds;apply cQ;ac_rfl;refine E1 hv (by omega) hc a (d.mono a) (f.mono a) ?_;ac_rfl;refine E1 hw (by omega) g a (d.mono a) (f.mono a) ?_;ac_rfl;rw[<-AAk];ac_rfl;refine Cu cor fr (λc=>c.1) (λ_=>True) (λc _ R i=> ?_) _ [] (by simp) ?_
 .ac_rfl;exact i
 rw[ABG];ac_rfl;refine Sc (xs:= [b,e] ++ (cs.filter (Mw b e)++ds.filter (Mw b e)).map (·.1)) (B:=B) (.inl rfl) (by simp only[AA8,AAb,AAv,ADZ];omega) (λx hx=> ?_) a q;rcases AAj.mp hx with hx|hx
 .simp only[AAV,AAp,AAq] at hx;rcases hx with rfl|rfl
  .exact d
  .exact f
 .obtain ⟨c,h,rfl⟩:=AAe.mp hx;rcases AAj.mp h with h|h
  .exact (hc c (ACN.mp h).1).m
  .exact (g c (ACN.mp h).1).m
abbrev VQ:AS:=
 (AZ (As (AN 2 Fc (AB (AX Ai (aV 5) (AX Gi (aV 7) (aC (.int 1)))) (AB (AX Ai (aV 5) (aV 7)) AL))) (IM 2 (Ae (Ar 8) (Ae (Ar 9) Bu))))
   (FG 6 Lw (AB (A1 (AB (AX Ai (aV 4) (AX Gi (aV 7) (aC (.int 1)))) (AB (AX Ai (aV 4) (aV 7)) (AB (aV 8) (AB (aV 9) AL))))) AL)))
abbrev VV:AS:=
 (AZ (FO (jA (AB (aC (.int 1)) (AB (DD EJ (AB (aV 4) AL)) AL))) (Ar 7) VQ)
   (Ak (aV 6)))
abbrev VU:AS:=
 (AZ (KG (DQ AL) 6)
   VV)
abbrev VT:AS:=
 (AZ (As (Eb (CA (Hl (aV 4)) 1 [0,1,2] (Ar 0) Dh (AN 4 GZ (AB (aV 1) (AB (aV 2) (AB (aV 3) (AB (aV 0) AL))))))) (Ar 5))
   VU)
abbrev VS:AS:=
 (AZ (As (AN 4 Iy (AB (aV 0) (AB (aV 1) (AB (AX Ai (aV 3) (aC (.int 0))) (AB (AX Ai (aV 3) (aC (.int 1))) AL))))) (Ar 4))
   VT)
abbrev VR:AS:=
 (AZ (BD (Ag (AX Tk (aV 3) (aC .non))) (Ak (Eb (DQ AL))) Ay)
   VS)
abbrev VP:AS:=
 (AZ (As (AN 2 D4 (AB (aV 0) (AB (aV 1) AL))) (Ar 3))
   VR)
def Gb:AF:=Av 10 VP
def Yh {a b c:PV}{Q:PV->Prop}(h:VP ⟨λ_=>Q .non,Q,λ_=>False,λ_=>False⟩ [some (.val a),some (.val b),some (.val c),none,none,none,none,none,none,none]):Gb [a,b,c] Q:=h
def FH (cs ds:km C4)(d:Rat×Rat)(m:Rat):T3:=Eo ((spotC cs m).getD (0,0,0)) ((spotC ds m).getD (0,0,0)) d
def OR (cs ds:km C4)(d:Rat×Rat)(ts:km Rat):km Pc:=(ts.zip ts.tail).map λp=>⟨p.1,p.2,FH cs ds d p.1,FH cs ds d p.2⟩
def zip_get {ts:km Rat}{i:Nat}{x y:Rat}(hx:ts[i]? =some x)(hy:ts[i+1]? =some y):(ts.zip ts.tail)[i]? =some (x,y):=by rw[List.getElem?_zip_eq_some];exact⟨hx,by rw[List.getElem?_tail];exact hy⟩
structure qF (cs ds:List C4) (b e:Rat):Prop where
 lt:b<e
 one:∀m,b<=m->m<=e->∃t,spotC cs m=some t
 other:∀m,b<=m->m<=e->∃t,spotC ds m=some t
def iP {a l b c:C4}{r r2:km C4}(e:r≠ [])(f:r2≠ [])(g:(a::r).getLast?=some l)(d:(b::r2).getLast?=some c)(h:mx a.1 b.1<mn l.1 c.1):qF (a::r) (b::r2) (mx a.1 b.1) (mn l.1 c.1):=by
 have i:a.1<=mx a.1 b.1:=by unfold mx;split <;> grind
 have j:b.1<=mx a.1 b.1:=by unfold mx;split <;> grind
 have k:mn l.1 c.1<=l.1:=by unfold mn;split <;> grind
 have n:mn l.1 c.1<=c.1:=by unfold mn;split <;> grind
 exact⟨h,λm h1 h2=>HS e g (by grind) (by grind),λm h1 h2=>HS f d (by grind) (by grind)⟩
def fo {cs ds:km C4}{d:Rat×Rat}{b e m:Rat}{B M D:Nat}(g:qF cs ds b e)(h1:b<=m)(h2:m<=e)(i:KF cs)(j:KF ds)(hc:∀c∈cs,EF B c)(k:∀c∈ds,EF B c)(bm:Bd M m)(b1:Bd D d.1)(b2:Bd D d.2)(p1:d.1≠0)(p2:d.2≠0):Ea (2*(M+6*B+10)+1+D) (FH cs ds d m):=by obtain⟨s,es⟩:=g.one m h1 h2;obtain⟨t,h⟩:=g.other m h1 h2;have a:=Ea.spotC bm i hc s es;have f:=Ea.spotC bm j k t h;unfold FH;rw[es,h];exact⟨(((a.x.sub f.x).div p1 b1)).mono (by omega),(((a.y.sub f.y).div p1 b1)).mono (by omega),(((a.z.sub f.z).div p2 b2)).mono (by omega)⟩
def yj {a:Type}{f:a->PV}{xs:km a}{k:Nat}{x:a}{R:PV->Prop}(e:xs[k]? =some x)(h:R (f x)):Ai (.lst (xs.map f)) (.int (k:Int)) R:=by show c5 (JA (xs.map f) (k:Int)) R;rw[Ci (v:=f x) (by rw[AA0,e];rfl)];exact h
def aQ (ts:km Rat):(ts.zip ts.tail).length=ts.length-1:=by rw[List.length_zip,List.length_tail];omega
def UY {cs ds:km C4}{d:Rat×Rat}{ts:km Rat}:(OR cs ds d ts).length=ts.length-1:=by unfold OR;rw[AAb,aQ]
def FX {cs ds:km C4}{b e:Rat}:Q5 (EE cs ds b e):=Bz
def EZ {cs ds:km C4}{b e x:Rat}(h:b<e)(hx:x∈EE cs ds b e):b<=x/\x<=e:=by rcases DC.mp hx with rfl|rfl|⟨h1,h2,_⟩ <;> exact⟨by grind,by grind⟩
def Gs {cs ds:km C4}{b e x:Rat}{M:Nat}(hc:∀c∈cs,Bd M c.1)(a:∀c∈ds,Bd M c.1)(d:Bd M b)(f:Bd M e)(hx:x∈EE cs ds b e):Bd M x:=by
 rcases DC.mp hx with rfl|rfl|⟨_,_,c,h,rfl⟩
 .exact d
 .exact f
 .rcases h with h|h
  .exact hc c h
  .exact a c h
def To (cs:km C4):Rat:=(cs.head?.getD (0,0,0,0)).1
def lstM (cs:km C4):Rat:=(cs.getLast?.getD (0,0,0,0)).1
def BH (cs ds:km C4):Rat:=mx (To cs) (To ds)
def BG (cs ds:km C4):Rat:=mn (lstM cs) (lstM ds)
def MO (cs ds:km C4):km Rat:=EE cs ds (BH cs ds) (BG cs ds)
structure E6 (cs ds:List C4) (d:Rat×Rat) (M W:Nat):Prop where
 c1:∀c∈cs,EF 150 c
 c2:∀c∈ds,EF 150 c
 r1:KF cs
 r2:KF ds
 t1:2<=cs.length
 t2:2<=ds.length
 f1:cs.length<=100
 f2:ds.length<=100
 m1:∀c∈cs,Bd M c.1
 m2:∀c∈ds,Bd M c.1
 b1:Bd 100 d.1
 b2:Bd 100 d.2
 p1:0<d.1
 p2:0<d.2
 w:BH cs ds<BG cs ds->∀m∈MO cs ds,Ea W (FH cs ds d m)
 hM:M<=150
 hW:W<=1050
def open2 {cs:km C4}(h:2<=cs.length):∃a r l,cs=a::r/\r≠ [] /\(a::r).getLast?=some l:=by
 match cs,h with
 | a::b::r,_=> obtain⟨l,c⟩:∃l,(a::b::r).getLast?=some l:=⟨_,AC2 (by simp)⟩;exact⟨a,b::r,l,rfl,by simp,c⟩
def JE {a:C4}{r:km C4}:To (a::r)=a.1:=rfl
def CO {cs:km C4}{l:C4}(e:cs.getLast?=some l):lstM cs=l.1:=by unfold lstM;rw[e];rfl
section
variable {cs ds:km C4}{d:Rat×Rat}{M W:Nat}
theorem E6.fstB (D:E6 cs ds d M W):Bd M (To cs):=by obtain⟨a,r,l,rfl,b,c⟩:=open2 D.t1;exact D.m1 a (by simp)
theorem E6.fstB2 (D:E6 cs ds d M W):Bd M (To ds):=by obtain⟨a,r,l,rfl,b,c⟩:=open2 D.t2;exact D.m2 a (by simp)
theorem E6.lstB (D:E6 cs ds d M W):Bd M (lstM cs):=by obtain⟨a,r,l,rfl,c,b⟩:=open2 D.t1;rw[CO b];exact D.m1 l (ABf b)
theorem E6.lstB2 (D:E6 cs ds d M W):Bd M (lstM ds):=by obtain⟨a,r,l,rfl,c,b⟩:=open2 D.t2;rw[CO b];exact D.m2 l (ABf b)
theorem E6.begB (D:E6 cs ds d M W):Bd M (BH cs ds):=D.fstB.mx D.fstB2
theorem E6.endB (D:E6 cs ds d M W):Bd M (BG cs ds):=D.lstB.mn D.lstB2
theorem E6.tog (D:E6 cs ds d M W)(h:BH cs ds<BG cs ds):qF cs ds (BH cs ds) (BG cs ds):=by obtain⟨a,r,l,rfl,e,c⟩:=open2 D.t1;obtain⟨g,r2,i,rfl,f,b⟩:=open2 D.t2;unfold BH BG at h ⊢;rw[JE,JE,CO c,CO b] at h ⊢;exact iP e f c b h
end
def aM {cs ds:km C4}{d:Rat×Rat}{M W:Nat}(D:E6 cs ds d M W){v w:PV}(hv:CP cs v)(hw:CP ds w){Q:PV->Prop}(c:BH cs ds<BG cs ds->Q (.tup [fr (BH cs ds),fr (BG cs ds)]))(e:¬BH cs ds<BG cs ds->Q .non):D4 [v,w] Q:=by have i:=D.fstB;have j:=D.fstB2;have g:=D.lstB;have h:=D.lstB2;have hM:=D.hM;obtain⟨a,r,l,rfl,k,f⟩:=open2 D.t1;obtain⟨m,r2,n,rfl,o,b⟩:=open2 D.t2;unfold BH BG at c e;rw[JE,JE,CO f,CO b] at c e;rw[CO f] at g;rw[CO b] at h;exact W7 hv hw f b (i.mono (by omega)) (g.mono (by omega)) (j.mono (by omega)) (h.mono (by omega)) c e
def KZ (cs ds:km C4)(d:Rat×Rat):km Pc:=if BH cs ds<BG cs ds then OR cs ds d (MO cs ds) else []
def Sa {cs ds:km C4}{d:Rat×Rat}{M W:Nat}(D:E6 cs ds d M W){v w u:PV}(hv:CP cs v)(hw:CP ds w)(hu:XN d u){Q:PV->Prop}(q:Q (.lst ((KZ cs ds d).map qN))):Gb [v,w,u] Q:=by
 have hM:=D.hM;have hW:=D.hW;have o:=D.f1;have r:=D.f2;apply Yh;ac_rfl;refine aM D hv hw (λh=> ?_) (λh=> ?_);rotate_left
 .unfold KZ at q;rw[AAS h] at q;ac_rfl;exact q
 unfold KZ at q;rw[AAU h] at q;have A:=D.tog h;ac_rfl;refine XA (B:=150) hv hw o r D.c1 D.c2 (by decide) (D.begB.mono hM) (D.endB.mono hM) ?_;have F:=JL (cs:=cs) (ds:=ds) (b:=BH cs ds) (e:=BG cs ds);have l:∀x∈MO cs ds,BH cs ds<=x/\x<=BG cs ds:=λx hx=>EZ h hx;have G:∀x∈MO cs ds,Bd M x:=λx hx=>Gs D.m1 D.m2 D.begB D.endB hx;have C:∀x∈MO cs ds,Ea W (FH cs ds d x):=D.w h;have H:(MO cs ds).length<=2+(cs.length+ds.length):=F;rw[show EE cs ds (BH cs ds) (BG cs ds)=MO cs ds from rfl];generalize MO cs ds=ts at *;ac_rfl;refine Cu fr YJ (FH cs ds d) (λx=>x∈ts) (λx hx R k=> ?_) ts [] (λx hx=>hx) ?_
 .obtain ⟨s,es⟩:=A.one x (l x hx).1 (l x hx).2;obtain⟨t,E⟩:=A.other x (l x hx).1 (l x hx).2;have k:R (YJ (Eo ((spotC cs x).getD (0,0,0)) ((spotC ds x).getD (0,0,0)) d)):=k;rw[es,E] at k;ac_rfl;exact jx hv hw hu D.c1 D.c2 D.r1 D.r2 (by have:=D.t1;intro z;subst z;simp at this) (by have:=D.t2;intro z;subst z;simp at this) o r ((G x hx).mono (by omega)) D.b1 D.b2 (by have:=D.p1;grind) (by have:=D.p2;grind) es E k
 rw[ABG];ac_rfl;refine Tl (λi τ=>∃g j a,τ= [some (.val v),some (.val w),some (.val u),some (.val (.tup [fr (BH cs ds),fr (BG cs ds)])),some (.val (.lst (ts.map fr))),some (.val (.lst ((ts.map (FH cs ds d)).map YJ))),some (.own (((OR cs ds d ts).take i).map qN)),g,j,a]) ?_ ?_ ⟨_,_,_,rfl⟩
 .rintro τ ⟨g,j,a,rfl⟩;rw[AD2 (by rw[UY];omega)];ac_rfl;exact q
 .rintro i hi τ R k ⟨g,j,a,rfl⟩;have I:i+1<ts.length:=by omega
  obtain⟨x,ex⟩:∃x,ts[i]? =some x:=⟨_,AAs (by omega)⟩;obtain⟨y,m⟩:∃y,ts[i+1]? =some y:=⟨_,AAs I⟩;have N:=UY (cs:=cs) (ds:=ds) (d:=d) (ts:=ts);have J:=C x (AA9 ex);have K:=C y (AA9 m);have ep:(OR cs ds d ts).take (i+1)=(OR cs ds d ts).take i ++ [⟨x,y,FH cs ds d x,FH cs ds d y⟩] :=by
   have L:(OR cs ds d ts)[i]? =some ⟨x,y,FH cs ds d x,FH cs ds d y⟩:=by unfold OR;rw[AA0,zip_get ex m];rfl
   rw[List.take_succ,L];rfl
  have t1:((1:Int)+(i:Int)-1).toNat=i:=by omega
  have t2:((1:Int)+(i:Int)).toNat=i+1:=by omega
  have n:∀g j a,R [some (.val v),some (.val w),some (.val u),some (.val (.tup [fr (BH cs ds),fr (BG cs ds)])),some (.val (.lst (ts.map fr))),some (.val (.lst ((ts.map (FH cs ds d)).map YJ))),some (.own (((OR cs ds d ts).take i).map qN ++ [qN ⟨x,y,FH cs ds d x,FH cs ds d y⟩])),g,j,a] :=λg j a=>k _ ⟨g,j,a,by rw[ep,AAk];rfl⟩;ac_rfl;rename_i c1 c _ c2 f _;rw[t1,AA0,ex] at c;rw[t2,AA0,m] at f;cases c;cases f;refine fV (p:=⟨x,y,FH cs ds d x,FH cs ds d y⟩) J K (by omega) ?_;ac_rfl;rename_i c1 c _ c2 f _;rw[t1,ex] at c;cases c;rw[t2,m] at f;cases f;ac_rfl;exact n _ _ _
abbrev Ni:AS:=
 (Ak (AN 2 IK (AB (aV 0) (AB (AN 2 Fx (AB (AN 2 IJ (AB (AX Ai (aV 2) (aC (.int 0))) (AB (AX Ai (aV 2) (aC (.int 1))) AL))) (AB (AN 2 EQ (AB (aV 1) (AB (aV 0) AL))) AL))) AL))))
def DP:AF:=Av 3 Ni
def Ro {a b c:PV}{Q:PV->Prop}(h:Ni ⟨λ_=>Q .non,Q,λ_=>False,λ_=>False⟩ [some (.val a),some (.val b),some (.val c)]):DP [a,b,c] Q:=h
def sv (p:Int×Int):Rat:=(p.1:Rat)/(p.2:Rat)
def SH {i:Int}(h:0<i):(0:Rat)<(i:Rat):=by have:=ABt.mpr h;simpa using this
def t9 {a b:Int×Int}(ha:0<a.2)(hb:0<b.2):sv a<sv b↔a.1*b.2<b.1*a.2:=by
 have h1:=SH ha;have h2:=SH hb;unfold sv;rw[ACZ h1,<-ABt,AEN,AEN];have e:(b.1:Rat)/(b.2:Rat)*(a.2:Rat)=(b.1:Rat)*(a.2:Rat)/(b.2:Rat):=by grind
 rw[e,ADg h2]
structure Sz (p:Int×Int):Prop where
 pos:0<p.2
 t:p.1.natAbs<2^8850
 n:p.2.natAbs<2^8850
def Gf {a b:Int×Int}(ha:Sz a)(hb:Sz b){Q:PV->Prop}(q:Q (.bl (decide (sv a<sv b)))):Am [Hy a,Hy b] Q:=by refine⟨MulOk.of ha.t hb.n,MulOk.of hb.t ha.n, ?_⟩;rw[ACm.mpr (t9 ha.pos hb.pos)] at q;exact q
def bT {a b:Int×Int}(ha:Sz a)(hb:Sz b){Q:PV->Prop}(q:Q (Hy (if sv b<sv a then b else a))):Fb [Hy a,Hy b] Q:=by
 refine⟨rfl,Gf hb ha ?_⟩;refine Fu (b:=decide (sv b<sv a)) (λz=> ?_) (λz=> ?_)
 .rw [AAU (ABX z)] at q;exact q
 .rw [AAS (ABY z)] at q;exact q
def KO {b e:Rat}{p:Int×Int}{M S:Nat}(hp:Sz p)(bs:Bd S (sv p))(a:Bd M b)(c:Bd M e)(hM:M<=300)(f:S<=3200){Q:PV->Prop}(q:Q (fr (b+sv p*(e-b)))):DP [fr b,fr e,Hy p] Q:=by
 have d:p.2≠0:=by have:=hp.pos;omega
 have es:Rat.divInt p.1 p.2=sv p:=Rat.divInt_eq_div ..;have k:=c.sub a;have g:=bs.mul k;apply Ro;ac_rfl;refine Ga _ _ d (Ax hp.n (by decide)) _ ?_;rw[es];ac_rfl;exact q
def lv (l:Int×Int)(s:Rat):Rat:=(l.1:Rat)+s*((l.2:Rat)-(l.1:Rat))
structure NI (N:Nat) (S:Nat) (us:List (Int×Int)) (lo hi:Int×Int) (h:Int):Prop where
 l:Sz lo
 r:Sz hi
 bl:Bd S (sv lo)
 br:Bd S (sv hi)
 h01:h=0\/h=1
 lo0:0<=sv lo
 hi1:sv hi<=1
 sem:∀s,0<=s->s<1->((∀l∈us,lv l s<N)↔(sv lo<s\/(sv lo=s/\h=1))/\s<sv hi)
def ph:sv (0,1)=0:=by decide +kernel
def cX:sv (1,1)=1:=by decide +kernel
def oR {N S:Nat}(a:1<=S):NI N S [] (0,1) (1,1) 1:=by
 refine⟨⟨by decide, ?_, ?_⟩,⟨by decide, ?_, ?_⟩, ?_, ?_, .inr rfl,by rw[ph];grind,by rw[cX];grind,λs b h1=> ?_⟩
 .exact Ax (m:=1) (by decide) (by decide)
 .exact Ax (m:=1) (by decide) (by decide)
 .exact Ax (m:=1) (by decide) (by decide)
 .exact Ax (m:=1) (by decide) (by decide)
 .rw [ph];exact qG.mono a
 .rw [cX];exact jD.mono a
 .rw [ph,cX];exact⟨λ_=>⟨by grind,h1⟩,λ_=>by simp⟩
structure JV (N W:Nat) (l:Int×Int):Prop where
 a:l.1.natAbs<2^8848
 b:l.2.natAbs<2^8848
 n:N<2^8848
 n0:0<N
 ex:∃u v:Rat,Bd W u/\Bd W v/\(l.1:Rat)=u*N/\(l.2:Rat)=v*N
def dO {N:Nat}(h:0<N):(0:Rat)<(N:Rat):=Rat.natCast_pos.mpr h
def aG {a b:Int}{k:Nat}(ha:a.natAbs<2^k)(hb:b.natAbs<2^k):(a-b).natAbs<2^(k+1):=U3 ha hb
def Ew {a:km (Int×Int)}{l:Int×Int}{P:Int×Int->Prop}:(∀x∈a ++ [l],P x)↔(∀x∈a,P x)/\P l:=by
 constructor
 .intro h;exact⟨λx hx=>h x (by simp[hx]),h l (by simp)⟩
 .rintro ⟨h1,h2⟩ x hx;rcases AAj.mp hx with hx|hx
  .exact h1 x hx
  .simp at hx;subst hx;exact h2
def Ec (N:Nat):((N:Int):Rat)=(N:Rat):=Rat.intCast_natCast N
def NC {N W:Nat}{l:Int×Int}(h:JV N W l)(h1:(N:Int)<=l.1)(h2:l.2<(N:Int)):Sz (l.1-N,l.1-l.2)/\Bd (3*W+3) (sv (l.1-N,l.1-l.2))/\0<=sv (l.1-N,l.1-l.2)/\∀s,lv l s<N↔sv (l.1-N,l.1-l.2)<s:=by
 obtain⟨u,v,d,g,e,f⟩:=h.ex;have hn:=dO h.n0;have p2:0<l.1-l.2:=by omega
 have k:((N:Rat))<=(l.1:Rat):=by rw[<-Ec];exact ACr.mpr h1
 have m:(l.2:Rat)<(N:Rat):=by rw[<-Ec];exact ABt.mpr h2
 have es:sv (l.1-N,l.1-l.2)=((l.1:Rat)-N)/((l.1:Rat)-l.2):=by unfold sv;show ((l.1-(N:Int):Int):Rat)/((l.1-l.2:Int):Rat)=_;rw[AEO,AEO,Ec]
 have c:(0:Rat)<(l.1:Rat)-l.2:=by grind
 have i:u-v≠0:=by
  intro z;have:u=v:=by grind
  subst this;grind
 have j:sv (l.1-N,l.1-l.2)=(u-1)/(u-v):=by
  rw[es,e,f];have:u*(N:Rat)-v*N≠0:=by rw[e,f] at c;grind
  have:(N:Rat)≠0:=by grind
  grind
 refine⟨⟨p2,Ax (aG h.a (by simpa using h.n)) (by decide),Ax (aG h.a h.b) (by decide)⟩, ?_, ?_,λs=> ?_⟩
 .rw [j];exact((d.sub jD).div i (d.sub g)).mono (by omega)
 .rw [es,<-ADh,ACZ c];grind
 .rw [es,ACZ c];unfold lv;constructor <;> intro z <;> grind
def Tz {N W:Nat}{l:Int×Int}(h:JV N W l)(h1:l.1<(N:Int))(h2:(N:Int)<l.2):Sz (N-l.1,l.2-l.1)/\Bd (3*W+3) (sv (N-l.1,l.2-l.1))/\sv (N-l.1,l.2-l.1)<=1/\∀s,lv l s<N↔s<sv (N-l.1,l.2-l.1):=by
 obtain⟨u,v,d,g,e,f⟩:=h.ex;have hn:=dO h.n0;have p2:0<l.2-l.1:=by omega
 have k:(l.1:Rat)<(N:Rat):=by rw[<-Ec];exact ABt.mpr h1
 have m:(N:Rat)<(l.2:Rat):=by rw[<-Ec];exact ABt.mpr h2
 have es:sv (N-l.1,l.2-l.1)=((N:Rat)-l.1)/((l.2:Rat)-l.1):=by unfold sv;show (((N:Int)-l.1:Int):Rat)/((l.2-l.1:Int):Rat)=_;rw[AEO,AEO,Ec]
 have c:(0:Rat)<(l.2:Rat)-l.1:=by grind
 have i:v-u≠0:=by
  intro z;have:u=v:=by grind
  subst this;grind
 have j:sv (N-l.1,l.2-l.1)=(1-u)/(v-u):=by
  rw[es,e,f];have:v*(N:Rat)-u*N≠0:=by rw[e,f] at c;grind
  have:(N:Rat)≠0:=by grind
  grind
 refine⟨⟨p2,Ax (aG (by simpa using h.n) h.a) (by decide),Ax (aG h.b h.a) (by decide)⟩, ?_, ?_,λs=> ?_⟩
 .rw [j];exact((jD.sub d).div i (g.sub d)).mono (by omega)
 .rw [es,<-ADh,ADg c];grind
 .rw [es,ADg c];unfold lv;constructor <;> intro z <;> grind
section
variable {N W:Nat}{us:km (Int×Int)}{lo hi l:Int×Int}{h:Int}
def oQ (i:NI N (3*W+3) us lo hi h)(o:JV N W l)(h1:(N:Int)<=l.1)(h2:l.2<(N:Int))(k:¬sv (l.1-N,l.1-l.2)<sv lo):NI N (3*W+3) (us ++ [l]) (l.1-N,l.1-l.2) hi 0:=by
 obtain⟨a,b,c,e⟩:=NC o h1 h2;refine⟨a,i.r,b,i.br, .inl rfl,c,i.hi1,λs d f=> ?_⟩;rw[Ew,i.sem s d f,e s];constructor
 .rintro ⟨⟨x,y⟩,z⟩;exact⟨.inl z,y⟩
 .rintro ⟨x|⟨_,x⟩,y⟩
  .exact ⟨⟨.inl (by grind),y⟩,x⟩
  .cases x
def jt (i:NI N (3*W+3) us lo hi h)(o:JV N W l)(h1:(N:Int)<=l.1)(h2:l.2<(N:Int))(k:sv (l.1-N,l.1-l.2)<sv lo):NI N (3*W+3) (us ++ [l]) lo hi h:=by
 obtain⟨a,b,c,e⟩:=NC o h1 h2;refine⟨i.l,i.r,i.bl,i.br,i.h01,i.lo0,i.hi1,λs d f=> ?_⟩;rw[Ew,i.sem s d f,e s];constructor
 .rintro ⟨x,z⟩;exact x
 .rintro ⟨x,y⟩;refine⟨⟨x,y⟩, ?_⟩;rcases x with x|⟨x,_⟩ <;> grind
def js (i:NI N (3*W+3) us lo hi h)(o:JV N W l)(h1:l.1<(N:Int))(h2:(N:Int)<l.2):NI N (3*W+3) (us ++ [l]) lo (if sv (N-l.1,l.2-l.1)<sv hi then (N-l.1,l.2-l.1) else hi) h:=by
 obtain⟨a,b,c,e⟩:=Tz o h1 h2;by_cases k:sv (N-l.1,l.2-l.1)<sv hi
 .rw [AAU k];refine⟨i.l,a,i.bl,b,i.h01,i.lo0,c,λs d f=> ?_⟩;rw[Ew,i.sem s d f,e s];constructor
  .rintro ⟨⟨x,y⟩,z⟩;exact⟨x,z⟩
  .rintro ⟨x,y⟩;exact⟨⟨x,by grind⟩,y⟩
 .rw [AAS k];refine⟨i.l,i.r,i.bl,i.br,i.h01,i.lo0,i.hi1,λs d f=> ?_⟩;rw[Ew,i.sem s d f,e s];constructor
  .rintro ⟨x,z⟩;exact x
  .rintro ⟨x,y⟩;exact⟨⟨x,y⟩,by grind⟩
def sV (i:NI N (3*W+3) us lo hi h)(h1:l.1<(N:Int))(h2:¬(N:Int)<l.2):NI N (3*W+3) (us ++ [l]) lo hi h:=by
 have b:(l.1:Rat)<(N:Rat):=by rw[<-Ec];exact ABt.mpr h1
 have c:(l.2:Rat)<=(N:Rat):=by rw[<-Ec];exact ACr.mpr (by omega)
 refine⟨i.l,i.r,i.bl,i.br,i.h01,i.lo0,i.hi1,λs a d=> ?_⟩;rw[Ew,i.sem s a d];constructor
 .rintro ⟨x,z⟩;exact x
 .intro x;refine⟨x, ?_⟩;have y:lv l s=(1-s)*(l.1:Rat)+s*(l.2:Rat):=by unfold lv;grind
  have e:(1-s)*(l.1:Rat)<(1-s)*N:=ADi b (by grind);have f:s*(l.2:Rat)<=s*N:=ACs c a;rw[y];grind
end
abbrev S5:AS:=
 (AZ (As (aV 10) (Ar 1))
   (As (aC (.int 0)) (Ar 2)))
abbrev S6:AS:=
 (AZ (As (A1 (AB (AX Gi (aV 8) (aV 6)) (AB (AX Gi (aV 8) (aV 9)) AL))) (Ar 10))
   (BD (Bc (Ag (AN 2 Am (AB (aV 10) (AB (aV 1) AL))))) S5 Ay))
abbrev S7:AS:=
 (AZ (BD (Hk (Ag (AX lc (aV 8) (aV 6))) (Ag (AX lc (aV 9) (aV 6)))) (Ak (Eb (DQ AL))) Ay)
   (BD (Ag (AX lc (aV 8) (aV 6))) S6 (BD (Ag (AX lf (aV 9) (aV 6))) (As (AN 2 Fb (AB (aV 3) (AB (A1 (AB (AX Gi (aV 6) (aV 8)) (AB (AX Gi (aV 9) (aV 8)) AL))) AL))) (Ar 3)) Ay)))
abbrev TD:AS:=
 (AZ (BD (Bc (Ag (AN 2 Am (AB (aV 1) (AB (aV 3) AL))))) (Ak (Eb (DQ AL))) Ay)
   (Ak (Eb (DQ (AB (A1 (AB (AN 3 DP (AB (aV 4) (AB (aV 5) (AB (aV 1) AL)))) (AB (aV 2) (AB (AN 3 DP (AB (aV 4) (AB (aV 5) (AB (aV 3) AL)))) AL)))) AL)))))
abbrev TC:AS:=
 (AZ (FO (Hl (aV 7)) (IM 2 (Ae (Ar 8) (Ae (Ar 9) Bu))) S7)
   TD)
abbrev TB:AS:=
 (AZ (As (A1 (AB (aC (.int 1)) (AB (aC (.int 1)) AL))) (Ar 3))
   TC)
abbrev S9:AS:=
 (AZ (As (aC (.int 1)) (Ar 2))
   TB)
abbrev S8:AS:=
 (AZ (As (A1 (AB (aC (.int 0)) (AB (aC (.int 1)) AL))) (Ar 1))
   S9)
abbrev Rv:AS:=
 (AZ (As (aV 0) (IM 4 (Ae (Ar 4) (Ae (Ar 5) (Ae (Ar 6) (Ae (Ar 7) Bu))))))
   S8)
def GY:AF:=Av 11 Rv
def Wr {a:PV}{Q:PV->Prop}(h:Rv ⟨λ_=>Q .non,Q,λ_=>False,λ_=>False⟩ [some (.val a),none,none,none,none,none,none,none,none,none,none]):GY [a] Q:=h
def Zn (N:Nat)(lns:km (Int×Int))(b e m:Rat):Prop:=b<=m/\m<e/\∀l∈lns,lv l ((m-b)/(e-b))<N
structure dQ (N:Nat) (lns:List (Int×Int)) (b e:Rat) (B:Nat) (ss:List Bq):Prop where
 few:ss.length<=1
 ok:∀s∈ss,Ct B s
 fin:∀s∈ss,∃x,s.2.2=some x
 sem:∀m,ss.any (Bl · (m,0))=true↔Zn N lns b e m
def SY {N:Nat}{lns:km (Int×Int)}{b e:Rat}{B:Nat}(h:∀s,0<=s->s<1->¬∀l∈lns,lv l s<N)(d:b<e):dQ N lns b e B [] :=by
 refine⟨by simp,by simp,by simp,λm=> ?_⟩;refine⟨λz=>by simp at z,λz=> ?_⟩;obtain⟨h1,h2,c⟩:=z;have a:0<e-b:=by grind
 refine absurd c (h _ ?_ ?_)
 .rw [<-ADh,ACZ a];grind
 .rw [ACZ a];grind
def bi {N S B M:Nat}{lns:km (Int×Int)}{b e:Rat}{lo hi:Int×Int}{h:Int}(i:NI N S lns lo hi h)(p:b<e)(k:sv lo<sv hi)(a:Bd M b)(g:Bd M e)(r:3*M+S+3<=B):dQ N lns b e B [(b+sv lo*(e-b),h,some (b+sv hi*(e-b)))] :=by
 have l:0<e-b:=by grind
 have mono:∀{x y:Rat},x<y->b+x*(e-b)<b+y*(e-b):=λ{x y} h=>by have:=AEt h l;grind
 refine⟨by simp,λs hs=> ?_,λs hs=> ?_,λm=> ?_⟩
 .simp at hs;subst hs;refine⟨(a.add (i.bl.mul (g.sub a))).mono (by omega),i.h01,λx hx=> ?_⟩;cases hx;exact⟨mono k,(a.add (i.br.mul (g.sub a))).mono (by omega)⟩
 .simp at hs;subst hs;exact⟨_,rfl⟩
 .obtain ⟨s,rfl⟩:∃s,m=b+s*(e-b):=⟨(m-b)/(e-b),by grind⟩;have es:(b+s*(e-b)-b)/(e-b)=s:=by grind
  unfold Zn;rw[es];have j:∀x y:Rat,b+x*(e-b)<b+y*(e-b)↔x<y:=λx y=>by
   refine⟨λz=> ?_,mono⟩;by_cases w:x<y
   .exact w
   .by_cases f:y<x
    .have:=mono f;grind
    .have:x=y:=by grind
     subst this;grind
  have n:∀x y:Rat,b+x*(e-b)=b+y*(e-b)↔x=y:=λx y=>by
   refine⟨λz=> ?_,λz=>by rw[z]⟩;by_cases w:x<y
   .have:=mono w;grind
   .by_cases f:y<x
    .have:=mono f;grind
    .grind
  have A: [((b+sv lo*(e-b),h,some (b+sv hi*(e-b))):Bq)].any (Bl · (b+s*(e-b),0))=true↔(sv lo<s\/(sv lo=s/\h=1))/\s<sv hi:=by
   simp only[ABP,List.any_nil,ADc,Bl,ABJ,ABr,ADP,j,n];have:0<h+0↔h=1:=by have:=i.h01;omega
   rw[this]
  rw[A];constructor
  .intro z;have c:0<=s:=by have:=i.lo0;rcases z.1 with y|⟨y,_⟩ <;> grind
   have d:s<1:=by have:=i.hi1;have:=z.2;grind
   refine⟨?_, ?_,(i.sem s c d).mpr z⟩
   .have:=Rat.mul_nonneg c (show 0<=e-b by grind);grind
   .have:=mono d;grind
  .rintro ⟨t,u,o⟩;have c:0<=s:=by rw[<-ADh];intro w;have:=mono w;grind
   have d:s<1:=by have:=(j s 1).mp (by grind);exact this
   exact(i.sem s c d).mp o
def YI {b e:Rat}{N M W:Nat}{lns:km (Int×Int)}(ok:∀l∈lns,JV N W l)(p:b<e)(t:Bd M b)(u:Bd M e)(hM:M<=300)(hW:W<=1050)(hl:lns.length<=1000){Q:PV->Prop}(q:∀ss,dQ N lns b e (3*M+3*W+6) ss->Q (.lst (ss.map D7))):GY [.tup [fr b,fr e, .int N, .lst (lns.map Hy)]] Q:=by
 apply Wr;ac_rfl;refine EU Hy (λv vs τ=>∃lo hi h f g c,NI N (3*W+3) v lo hi h/\τ= [some (.val (.tup [fr b,fr e, .int N, .lst (lns.map Hy)])),some (.val (Hy lo)),some (.val (.int h)),some (.val (Hy hi)),some (.val (fr b)),some (.val (fr e)),some (.val (.int N)),some (.val (.lst (lns.map Hy))),f,g,c]) ?_ ?_ ⟨(0,1),(1,1),1,_,_,_,oR (by omega),rfl⟩
 .rintro τ ⟨lo,hi,h,f,g,c,i,rfl⟩;ac_rfl;refine Gf i.l i.r ?_;ac_rfl
  .rename_i k;refine q [] (SY (λs w B=> ?_) p);rw[i.sem s w B];rintro⟨x,y⟩;rcases x with x|⟨x,_⟩ <;> grind
  .rename_i k;refine KO i.l i.bl t u hM (by omega) ?_;ac_rfl;refine KO i.r i.br t u hM (by omega) ?_;ac_rfl;exact q _ (bi i p k t u (by omega))
 .rintro v l vs C τ R D ⟨lo,hi,h,f,g,c,i,rfl⟩;have o:=ok l (by rw[<-C];simp);have d:∀{lo hi h f g c},NI N (3*W+3) (v ++ [l]) lo hi h->R [some (.val (.tup [fr b,fr e, .int N, .lst (lns.map Hy)])),some (.val (Hy lo)),some (.val (.int h)),some (.val (Hy hi)),some (.val (fr b)),some (.val (fr e)),some (.val (.int N)),some (.val (.lst (lns.map Hy))),f,g,c] :=λ{lo hi h f g c} k=>D _ ⟨lo,hi,h,f,g,c,k,rfl⟩;ac_rfl;all_goals first | (exfalso;omega)|skip
  .rename_i j n;refine q [] (SY (λs w B z=> ?_) p);have z:=z l (by rw[<-C];simp);have E:(N:Rat)<=(l.1:Rat):=by rw[<-Ec];exact ACr.mpr j
   have F:(N:Rat)<=(l.2:Rat):=by rw[<-Ec];exact ACr.mpr n
   have y:lv l s=(1-s)*(l.1:Rat)+s*(l.2:Rat):=by unfold lv;grind
   have G:(1-s)*N<=(1-s)*(l.1:Rat):=ACs E (by grind);have H:s*N<=s*(l.2:Rat):=ACs F w;rw[y] at z;grind
  .rename_i j n m;obtain⟨a,_,_,_⟩:=NC o j (by omega);refine Gf a i.l ?_;ac_rfl
   .rename_i A;exact d (oQ i o j (by omega) A)
   .rename_i A;exact d (jt i o j (by omega) A)
  .rename_i j n m;obtain⟨a,_,_,_⟩:=Tz o (by omega) m;refine bT i.r a ?_;exact d (js i o (by omega) m)
  .rename_i j n m;exact d (sV i (by omega) m)
abbrev PU:AS:=
 (Ak (AN 1 Fe (AB (Eb (Mr (Hl (AN 3 Gb (AB (aV 0) (AB (aV 1) (AB (aV 2) AL))))) 2 [] (Ar 1) Dh (Hl (AN 1 GY (AB (aV 1) AL))) 1 (Ar 0) Dh (aV 0))) AL)))
def Ff:AF:=Av 3 PU
def Ui {a b c:PV}{Q:PV->Prop}(h:PU ⟨λ_=>Q .non,Q,λ_=>False,λ_=>False⟩ [some (.val a),some (.val b),some (.val c)]):Ff [a,b,c] Q:=h
def I0 {x:Rat}:absR x<1↔x<1/\ -x<1:=by unfold absR;split <;> grind
def eM {o:T3}:RU o<1↔absR o.1<1/\absR o.2.1<1/\absR o.2.2<1:=by
 unfold RU mx;repeat' split
 all_goals grind
def K1 {N:Nat}{u v s:Rat}(a:0<N)(h1:u.den ∣ N)(h2:v.den ∣ N):(lv (E7 N u,E7 N v) s<N↔u+s*(v-u)<1)/\(lv (-E7 N u, -E7 N v) s<N↔ -(u+s*(v-u))<1):=by
 have hn:=dO a;have b:lv (E7 N u,E7 N v) s=(u+s*(v-u))*N:=by unfold lv;show ((E7 N u:Int):Rat)+s*(((E7 N v:Int):Rat)-((E7 N u:Int):Rat))=_;rw[Il h1,Il h2];grind
 have c:lv (-E7 N u, -E7 N v) s= -(u+s*(v-u))*N:=by unfold lv;show ((-E7 N u:Int):Rat)+s*(((-E7 N v:Int):Rat)-((-E7 N u:Int):Rat))=_;rw[AEP,AEP,Il h1,Il h2];grind
 have key:∀x:Rat,x*N<N↔x<1:=λx=>by
  constructor
  .intro z;by_cases w:x<1
   .exact w
   .have:=Rat.mul_le_mul_of_nonneg_right (show 1<=x by grind) (show (0:Rat)<=N by grind);grind
  .intro z;have:=AEt z hn;grind
 rw[b,c,key,key];exact⟨Iff.rfl,Iff.rfl⟩
def Ux {W:Nat}{p:Pc}(a:Ea W p.o0)(h1:Ea W p.o1):0<p.N/\(∀x∈p.six,x.den ∣ p.N)/\p.N<2^(6*W+1):=Us 6 p.six rfl (iB a h1)
def Zk {W:Nat}{p:Pc}(r:Ea W p.o0)(h1:Ea W p.o1)(s:Rat):(∀l∈p.lns,lv l s<p.N)↔RU (lin p.o0 p.o1 s)<1:=by
 obtain⟨g,h,_⟩:=Ux r h1;have i:=h p.o0.1 (by simp[Pc.six]);have j:=h p.o0.2.1 (by simp[Pc.six]);have k:=h p.o0.2.2 (by simp[Pc.six]);have m:=h p.o1.1 (by simp[Pc.six]);have n:=h p.o1.2.1 (by simp[Pc.six]);have o:=h p.o1.2.2 (by simp[Pc.six]);rw[eM,I0,I0,I0];unfold Pc.lns lin;simp only[AAV,AAp,AAq,AEu,forall_eq];rw[(K1 g i m).1,(K1 g i m).2,(K1 g j n).1,(K1 g j n).2,(K1 g k o).1,(K1 g k o).2];constructor
 .rintro ⟨a,b,c,d,e,f⟩;exact⟨⟨a,b⟩,⟨c,d⟩,e,f⟩
 .rintro ⟨⟨a,b⟩,⟨c,d⟩,e,f⟩;exact⟨a,b,c,d,e,f⟩
def gw {N W:Nat}{r:Rat}(a:Bd W r)(hN:N<2^(6*W+1)):(E7 N r).natAbs<2^(W+(6*W+1)):=BR a.top (ZV hN)
def fW {W:Nat}{p:Pc}(b:Ea W p.o0)(h1:Ea W p.o1)(hW:W<=1200):∀l∈p.lns,JV p.N W l:=by
 obtain⟨d,a,c⟩:=Ux b h1;have one:∀{u v:Rat},Bd W u->Bd W v->u.den ∣ p.N->v.den ∣ p.N->JV p.N W (E7 p.N u,E7 p.N v)/\JV p.N W (-E7 p.N u, -E7 p.N v):=λ{u v} bu bv du a=>by
  have e:=gw bu c;have f:=gw bv c;have g:=Ax (n:=8848) c (by omega);refine⟨⟨Ax e (by omega),Ax f (by omega),g,d,u,v,bu,bv,Il du,Il a⟩,⟨Ax (by rw[ADS];exact e) (by omega),Ax (by rw[ADS];exact f) (by omega),g,d, -u, -v,bu.neg,bv.neg, ?_, ?_⟩⟩
  .show ((-E7 p.N u:Int):Rat)=_;rw[AEP,Il du];grind
  .show ((-E7 p.N v:Int):Rat)=_;rw[AEP,Il a];grind
 have h:=one b.x h1.x (a _ (by simp[Pc.six])) (a _ (by simp[Pc.six]));have i:=one b.y h1.y (a _ (by simp[Pc.six])) (a _ (by simp[Pc.six]));have j:=one b.z h1.z (a _ (by simp[Pc.six])) (a _ (by simp[Pc.six]));intro l hl;simp only[Pc.lns,AAV,AAp,AAq] at hl;rcases hl with rfl|rfl|rfl|rfl|rfl|rfl
 .exact h.1
 .exact h.2
 .exact i.1
 .exact i.2
 .exact j.1
 .exact j.2
def jw {p q a b:T3}{d:Rat×Rat}{s:Rat}:Eo (lin p q s) (lin a b s) d=lin (Eo p a d) (Eo q b d) s:=by
 unfold Eo lin;simp only[AED];congr 1
 .grind
 .congr 1 <;> grind
def Iv {ts:km Rat}(h:Q5 ts):∀p∈ts.zip ts.tail,p.1∈ts/\p.2∈ts/\p.1<p.2/\∀x∈ts,¬(p.1<x/\x<p.2):=by
 induction ts with
 | nil=>intro p hp;simp at hp
 | cons a r ih=>
   cases r with
   | nil=>intro p hp;simp at hp
   | cons b r=>
     have h1:=AAZ.mp h;intro p hp;simp only[AEv,AEw,AAV] at hp;rcases hp with rfl|hp
     .refine ⟨by simp,by simp,h1.1 b (by simp),λx hx z=> ?_⟩;rcases AAV.mp hx with rfl|hx
      .grind
      .rcases AAV.mp hx with rfl|hx
       .grind
       .have:=(AAZ.mp h1.2).1 x hx;grind
     .obtain ⟨c,d,e,f⟩:=ih h1.2 p hp;refine⟨by simp[c],by simp[d],e,λx hx z=> ?_⟩;rcases AAV.mp hx with rfl|hx
      .have:=h1.1 p.1 c;grind
      .exact f x hx z
theorem Su:∀{ts:km Rat} {m:Rat} {a z:Rat},Q5 ts->ts.head?=some a->ts.getLast?=some z->a<=m->m<z->∃p∈ts.zip ts.tail,p.1<=m/\m<p.2
 | [],_,_,_,_,h,_,_,_=>by cases h
 | [a],m,_,_,_,h1,h2,h3,h4=>by simp at h1 h2;subst h1 h2;grind
 | a::b::r,m,x,z,h,h1,h2,h3,h4=>by
   simp at h1;subst h1;by_cases k:m<b
   .exact ⟨(a,b),by simp,h3,k⟩
   .obtain ⟨p,hp,q⟩:=Su (m:=m) (a:=b) (z:=z) (AAZ.mp h).2 rfl (by simpa[AC3] using h2) (by grind) h4;exact⟨p,by simp only[AEv,AEw,AAV];exact .inr (by simpa using hp),q⟩
section
variable {cs ds:km C4}{d:Rat×Rat}{M W:Nat}
structure vU (cs ds:List C4) (d:Rat×Rat) (M W:Nat) (p:Pc):Prop where
 lt:p.b<p.e
 w0:Ea W p.o0
 w1:Ea W p.o1
 bb:Bd M p.b
 be:Bd M p.e
 lo:BH cs ds<=p.b
 hi:p.e<=BG cs ds
 at0:p.o0=FH cs ds d p.b
 at1:p.o1=FH cs ds d p.e
 lin:∀m,p.b<=m->m<=p.e->FH cs ds d m=lin p.o0 p.o1 ((m-p.b)/(p.e-p.b))
theorem E6.pc (D:E6 cs ds d M W):∀p∈KZ cs ds d,vU cs ds d M W p:=by
 intro p hp;unfold KZ at hp;by_cases h:BH cs ds<BG cs ds
 .rw [AAU h] at hp;have e:=D.tog h;have j:∀x∈MO cs ds,BH cs ds<=x/\x<=BG cs ds:=λx hx=>EZ h hx;have k:∀x∈MO cs ds,Bd M x:=λx hx=>Gs D.m1 D.m2 D.begB D.endB hx;have l:∀x∈MO cs ds,Ea W (FH cs ds d x):=D.w h;unfold OR at hp;obtain⟨q,hq,rfl⟩:=AAe.mp hp;obtain⟨f,g,i,s⟩:=Iv FX q hq;have a:=j _ f;have b:=j _ g;refine⟨i,l _ f,l _ g,k _ f,k _ g,a.1,b.2,rfl,rfl,λm m1 m2=> ?_⟩;have m1:q.1<=m:=m1;have m2:m<=q.2:=m2;have n:∀c,c∈cs\/c∈ds->¬(q.1<c.1/\c.1<q.2):=λc hc z=>by refine s c.1 (DC.mpr (.inr (.inr ⟨by grind,by grind,c,hc,rfl⟩))) z
  obtain⟨v,o⟩:=e.one q.1 a.1 a.2;obtain⟨y,r⟩:=e.one q.2 b.1 b.2;obtain⟨t1,f1⟩:=e.other q.1 a.1 a.2;obtain⟨t2,f2⟩:=e.other q.2 b.1 b.2;have t:=Sk D.r1 i m1 m2 (λc hc=>n c (.inl hc)) o r;have u:=Sk D.r2 i m1 m2 (λc hc=>n c (.inr hc)) f1 f2;show FH cs ds d m=PL.lin (FH cs ds d q.1) (FH cs ds d q.2) ((m-q.1)/(q.2-q.1));unfold FH;rw[t,u,o,r,f1,f2];exact jw
 .rw [AAS h] at hp;cases hp
theorem Oz (h:BH cs ds<BG cs ds):(MO cs ds).head?=some (BH cs ds):=by
 have b:BH cs ds∈MO cs ds:=DC.mpr (.inl rfl);have hs:Q5 (MO cs ds):=FX;have hi:∀x∈MO cs ds,BH cs ds<=x:=λx hx=>(EZ h hx).1;generalize MO cs ds=ts at *;cases ts with
 | nil=>cases b
 | cons a r=>
   rcases AAV.mp b with e|e
   .rw [e];rfl
   .have:=(AAZ.mp hs).1 _ e;have:=hi a (by simp);grind
theorem U7 (h:BH cs ds<BG cs ds):(MO cs ds).getLast?=some (BG cs ds):=by
 have b:BG cs ds∈MO cs ds:=DC.mpr (.inr (.inl rfl));have hs:Q5 (MO cs ds):=FX;have hi:∀x∈MO cs ds,x<=BG cs ds:=λx hx=>(EZ h hx).2;generalize MO cs ds=ts at *;obtain⟨l,a⟩:∃l,ts.getLast?=some l:=⟨_,AC2 (by intro z;subst z;cases b)⟩;rw[a];have f:=hi l (ABf a);obtain⟨i,c,e⟩:=AEe.mp b;rw[AFD] at a;obtain⟨hl,a⟩:=AAy.mp a;by_cases k:i=ts.length-1
 .subst k;rw[<-e,<-a]
 .have:=AEm.mp hs i (ts.length-1) c hl (by omega);rw[e,a] at this;grind
theorem E6.cover (D:E6 cs ds d M W){m:Rat}(h1:BH cs ds<=m)(h2:m<BG cs ds):∃p∈KZ cs ds d,p.b<=m/\m<p.e:=by
 have h:BH cs ds<BG cs ds:=by grind
 unfold KZ;rw[AAU h];obtain⟨p,hp,k⟩:=Su FX (Oz h) (U7 h) h1 h2;exact⟨_,AAe.mpr ⟨p,hp,rfl⟩,k⟩
def BI (cs ds:km C4)(d:Rat×Rat)(m:Rat):Prop:=BH cs ds<=m/\m<BG cs ds/\RU (FH cs ds d m)<1
instance {m:Rat}:Decidable (BI cs ds d m):=by unfold BI;infer_instance
theorem E6.near_iff (D:E6 cs ds d M W){m:Rat}:(∃p∈KZ cs ds d,Zn p.N p.lns p.b p.e m)↔BI cs ds d m:=by
 constructor
 .rintro ⟨p,hp,h1,h2,a⟩;have o:=D.pc p hp;have lo:=o.lo;have hi:=o.hi;rw[Zk o.w0 o.w1,<-o.lin m h1 (by grind)] at a;exact⟨by grind,by grind,a⟩
 .rintro ⟨h1,h2,a⟩;obtain⟨p,hp,c,f⟩:=D.cover h1 h2;have o:=D.pc p hp;refine⟨p,hp,c,f, ?_⟩;rw[Zk o.w0 o.w1,<-o.lin m c (by grind)];exact a
theorem Oo (D:E6 cs ds d M W):(KZ cs ds d).length<=201:=by
 have h1:=D.f1;have h2:=D.f2;unfold KZ;split
 .rw [UY];have:=JL (cs:=cs) (ds:=ds) (b:=BH cs ds) (e:=BG cs ds);unfold MO;omega
 .simp
structure dP (cs ds:List C4) (d:Rat×Rat) (B:Nat) (ss:List Bq):Prop where
 few:ss.length<=201
 ok:∀s∈ss,Ct B s
 fin:∀s∈ss,∃x,s.2.2=some x
 sem:∀m,ss.any (Bl · (m,0))=true↔BI cs ds d m
 pf:ss.length<=(KZ cs ds d).length
theorem Zl {p:Pc}:p.lns.length=6:=rfl
theorem W9 (D:E6 cs ds d M W){v w u:PV}(hv:CP cs v)(hw:CP ds w)(hu:XN d u){Q:PV->Prop}(q:∀ss,dP cs ds d (3*M+3*W+6) ss->Q (.tup ((canon 1 ss).map D7))):Ff [v,w,u] Q:=by
 have hM:=D.hM;have hW:=D.hW;have j:=Oo D;apply Ui;ac_rfl;refine Sa D hv hw hu ?_;ac_rfl;refine Pt (λr a=>∃c rs ss,c++rs=KZ cs ds d/\r=rs.map qN/\a=ss.map D7/\ss.length<=c.length/\(∀s∈ss,Ct (3*M+3*W+6) s)/\(∀s∈ss,∃x,s.2.2=some x)/\∀m,ss.any (Bl · (m,0))=true↔∃p∈c,Zn p.N p.lns p.b p.e m) ?_ ?_ _ _ ⟨[],_, [],rfl,rfl,rfl,by simp,by simp,by simp,by simp⟩
 .rintro a ⟨c,rs,ss,e,f,rfl,h1,h2,h,i⟩;have:rs= [] :=by cases rs with | nil=>rfl|cons _ _=>cases f
  subst this;rw[ABb] at e;subst e;ac_rfl;refine W8 (.inr rfl) (cO ss) h2 (by omega) (by omega) ?_;exact q ss ⟨by omega,h2,h,λm=>by rw[i,D.near_iff],h1⟩
 .rintro y r a R k ⟨c,rs,ss,e,f,rfl,h1,h2,h,i⟩;cases rs with
  | nil=>cases f
  | cons p rs=>
    cases f;have l:p∈KZ cs ds d:=by rw[<-e];simp
    have ul:c.length+1<=201:=by rw[<-e] at j;simp at j;omega
    have o:=D.pc p l;repeat' array_get_dec
    refine YI (fW o.w0 o.w1 (by omega)) o.lt o.bb o.be (by omega) hW (by rw[Zl];decide) λn g=> ?_;have t:=g.few;repeat' array_get_dec
    refine Xj _ _ (k _ ⟨c ++ [p],rs,ss++n,by simpa using e,rfl,by rw[AAk],by simp;omega,λs hs=> ?_,λs hs=> ?_,λm=> ?_⟩)
    .rcases AAj.mp hs with hs|hs
     .exact h2 s hs
     .exact g.ok s hs
    .rcases AAj.mp hs with hs|hs
     .exact h s hs
     .exact g.fin s hs
    .rw [AEQ,ABr,i,g.sem];constructor
     .rintro (⟨x,hx,z⟩|z)
      .exact ⟨x,by simp[hx],z⟩
      .exact ⟨p,by simp,z⟩
     .rintro ⟨x,hx,z⟩;rcases AAj.mp hx with hx|hx
      .exact .inl ⟨x,hx,z⟩
      .simp at hx;subst hx;exact .inr z
end
def Ee {a b:Rat}(c:b≠0)(ha:Bd 8000 a)(hb:Bd 500 b){Q:PV->Prop}(h:Q (fr (a/b))):CB [fr a,fr b] Q:=by refine⟨MulOk.of ha.top hb.botI,MulOk.of ha.botI hb.top,rfl,CH _ _ (Cv (BZ a) (UJ c)) (Ax (BR ha.top hb.botI) (by omega)) (Ax (BR ha.botI hb.top) (by omega)) ?_⟩;rw[G8] at h;exact h
def E9 {a b:Rat}(ha:Bd 8000 a)(hb:Bd 8000 b){Q:PV->Prop}(h:Q (.bl (decide (a<b)))):Vj [fr a,fr b] Q:=by refine⟨MulOk.of ha.top hb.botI,MulOk.of hb.top ha.botI, ?_⟩;rw[<-mH] at h;exact h
def WK {B M:Nat}(X:M+6*B+10<=3900){a l n w:C4}{r r2:km C4}{d:Rat×Rat}{m:Rat}(hc:∀c∈a::r,EF B c)(C:∀c∈n::r2,EF B c)(G:KF (a::r))(H:KF (n::r2))(Y:r≠ [])(Z:r2≠ [])(hl:(a::r).length<=100)(wE:(n::r2).length<=100)(I:(a::r).getLast?=some l)(A:(n::r2).getLast?=some w)(bm:Bd M m)(b1:Bd 100 d.1)(b2:Bd 100 d.2)(p1:d.1≠0)(p2:d.2≠0){Q:PV->Prop}(q:Q (nU (ay a l n w (a::r) (n::r2) d m))):Fa [An (a::r),An (n::r2), .tup [fr d.1,fr d.2],fr m, .bl false] Q:=by
 have ba:=(hc a (by simp)).m;have bl:=(hc l (ABf I)).m;have ba2:=(C n (by simp)).m;have bl2:=(C w (ABf A)).m;have D:¬ED a l n w m->Q .non:=λh=>by unfold ay at q;rw[AAS h] at q;exact q
 apply Ue;ac_rfl
 .exact D λz=>by unfold ED at z;grind
 .exact D λz=>by unfold ED at z;grind
 .exact D λz=>by unfold ED at z;grind
 .exact D λz=>by unfold ED at z;grind
 rename_i J K L k4;have E:ED a l n w m:=by unfold ED;exact⟨⟨by grind,by grind⟩,by grind,by grind⟩
 have N:a.1<=m/\m<=l.1:=by unfold ED at E;exact⟨by grind,by grind⟩
 have O:n.1<=m/\m<=w.1:=by unfold ED at E;exact⟨by grind,by grind⟩
 obtain⟨i,p⟩:=HS Y I N.1 N.2;obtain⟨j,s⟩:=HS Z A O.1 O.2;have t1:=Ea.spotC bm G hc i p;have t2:=Ea.spotC bm H C j s;unfold ay at q;rw[AAU E,p,s] at q;have q:Q (fr (RU (Eo i j d))):=q;have x1:=t1.x;have x2:=t1.y;have x3:=t1.z;have y1:=t2.x;have y2:=t2.y;have y3:=t2.z;have P:=x1.sub y1;have R:=x2.sub y2;have T:=x3.sub y3;have U:Bd 8000 (absR (Eo i j d).1):=((P.div p1 b1).absR).mono (by omega);have W:Bd 8000 (absR (Eo i j d).2.1):=((R.div p1 b1).absR).mono (by omega);have o3:Bd 8000 (absR (Eo i j d).2.2):=((T.div p2 b2).absR).mono (by omega);have m0:Bd 8000 (0:Rat):=qG.mono (by omega);have m1:=m0.mx U;have m2:=m1.mx W;refine Ck hc G (by simp) (by omega) bm (by omega) ?_;rw[p,show Ho (some i)= .tup [fr i.1,fr i.2.1,fr i.2.2] from rfl];ac_rfl;refine Ck C H (by simp) (by omega) bm (by omega) ?_;rw[s,show Ho (some j)= .tup [fr j.1,fr j.2.1,fr j.2.2] from rfl];ac_rfl;rw[show rng 0 (Int.toNat 3)= [.int 0, .int 1, .int 2] from rfl];unfold RU at q;have st:∀{F:km PV} {g o:Rat} {τ:ke AV->Rat->ke AV->BN} (k:∀b f g',g'=mx g (absR o)->DG (Ar 6) CF {nx:=Ak (aV 5) {nx:=λx=>Q PV.non,rt:=Q,bk:=λx=>False,ct:=λx=>False},rt:=Q,bk:=λx=>False,ct:=λx=>False} F (τ b g' f)),
  (g<absR o->∀b f,DG (Ar 6) CF {nx:=Ak (aV 5) {nx:=λx=>Q PV.non,rt:=Q,bk:=λx=>False,ct:=λx=>False},rt:=Q,bk:=λx=>False,ct:=λx=>False} F (τ b (absR o) f))/\(¬g<absR o->∀b f,DG (Ar 6) CF {nx:=Ak (aV 5) {nx:=λx=>Q PV.non,rt:=Q,bk:=λx=>False,ct:=λx=>False},rt:=Q,bk:=λx=>False,ct:=λx=>False} F (τ b g f)):=λk=>
  ⟨λh b f=>k b f _ (by unfold mx;rw[AAU h]),λh b f=>k b f _ (by unfold mx;rw[AAS h])⟩
 have d0:(if decide ((0:Int)=2)=true then (1:Int) else 0)=0:=rfl;have d1:(if decide ((1:Int)=2)=true then (1:Int) else 0)=0:=rfl;have d2:(if decide ((2:Int)=2)=true then (1:Int) else 0)=1:=rfl;generalize An (a::r)=P1 at *;generalize An (n::r2)=P2 at *;let S:ke AV->Rat->ke AV->BN:=λb g f=> [some (.val P1),some (.val P2),some (.val (.tup [fr d.1,fr d.2])),some (.val (fr m)),some (.val (.bl false)),some (.val (fr g)),b,some (.val (.tup [fr i.1,fr i.2.1,fr i.2.2])),some (.val (.tup [fr j.1,fr j.2.1,fr j.2.2])),f];have L:∀b f g,g=mx (mx (mx 0 (absR (Eo i j d).1)) (absR (Eo i j d).2.1)) (absR (Eo i j d).2.2)->DG (Ar 6) CF {nx:=Ak (aV 5) {nx:=λx=>Q PV.non,rt:=Q,bk:=λx=>False,ct:=λx=>False},rt:=Q,bk:=λx=>False,ct:=λx=>False} [] (S b g f):=by intro b f g e;subst e;dsimp only[S];ac_rfl;exact q
 have t:Bd 8000 (absR ((i.1-j.1)/d.1)):=U;have u:Bd 8000 (absR ((i.2.1-j.2.1)/d.1)):=W;have v:Bd 8000 (absR ((i.2.2-j.2.2)/d.2)):=o3;have K:∀b f g,g=mx (mx 0 (absR (Eo i j d).1)) (absR (Eo i j d).2.1)->DG (Ar 6) CF {nx:=Ak (aV 5) {nx:=λx=>Q PV.non,rt:=Q,bk:=λx=>False,ct:=λx=>False},rt:=Q,bk:=λx=>False,ct:=λx=>False} [.int 2] (S b g f):=by
  intro b f g e;subst e;obtain⟨t1,t2⟩:=st L;dsimp only[S] at t1 t2 ⊢;refine qw.go ?_;ac_rfl;rw[d2];ac_rfl;refine Ee p2 (T.mono (by omega)) (b2.mono (by omega)) ?_;ac_rfl;rw[Mt];refine E9 (by first | exact m0|exact m1|exact m2) (by first | exact t|exact u|exact v) ?_;ac_rfl
  .rename_i h;rw[Mt];first | exact t1 h none none|exact t1 h _ _
  .rename_i h;first | exact t2 h none none|exact t2 h _ _
 have J:∀b f g,g=mx 0 (absR (Eo i j d).1)->DG (Ar 6) CF {nx:=Ak (aV 5) {nx:=λx=>Q PV.non,rt:=Q,bk:=λx=>False,ct:=λx=>False},rt:=Q,bk:=λx=>False,ct:=λx=>False} [.int 1, .int 2] (S b g f):=by
  intro b f g e;subst e;obtain⟨t1,t2⟩:=st K;dsimp only[S] at t1 t2 ⊢;refine qw.go ?_;ac_rfl;rw[d1];ac_rfl;refine Ee p1 (R.mono (by omega)) (b1.mono (by omega)) ?_;ac_rfl;rw[Mt];refine E9 (by first | exact m0|exact m1|exact m2) (by first | exact t|exact u|exact v) ?_;ac_rfl
  .rename_i h;rw[Mt];first | exact t1 h none none|exact t1 h _ _
  .rename_i h;first | exact t2 h none none|exact t2 h _ _
 have k0:∀b f g,g=0->DG (Ar 6) CF {nx:=Ak (aV 5) {nx:=λx=>Q PV.non,rt:=Q,bk:=λx=>False,ct:=λx=>False},rt:=Q,bk:=λx=>False,ct:=λx=>False} [.int 0, .int 1, .int 2] (S b g f):=by
  intro b f g e;subst e;obtain⟨t1,t2⟩:=st J;dsimp only[S] at t1 t2 ⊢;refine qw.go ?_;ac_rfl;rw[d0];ac_rfl;refine Ee p1 (P.mono (by omega)) (b1.mono (by omega)) ?_;ac_rfl;rw[Mt];refine E9 (by first | exact m0|exact m1|exact m2) (by first | exact t|exact u|exact v) ?_;ac_rfl
  .rename_i h;rw[Mt];first | exact t1 h none none|exact t1 h _ _
  .rename_i h;first | exact t2 h none none|exact t2 h _ _
 exact k0 _ _ 0 rfl
abbrev Md:AS:=
 (AZ (As (Vo (DD EJ (AB (Eb (CA (Hl (aV 1)) 1 [2] (Ar 0) (Ag (AN 2 Am (AB (aV 0) (AB (aV 1) AL)))) (aV 0))) AL))) (Ar 3))
   (BD (Vp (DI (Ag (AX GM (aV 3) (DD EJ (AB (aV 1) AL)))) (Ag (AX Lh (AX Ai (aV 1) (aV 3)) (aV 2))))) (FG 1 fZ (AB (aV 3) (AB (aV 2) AL))) Ay))
abbrev Me:AS:=
 (AZ (FO (Hl (aV 0)) (Ar 2) Md)
   (Ak (aV 1)))
abbrev Jc:AS:=
 (AZ (KG (DQ AL) 1)
   Me)
def DA:AF:=Av 4 Jc
def OV {a:PV}{Q:PV->Prop}(h:Jc ⟨λ_=>Q .non,Q,λ_=>False,λ_=>False⟩ [some (.val a),none,none,none]):DA [a] Q:=h
abbrev Jb:AS:=
 (Ak (AN 2 BU (AB (AN 2 B6 (AB (aV 0) (AB (aV 1) AL))) (AB (A1 (AB (aC (.int 1)) (AB (aC (.int 2)) AL))) AL))))
def Dr:AF:=Av 2 Jb
def OU {a b:PV}{Q:PV->Prop}(h:Jb ⟨λ_=>Q .non,Q,λ_=>False,λ_=>False⟩ [some (.val a),some (.val b)]):Dr [a,b] Q:=h
abbrev OB:AS:=
 (AZ (As (Eb (CA (Hl (AX BQ (aV 0) (aV 1))) 1 [2,3] (Ar 0) (Hk (Ag (AN 2 Am (AB (aV 1) (AB (AX Ai (aV 0) (aC (.int 0))) AL)))) (Ag (AN 2 Am (AB (AX Ai (aV 0) (aC (.int 0))) (AB (aV 2) AL))))) (AX Ai (aV 0) (aC (.int 0))))) (Ar 4))
   (Ak (AN 1 DA (AB (AX BQ (Eb (DQ (AB (aV 2) (AB (aV 3) AL)))) (aV 4)) AL))))
abbrev E8:AS:=
 (AZ (BD (Bc (Ag (AN 2 Am (AB (aV 2) (AB (aV 3) AL))))) (Ak (Eb (DQ AL))) Ay)
   OB)
abbrev Hd:AS:=
 (AZ (As (ib (Ag (AN 2 Am (AB (AX Ai (AX Ai (aV 0) (LZ El (aC (.int 1)))) (aC (.int 0))) (AB (AX Ai (AX Ai (aV 1) (LZ El (aC (.int 1)))) (aC (.int 0))) AL)))) (AX Ai (AX Ai (aV 0) (LZ El (aC (.int 1)))) (aC (.int 0))) (AX Ai (AX Ai (aV 1) (LZ El (aC (.int 1)))) (aC (.int 0)))) (Ar 3))
   E8)
abbrev Gu:AS:=
 (AZ (As (ib (Ag (AN 2 Am (AB (AX Ai (AX Ai (aV 1) (aC (.int 0))) (aC (.int 0))) (AB (AX Ai (AX Ai (aV 0) (aC (.int 0))) (aC (.int 0))) AL)))) (AX Ai (AX Ai (aV 0) (aC (.int 0))) (aC (.int 0))) (AX Ai (AX Ai (aV 1) (aC (.int 0))) (aC (.int 0)))) (Ar 2))
   Hd)
def CW:AF:=Av 5 Gu
def Qf {a b:PV}{Q:PV->Prop}(h:Gu ⟨λ_=>Q .non,Q,λ_=>False,λ_=>False⟩ [some (.val a),some (.val b),none,none,none]):CW [a,b] Q:=h
abbrev O8:AS:=
 (AZ (As (Eb (CA (RM (AB (aC (.int 3)) AL)) 1 [2,5,6] (Ar 0) Dh (AN 2 CB (AB (AN 2 Bh (AB (AX Ai (aV 2) (aV 0)) (AB (AX Ai (aV 3) (aV 0)) AL))) (AB (AX Ai (aV 1) (DD RT (AB (AX GM (aV 0) (aC (.int 2))) AL))) AL))))) (Ar 4))
   (Ak (AX BQ (aV 4) (Eb (CA (Hl (aV 4)) 1 [] (Ar 0) Dh (A1 (AB (LZ El (AX Ai (aV 0) (aC (.int 0)))) (AB (AX Ai (aV 0) (aC (.int 1))) AL))))))))
abbrev Nh:AS:=
 (AZ (As (A1 (AB (AN 2 DO (AB (aV 0) (AB (aV 3) AL))) (AB (AN 2 DO (AB (aV 1) (AB (aV 3) AL))) AL))) (IM 2 (Ae (Ar 5) (Ae (Ar 6) Bu))))
   O8)
def Co:AF:=Av 7 Nh
def Jm {a b c d:PV}{Q:PV->Prop}(h:Nh ⟨λ_=>Q .non,Q,λ_=>False,λ_=>False⟩ [some (.val a),some (.val b),some (.val c),some (.val d),none,none,none]):Co [a,b,c,d] Q:=h
abbrev N5:AS:=
 (AZ (As (AN 2 CB (AB (aV 0) (AB (AN 2 Bh (AB (aV 0) (AB (aV 1) AL))) AL))) (Ar 4))
   (Ak (AN 2 B6 (AB (aV 2) (AB (AN 2 BU (AB (aV 4) (AB (AN 2 Bh (AB (aV 3) (AB (aV 2) AL))) AL))) AL)))))
abbrev LG:AS:=
 (AZ (BD (Ag (AX lc (AX DY (AX Ai (aV 0) (aC (.int 0))) (AX Ai (aV 1) (aC (.int 0)))) (aC (.int 0)))) (Ak (aC .non)) Ay)
   N5)
def EN:AF:=Av 5 LG
def Qc {a b c d:PV}{Q:PV->Prop}(h:LG ⟨λ_=>Q .non,Q,λ_=>False,λ_=>False⟩ [some (.val a),some (.val b),some (.val c),some (.val d),none]):EN [a,b,c,d] Q:=h
abbrev Jo:AS:=
 (AZ (As (AN 4 EN (AB (AN 2 Bh (AB (aV 9) (AB (A1 (AB (aC (.int 1)) (AB (aC (.int 1)) AL))) AL))) (AB (AN 2 Bh (AB (aV 10) (AB (A1 (AB (aC (.int 1)) (AB (aC (.int 1)) AL))) AL))) (AB (aV 5) (AB (aV 6) AL))))) (Ar 11))
   (BD (Ag (AX Nm (aV 11) (aC .non))) (FG 4 Lw (AB (aV 11) AL)) Ay))
abbrev Jp:AS:=
 (AZ (RL 7 8 (AB (AN 4 Co (AB (aV 0) (AB (aV 1) (AB (aV 2) (AB (aV 5) AL))))) (AB (AN 4 Co (AB (aV 0) (AB (aV 1) (AB (aV 2) (AB (aV 6) AL))))) AL)))
   (FO (nD (AB (aV 7) (AB (aV 8) AL))) (IM 2 (Ae (Ar 9) (Ae (Ar 10) Bu))) Jo))
abbrev Jr:AS:=
 (AZ (FO (nD (AB (aV 3) (AB (XF (aV 3) (XH (aC (.int 1))) XG) AL))) (IM 2 (Ae (Ar 5) (Ae (Ar 6) Bu))) Jp)
   (Ak (AN 1 DA (AB (aV 4) AL))))
abbrev Jq:AS:=
 (AZ (KG (dZ (AB (aV 3) AL)) 4)
   Jr)
abbrev HY:AS:=
 (AZ (As (AN 2 CW (AB (aV 0) (AB (aV 1) AL))) (Ar 3))
   Jq)
def C5:AF:=Av 12 HY
def L9 {a b c:PV}{Q:PV->Prop}(h:HY ⟨λ_=>Q .non,Q,λ_=>False,λ_=>False⟩ [some (.val a),some (.val b),some (.val c),none,none,none,none,none,none,none,none,none]):C5 [a,b,c] Q:=h
abbrev IA:AS:=
 (AZ (As (AN 5 Fa (AB (aV 0) (AB (aV 1) (AB (aV 2) (AB (aV 3) (AB (aC (.bl false)) AL)))))) (Ar 4))
   (Ak (Tg (AX Nm (aV 4) (aC .non)) (AX ZU (AX Ai (aV 4) (aC (.int 0))) (AX Ai (aV 4) (aC (.int 1)))))))
def CG:AF:=Av 5 IA
def NL {a b c d:PV}{Q:PV->Prop}(h:IA ⟨λ_=>Q .non,Q,λ_=>False,λ_=>False⟩ [some (.val a),some (.val b),some (.val c),some (.val d),none]):CG [a,b,c,d] Q:=h
def Jj {v:PV}{ms:km Rat}{B:Nat}(hv:v= .lst (ms.map fr))(o:B<=4000)(hl:ms.length<=10000)(hb:∀m∈ms,Bd B m){Q:PV->Prop}(q:Q (.lst ((Cw ms).map fr))):DA [v] Q:=by
 subst hv;apply OV;ac_rfl;refine EU fr (λa vs τ=>∃(b c:ke AV),τ= [some (.val (.lst (ms.map fr))),some (.own ((Cw a).map fr)),b,c]) ?_ ?_ ⟨_,_,rfl⟩
 .rintro τ ⟨b,c,rfl⟩;ac_rfl;exact q
 .rintro a m vs e τ R l ⟨b,c,rfl⟩;have ul:a.length<=10000:=by rw[<-e] at hl;simp at hl;omega
  have p:=Fl (xs:=a);have bm:=hb m (by rw[<-e];simp);have n:∀x∈Cw a,Bd B x:=λx hx=>hb x (by rw[<-e];simp[Bn.mp hx]);have hs:Q5 (Cw a):=Bz;have f:∀(k:km Rat) b c,k=ins (Cw a) m->R [some (.val (.lst (ms.map fr))),some (.own (k.map fr)),b,c] :=λk b c h=>l _ ⟨b,c,by rw[h,show Cw (a ++ [m])=ins (Cw a) m by unfold Cw;rw[ADe];rfl]⟩;clear l;generalize Cw a=rs at *;ac_rfl;refine D5 fr fr (λx=>decide (x<m)) (Bd B) (λx r R N h1 h2=> ?_) rs [] n ?_
  .ac_rfl
   .rename_i z;exact h1 (AAi z)
   .rename_i z;exact h2 (AAr z)
  have s:(rs.filter λx=>decide (x<m)).length<=rs.length:=ACq _ _;have i:=Xd hs (R6 (x:=m) hs);rw[ABG];generalize (rs.filter λx=>decide (x<m))=fs at *;ac_rfl
  .rename_i h1;have j:rs[fs.length]? =none:=AFI (by omega);rw[j,AAS (by simp)] at i;have:=f _ (some (.val (fr m))) (some (.val (.int fs.length))) i.symm;rw[AAk,AAc,ADX,ACn] at this;exact this
  .rename_i h1 d j _ h2;have g:rs[fs.length]? =some d:=j;rw[g,AAS (by simpa using h2)] at i;have:=f _ (some (.val (fr m))) (some (.val (.int fs.length))) i.symm;rw[AAk,AAc,ADX,ACn] at this;exact this
  .rename_i h1 d j _ h2;have g:rs[fs.length]? =some d:=j;rw[g,AAU (by rw[h2])] at i;exact f _ _ _ i.symm
def Ra {a b:Rat}(c:Bd 3900 a)(d:Bd 3900 b)(hb:Bd 4000 (a+b)){Q:PV->Prop}(q:Q (fr ((a+b)*(1/2)))):Dr [fr a,fr b] Q:=by have e:Bd 8 (1/2:Rat):=y7;apply OU;ac_rfl;exact q
def sS {a b:Rat}(h:b<a):a=mx a b:=by unfold mx;split <;> grind
def sT {a b:Rat}(h:¬b<a):b=mx a b:=by unfold mx;split <;> grind
def sP {a b:Rat}(h:a<b):a=mn a b:=by unfold mn;split <;> grind
def sQ {a b:Rat}(h:¬a<b):b=mn a b:=by unfold mn;split <;> grind
def MN (cs ds:km C4):km Rat:=if BH cs ds<BG cs ds then MO cs ds else []
def EV {cs ds:km C4}{d:Rat×Rat}{M W:Nat}(D:E6 cs ds d M W){Q:PV->Prop}(q:Q (.lst ((MN cs ds).map fr))):CW [An cs,An ds] Q:=by
 have w:=D.fstB;have A:=D.fstB2;have C:=D.lstB;have E:=D.lstB2;have j:=D.begB;have k:=D.endB;have hM:=D.hM;have f1:=D.f1;have f2:=D.f2;have hc:∀c∈cs++ds,Bd M c.1:=λc hc=>by
  rcases AAj.mp hc with h|h
  .exact D.m1 c h
  .exact D.m2 c h
 unfold MN MO EE BH BG at q;unfold BH at j;unfold BG at k;obtain⟨a,r,l,b,I,F⟩:=open2 D.t1;obtain⟨m,r2,p,e,J,n⟩:=open2 D.t2;have i:cs.getLast?=some l:=by rw[b];exact F
 have g:ds.getLast?=some p:=by rw[e];exact n
 rw[CO i,CO g] at q k;rw[show To cs=a.1 by rw[b];rfl,show To ds=m.1 by rw[e];rfl] at q j;rw[CO i] at C;rw[CO g] at E;rw[show To cs=a.1 by rw[b];rfl] at w;rw[show To ds=m.1 by rw[e];rfl] at A;have s:∀{Q:PV->Prop},Q (cor a)->Ai (An cs) (.int 0) Q:=λh=>by rw[b];exact gv h
 have u:∀{Q:PV->Prop},Q (cor m)->Ai (An ds) (.int 0) Q:=λh=>by rw[e];exact gv h
 have rest:∀{f t:Rat} {v:ke AV},f=mx a.1 m.1->t=mn l.1 p.1->E8 ⟨λ_=>Q .non,Q,λ_=>False,λ_=>False⟩ [some (.val (An cs)),some (.val (An ds)),some (.val (fr f)),some (.val (fr t)),v] :=by
  rintro f t v G H;rw[<-G] at q j;rw[<-H] at q k;ac_rfl
  .rename_i z;rw[AAS z] at q;exact q
  .rename_i z;rw[AAU z] at q;refine D5 cor (λc=>fr c.1) (Mw f t) (λc=>Bd M c.1) (λc K R N h1 h2=> ?_) (cs++ds) [] hc ?_
   .ac_rfl
    .rename_i y1 y2;exact h1 (by unfold Mw;rw[AAi y1,AAi y2];rfl)
    .rename_i y1 y2;exact h2 (by unfold Mw;rw[AAi y1,AAr y2];rfl)
    .rename_i y1;exact h2 (by unfold Mw;rw[AAr y1];rfl)
   rw[ABG];have o:=ACq (Mw f t) (cs++ds);rw[AA8] at o;ac_rfl;refine Jj (ms:= [f,t] ++ (cs.filter (Mw f t)++ds.filter (Mw f t)).map (·.1)) (B:=M) ?_ (by omega) ?_ ?_ q
   .rw [<-AEx,AAk,ACX];rfl
   .rw [<-AEx];simp only[AA8,AAb,AAv,ADZ];omega
   .intro x hx;rcases AAj.mp hx with hx|hx
    .simp only[AAV,AAp,AAq] at hx;rcases hx with rfl|rfl
     .exact j
     .exact k
    .obtain ⟨c,h,rfl⟩:=AAe.mp hx;rw[<-AEx] at h;exact hc c (ACN.mp h).1
 apply Qf;unfold Gu Hd;generalize E8=T at rest ⊢;clear q;ac_rfl;refine u ?_;ac_rfl;refine s ?_;ac_rfl
 .rename_i z;refine s ?_;ac_rfl
  .rename_i y;exact rest (sS z) (sP y)
  .rename_i y;exact rest (sS z) (sQ y)
 .rename_i z;refine u ?_;ac_rfl
  .rename_i y;exact rest (sT z) (sP y)
  .rename_i y;exact rest (sT z) (sQ y)
def mQ (i:Int):0<=i*i:=by
 rcases Int.le_total 0 i with h|h
 .exact AEy h h
 .exact AFK h h
def Nc {cs ds:km C4}(h:BH cs ds<BG cs ds):MN cs ds=MO cs ds:=AAU h
def Oj (o:T3):km Rat:= [o.1,o.2.1,o.2.2, -o.1, -o.2.1, -o.2.2]
def Nu {cs ds:km C4}{d:Rat×Rat}{M W:Nat}(D:E6 cs ds d M W){b e m:Rat}(c:qF cs ds b e)(h1:b<=m)(h2:m<=e)(bm:Bd M m){Q:PV->Prop}(q:Q (.lst ((Oj (FH cs ds d m)).map fr))):Co [An cs,An ds, .tup [fr d.1,fr d.2],fr m] Q:=by
 have hM:=D.hM;obtain⟨s,es⟩:=c.one m h1 h2;obtain⟨t,a⟩:=c.other m h1 h2;have t1:=(Ea.spotC bm D.r1 D.c1 s es).mono (B':=1060) (by omega);have t2:=(Ea.spotC bm D.r2 D.c2 t a).mono (B':=1060) (by omega);have f:=t1.x;have g:=t1.y;have h:=t1.z;have y1:=t2.x;have y2:=t2.y;have y3:=t2.z;have k:=f.sub y1;have l:=g.sub y2;have n:=h.sub y3;have b1:=D.b1;have b2:=D.b2;have o:d.1≠0:=by have:=D.p1;grind
 have p:d.2≠0:=by have:=D.p2;grind
 have f1:=D.f1;have f2:=D.f2;have i:=D.t1;have j:=D.t2;apply Jm;ac_rfl;refine Ck D.c1 D.r1 (by intro z;subst z;simp at i) (by omega) bm (by omega) ?_;rw[es,show Ho (some s)= .tup [fr s.1,fr s.2.1,fr s.2.2] from rfl];ac_rfl;refine Ck D.c2 D.r2 (by intro z;subst z;simp at j) (by omega) bm (by omega) ?_;rw[a,show Ho (some t)= .tup [fr t.1,fr t.2.1,fr t.2.2] from rfl];ac_rfl;rw[show rng 0 (Int.toNat 3)= [.int 0, .int 1, .int 2] from rfl];repeat' array_get_dec
 rw[show (if decide ((0:Int)=2)=true then (1:Int) else 0)=0 from rfl];repeat' array_get_dec
 rw[show (if decide ((1:Int)=2)=true then (1:Int) else 0)=0 from rfl];repeat' array_get_dec
 rw[show (if decide ((2:Int)=2)=true then (1:Int) else 0)=1 from rfl];repeat' array_get_dec
 have q:Q (.lst ((Oj (Eo ((spotC cs m).getD (0,0,0)) ((spotC ds m).getD (0,0,0)) d)).map fr)):=q;rw[es,a] at q;exact q
def Cz (u v b e:Rat):ke Rat:=if 0<=u.num*v.num then none else some (b+u/(u-v)*(e-b))
def UD {u v b e:Rat}{W M:Nat}(a:Bd W u)(c:Bd W v)(d:Bd M b)(f:Bd M e)(hW:W<=1100)(hM:M<=150){Q:PV->Prop}(q:Q (av (Cz u v b e))):EN [fr u,fr v,fr b,fr e] Q:=by
 apply Qc;ac_rfl;refine⟨MulOk.of (m:=1100) (n:=1100) (Ax a.top hW) (Ax c.top hW), ?_⟩;ac_rfl
 .rename_i z;unfold Cz at q;rw[AAU z] at q;exact q
 .rename_i z;unfold Cz at q;rw[AAS z] at q;have g:u-v≠0:=λy=>by
   have:u=v:=by grind
   subst this;exact z (mQ _)
  have h:=a.sub c;have i:=a.div g h;have j:=f.sub d;have k:=i.mul j;ac_rfl;exact q
def G6 (p:Pc):km Rat:=((Oj p.o0).zip (Oj p.o1)).filterMap λx=>Cz (x.1-1) (x.2-1) p.b p.e
def A3 (cs ds:km C4)(d:Rat×Rat):km Rat:=Cw (MN cs ds++(KZ cs ds d).flatMap G6)
def My (p:Pc):(G6 p).length<=6:=AAu (AFL ..) (by show 6<=6;omega)
def UF {W:Nat}{o:T3}(h:Ea W o):∀x∈Oj o,Bd W x:=by
 intro x hx;simp only[Oj,AAV,AAp,AAq] at hx;rcases hx with rfl|rfl|rfl|rfl|rfl|rfl
 .exact h.x
 .exact h.y
 .exact h.z
 .exact h.x.neg
 .exact h.y.neg
 .exact h.z.neg
def hG {u v b e x:Rat}{W M:Nat}(a:Bd W u)(d:Bd W v)(c:Bd M b)(f:Bd M e)(h:Cz u v b e=some x):Bd (3*W+3*M+3) x:=by
 unfold Cz at h;split at h
 .cases h
 .rename_i z;cases h;have g:u-v≠0:=λy=>by
   have:u=v:=by grind
   subst this;exact z (mQ _)
  exact(c.add ((a.div g (a.sub d)).mul (f.sub c))).mono (by omega)
def dy {p:Pc}{W M:Nat}(a:Ea W p.o0)(h1:Ea W p.o1)(c:Bd M p.b)(d:Bd M p.e):∀x∈G6 p,Bd (3*W+3*M+9) x:=by intro x hx;unfold G6 at hx;obtain⟨y,hy,e⟩:=ADC.mp hx;have u:=UF a y.1 (ABj hy).1;have v:=UF h1 y.2 (ABj hy).2;exact(hG (u.sub jD) (v.sub jD) c d e).mono (by omega)
abbrev gH (p:Rat×Rat):PV:= .tup [fr p.1,fr p.2]
def iX (ts:km Rat):Fv (ts.map fr) (Gh (ts.map fr) (some 1) none)=(ts.zip ts.tail).map gH:=by rw[q8,<-ACn,iW];rw[List.drop_one]
def YY (cs ds:km C4)(d:Rat×Rat)(p:Rat×Rat):Pc:=⟨p.1,p.2,FH cs ds d p.1,FH cs ds d p.2⟩
theorem JC {b:Type}{f:b->km Rat}(h:∀a,(f a).length<=6):∀c:km b,(c.flatMap f).length<=6*c.length
 | [] =>by simp
 | a::r=>by have:=h a;have:=JC h r;simp only[ADf,AA8,AAv];omega
def WP {cs ds:km C4}{d:Rat×Rat}{M W:Nat}(D:E6 cs ds d M W):∀x∈A3 cs ds d,Bd (3*W+3*M+9) x:=by
 intro x hx;rcases AAj.mp (Bn.mp hx) with hx|hx
 .unfold MN at hx;split at hx
  .exact (Gs D.m1 D.m2 D.begB D.endB hx).mono (by omega)
  .cases hx
 .obtain ⟨p,hp,hx⟩:=ABs.mp hx;have o:=D.pc p hp;exact dy o.w0 o.w1 o.bb o.be x hx
def aN {cs ds:km C4}{d:Rat×Rat}{M W:Nat}(D:E6 cs ds d M W):(MN cs ds).length<=202:=by
 have h1:=D.f1;have h2:=D.f2;unfold MN;split
 .have:=JL (cs:=cs) (ds:=ds) (b:=BH cs ds) (e:=BG cs ds);unfold MO;omega
 .simp
def bX {cs ds:km C4}{d:Rat×Rat}{M W:Nat}(D:E6 cs ds d M W):(A3 cs ds d).length<=1500:=by refine AAu Fl ?_;have h1:=aN D;have h2:=JC My (KZ cs ds d);have a:=Oo D;rw[AA8];omega
def UB {cs ds:km C4}{d:Rat×Rat}{M W:Nat}(D:E6 cs ds d M W){Q:PV->Prop}(q:Q (.lst ((A3 cs ds d).map fr))):C5 [An cs,An ds, .tup [fr d.1,fr d.2]] Q:=by
 have hM:=D.hM;have hW:=D.hW;have K:=aN D;have z:=WP D;apply L9;ac_rfl;refine EV D ?_;ac_rfl;rw[iX];have ep:(KZ cs ds d)=((MN cs ds).zip (MN cs ds).tail).map (YY cs ds d):=by
  unfold KZ MN;split
  .rfl
  .rfl
 refine EU gH (λf vs τ=>∃i j k l c a b,τ= [some (.val (An cs)),some (.val (An ds)),some (.val (.tup [fr d.1,fr d.2])),some (.val (.lst ((MN cs ds).map fr))),some (.own ((MN cs ds++f.flatMap λp=>G6 (YY cs ds d p)).map fr)),i,j,k,l,c,a,b]) ?_ ?_ ⟨_,_,_,_,_,_,_,by rw[List.flatMap_nil,ABb]⟩
 .rintro τ ⟨i,j,k,l,c,a,b,rfl⟩;have n:=JC My (KZ cs ds d);have A:=Oo D;ac_rfl;refine Jj rfl (B:=3*W+3*M+9) (by omega) ?_ ?_ ?_
  .rw [ep,AEz,AAb] at n;rw[ep,AAb] at A;rw[AA8];omega
  .intro m C;refine z m (Bn.mpr ?_);rw[ep,AEz];exact C
  .unfold A3 at q;rw[ep,AEz] at q;exact q
 .rintro f p vs e τ R E ⟨i,j,k,l,c,a,b,rfl⟩;have r:YY cs ds d p∈KZ cs ds d:=by rw[ep];exact AAe.mpr ⟨p,by rw[<-e];simp,rfl⟩
  have h:BH cs ds<BG cs ds:=by have o:=D.pc _ r;have:=o.lt;have:=o.lo;have:=o.hi;grind
  have s:=D.tog h;have o:=D.pc _ r;have F:BH cs ds<=p.1:=o.lo;have G:p.2<=BG cs ds:=o.hi;have L:p.1<p.2:=o.lt;have t:Bd M p.1:=o.bb;have u:Bd M p.2:=o.be;have ul:f.length<=202:=by have h1:=congrArg List.length e;rw[aQ] at h1;simp at h1;omega
  have n:=JC (λp=>My (YY cs ds d p)) f;ac_rfl;refine Nu D s F (by grind) t ?_;ac_rfl;refine Nu D s (by grind) G u ?_;ac_rfl;rw[iW];refine EU gH (λas bs τ=>∃c a b,τ= [some (.val (An cs)),some (.val (An ds)),some (.val (.tup [fr d.1,fr d.2])),some (.val (.lst ((MN cs ds).map fr))),some (.own ((MN cs ds++(f.flatMap λp=>G6 (YY cs ds d p))++as.filterMap λx=>Cz (x.1-1) (x.2-1) p.1 p.2).map fr)),some (.val (fr p.1)),some (.val (fr p.2)),some (.val (.lst ((Oj (FH cs ds d p.1)).map fr))),some (.val (.lst ((Oj (FH cs ds d p.2)).map fr))),c,a,b]) ?_ ?_ ⟨_,_,_,by rw[List.filterMap_nil,ABb]⟩
  .rintro τ ⟨c,a,b,rfl⟩;exact E _ ⟨some (.val (fr p.1)),some (.val (fr p.2)),some (.val (.lst ((Oj (FH cs ds d p.1)).map fr))),some (.val (.lst ((Oj (FH cs ds d p.2)).map fr))),c,a,b,by rw[List.flatMap_append,ADf,List.flatMap_nil,ABb,<-AC4];rfl⟩
  .rintro as x bs v τ R2 w ⟨c,a,b,rfl⟩;have y:x∈(Oj (FH cs ds d p.1)).zip (Oj (FH cs ds d p.2)):=by rw[<-v];simp
   have N:as.length<=6:=by have h1:=congrArg List.length v;have h2:((Oj (FH cs ds d p.1)).zip (Oj (FH cs ds d p.2))).length=6:=rfl;rw[h2] at h1;simp at h1;omega
   have O:=AFL (λx:Rat×Rat=>Cz (x.1-1) (x.2-1) p.1 p.2) as;have H:=UF o.w0 x.1 (ABj y).1;have I:=UF o.w1 x.2 (ABj y).2;have g:∀(o:ke Rat) c a b,o=Cz (x.1-1) (x.2-1) p.1 p.2->R2 [some (.val (An cs)),some (.val (An ds)),some (.val (.tup [fr d.1,fr d.2])),some (.val (.lst ((MN cs ds).map fr))),some (.own ((MN cs ds++(f.flatMap λp=>G6 (YY cs ds d p))++(as.filterMap λx=>Cz (x.1-1) (x.2-1) p.1 p.2)).map fr++o.toList.map fr)),some (.val (fr p.1)),some (.val (fr p.2)),some (.val (.lst ((Oj (FH cs ds d p.1)).map fr))),some (.val (.lst ((Oj (FH cs ds d p.2)).map fr))),c,a,b] :=λo c a b J=>by
    refine w _ ⟨c,a,b, ?_⟩;rw[<-AAk,AC4 (MN cs ds++_),List.filterMap_append];have:List.filterMap (λx:Rat×Rat=>Cz (x.1-1) (x.2-1) p.1 p.2) [x] =o.toList:=by rw[ADq,<-J];cases o <;> rfl
    rw[this]
   clear w;generalize (as.filterMap λx:Rat×Rat=>Cz (x.1-1) (x.2-1) p.1 p.2)=gs at *;generalize (f.flatMap λp=>G6 (YY cs ds d p))=ff at *;ac_rfl;refine UD (W:=W+2) (M:=M) ((H.sub jD).mono (by omega)) ((I.sub jD).mono (by omega)) t u (by omega) hM ?_;generalize hq:Cz (x.1-1) (x.2-1) p.1 p.2=q' at *;cases q' with
   | none=> rw[show av none= .non from rfl];ac_rfl;have:=g none (some (.val (fr x.1))) (some (.val (fr x.2))) (some (.val .non)) rfl;rw[Option.toList_none,ADJ,ABb] at this;exact this
   | some m=> rw[show av (some m)=fr m from rfl];ac_rfl;exact g (some m) _ _ _ rfl
def Fk {cs ds:km C4}{d:Rat×Rat}{M W:Nat}(D:E6 cs ds d M W){B X:Nat}(hc:∀c∈cs,EF B c)(p:∀c∈ds,EF B c){m:Rat}(bm:Bd X m)(s:X+6*B+10<=3900){Q:PV->Prop}(q:Q (.bl (decide (BI cs ds d m)))):CG [An cs,An ds, .tup [fr d.1,fr d.2],fr m] Q:=by
 have u:d.1≠0:=by have:=D.p1;grind
 have v:d.2≠0:=by have:=D.p2;grind
 have f1:=D.f1;have f2:=D.f2;have r1:=D.r1;have r2:=D.r2;have b1:=D.b1;have b2:=D.b2;have hq:∀o:ke Rat,(match o with | none=>False|some g=>g<1)=BI cs ds d m->Q (.bl (match o with | none=>false|some g=>decide (g<1))):=λo e=>by
  cases o with
  | none=>rw[AAr (by rw[<-e];exact λz=>z)] at q;exact q
  | some g=>rw[show decide (BI cs ds d m)=decide (g<1) from ACm.mpr (by rw[<-e])] at q;exact q
 obtain⟨a,r,l,rfl,w,j⟩:=open2 D.t1;obtain⟨b,f,h,rfl,x,i⟩:=open2 D.t2;apply NL;ac_rfl;refine WK s hc p r1 r2 w x f1 f2 j i bm b1 b2 u v ?_;have y:(match ay a l b h (a::r) (b::f) d m with | none=>False|some g=>g<1)=BI (a::r) (b::f) d m:=by
  unfold ay BI BH BG;rw[JE,JE,CO j,CO i];by_cases t:ED a l b h m
  .rw [AAU t];unfold ED at t;obtain⟨⟨t1,t2⟩,A,C⟩:=t;have k:mx a.1 b.1<=m:=by unfold mx;split <;> grind
   have n:m<mn l.1 h.1:=by unfold mn;split <;> grind
   show (RU _<1)=_;simp only[k,n,true_and];rfl
  .rw [AAS t];show False=_;refine(eq_false λz=>t ?_).symm;obtain⟨E,F,_⟩:=z;unfold ED;have k:a.1<=mx a.1 b.1:=by unfold mx;split <;> grind
   have n:b.1<=mx a.1 b.1:=by unfold mx;split <;> grind
   have G:mn l.1 h.1<=l.1:=by unfold mn;split <;> grind
   have H:mn l.1 h.1<=h.1:=by unfold mn;split <;> grind
   exact⟨⟨by grind,by grind⟩,by grind,by grind⟩
 have hq:=hq _ y;generalize ay a l b h (a::r) (b::f) d m=o at *;cases o with
 | none=> rw[show nU none= .non from rfl];ac_rfl;exact hq
 | some g=> rw[show nU (some g)=fr g from rfl];ac_rfl;have e:decide (g.num<(g.den:Int))=decide (g<1):=ACm.mpr (by rw[AC0];simp);rw[e];exact hq
def sm3 {r:Rat}(h:r.num.natAbs<2^3:=by decide +kernel)(h2:r.den<2^3:=by decide +kernel):Bd 3 r:=⟨h,h2⟩
def sm2 {r:Rat}(h:r.num.natAbs<2^2:=by decide +kernel)(h2:r.den<2^2:=by decide +kernel):Bd 2 r:=⟨h,h2⟩
def R5 {Q:PV->Prop}(q:∀d:Rat×Rat,Bd 3 d.1->Bd 3 d.2->1/3<=d.1->1/3<=d.2->Q (.tup [fr d.1,fr d.2])):DV [.tape] Q:=by
 apply Qb;have all:∀x∈ [(1:Rat),2,3/2,1/3,5],Bd 3 x/\1/3<=x:=by intro x hx;simp only[AAV,AAp,AAq] at hx;rcases hx with rfl|rfl|rfl|rfl|rfl <;> exact⟨sm3,by decide +kernel⟩
 ac_rfl;refine M9 (xs:= [(1:Rat),2,3/2,1/3,5]) (by omega) (by show _<(5:Int);omega) λx hx=> ?_;ac_rfl;refine M9 (xs:= [(1:Rat),2,3/2,1/3,5]) (by omega) (by show _<(5:Int);omega) λy hy=> ?_;ac_rfl;exact q (x,y) (all x hx).1 (all y hy).1 (all x hx).2 (all y hy).2
def YH {n:Nat}{cs:km C4}{t:Rat}{o:T3}(p:G3 n 10 cs)(bt:Bd 11 t)(e:Ea 11 o):G3 n 22 (cs.map (jn t o)):=by
 refine⟨by simpa using p.two,by simpa using p.few,λc hc=> ?_, ?_⟩
 .obtain ⟨d,hd,rfl⟩:=AAe.mp hc;have b:=p.bd d hd;exact⟨(b.m.add bt).mono (by decide),(b.x.add e.x).mono (by decide),(b.y.add e.y).mono (by decide),(b.z.add e.z).mono (by decide)⟩
 .refine ADd.mpr (p.ris.imp λ{a b} h=> ?_);show a.1+t<b.1+t;grind
def jX {ss:km Bq}(a:∀s∈ss,∃x,s.2.2=some x)(k:Rat):∃m,k<m/\ss.any (Bl · (m,0))=false:=by
 induction ss with
 | nil=>exact⟨k+1,by grind,rfl⟩
 | cons s ss ih=>
   obtain⟨x,hx⟩:=a s (by simp);have c:∀(b:km Bq),(∀s∈b,∃x,s.2.2=some x)->∃n:Rat,k<n/\∀s∈b,∀x,s.2.2=some x->x<n:=by
    intro b;induction b with
    | nil=>intro _;exact⟨k+1,by grind,by simp⟩
    | cons t b d=>
      intro e;obtain⟨n,h1,h2⟩:=d λs hs=>e s (by simp[hs]);obtain⟨y,hy⟩:=e t (by simp);by_cases z:y<n
      .refine ⟨n,h1,λs hs x hx=> ?_⟩;rcases AAV.mp hs with rfl|hs
       .rw [hy] at hx;cases hx;exact z
       .exact h2 s hs x hx
      .refine ⟨y+1,by grind,λs hs x hx=> ?_⟩;rcases AAV.mp hs with rfl|hs
       .rw [hy] at hx;cases hx;grind
       .have:=h2 s hs x hx;grind
   obtain⟨n,h1,h2⟩:=c (s::ss) a;refine⟨n,h1, ?_⟩;rw[ADD];intro t f z;obtain⟨y,hy⟩:=a t f;have:=h2 t f y hy;unfold Bl at z;rw[hy] at z;simp at z;grind
def am {B:Nat}{ss:km Bq}(ok:∀s∈ss,Ct B s)(a:∀s∈ss,∃x,s.2.2=some x):∀r∈canon 1 ss,∃x,r.2.2=some x:=by
 intro r b;cases e:r.2.2 with
 | some x=>exact⟨x,rfl⟩
 | none=> exfalso;obtain⟨m,h1,h2⟩:=jX a r.1;rw[<-Vt ok (p:=(m,0)) (.inl rfl)] at h2;rw[ADD] at h2;refine h2 r b ?_;unfold Bl;rw[e];simp;exact .inl h1
structure Told (P:Rat->Prop) (B:Nat) (cc:List Bq):Prop where
 ok:∀s∈cc,Ct B s
 fin:∀s∈cc,∃x,s.2.2=some x
 few:cc.length<=2000
 sem:∀m,cc.any (Bl · (m,0))=true↔P m
def dP.told {cs ds:km C4}{d:Rat×Rat}{B:Nat}{ss:km Bq}(n:dP cs ds d B ss):Told (BI cs ds d) B (canon 1 ss):=
 ⟨dk n.ok,am n.ok n.fin,by have:=Xg (n:=1) (ss:=ss);have:=n.few;omega,λm=>by rw[Vt n.ok (p:=(m,0)) (.inl rfl)];exact n.sem m⟩
def cK {s:Bq}{x:Rat}(h:s.2.2=some x):D7 s= .tup [fr s.1, .int s.2.1,fr x] :=by unfold D7;rw[h];rfl
abbrev PM:AS:=
 (Ak (Tg (DD M5 (AB (aV 0) (AB (aC (.ty "int")) AL))) (LZ nN (DD M5 (AB (aV 0) (AB (aC (.ty "bool")) AL))))))
def BW:AF:=Av 1 PM
def ME {a:PV}{Q:PV->Prop}(h:PM ⟨λ_=>Q .non,Q,λ_=>False,λ_=>False⟩ [some (.val a)]):BW [a] Q:=h
def FY {i:Int}{Q:PV->Prop}(q:Q (.bl true)):BW [.int i] Q:=by apply ME;ac_rfl;exact q
def e5 {B:Nat}{s:Bq}{m x:Rat}(os:Ct B s)(hx:s.2.2=some x):Bl s (m,0)=true↔(s.1<m\/(s.1=m/\s.2.1=1))/\m<x:=by
 unfold Bl;rw[hx];have:0<s.2.1+0↔s.2.1=1:=by have:=os.h;omega
 simp only[ABJ,ABr,ADP,this]
structure CB2 (Bm Bs:Nat) (c:C4):Prop where
 m:Bd Bm c.1
 p:Ea Bs c.2
def Ly {a:Rat}:a.num<0↔a<0:=by rw[AC0];simp
def Lz {a:Rat}:0<a.num↔0<a:=by rw[AC0];simp
def Qs {u v b e:Rat}(h:(u<0/\0<v)\/(0<u/\v<0)):Cz u v b e=some (b+u/(u-v)*(e-b)):=by
 unfold Cz;rw[AAS];intro z;rcases h with⟨h1,h2⟩|⟨h1,h2⟩
 .have:=Int.mul_neg_of_neg_of_pos (Ly.mpr h1) (Lz.mpr h2);omega
 .have:=Int.mul_neg_of_pos_of_neg (Lz.mpr h1) (Ly.mpr h2);omega
def cT {u v b e x:Rat}(h:Cz u v b e=some x):((u<0/\0<v)\/(0<u/\v<0))/\x=b+u/(u-v)*(e-b):=by
 unfold Cz at h;split at h
 .cases h
 .rename_i z;cases h;refine⟨?_,rfl⟩;by_cases h1:u.num<0
  .by_cases h2:v.num<=0
   .exact absurd (AFK (by omega) h2) z
   .exact .inl ⟨Ly.mp h1,Lz.mp (by omega)⟩
  .by_cases a:0<=v.num
   .exact absurd (AEy (by omega) a) z
   .by_cases c:u.num=0
    .rw [c] at z;simp at z
    .exact .inr ⟨Lz.mp (by omega),Ly.mp (by omega)⟩
def hI {u v b e x:Rat}(j:b<e)(h:Cz u v b e=some x):b<x/\x<e:=by
 obtain⟨k,rfl⟩:=cT h;have d:0<e-b:=by grind
 have s:0<u/(u-v)/\u/(u-v)<1:=by
  rcases k with⟨f,g⟩|⟨f,g⟩
  .have i:u/(u-v)=(-u)/(v-u):=by grind
   have p:0<v-u:=by grind
   rw[i];exact⟨by rw[ADg p];grind,by rw[ACZ p];grind⟩
  .have p:0<u-v:=by grind
   exact⟨by rw[ADg p];grind,by rw[ACZ p];grind⟩
 have a:=ABu s.1 d;have c:=AEt s.2 d;exact⟨by grind,by grind⟩
def X7 {u v b e x y m1 m2:Rat}(A:b<e)(hx:b<=x)(hy:y<=e)(h1:x<=m1)(h2:m1<y)(B:x<m2)(C:m2<y)(g:∀z,Cz (u-1) (v-1) b e=some z->¬(x<z/\z<y))(k:u+(m1-b)/(e-b)*(v-u)<1):u+(m2-b)/(e-b)*(v-u)<1:=by
 by_cases h:u+(m2-b)/(e-b)*(v-u)<1
 .exact h
 exfalso;have i:0<e-b:=by grind
 obtain⟨c,hc⟩:∃c,c=(v-u)/(e-b):=⟨_,rfl⟩;have f:∀m,(m-b)/(e-b)*(v-u)=(m-b)*c:=λm=>by rw[hc];grind
 have j:v=u+(e-b)*c:=by rw[hc];grind
 rw[f] at k h;have l:0<(m2-m1)*c:=by grind
 have c0:c≠0:=λz=>by rw[z] at l;grind
 obtain⟨z,hz⟩:∃z,z=b+(1-u)/c:=⟨_,rfl⟩;have D:(z-b)*c=1-u:=by rw[hz];grind
 have n:0<(z-m1)*c:=by grind
 have E:0<=(m2-z)*c:=by grind
 have a:∀{p q:Rat},0<p->0<p*q->0<q:=λ{p q} hp hq=>by
  by_cases w:0<q
  .exact w
  .have:=ACs (show q<=0 by grind) (show 0<=p by grind);grind
 rcases (show 0<c\/c<0 by grind) with w|w
 .have o:m1<z:=by have:=a w (by rw[Rat.mul_comm];exact n);grind
  have r:z<=m2:=by
   by_cases q:z<=m2
   .exact q
   .have:=ABu (show 0<z-m2 by grind) w;grind
  have ul:u<1:=by have:=ABu (show 0<z-b by grind) w;grind
  have t:1<v:=by have:=ABu (show 0<e-z by grind) w;grind
  have s:=Qs (u:=u-1) (v:=v-1) (b:=b) (e:=e) (.inl ⟨by grind,by grind⟩);refine g _ s ?_;have:b+(u-1)/(u-1-(v-1))*(e-b)=z:=by
   rw[hz,j];have:(e-b)*c≠0:=by have:=ABu i w;grind
   grind
  rw[this];exact⟨by grind,by grind⟩
 .have d:0 < -c:=by grind
  have o:z<m1:=by have:=a d (show 0<(-c)*(m1-z) by grind);grind
  have r:m2<=z:=by
   by_cases q:m2<=z
   .exact q
   .have:=ABu (show 0<m2-z by grind) d;grind
  have ul:1<u:=by have:=ABu (show 0<z-b by grind) d;grind
  have t:v<1:=by have:=ABu (show 0<e-z by grind) d;grind
  have s:=Qs (u:=u-1) (v:=v-1) (b:=b) (e:=e) (.inr ⟨by grind,by grind⟩);refine g _ s ?_;have:b+(u-1)/(u-1-(v-1))*(e-b)=z:=by
   rw[hz,j];have:(e-b)*c≠0:=by have:=ABu i d;grind
   grind
  rw[this];exact⟨by grind,by grind⟩
section
variable {cs ds:km C4}{d:Rat×Rat}{M W:Nat}
theorem Lx (D:E6 cs ds d M W):∀x∈A3 cs ds d,BH cs ds<=x/\x<=BG cs ds:=by
 intro x hx;rcases AAj.mp (Bn.mp hx) with hx|hx
 .unfold MN at hx;split at hx
  .rename_i h;exact EZ h hx
  .cases hx
 .obtain ⟨p,hp,hx⟩:=ABs.mp hx;have o:=D.pc p hp;obtain⟨y,hy,e⟩:=ADC.mp hx;have:=hI o.lt e;have:=o.lo;have:=o.hi;exact⟨by grind,by grind⟩
theorem Q3 {x:Rat}(h:BH cs ds<BG cs ds)(hx:x∈MO cs ds):x∈A3 cs ds d:=Bn.mpr (ADB _ (by rw[Nc h];exact hx))
theorem Vy {p:Pc}(hp:p∈KZ cs ds d){x:Rat}(hx:x∈G6 p):x∈A3 cs ds d:=Bn.mpr (AAo _ (ABs.mpr ⟨p,hp,hx⟩))
theorem vj {o:T3}:RU o<1↔∀x∈Oj o,x<1:=by
 rw[eM,I0,I0,I0];simp only[Oj,AAV,AAp,AAq,AEu,forall_eq];constructor
 .rintro ⟨⟨a,b⟩,⟨c,d⟩,e,f⟩;exact⟨a,c,e,b,d,f⟩
 .rintro ⟨a,c,e,b,d,f⟩;exact⟨⟨a,b⟩,⟨c,d⟩,e,f⟩
theorem ZZ {p q:T3}{s:Rat}:RU (lin p q s)<1↔∀x∈(Oj p).zip (Oj q),x.1+s*(x.2-x.1)<1:=by
 rw[vj];simp only[Oj,lin,AEw,List.zip_nil_right,AAV,AAp,AAq,AEu,forall_eq];have e:∀a b:Rat, -(a+s*(b-a))= -a+s*(-b - -a):=λa b=>by grind
 rw[e,e,e]
theorem QG (D:E6 cs ds d M W){x y:Rat}(hp:(x,y)∈(A3 cs ds d).zip (A3 cs ds d).tail){m1 m2:Rat}(h1:x<=m1)(h2:m1<y)(l:x<m2)(n:m2<y)(k:BI cs ds d m1):BI cs ds d m2:=by
 obtain⟨c,f,i,b⟩:=Iv (ts:=A3 cs ds d) Bz _ hp;have c:x∈A3 cs ds d:=c;have f:y∈A3 cs ds d:=f;have i:x<y:=i;have b:∀z∈A3 cs ds d,¬(x<z/\z<y):=b;have r:=Lx D x c;have u:=Lx D y f;have h:BH cs ds<BG cs ds:=by grind
 obtain⟨p,g,p1,p2⟩:=D.cover (m:=x) r.1 (by grind);have o:=D.pc p g;have s:p.e∈MO cs ds:=by have a:=g;unfold KZ at a;rw[AAU h] at a;obtain⟨w,hw,rfl⟩:=AAe.mp a;exact(Iv FX w hw).2.1
 have t:y<=p.e:=by have:=b _ (Q3 h s);grind
 refine⟨by grind,by grind, ?_⟩;have j:=k.2.2;rw[o.lin m1 (by grind) (by grind),ZZ] at j;rw[o.lin m2 (by grind) (by grind),ZZ];intro z hz;refine X7 o.lt p1 t h1 h2 l n (λw hw=> ?_) (j z hz);exact b w (Vy g (ADC.mpr ⟨z,hz,hw⟩))
end
def bN:PV->kc | .int _=>true|_=>false
def XD {x:PV}(hk:kdOf x≠none){Q:PV->Prop}(q:Q (.bl (bN x))):BW [x] Q:=by
 apply ME;cases x <;> first | exact absurd rfl hk|skip
 all_goals
  repeat' array_get_dec
  exact q
def WH:km PV->kc
 | [.int a, .int b] =>decide (0<b)&&decide (Nat.gcd a.natAbs b.natAbs=1)
 | _=>false
def fG {xs:km PV}(h:¬(xs.length:Int)=2):WH xs=false:=by
 match xs,h with
 | [],_=>rfl
 | [a],_=>cases a <;> rfl
 | [a,b],h=>exact absurd rfl h
 | a::b::c::r,_=>cases a <;> cases b <;> rfl
def pp {xs:km PV}(h:(xs.length:Int)=2):∃a b,xs= [a,b] :=by
 match xs,h with
 | [],h=>simp at h
 | [a],h=>simp at h
 | [a,b],_=>exact⟨a,b,rfl⟩
 | a::b::c::r,h=>simp at h;omega
def mX {x:PV}(h:bN x=true):∃i,x= .int i:=by cases x <;> first | exact⟨_,rfl⟩|cases h
def n9 {x y:PV}(h:bN x=false):WH [x,y] =false:=by cases x <;> first | rfl|cases h
def oA {x y:PV}(h:bN y=false):WH [x,y] =false:=by cases x <;> cases y <;> first | rfl|cases h
abbrev LK:AS:=
 (AZ (BD (DI (Bc (Ag (AN 1 BW (AB (aV 1) AL)))) (Bc (Ag (AN 1 BW (AB (aV 2) AL))))) (Ak (aC (.bl false))) Ay)
   (Ak (Tg (AX lf (aV 2) (aC (.int 0))) (AX GM (AN 2 GW (AB (DD Py (AB (aV 1) AL)) (AB (aV 2) AL))) (aC (.int 1))))))
abbrev S1:AS:=
 (AZ (As (aV 0) (IM 2 (Ae (Ar 1) (Ae (Ar 2) Bu))))
   LK)
abbrev Rs:AS:=
 (AZ (BD (DI (Bc (Ag (LY (aV 0) ["tuple","list"]))) (Ag (AX Lh (DD EJ (AB (aV 0) AL)) (aC (.int 2))))) (Ak (aC (.bl false))) Ay)
   S1)
def Ef:AF:=Av 3 Rs
def Wn {a:PV}{Q:PV->Prop}(h:Rs ⟨λ_=>Q .non,Q,λ_=>False,λ_=>False⟩ [some (.val a),none,none]):Ef [a] Q:=h
def gK {x y z:PV}(hx:x= .tup [y,z] \/x= .lst [y,z])(hy:kdOf y≠none)(hz:kdOf z≠none){Q:PV->Prop}(q:Q (.bl (WH [y,z]))):LK {nx:=λx=>Q PV.non,rt:=Q,bk:=λx=>False,ct:=λx=>False} [some (.val x),some (.val y),some (.val z)] :=by
 repeat' array_get_dec
 refine XD hy ?_;repeat' array_get_dec
 cases c:bN y with
 | false=>rw[n9 c] at q;exact q
 | true=>
   obtain⟨a,rfl⟩:=mX c;repeat' array_get_dec
   refine XD hz ?_;repeat' array_get_dec
   cases d:bN z with
   | false=>rw[oA d] at q;exact q
   | true=>
     obtain⟨b,rfl⟩:=mX d;repeat' array_get_dec
     .rename_i hb;obtain⟨n,rfl⟩:∃n:Nat,b=n:=⟨b.toNat,by omega⟩;refine IH _ _ _ ?_;repeat' array_get_dec
      have e:WH [.int a, .int (n:Int)] =decide (((Nat.gcd a.natAbs n:Nat):Int)=1):=by show (decide (0<(n:Int))&&decide (Nat.gcd a.natAbs (n:Int).natAbs=1))=_;rw[AAi hb,Bool.true_and,AEM];exact ACm.mpr ⟨λh=>by rw[h];rfl,λh=>by omega⟩
      rw[e] at q;exact q
     .rename_i hb;have e:WH [.int a, .int b] =false:=by show (decide (0<b)&&_)=_;rw[AAr hb,AEW]
      rw[e] at q;exact q
def gJ {B:Nat}{x:PV}{xs:km PV}(hx:x= .tup xs\/x= .lst xs)(hl:xs.length<=100)(hi:(∀y∈xs,kdOf y≠none)/\∀a b,xs= [a, .int b] ->b.natAbs<B){Q:PV->Prop}(q:Q (.bl (WH xs))):Ef [x] Q:=by
 apply Wn;rcases hx with rfl|rfl;all_goals
  repeat' array_get_dec
  .rename_i z;rw[fG z] at q;exact q
  .rename_i h2;obtain⟨y,z,rfl⟩:=pp h2;exact gK (by first | exact .inl rfl|exact .inr rfl) (hi.1 y (by simp)) (hi.1 z (by simp)) q
def jf (r:Rat):WH [.int r.num, .int (r.den:Int)] =true:=by show (decide (0<(r.den:Int))&&decide (Nat.gcd r.num.natAbs (r.den:Int).natAbs=1))=true;have:=r.den_pos;rw[AAi (by omega),Bool.true_and,AEM];exact AAi r.reduced
def Zs {r:Rat}{x:PV}(hx:x=fr r\/x= .lst [.int r.num, .int (r.den:Int)]){Q:PV->Prop}(q:Q (.bl true)):Ef [x] Q:=by
 refine gJ (B:=r.den+1) hx (by simp) ⟨λy hy=> ?_,λa b e=> ?_⟩ (by rw[jf];exact q)
 .simp only[AAV,AAp,AAq] at hy;rcases hy with rfl|rfl <;> exact λz=>by cases z
 .cases e;simp
instance AB4 {r:AA}{τ:BN}{a:km PV->Prop}:Wp (vc r τ a) (r τ λb=>match b with | [.lst xs] =>a (Fj 0 xs)|_=>False):=⟨id⟩
structure yM (s:Bq):Prop where
 st:Ct 740 s
 h:s.2.1=1
 e:s.2.2.isSome=true
abbrev S3:AS:=
 (AZ (As (ib (Ag (AX lc (aV 5) (aV 0))) (A1 (AB (aC (.int 1)) (AB (aC (.int 1)) AL))) (A1 (AB (AX Gi (aV 4) (aV 0)) (AB (AX Gi (aV 4) (aV 5)) AL)))) (Ar 6))
   (BD (DI (Ag (AX Tk (aV 2) (aC .non))) (Ag (AN 2 Am (AB (AX Ai (aV 2) (aC (.int 1))) (AB (aV 6) AL))))) (As (A1 (AB (aV 3) (AB (aV 6) AL))) (Ar 2)) Ay))
abbrev S4:AS:=
 (AZ (FO (vc (AB (aV 1) AL)) (IM 2 (Ae (Ar 3) (Ae (IM 2 (Ae (Ar 4) (Ae (Ar 5) Bu))) Bu))) (BD (Ag (AX lc (aV 4) (aV 0))) S3 Ay))
   (Ak (aV 2)))
abbrev Ru:AS:=
 (AZ (As (aC .non) (Ar 2))
   S4)
def FV:AF:=Av 7 Ru
def Wq {a b:PV}{Q:PV->Prop}(h:Ru ⟨λ_=>Q .non,Q,λ_=>False,λ_=>False⟩ [some (.val a),some (.val b),none,none,none,none,none]):FV [a,b] Q:=h
abbrev VY:AS:=
 (AZ (As (ib (Ag (AX GM (AX aw (aV 2) (aC (.int 2))) (aC (.int 0)))) (aC (.int 1)) (LZ El (aC (.int 1)))) (Ar 3))
   (Ak (A1 (AB (aV 0) (AB (aV 1) (AB (AX RS (aV 2) (aC (.int 2))) (AB (aV 3) AL)))))))
def Fd:AF:=Av 4 VY
def Yj {a b c:PV}{Q:PV->Prop}(h:VY ⟨λ_=>Q .non,Q,λ_=>False,λ_=>False⟩ [some (.val a),some (.val b),some (.val c),none]):Fd [a,b,c] Q:=h
abbrev TN:AS:=
 (AZ (As (AN 3 DP (AB (aV 3) (AB (aV 4) (AB (aV 8) AL)))) (Ar 2))
   (Ak (Eb (DQ (AB (AN 3 Fd (AB (aV 3) (AB (aV 2) (AB (aV 7) AL)))) (AB (AN 3 Fd (AB (aV 2) (AB (aV 4) (AB (aV 1) AL)))) AL))))))
abbrev TM:AS:=
 (AZ (As (AX Ai (AN 2 FV (AB (aV 5) (AB (Eb (CA (Hl (aV 6)) 2 [] (IM 2 (Ae (Ar 0) (Ae (Ar 1) Bu))) Dh (A1 (AB (aV 1) (AB (aV 0) AL))))) AL))) (aC (.int 0))) (Ar 1))
   TN)
abbrev TL:AS:=
 (AZ (BD (Ag (AX GM (aV 8) (A1 (AB (aC (.int 1)) (AB (aC (.int 1)) AL))))) (Ak (Eb (DQ (AB (AN 3 Fd (AB (aV 3) (AB (aV 4) (AB (aV 7) AL)))) AL)))) Ay)
   TM)
abbrev TK:AS:=
 (AZ (As (AN 2 FV (AB (aV 5) (AB (aV 6) AL))) (IM 2 (Ae (Ar 7) (Ae (Ar 8) Bu))))
   TL)
abbrev Rz:AS:=
 (AZ (As (aV 0) (IM 4 (Ae (Ar 3) (Ae (Ar 4) (Ae (Ar 5) (Ae (Ar 6) Bu))))))
   TK)
def Gd:AF:=Av 9 Rz
def Wu {a:PV}{Q:PV->Prop}(h:Rz ⟨λ_=>Q .non,Q,λ_=>False,λ_=>False⟩ [some (.val a),none,none,none,none,none,none,none,none]):Gd [a] Q:=h
def Ur (N:Nat)(l:Int×Int):Int×Int:=if (N:Int)<=l.2 then (1,1) else (l.1-N,l.1-l.2)
def Yn {N W:Nat}{l:Int×Int}(h:JV N W l)(h1:(N:Int)<=l.1):Sz (Ur N l)/\Bd (3*W+3) (sv (Ur N l)):=by
 unfold Ur;split
 .refine ⟨⟨by decide,Ax (m:=1) (by decide) (by decide),Ax (m:=1) (by decide) (by decide)⟩, ?_⟩;rw[cX];exact jD.mono (by omega)
 .have:=NC h h1 (by omega);exact⟨this.1,this.2.1⟩
structure mq (N:Nat) (us:List (Int×Int)) (k:Nat) (l:Int×Int):Prop where
 at_:us[k]? =some l
 up:(N:Int)<=l.1
 top:∀x∈us,(N:Int)<=x.1->sv (Ur N x)<=sv (Ur N l)
 fst:∀j x,j<k->us[j]? =some x->(N:Int)<=x.1->sv (Ur N x)<sv (Ur N l)
def mq.one {N:Nat}{c:km (Int×Int)}{k a:Nat}{l b:Int×Int}(h:mq N c k l)(h':mq N c a b):k=a/\l=b:=by
 have e:k=a:=by
  rcases Nat.lt_trichotomy k a with z|z|z
  .have:=h'.fst k l z h.at_ h.up;have:=h.top b (AA9 h'.at_) h'.up;exfalso;grind
  .exact z
  .have:=h.fst a b z h'.at_ h'.up;have:=h'.top l (AA9 h.at_) h.up;exfalso;grind
 subst e;have:=h.at_;rw[h'.at_] at this;exact⟨rfl,(AAn this).symm⟩
def i5 (N:Nat)(a:km (Int×Int))(v:PV):Prop:=(v= .non/\∀x∈a,¬(N:Int)<=x.1)\/∃k l,v= .tup [.int (k:Nat),Hy (Ur N l)] /\mq N a k l
def QF {N W:Nat}{lns:km (Int×Int)}(ok:∀l∈lns,JV N W l)(hl:lns.length<=1000)(ex:∃l∈lns,(N:Int)<=l.1){Q:PV->Prop}(q:∀k l,mq N lns k l->Q (.tup [.int (k:Nat),Hy (Ur N l)])):FV [.int N, .lst (lns.map Hy)] Q:=by
 apply Wq;ac_rfl;show DG _ _ _ (Fj 0 (lns.map Hy)) _;refine JD (λy τ=>∃c f v i m n p,c++f=lns/\y=Fj c.length (f.map Hy)/\i5 N c v/\τ= [some (.val (.int N)),some (.val (.lst (lns.map Hy))),some (.val v),i,m,n,p]) ?_ ?_ _ _ ⟨[],lns, .non,_,_,_,_,rfl,rfl, .inl ⟨rfl,by simp⟩,rfl⟩
 .rintro τ ⟨c,f,v,i,m,n,p,e,s,hv,rfl⟩;have:f= [] :=by cases f with | nil=>rfl|cons _ _=>simp[Fj] at s
  subst this;rw[ABb] at e;subst e;ac_rfl;rcases hv with⟨_,h⟩|⟨k,l,rfl,h⟩
  .obtain ⟨l,hl,hN⟩:=ex;exact absurd hN (h l hl)
  .exact q k l h
 .rintro x y τ R A ⟨c,f,v,i,m,n,p,e,s,hv,rfl⟩;cases f with
  | nil=>simp[Fj] at s
  | cons l f=>
    rw[AAc,Fj] at s;cases s;have B:l∈lns:=by rw[<-e];simp
    have o:=ok l B;have keep:∀v i m n p,i5 N (c ++ [l]) v->R [some (.val (.int N)),some (.val (.lst (lns.map Hy))),some (.val v),i,m,n,p] :=λv i m n p h=>A _ ⟨c ++ [l],f,v,i,m,n,p,by simpa using e,by simp,h,rfl⟩;clear A;have lower:¬(N:Int)<=l.1->i5 N (c ++ [l]) v:=λh=>by
     rcases hv with⟨rfl,h2⟩|⟨k,g,rfl,h2⟩
     .exact .inl ⟨rfl,Ew.mpr ⟨h2,h⟩⟩
     .exact .inr ⟨k,g,rfl,⟨by rw[ABF];exact h2.at_;exact(AAy.mp h2.at_).1,h2.up,Ew.mpr ⟨h2.top,λz=>absurd z h⟩,λj x d hx=>h2.fst j x d (by rw[ABF (ACg d (AAy.mp h2.at_).1)] at hx;exact hx)⟩⟩
    have take:(N:Int)<=l.1->(∀x∈c,(N:Int)<=x.1->sv (Ur N x)<sv (Ur N l))->i5 N (c ++ [l]) (.tup [.int (c.length:Nat),Hy (Ur N l)]):=λh h2=> .inr ⟨c.length,l,rfl,⟨by simp,h,Ew.mpr ⟨λx hx z=>by have:=h2 x hx z;grind,λ_=>AC8⟩,λj x d hx z=>h2 x (by rw[ABF d] at hx;exact AA9 hx) z⟩⟩;have u:=λh=>Yn o h;ac_rfl
    .rename_i h1 h2;have t:Ur N l=(1,1):=AAU h2;rw[t] at take u;rcases hv with⟨rfl,a⟩|⟨k,g,rfl,a⟩
     .ac_rfl;exact keep _ _ _ _ _ (take h1 λx hx z=>absurd z (a x hx))
     .have r:g∈lns:=by rw[<-e];exact ADB _ (AA9 a.at_)
      ac_rfl;refine Gf (b:=(1,1)) (Yn (ok g r) a.up).1 (u h1).1 ?_;ac_rfl
      .rename_i z;exact keep _ _ _ _ _ (take h1 λx hx w=>by have:=a.top x hx w;grind)
      .rename_i z;exact keep _ _ _ _ _ (.inr ⟨k,g,rfl,⟨by rw[ABF];exact a.at_;exact(AAy.mp a.at_).1,a.up,Ew.mpr ⟨a.top,λ_=>by rw[t];grind⟩,λj x d hx=>a.fst j x d (by rw[ABF (ACg d (AAy.mp a.at_).1)] at hx;exact hx)⟩⟩)
    .rename_i h1 h2;have t:Ur N l=(l.1-N,l.1-l.2):=AAS h2;rw[t] at take u;rcases hv with⟨rfl,a⟩|⟨k,g,rfl,a⟩
     .ac_rfl;exact keep _ _ _ _ _ (take h1 λx hx z=>absurd z (a x hx))
     .have r:g∈lns:=by rw[<-e];exact ADB _ (AA9 a.at_)
      ac_rfl;refine Gf (b:=(l.1-N,l.1-l.2)) (Yn (ok g r) a.up).1 (u h1).1 ?_;ac_rfl
      .rename_i z;exact keep _ _ _ _ _ (take h1 λx hx w=>by have:=a.top x hx w;grind)
      .rename_i z;exact keep _ _ _ _ _ (.inr ⟨k,g,rfl,⟨by rw[ABF];exact a.at_;exact(AAy.mp a.at_).1,a.up,Ew.mpr ⟨a.top,λ_=>by rw[t];grind⟩,λj x d hx=>a.fst j x d (by rw[ABF (ACg d (AAy.mp a.at_).1)] at hx;exact hx)⟩⟩)
    .rename_i h1;exact keep _ _ _ _ _ (lower h1)
def sM {N:Nat}{l:Int×Int}{s:Rat}(a:0<=s)(h1:s<=1)(b:(N:Int)<=l.1)(c:(N:Int)<=l.2):(N:Rat)<=lv l s:=by
 have d:(N:Rat)<=(l.1:Rat):=by rw[<-Ec];exact ACr.mpr b
 have e:(N:Rat)<=(l.2:Rat):=by rw[<-Ec];exact ACr.mpr c
 have y:lv l s=(1-s)*(l.1:Rat)+s*(l.2:Rat):=by unfold lv;grind
 have f:(1-s)*N<=(1-s)*(l.1:Rat):=ACs d (by grind);have g:s*N<=s*(l.2:Rat):=ACs e a;rw[y];grind
def fR {N W:Nat}{l:Int×Int}(o:JV N W l)(h1:(N:Int)<=l.1){s:Rat}(a:0<=s)(hs:s<=1):(N:Rat)<=lv l s↔s<=sv (Ur N l):=by
 unfold Ur;by_cases h:(N:Int)<=l.2
 .rw [AAU h,cX];exact⟨λ_=>hs,λ_=>sM a hs h1 h⟩
 .rw [AAS h];have:=(NC o h1 (by omega)).2.2.2 s;grind
def jC (l:Int×Int):Int×Int:=(l.2,l.1)
def fX (l:Int×Int)(s:Rat):lv (jC l) s=lv l (1-s):=by unfold lv jC;grind
def YK {N W:Nat}{l:Int×Int}(o:JV N W l):JV N W (jC l):=by obtain⟨u,v,a,b,c,d⟩:=o.ex;exact⟨o.b,o.a,o.n,o.n0,v,u,b,a,d,c⟩
def jm (l:Int×Int):lv l 0=(l.1:Rat):=by unfold lv;grind
def oN (l:Int×Int):lv l 1=(l.2:Rat):=by unfold lv;grind
def Mx {N:Nat}{k:Int}:(N:Rat)<=(k:Rat)↔(N:Int)<=k:=by rw[<-Ec];exact ACr
def below {N:Nat}{lns:km (Int×Int)}{s:Rat}(h:∀l∈lns,∃u,s<u/\∀t,s<t->t<u->lv l t<N):∃u,s<u/\∀t,s<t->t<u->∀l∈lns,lv l t<N:=by
 induction lns with
 | nil=>exact⟨s+1,by grind,by simp⟩
 | cons l r ih=>
   obtain⟨u,h1,h2⟩:=ih λx hx=>h x (by simp[hx]);obtain⟨v,d,a⟩:=h l (by simp);refine⟨if u<v then u else v,by split <;> assumption,λt t1 t2 x hx=> ?_⟩;have b:t<u:=by split at t2 <;> grind
   have c:t<v:=by split at t2 <;> grind
   rcases AAV.mp hx with rfl|hx
   .exact a t t1 c
   .exact h2 t t1 b x hx
def Yy {N W:Nat}{lns:km (Int×Int)}(ok:∀l∈lns,JV N W l)(a:∀s,0<=s->s<1->∃l∈lns,(N:Rat)<=lv l s){s:Rat}(i:0<=s)(b:s<1)(top:∀x∈lns,(N:Int)<=x.1->sv (Ur N x)<=s):∃l∈lns,¬(N:Int)<=l.1/\(N:Int)<=l.2/\(N:Rat)<=lv l s:=by
 refine AE0 λf=> ?_;obtain⟨u,h1,h2⟩:=below (N:=N) (lns:=lns) (s:=s) λl hl=>by
  have o:=ok l hl;by_cases h:(N:Int)<=l.1
  .refine ⟨1,b,λt t1 t2=> ?_⟩;have:=fR o h (s:=t) (by grind) (by grind);have:=top l hl h;grind
  .by_cases k:(N:Int)<=l.2
   .have z:¬(N:Rat)<=lv l s:=λz=>f ⟨l,hl,h,k,z⟩;by_cases e:(N:Int)=l.2
    .refine ⟨1,b,λt t1 t2=> ?_⟩;have c:(l.1:Rat)<(N:Rat):=by rw[<-Ec];exact ABt.mpr (by omega)
     have d:(l.2:Rat)=(N:Rat):=by rw[<-Ec,e]
     have:=ADi c (show 0<1-t by grind);unfold lv;rw[d];grind
    .have hs:=(Tz o (by omega) (by omega)).2.2.2;refine⟨sv (N-l.1,l.2-l.1),(hs s).mp (by grind),λt _ t2=>(hs t).mpr t2⟩
   .refine ⟨1,b,λt t1 t2=> ?_⟩;have c:(l.1:Rat)<(N:Rat):=by rw[<-Ec];exact ABt.mpr (by omega)
    have d:(l.2:Rat)<(N:Rat):=by rw[<-Ec];exact ABt.mpr (by omega)
    have:=ADi c (show 0<1-t by grind);have:=ACs (show (l.2:Rat)<=(N:Rat) by grind) (show 0<=t by grind);have y:lv l t=(1-t)*(l.1:Rat)+t*(l.2:Rat):=by unfold lv;grind
    rw[y];grind
 have ⟨t,t1,t2,g⟩:∃t,s<t/\t<u/\t<1:=by
  by_cases z:u<1
  .exact ⟨(s+u)/2,by grind,by grind,by grind⟩
  .exact ⟨(s+1)/2,by grind,by grind,by grind⟩
 obtain⟨l,hl,z⟩:=a t (by grind) g;have:=h2 t t1 t2 l hl;grind
abbrev TH:AS:=
 (AZ (As (AX Ai (aV 3) (aC (.int 0))) (IM 3 (Ae (Ar 4) (Ae (Ar 5) (Ae (Ar 6) Bu)))))
   (Ak (A1 (AB (aC (.str "near")) (AB (AN 2 KB (AB (AN 2 IK (AB (aV 4) (AB (aV 6) AL))) (AB (AN 1 Iz (AB (aC (.int 2)) AL)) AL))) AL)))))
abbrev TJ:AS:=
 (AZ (BD (Vr (aV 3)) TH Ay)
   (Ak (A1 (AB (aC (.str "clear")) (AB (DD Bw (AB (Eb (Mr (Hl (AN 3 Gb (AB (aV 0) (AB (aV 1) (AB (aV 2) AL))))) 2 [] (Ar 1) Dh (Hl (AN 1 Gd (AB (aV 1) AL))) 1 (Ar 0) Dh (aV 0))) AL)) AL)))))
abbrev Ry:AS:=
 (AZ (As (AN 3 Ff (AB (aV 0) (AB (aV 1) (AB (aV 2) AL)))) (Ar 3))
   TJ)
def FW:AF:=Av 7 Ry
def Wt {a b c:PV}{Q:PV->Prop}(h:Ry ⟨λ_=>Q .non,Q,λ_=>False,λ_=>False⟩ [some (.val a),some (.val b),some (.val c),none,none,none,none]):FW [a,b,c] Q:=h
abbrev VI:AS:=
 (AZ (BD (DI (Bc (Ag (AN 1 Ef (AB (aV 1) AL)))) (DI (Bc (Ag (AN 1 Ef (AB (aV 2) AL)))) (DI (Bc (Ag (AN 1 BW (AB (aV 3) AL)))) (Bc (Ag (AN 1 BW (AB (aV 4) AL))))))) (Ak (aC (.bl false))) Ay)
   (Ak (Tg (AX (lh false) (aV 3) (A1 (AB (aC (.int 0)) (AB (aC (.int 1)) (AB (aC (.int 2)) AL))))) (AX (lh false) (aV 4) (A1 (AB (aC (.int 1)) (AB (LZ El (aC (.int 1))) AL)))))))
abbrev VH:AS:=
 (AZ (As (aV 0) (IM 4 (Ae (Ar 1) (Ae (Ar 2) (Ae (Ar 3) (Ae (Ar 4) Bu))))))
   VI)
abbrev VG:AS:=
 (AZ (BD (DI (Bc (Ag (LY (aV 0) ["tuple","list"]))) (Ag (AX Lh (DD EJ (AB (aV 0) AL)) (aC (.int 4))))) (Ak (aC (.bl false))) Ay)
   VH)
def GX:AF:=Av 5 VG
def Yf {a:PV}{Q:PV->Prop}(h:VG ⟨λ_=>Q .non,Q,λ_=>False,λ_=>False⟩ [some (.val a),none,none,none,none]):GX [a] Q:=h
abbrev XR:AS:=
 (AZ (As (AN 2 EQ (AB (AX Ai (AN 2 Ei (AB (aV 0) (AB (aV 4) AL))) (aV 7)) (AB (AX Ai (AN 2 Ei (AB (aV 1) (AB (aV 4) AL))) (aV 7)) AL))) (Ar 9))
   (BD (Ag (AN 2 Am (AB (AN 2 Fx (AB (AN 1 Iz (AB (aV 8) AL)) (AB (aV 9) AL))) (AB (AN 2 Eh (AB (aV 2) (AB (aV 7) AL))) AL)))) (Ak (aC (.bl false))) Ay))
abbrev XS:AS:=
 (AZ (FO (Hl (AN 4 Iy (AB (aV 0) (AB (aV 1) (AB (aV 5) (AB (aV 6) AL)))))) (Ar 4) XR)
   (Ak (aC (.bl true))))
abbrev Y4:AS:=
 (AZ (As (aV 3) (IM 4 (Ae (Ar 5) (Ae (Ar 6) (Ae (Ar 7) (Ae (Ar 8) Bu))))))
   XS)
def LO:AF:=Av 10 Y4
def cP {a b c d:PV}{Q:PV->Prop}(h:Y4 ⟨λ_=>Q .non,Q,λ_=>False,λ_=>False⟩ [some (.val a),some (.val b),some (.val c),some (.val d),none,none,none,none,none,none]):LO [a,b,c,d] Q:=h
abbrev Hv:AS:=
 (AZ (BD (Bc (Ag (AN 4 LO (AB (aV 0) (AB (aV 1) (AB (aV 2) (AB (A1 (AB (aV 8) (AB (aV 9) (AB (AX Ai (aV 5) (aC (.int 2))) (AB (AX Ai (aV 5) (aC (.int 3))) AL))))) AL))))))) (Ak (aC (.bl false))) Ay)
   (As (aV 9) (Ar 6)))
abbrev Hu:AS:=
 (AZ (BD (DI (Ag (AX Lh (aV 8) (aV 6))) (DI (Bc (Ag (AN 2 Am (AB (aV 8) (AB (aV 9) AL))))) (Ag (AN 2 Am (AB (aV 7) (AB (aV 9) AL)))))) (Ak (aC (.bl false))) Ay)
   Hv)
abbrev Ht:AS:=
 (AZ (As (DD Bw (AB (AX Ai (aV 5) (aC (.int 1))) AL)) (Ar 9))
   Hu)
abbrev Hs:AS:=
 (AZ (As (DD Bw (AB (AX Ai (aV 5) (aC (.int 0))) AL)) (Ar 8))
   Ht)
abbrev J3:AS:=
 (AZ (BD (Bc (Ag (AN 1 GX (AB (aV 5) AL)))) (Ak (aC (.bl false))) Ay)
   Hs)
abbrev J7:AS:=
 (AZ (FO (Hl (aV 3)) (Ar 5) J3)
   (Ak (AX GM (aV 6) (aV 7))))
abbrev J6:AS:=
 (AZ (As (aV 4) (IM 2 (Ae (Ar 6) (Ae (Ar 7) Bu))))
   J7)
abbrev J5:AS:=
 (AZ (BD (Ag (AX Tk (aV 4) (aC .non))) (Ak (AX GM (DD EJ (AB (aV 3) AL)) (aC (.int 0)))) Ay)
   J6)
abbrev J4:AS:=
 (AZ (As (AN 2 D4 (AB (aV 0) (AB (aV 1) AL))) (Ar 4))
   J5)
abbrev Hf:AS:=
 (AZ (BD (Bc (Ag (LY (aV 3) ["tuple","list"]))) (Ak (aC (.bl false))) Ay)
   J4)
def CV:AF:=Av 10 Hf
def MG {a b c d:PV}{Q:PV->Prop}(h:Hf ⟨λ_=>Q .non,Q,λ_=>False,λ_=>False⟩ [some (.val a),some (.val b),some (.val c),some (.val d),none,none,none,none,none,none]):CV [a,b,c,d] Q:=h
structure Rw where
 b:Rat
 e:Rat
 sd:Nat
 up:Bool
abbrev K2 (u:kc):Int:=if u=true then 1 else -1
def FI (r:Rw):PV:= .tup [fr r.b,fr r.e, .int (r.sd:Nat), .int (K2 r.up)]
def En (b e:Rat)(k:Nat):Rw:=⟨b,e,k/2,decide (k % 2=0)⟩
def NK {b e:Rat}{k:Nat}{Q:PV->Prop}(q:Q (FI (En b e k))):Fd [fr b,fr e, .int (k:Nat)] Q:=by
 have c:((k:Int).fdiv 2)=((k/2:Nat):Int):=by rw[ACh _ (by decide)];omega
 have d:((k:Int).fmod 2)=((k % 2:Nat):Int):=by rw[ADt _ (by decide)];omega
 apply Yj;ac_rfl
 .rename_i h;refine⟨⟨by decide,Ax (m:=2) (by decide) (by decide)⟩, ?_⟩;rw[c];have a:FI (En b e k)= .tup [fr b,fr e, .int ((k/2:Nat):Int), .int 1] :=by unfold FI En K2;rw[AAi (show k % 2=0 by omega),AAU rfl]
  rw[a] at q;ac_rfl;exact q
 .rename_i h;refine⟨⟨by decide,Ax (m:=2) (by decide) (by decide)⟩, ?_⟩;rw[c];have a:FI (En b e k)= .tup [fr b,fr e, .int ((k/2:Nat):Int), .int (-1)] :=by unfold FI En K2;rw[AAr (show ¬k % 2=0 by omega)];rfl
  rw[a] at q;ac_rfl;exact q
def cv (b e:Rat):km Rw->Prop
 | [] =>b=e
 | r::rs=>r.b=b/\cv r.e e rs
theorem cv.app {x e:Rat}{a:km Rw}:∀{rs:km Rw} {b:Rat},cv b x rs->cv x e a->cv b e (rs++a)
 | [],b,h,k=>by cases h;exact k
 | r::rs,b,h,k=>⟨h.1,cv.app h.2 k⟩
def Pj (N:Nat)(lns:km (Int×Int))(b e:Rat)(rs:km Rw):Prop:=∃k l,mq N lns k l/\(((N:Int)<=l.2/\rs= [En b e k])\/(¬(N:Int)<=l.2/\∃a c,mq N (lns.map jC) a c/\rs= [En b (b+sv (l.1-N,l.1-l.2)*(e-b)) k,En (b+sv (l.1-N,l.1-l.2)*(e-b)) e a]))
def Pj.one {N:Nat}{lns:km (Int×Int)}{b e:Rat}{rs d:km Rw}(h:Pj N lns b e rs)(h':Pj N lns b e d):rs=d:=by
 obtain⟨k,l,a,c⟩:=h;obtain⟨n,o,g,i⟩:=h';obtain⟨rfl,rfl⟩:=a.one g;rcases c with⟨c1,rfl⟩|⟨c1,p,r,j,rfl⟩ <;> rcases i with⟨f,rfl⟩|⟨f,s,t,m,rfl⟩
 .rfl
 .exact absurd c1 f
 .exact absurd f c1
 .obtain ⟨rfl,rfl⟩:=j.one m;rfl
structure lX (N:Nat) (lns:List (Int×Int)) (b e:Rat) (B:Nat) (rs:List Rw):Prop where
 few:rs.length<=2
 ne:rs≠ []
 chn:cv b e rs
 det:Pj N lns b e rs
 ok:∀r∈rs,Bd B r.b/\Bd B r.e/\b<=r.b/\r.b<r.e/\r.e<=e/\∃k l,lns[k]? =some l/\r.sd=k/2/\r.up=decide (k % 2=0)/\(N:Rat)<=lv l ((r.b-b)/(e-b))/\(N:Rat)<=lv l ((r.e-b)/(e-b))
def eG {p:Int×Int}{b:kc}(hb:decide (p.1=1/\p.2=1)=b){Q:PV->Prop}(q:Q (.bl b)):GM (Hy p) (fr 1) Q:=by
 refine⟨⟨rfl,rfl⟩, ?_⟩;have e:G9 (Hy p) (fr 1)=decide (p.1=1/\p.2=1):=by show G9 (.tup [.int p.1, .int p.2]) (.tup [.int 1, .int 1])=_;simp[G9,pd,Nx,PyData.eqv,PyData.eqvAll];rfl
 rw[e,hb];exact q
def Ye {b e:Rat}{N M W:Nat}{lns:km (Int×Int)}(ok:∀l∈lns,JV N W l)(J:b<e)(f:Bd M b)(i:Bd M e)(hM:M<=300)(hW:W<=1050)(hl:lns.length<=1000)(g:∀s,0<=s->s<1->∃l∈lns,(N:Rat)<=lv l s){Q:PV->Prop}(q:∀rs,lX N lns b e (3*M+3*W+6) rs->Q (.lst (rs.map FI))):Gd [.tup [fr b,fr e, .int N, .lst (lns.map Hy)]] Q:=by
 have nz:e-b≠0:=by grind
 have B:(b-b)/(e-b)=0:=by grind
 have C:(e-b)/(e-b)=1:=by grind
 apply Wu;ac_rfl;refine QF ok hl ?_ λk l h=> ?_
 .obtain ⟨l,hl,h⟩:=g 0 AC8 (by decide);rw[jm] at h;exact⟨l,hl,Mx.mp h⟩
 have K:l∈lns:=AA9 h.at_;have ol:=ok l K;by_cases hN:(N:Int)<=l.2
 .rw [show Ur N l=(1,1) from AAU hN];ac_rfl;refine eG (b:=true) (by decide) ?_;ac_rfl;refine NK ?_;ac_rfl;refine q [En b e k] ⟨by simp,by simp,⟨rfl,rfl⟩,⟨k,l,h, .inl ⟨hN,rfl⟩⟩,λr j=> ?_⟩;rcases AC6.mp j with rfl;refine⟨f.mono (by omega),i.mono (by omega),AC8,J,AC8,k,l,h.at_,rfl,rfl, ?_, ?_⟩
  .show (N:Rat)<=lv l ((b-b)/(e-b));rw[B,jm];exact Mx.mpr h.up
  .show (N:Rat)<=lv l ((e-b)/(e-b));rw[C,oN];exact Mx.mpr hN
 .have es:Ur N l=(l.1-N,l.1-l.2):=AAS hN;obtain⟨L,D,O,E⟩:=NC ol h.up (by omega);have P:(l.2:Rat)<(N:Rat):=by rw[<-Ec];exact ABt.mpr (by omega)
  have m:sv (l.1-N,l.1-l.2)<1:=(E 1).mp (by rw[oN];exact P);have top:=h.top;rw[es] at top;obtain⟨t,tm,t1,t2,n⟩:=Yy ok g O m top;have S:0<sv (l.1-N,l.1-l.2):=by
   refine AE0 λz=>t1 ?_;have T:sv (l.1-N,l.1-l.2)=0:=by grind
   rw[T,jm] at n;exact Mx.mp n
  rw[es];ac_rfl;have o:¬((l.1-N,l.1-l.2).1=1/\(l.1-N,l.1-l.2).2=1):=by rintro⟨U,X⟩;have:(l.1-(N:Int),l.1-l.2)=(1,1):=ACu U X;rw[this,cX] at m;exact absurd m (by decide)
  refine eG (b:=false) (AAr o) ?_;ac_rfl;refine Cu Hy Hy jC (λ_=>True) (λa _ R Y=> ?_) lns [] (λ_ _=>trivial) ?_
  .ac_rfl;exact Y
  .rw [ABG];ac_rfl;refine QF (N:=N) (W:=W) (lns:=lns.map jC) (λx hx=> ?_) (by simpa using hl) ⟨jC t,AAe.mpr ⟨t,tm,rfl⟩,t2⟩ λd p h2=> ?_
   .obtain ⟨y,hy,rfl⟩:=AAe.mp hx;exact YK (ok y hy)
   obtain⟨c,F,rfl⟩:∃c,lns[d]? =some c/\jC c=p:=by
    have:=h2.at_;rw[AA0] at this;cases G:lns[d]? with
    | none=>rw[G] at this;cases this
    | some c=>rw[G] at this;exact⟨c,rfl,AAn this⟩
   have u:c∈lns:=AA9 F;have Z:=(fR (YK (ok t tm)) t2 (s:=1-sv (l.1-N,l.1-l.2)) (by grind) (by grind)).mp (by rw[fX,show (1:Rat)-(1-sv (l.1-N,l.1-l.2))=sv (l.1-N,l.1-l.2) by grind];exact n);have tt:=h2.top (jC t) (AAe.mpr ⟨t,tm,rfl⟩) t2;have v:(N:Rat)<=lv c (sv (l.1-N,l.1-l.2)):=by have:=(fR (YK (ok c u)) h2.up (s:=1-sv (l.1-N,l.1-l.2)) (by grind) (by grind)).mpr (Rat.le_trans Z tt);rw[fX,show (1:Rat)-(1-sv (l.1-N,l.1-l.2))=sv (l.1-N,l.1-l.2) by grind] at this;exact this
   have w:(N:Rat)<=lv l (sv (l.1-N,l.1-l.2)):=by have:=E (sv (l.1-N,l.1-l.2));grind
   ac_rfl;refine KO L D f i hM (by omega) ?_;have A:Pj N lns b e [En b (b+sv (l.1-N,l.1-l.2)*(e-b)) k,En (b+sv (l.1-N,l.1-l.2)*(e-b)) e d] :=⟨k,l,h, .inr ⟨hN,d,_,h2,rfl⟩⟩;generalize sv (l.1-N,l.1-l.2)=s at *;have H:(b+s*(e-b)-b)/(e-b)=s:=by grind
   have w0:=ABu S (show 0<e-b by grind);have w1:=ADi m (show 0<e-b by grind);have I:Bd (3*M+3*W+6) (b+s*(e-b)):=(f.add (D.mul (i.sub f))).mono (by omega);ac_rfl;refine NK ?_;ac_rfl;refine NK ?_;ac_rfl;refine q [En b (b+s*(e-b)) k,En (b+s*(e-b)) e d] ⟨by simp,by simp,⟨rfl,rfl,rfl⟩,A,λr j=> ?_⟩;simp only[AAV,AAp,AAq] at j;rcases j with rfl|rfl
   .refine ⟨f.mono (by omega),I,AC8,by show b<b+s*(e-b);grind,by show b+s*(e-b)<=e;grind,k,l,h.at_,rfl,rfl, ?_, ?_⟩
    .show (N:Rat)<=lv l ((b-b)/(e-b));rw[B,jm];exact Mx.mpr h.up
    .show (N:Rat)<=lv l ((b+s*(e-b)-b)/(e-b));rw[H];exact w
   .refine ⟨I,i.mono (by omega),by show b<=b+s*(e-b);grind,by show b+s*(e-b)<e;grind,AC8,d,c,F,rfl,rfl, ?_, ?_⟩
    .show (N:Rat)<=lv c ((b+s*(e-b)-b)/(e-b));rw[H];exact v
    .show (N:Rat)<=lv c ((e-b)/(e-b));rw[C,oN];exact Mx.mpr h2.up
def Ft (t:T3)(k:Nat):Rat:=if k=0 then t.1 else if k=1 then t.2.1 else t.2.2
def WO {W:Nat}{p:Pc}(d:Ea W p.o0)(h1:Ea W p.o1){k:Nat}{l:Int×Int}(e:p.lns[k]? =some l){s:Rat}(h:(p.N:Rat)<=lv l s):k/2<3/\1<=(K2 (decide (k % 2=0)):Rat)*Ft (lin p.o0 p.o1 s) (k/2):=by
 obtain⟨f,c,_⟩:=Ux d h1;have key:∀u v,u∈p.six->v∈p.six->((p.N:Rat)<=lv (E7 p.N u,E7 p.N v) s->1<=u+s*(v-u))/\((p.N:Rat)<=lv (-E7 p.N u, -E7 p.N v) s->1<= -(u+s*(v-u))):=λu v hu hv=>by
  have:=K1 (s:=s) f (c u hu) (c v hv);constructor
  .intro z;have:=this.1;grind
  .intro z;have:=this.2;grind
 have g:k<6:=(AAy.mp e).1;have a:((K2 true:Int):Rat)=1:=rfl;have b:((K2 false:Int):Rat)= -1:=rfl;have m:∀x∈ [p.o0.1,p.o0.2.1,p.o0.2.2,p.o1.1,p.o1.2.1,p.o1.2.2],x∈p.six:=λx hx=>hx;match k,g with
 | 0,_=>cases e;refine⟨by decide, ?_⟩;rw[show decide (0 % 2=0)=true from rfl,a];have:=(key _ _ (m p.o0.1 (by simp)) (m p.o1.1 (by simp))).1 h;show 1<=1*(p.o0.1+s*(p.o1.1-p.o0.1));grind
 | 1,_=>cases e;refine⟨by decide, ?_⟩;rw[show decide (1 % 2=0)=false from rfl,b];have:=(key _ _ (m p.o0.1 (by simp)) (m p.o1.1 (by simp))).2 h;show 1<= -1*(p.o0.1+s*(p.o1.1-p.o0.1));grind
 | 2,_=>cases e;refine⟨by decide, ?_⟩;rw[show decide (2 % 2=0)=true from rfl,a];have:=(key _ _ (m p.o0.2.1 (by simp)) (m p.o1.2.1 (by simp))).1 h;show 1<=1*(p.o0.2.1+s*(p.o1.2.1-p.o0.2.1));grind
 | 3,_=>cases e;refine⟨by decide, ?_⟩;rw[show decide (3 % 2=0)=false from rfl,b];have:=(key _ _ (m p.o0.2.1 (by simp)) (m p.o1.2.1 (by simp))).2 h;show 1<= -1*(p.o0.2.1+s*(p.o1.2.1-p.o0.2.1));grind
 | 4,_=>cases e;refine⟨by decide, ?_⟩;rw[show decide (4 % 2=0)=true from rfl,a];have:=(key _ _ (m p.o0.2.2 (by simp)) (m p.o1.2.2 (by simp))).1 h;show 1<=1*(p.o0.2.2+s*(p.o1.2.2-p.o0.2.2));grind
 | 5,_=>cases e;refine⟨by decide, ?_⟩;rw[show decide (5 % 2=0)=false from rfl,b];have:=(key _ _ (m p.o0.2.2 (by simp)) (m p.o1.2.2 (by simp))).2 h;show 1<= -1*(p.o0.2.2+s*(p.o1.2.2-p.o0.2.2));grind
section
variable {cs ds:km C4}{d:Rat×Rat}{M W:Nat}
theorem sw:∀p∈KZ cs ds d,∀c,c∈cs\/c∈ds->¬(p.b<c.1/\c.1<p.e):=by
 intro p hp c hc z;unfold KZ at hp;by_cases h:BH cs ds<BG cs ds
 .rw [AAU h] at hp;unfold OR at hp;obtain⟨q,hq,rfl⟩:=AAe.mp hp;obtain⟨a,f,i,g⟩:=Iv FX q hq;have j:=EZ h a;have k:=EZ h f;have l:q.1<c.1:=z.1;have m:c.1<q.2:=z.2;exact g c.1 (DC.mpr (.inr (.inr ⟨by grind,by grind,c,hc,rfl⟩))) z
 .rw [AAS h] at hp;cases hp
def uV (b e:Rat):km Pc->Prop
 | [] =>b=e
 | p::ps=>p.b=b/\uV p.e e ps
theorem gL:∀{ts:km Rat} {a z:Rat},ts.head?=some a->ts.getLast?=some z->uV a z (OR cs ds d ts)
 | [],a,z,h,_=>by cases h
 | [x],a,z,h,k=>by simp at h k;subst h;subst k;rfl
 | x::y::r,a,z,h,k=>by simp at h;subst h;refine⟨rfl, ?_⟩;have:=gL (ts:=y::r) (a:=y) (z:=z) rfl (by rw[AC3] at k;exact k);exact this
theorem ox (h:BH cs ds<BG cs ds):uV (BH cs ds) (BG cs ds) (KZ cs ds d):=by unfold KZ;rw[AAU h];exact gL (Oz h) (U7 h)
structure Vn (cs ds:List C4) (d:Rat×Rat) (B:Nat) (r:Rw):Prop where
 bb:Bd B r.b
 be:Bd B r.e
 lo:BH cs ds<=r.b
 lt:r.b<r.e
 hi:r.e<=BG cs ds
 sd:r.sd<3
 no:∀c,c∈cs\/c∈ds->¬(r.b<c.1/\c.1<r.e)
 at0:1<=(K2 r.up:Rat)*Ft (FH cs ds d r.b) r.sd
 at1:1<=(K2 r.up:Rat)*Ft (FH cs ds d r.e) r.sd
def Ph:km Pc->km Rw->Prop
 | [],rs=>rs= []
 | p::ps,rs=>∃r1 r2,rs=r1++r2/\Pj p.N p.lns p.b p.e r1/\Ph ps r2
theorem Ph.one:∀{f:km Pc} {rs c:km Rw},Ph f rs->Ph f c->rs=c
 | [],_,_,h,h'=>by have h:_= [] :=h;have h':_= [] :=h';rw[h,h']
 | p::f,_,_,⟨r1,r2,e,a,b⟩,⟨r1',r2',e',a',b'⟩=>by rw[e,e',a.one a',Ph.one b b']
theorem Ph.snoc {p:Pc}{t:km Rw}(h:Pj p.N p.lns p.b p.e t):∀{c:km Pc} {rs:km Rw},Ph c rs->Ph (c ++ [p]) (rs++t)
 | [],_,k=>by have k:_= [] :=k;subst k;exact⟨t, [],by simp,h,rfl⟩
 | q::c,_,⟨r1,r2,e,a,b⟩=>⟨r1,r2++t,by rw[e,AC4],a,Ph.snoc h b⟩
structure dR (cs ds:List C4) (d:Rat×Rat) (B:Nat) (rs:List Rw):Prop where
 few:rs.length<=402
 some_:BH cs ds<BG cs ds->rs≠ [] /\cv (BH cs ds) (BG cs ds) rs
 none_:¬BH cs ds<BG cs ds->rs= []
 ok:∀r∈rs,Vn cs ds d B r
 det:Ph (KZ cs ds d) rs
theorem E6.far (D:E6 cs ds d M W)(a:∀m,¬BI cs ds d m){p:Pc}(hp:p∈KZ cs ds d):∀s,0<=s->s<1->∃l∈p.lns,(p.N:Rat)<=lv l s:=by
 intro s c f;have o:=D.pc p hp;have g:=o.lt;refine AE0 λz=> ?_;have all:∀l∈p.lns,lv l s<p.N:=λl hl=>by rw[<-Rat.not_le];exact λk=>z ⟨l,hl,k⟩
 have h:=Rat.mul_nonneg c (show 0<=p.e-p.b by grind);have i:=ADi f (show 0<p.e-p.b by grind);refine a (p.b+s*(p.e-p.b)) (D.near_iff.mp ⟨p,hp,by grind,by grind, ?_⟩);rw[show (p.b+s*(p.e-p.b)-p.b)/(p.e-p.b)=s by grind];exact all
theorem E6.rows (D:E6 cs ds d M W){p:Pc}(hp:p∈KZ cs ds d){rs:km Rw}{B:Nat}(h:lX p.N p.lns p.b p.e B rs):∀r∈rs,Vn cs ds d B r:=by intro r g;have o:=D.pc p hp;have lo:=o.lo;have hi:=o.hi;obtain⟨b1,b2,i,j,m,k,l,e,a,f,n,s⟩:=h.ok r g;have c1:=WO o.w0 o.w1 e n;have c2:=WO o.w0 o.w1 e s;rw[<-o.lin r.b i (by grind),<-a,<-f] at c1;rw[<-o.lin r.e (by grind) m,<-a,<-f] at c2;refine⟨b1,b2,by grind,j,by grind,c1.1,λc hc z=>sw p hp c hc ⟨by grind,by grind⟩,c1.2,c2.2⟩
theorem WQ {B:Nat}{s:Bq}{a:km Bq}{x:Rat}{P:Rat->Prop}(t:Told P B (s::a))(hx:s.2.2=some x):P ((s.1+x)/2):=by have os:=t.ok s (by simp);have b:=(os.e x hx).1;refine(t.sem _).mp ?_;rw[ABP,ABr];refine .inl ((e5 os hx).mpr ⟨.inl (by grind),by grind⟩)
def Y8 (P:Rat->Prop)(B:Nat)(m:Rat):Prop:=∃s a x,Told P B (s::a)/\Sep (s::a)/\s.2.2=some x/\m=(s.1+x)/2
theorem Y8.one {P:Rat->Prop}{B:Nat}{m a:Rat}(h:Y8 P B m)(h':Y8 P B a):m=a:=by
 obtain⟨s,g,x,t,z,hx,rfl⟩:=h;obtain⟨i,c,j,t',f,b,rfl⟩:=h';have e:=Qq z f t.ok t'.ok t.fin t'.fin λk=>by rw[ACR,t.sem,t'.sem]
 cases e;rw[hx] at b;cases b;rfl
theorem KY (D:E6 cs ds d M W){v w u:PV}(hv:CP cs v)(hw:CP ds w)(hu:XN d u)(S:3*M+3*W+6<=1990){Q:PV->Prop}(H:∀m,BI cs ds d m->Bd (2*(3*M+3*W+6)+4) m->Y8 (BI cs ds d) (3*M+3*W+6) m->Q (.tup [.str "near",fr m]))(I:(∀m,¬BI cs ds d m)->∀rs,dR cs ds d (3*M+3*W+6) rs->Q (.tup [.str "clear", .tup (rs.map FI)])):FW [v,w,u] Q:=by
 have hM:=D.hM;have hW:=D.hW;have C:=Oo D;apply Wt;ac_rfl;refine W9 D hv hw hu λss n=> ?_;have t:=n.told;have sp:=ao n.ok;generalize canon 1 ss=i at t sp;cases i with
 | nil=>
   have E:∀m,¬BI cs ds d m:=λm z=>by have:=(t.sem m).mpr z;cases this
   ac_rfl;refine Sa D hv hw hu ?_;ac_rfl;refine Pt (λr f=>∃c rs rows x,c++rs=KZ cs ds d/\r=rs.map qN/\f=rows.map FI/\rows.length<=2*c.length/\(c≠ [] ->rows≠ [])/\(∀r∈rows,Vn cs ds d (3*M+3*W+6) r)/\((c= [] ->rows= [])/\Ph c rows)/\(BH cs ds<BG cs ds->cv (BH cs ds) x rows/\uV x (BG cs ds) rs)) ?_ ?_ _ _ ⟨[],_, [],BH cs ds,rfl,rfl,rfl,by simp,λz=>absurd rfl z,by simp,⟨by simp,rfl⟩,λh=>⟨rfl,ox h⟩⟩
   .rintro f ⟨c,rs,rows,x,e,a,rfl,h1,h2,j,⟨F,k⟩,l⟩;have:rs= [] :=by cases rs with | nil=>rfl|cons _ _=>cases a
    subst this;rw[ABb] at e;subst e;ac_rfl;refine I E rows ⟨by omega,λh=> ?_,λh=> ?_,j,k⟩
    .have A:=l h;have hx:x=BG cs ds:=A.2;subst hx;refine⟨λz=> ?_,A.1⟩;have G:=A.1;rw[z] at G;have:BH cs ds=BG cs ds:=G;grind
    .refine F ?_;unfold KZ;rw[AAS h]
   .rintro y r f R J ⟨c,rs,rows,x,e,a,rfl,h1,h2,j,⟨F,k⟩,l⟩;cases rs with
    | nil=>cases a
    | cons p rs=>
      cases a;have B:p∈KZ cs ds d:=by rw[<-e];simp
      have ul:c.length+1<=201:=by rw[<-e] at C;simp at C;omega
      have o:=D.pc p B;repeat' array_get_dec
      refine Ye (fW o.w0 o.w1 (by omega)) o.lt o.bb o.be (by omega) hW (by rw[Zl];decide) (D.far E B) λK g=> ?_;have T:=g.few;repeat' array_get_dec
      refine Xj _ _ (J _ ⟨c ++ [p],rs,rows++K,p.e,by simpa using e,rfl,by rw[AAk],by simp;omega,λ_ z=>g.ne (List.append_eq_nil_iff.mp z).2,λr a=> ?_,⟨λz=>by simp at z,k.snoc g.det⟩,λh=> ?_⟩)
      .rcases AAj.mp a with a|a
       .exact j r a
       .exact D.rows B g r a
      .obtain ⟨L,N,O⟩:=l h;refine⟨L.app ?_,O⟩;rw[<-N];exact g.chn
 | cons s i=> obtain⟨x,hx⟩:=t.fin s (by simp);have os:=t.ok s (by simp);have b1:=os.b;have b2:=(os.e x hx).2;have mn:=WQ t hx;have P:Bd 2 (((2:Int):Rat)):=⟨by decide,by decide⟩;rw[AAc,cK hx];ac_rfl;exact H _ mn (((b1.add b2).div (by decide) P).mono (by omega)) ⟨s,i,x,t,sp,hx,rfl⟩
theorem dt {p:T3}{k:Nat}(hk:k<3){R:PV->Prop}(h:R (fr (Ft p k))):Ai (.tup [fr p.1,fr p.2.1,fr p.2.2]) (.int (k:Nat)) R:=by
 match k,hk with
 | 0,_=>exact h
 | 1,_=>exact h
 | 2,_=>exact h
theorem jy {p q:T3}{k:Nat}(p1:0<d.1)(p2:0<d.2){s:Rat}:s*(Ft p k-Ft q k)<(if k=2 then d.2 else d.1)\/2<k↔s*Ft (Eo p q d) k<1\/2<k:=by
 have key:∀{x y:Rat},0<y->(s*x<y↔s*(x/y)<1):=λ{x y} hy=>by
  have e:s*(x/y)=s*x/y:=by grind
  rw[e,ACZ hy];grind
 match k with
 | 0=>have:=key (x:=p.1-q.1) p1;simp only[Ft,Eo];simpa using this
 | 1=>have:=key (x:=p.2.1-q.2.1) p1;simp only[Ft,Eo];simpa using this
 | 2=>have:=key (x:=p.2.2-q.2.2) p2;simp only[Ft,Eo];simpa using this
 | k+3=>simp
theorem fB (D:E6 cs ds d M W){v w u:PV}{B X:Nat}(hc:∀c∈cs,EF B c)(f:∀c∈ds,EF B c)(hv:CP cs v)(hw:CP ds w)(hu:XN d u){r:Rw}(o:r.sd<3)(A:Bd X r.b)(C:Bd X r.e)(lo:BH cs ds<=r.b)(H:r.b<r.e)(hi:r.e<=BG cs ds)(Y:2*(X+6*B+10)<=3980)(g:B<=X){Q:PV->Prop}(I:(∀m∈EE cs ds r.b r.e,1<=(K2 r.up:Rat)*Ft (FH cs ds d m) r.sd)->Q (.bl true))(J:(¬∀m∈EE cs ds r.b r.e,1<=(K2 r.up:Rat)*Ft (FH cs ds d m) r.sd)->Q (.bl false)):LO [v,w,u,FI r] Q:=by
 have E:=D.tog (show BH cs ds<BG cs ds by grind);have f1:=D.f1;have f2:=D.f2;have K:Bd 2 ((K2 r.up:Int):Rat):=by cases r.up <;> exact⟨by decide,by decide⟩
 unfold FI;apply cP;ac_rfl;refine XA hv hw f1 f2 (B:=X) (λc h=>(hc c h).mono g) (λc h=>(f c h).mono g) (by omega) A C ?_;ac_rfl;refine EU fr (λF vs τ=>(∀m∈F,1<=(K2 r.up:Rat)*Ft (FH cs ds d m) r.sd)/\∃i j,τ= [some (.val v),some (.val w),some (.val u),some (.val (.tup [fr r.b,fr r.e, .int (r.sd:Nat), .int (K2 r.up)])),i,some (.val (fr r.b)),some (.val (fr r.e)),some (.val (.int (r.sd:Nat))),some (.val (.int (K2 r.up))),j]) ?_ ?_ ⟨by simp,_,_,rfl⟩
 .rintro τ ⟨h,i,j,rfl⟩;ac_rfl;exact I h
 .rintro F m vs e τ R L ⟨h,i,j,rfl⟩;have l:m∈EE cs ds r.b r.e:=by rw[<-e];simp
  obtain⟨Z,i2⟩:=EZ H l;have bm:Bd X m:=Gs (λc h=>((hc c h).mono g).m) (λc h=>((f c h).mono g).m) A C l;obtain⟨s,es⟩:=E.one m (by grind) (by grind);obtain⟨t,n⟩:=E.other m (by grind) (by grind);have N:=Ea.spotC bm D.r1 hc s es;have O:=Ea.spotC bm D.r2 f t n;have G:∀{p:T3},Ea (X+6*B+10) p->Bd (X+6*B+10) (Ft p r.sd):=λh=>by unfold Ft;split;exact h.x;split;exact h.y;exact h.z
  have c1:=G N;have c2:=G O;have P:FH cs ds d m=Eo s t d:=by unfold FH;rw[es,n];rfl
  have a:(K2 r.up:Rat)*(Ft s r.sd-Ft t r.sd)<(if r.sd=2 then d.2 else d.1)↔(K2 r.up:Rat)*Ft (FH cs ds d m) r.sd<1:=by
   have:=jy (p:=s) (q:=t) (k:=r.sd) D.p1 D.p2 (s:=(K2 r.up:Rat));rw[P];have S:¬2<r.sd:=by omega
   simpa[S] using this
  have T:=c1.sub c2;have c4:=K.mul T;have b1:=D.b1;have b2:=D.b2;ac_rfl;refine FN hv hc D.r1 (by have:=D.t1;intro z;rw[z] at this;simp at this) (by omega) bm (by omega) ?_;rw[es];refine dt o ?_;ac_rfl;refine FN hw f D.r2 (by have:=D.t2;intro z;rw[z] at this;simp at this) (by omega) bm (by omega) ?_;rw[n];refine dt o ?_;ac_rfl;refine Z8 (x:=d.1) (y:=d.2) (λh=> ?_) (λh=> ?_) ?_
  .rcases hu with rfl|rfl <;> exact h
  .rcases hu with rfl|rfl <;> exact h
  have U:(if ((r.sd:Nat):Int)=2 then d.2 else d.1)=if r.sd=2 then d.2 else d.1:=by
   by_cases h:r.sd=2
   .rw [AAU h,AAU (by omega)]
   .rw [AAS h,AAS (by omega)]
  have bs:Bd 100 (if r.sd=2 then d.2 else d.1):=by split <;> assumption
  rw[U];generalize (if r.sd=2 then d.2 else d.1)=sz at *;ac_rfl
  .rename_i k;refine J λz=> ?_;have:=z m l;have:=a.mp k;grind
  .rename_i k;refine L _ ⟨λx hx=> ?_,_,_,rfl⟩;rcases AAj.mp hx with hx|hx
   .exact h x hx
   .rcases AC6.mp hx with rfl;rw[<-ADh];exact λz=>k (a.mpr z)
theorem cM {B:Nat}{r:Rw}(g:Vn cs ds d B r):∀m∈EE cs ds r.b r.e,1<=(K2 r.up:Rat)*Ft (FH cs ds d m) r.sd:=by
 intro m a;rcases DC.mp a with rfl|rfl|⟨h1,h2,c,hc,rfl⟩
 .exact g.at0
 .exact g.at1
 .exact absurd ⟨h1,h2⟩ (g.no c hc)
def uR (r:Rat)(v:PV):Prop:=v=fr r\/v= .lst [.int r.num, .int (r.den:Int)]
def iZ (r:Rw)(v:PV):Prop:=∃x y,uR r.b x/\uR r.e y/\(v= .tup [x,y, .int (r.sd:Nat), .int (K2 r.up)] \/v= .lst [x,y, .int (r.sd:Nat), .int (K2 r.up)])
theorem iZ.self (r:Rw):iZ r (FI r):=⟨_,_, .inl rfl, .inl rfl, .inl rfl⟩
theorem sD {k:Nat}(h:k<3){Q:PV->Prop}(q:Q (.bl true)):lh false (.int (k:Nat)) (.tup [.int 0, .int 1, .int 2]) Q:=by
 match k,h with
 | 0,_=>exact⟨⟨rfl,rfl⟩,q⟩
 | 1,_=>exact⟨⟨rfl,rfl⟩,q⟩
 | 2,_=>exact⟨⟨rfl,rfl⟩,q⟩
theorem sE {u:kc}{Q:PV->Prop}(q:Q (.bl true)):lh false (.int (K2 u)) (.tup [.int 1, .int (-1)]) Q:=by
 cases u
 .exact ⟨⟨rfl,rfl⟩,q⟩
 .exact ⟨⟨rfl,rfl⟩,q⟩
theorem bO {r:Rw}{v:PV}(h:iZ r v)(hs:r.sd<3){Q:PV->Prop}(q:Q (.bl true)):GX [v] Q:=by
 obtain⟨x,y,hx,hy,hv⟩:=h;apply Yf;rcases hv with rfl|rfl;all_goals
  ac_rfl;refine Zs hx ?_;ac_rfl;refine Zs hy ?_;ac_rfl;refine FY ?_;ac_rfl;refine FY ?_;ac_rfl;refine sD hs ?_;ac_rfl;refine sE ?_;ac_rfl;exact q
theorem iR {r:Rat}{x:PV}(h:uR r x){Q:PV->Prop}(q:Q (fr r)):Bw [x] Q:=by
 rcases h with rfl|rfl
 .exact q
 .exact q
theorem Qt (D:E6 cs ds d M W){v w u pv:PV}{B X:Nat}(hc:∀c∈cs,EF B c)(t:∀c∈ds,EF B c)(hv:CP cs v)(hw:CP ds w)(hu:XN d u){rs:km Rw}(P:dR cs ds d X rs)(y:2*(X+6*B+10)<=3980)(A:B<=X)(o:M<=X){f:Rw->PV}(p:∀r,iZ r (f r))(hp:pv= .tup (rs.map f)\/pv= .lst (rs.map f)){Q:PV->Prop}(q:Q (.bl true)):CV [v,w,u,pv] Q:=by
 have U:=D.endB.mono o;have C:=P.few;apply MG;rcases hp with rfl|rfl;all_goals
  ac_rfl;refine aM D hv hw (λh=> ?_) (λh=> ?_)
  .ac_rfl;refine EU f (λE vs τ=>∃x i j k,Bd X x/\cv x (BG cs ds) vs/\τ= [some (.val v),some (.val w),some (.val u),some (.val _),some (.val (.tup [fr (BH cs ds),fr (BG cs ds)])),i,some (.val (fr x)),some (.val (fr (BG cs ds))),j,k]) ?_ ?_ ⟨BH cs ds,_,_,_,D.begB.mono o,(P.some_ h).2,rfl⟩
   .rintro τ ⟨x,i,j,k,F,hx,rfl⟩;have hx:x=BG cs ds:=hx;subst hx;ac_rfl;rw[AAi rfl];exact q
   .rintro E r vs e τ R G ⟨x,i,j,k,F,hx,rfl⟩;have g:=P.ok r (by rw[<-e];simp);have H:=g.bb;have s:=g.be;obtain⟨l,m⟩:=hx;have l:r.b=x:=l;obtain⟨I,y1,J,K,a⟩:=p r;have n:∀{Q:PV->Prop},Q (.bl true)->GX [f r] Q:=λq=>bO (p r) g.sd q;have L:∀{R:PV->Prop},R I->Ai (f r) (.int 0) R:=λh=>by rcases a with z|z <;> rw[z] <;> exact h
    have N:∀{R:PV->Prop},R y1->Ai (f r) (.int 1) R:=λh=>by rcases a with z|z <;> rw[z] <;> exact h
    have O:∀{R:PV->Prop},R (.int (r.sd:Nat))->Ai (f r) (.int 2) R:=λh=>by rcases a with z|z <;> rw[z] <;> exact h
    have S:∀{R:PV->Prop},R (.int (K2 r.up))->Ai (f r) (.int 3) R:=λh=>by rcases a with z|z <;> rw[z] <;> exact h
    ac_rfl;refine n ?_;ac_rfl;refine L ?_;ac_rfl;refine iR J ?_;ac_rfl;refine N ?_;ac_rfl;refine iR K ?_;subst l;ac_rfl
    .exact absurd g.lt ‹_›
    .have:=g.hi;rename_i Y Z;exfalso;grind
    .refine O ?_;ac_rfl;refine S ?_;ac_rfl;refine fB D (r:=r) hc t hv hw hu g.sd H s g.lo g.lt g.hi y A (λ_=> ?_) (λz=>absurd (cM g) z);ac_rfl;exact G _ ⟨r.e,_,_,_,s,m,rfl⟩
  .have T:=P.none_ h;subst T;ac_rfl;exact q
end
structure LQ (cs:List C4):Prop where
 ok:G3 12 22 cs
 mu:∀c∈cs,Mul 6 2000 c.1
def sR {N:Nat}:Mul 6 N (0:Rat):=⟨by decide,0,by simp,by simp⟩
def YG {cs:km C4}{t:Rat}{o:T3}(h:∀c∈cs,Mul 6 600 c.1)(a:Mul 6 1400 t):∀c∈cs.map (jn t o),Mul 6 2000 c.1:=λc hc=>by obtain⟨b,hb,rfl⟩:=AAe.mp hc;exact(h b hb).add a
instance (priority:=high) vB {Q:PV->Prop}:Q6 (DN [.tape] Q) True (∀a,Bd 8 a->0<a->Mul 6 48 a->Q (fr a)):=⟨λ_ h=>Hh h⟩
def Ek {cs:km C4}{w:Int}{o:T3}{T U W z7 z8:ke AV}{X Y Z:BN->Prop}(h:Pi 12 6 600 cs)(E:Ea 11 o){Q:PV->Prop}(q:∀ds,LQ ds->Q (An ds)):GO {nx:=X,rt:=Q,bk:=Y,ct:=Z} [some (.val .tape),some (.val (An cs)),T,some (.val (.int w)),some (.own [fr o.1,fr o.2.1,fr o.2.2]),U,W,z7,z8] :=by
 have few:=h.few;have two:=h.two;have b:G3 12 10 cs:=h.ok (by decide) (by decide);obtain⟨a,r,l,s,h0,el,al⟩:=b.open;have I:cs.getLast?=some l:=by rw[s];exact el
 have F:l∈cs:=ABf I;have bl:=(b.bd l F).m;have f:=qG.mono (n:=11) (by decide);have A:∀{ds:km C4},Pi 12 6 600 ds->LQ ds:=λp=>⟨⟨p.two,p.few,λc hc=>(p.mu c hc).bd (by decide) (by decide),p.ris⟩,λc hc=>(p.mu c hc).m.mono (by decide)⟩;have i:∀c∈cs,Mul 6 600 c.1:=λc hc=>(h.mu c hc).m;ac_rfl
 .exact KP rfl (by omega) b.bd f E (by decide) (by decide) (q _ ⟨YH b f E,YG i sR⟩)
 .rename_i sp bs ps J k k0 K;refine M9 (xs:= [sp,0]) k0 K λt P=> ?_;have bt:Bd 11 t/\Mul 6 1400 t:=by
   simp only[AAV,AAp,AAq] at P;rcases P with rfl|rfl
   .exact ⟨bs.mono (by decide),J.mono (by decide)⟩
   .exact ⟨f,sR⟩
  obtain⟨bt,mt⟩:=bt;ac_rfl;exact KP rfl (by omega) b.bd bt E (by decide) (by decide) (q _ ⟨YH b bt E,YG i mt⟩)
 .show (cs.map cor).length=(cs.map cor).length/\_;refine⟨rfl, ?_⟩;rw[<-List.map_reverse,lU];refine⟨sL (n:=12) (by simp;omega) (by decide), ?_⟩;refine Cu (λp:C4×C4=> .tup [cor p.1,cor p.2]) cor (λp=>(p.1.1,p.2.2)) (λ_=>True) (λp _ R hR=> ?_) _ [] (by simp) ?_
  .ac_rfl;exact hR
  rw[ABG];ac_rfl;refine q _ ⟨⟨by simp;omega,by simp;omega,λc hc=> ?_, ?_⟩,λc hc=> ?_⟩;rotate_left 2
  .obtain ⟨⟨u,v⟩,hu,rfl⟩:=AAe.mp hc;exact(i u (ABj hu).1).mono (by decide)
  .obtain ⟨⟨u,v⟩,hu,rfl⟩:=AAe.mp hc;have h1:=b.bd u (ABj hu).1;have h2:=b.bd v (List.mem_reverse.mp (ABj hu).2);exact⟨h1.m.mono (by decide),h2.x.mono (by decide),h2.y.mono (by decide),h2.z.mono (by decide)⟩
  .refine Z4 h.ris ?_;rw[ACX];have e:((λx:C4=>x.1) ∘ λp:C4×C4=>((p.1.1,p.2.2):C4))=(λx:C4=>x.1) ∘ Prod.fst:=rfl;rw[e,<-ACX,List.map_fst_zip (by simp)]
 .refine JJ λds pd=> ?_;have g:G3 12 10 ds:=pd.ok (by decide) (by decide);obtain⟨G,r2,l2,B,XI,el2,al2⟩:=g.open;have S:=pd.few;have ba2:=(g.bd G (by rw[B];simp)).m;subst B;have bt:Bd 11 (l.1-G.1):=(Mul.subQ (h.mu l F).m (pd.mu G (by simp)).m).bd (by decide) (by decide);ac_rfl;exact KP (o:=(0,0,0)) rfl (by omega) g.bd bt ⟨f,f,f⟩ (by decide) (by decide) (q _ ⟨YH g bt ⟨f,f,f⟩,YG (λc hc=>(pd.mu c hc).m) ((Mul.subQ (h.mu l F).m (pd.mu G (by simp)).m).mono (by decide))⟩)
 .rename_i k k0 K x bx y L z bz c M H;have j:=b.bd c H;have hk:k.toNat<cs.length:=by omega
  have N:cs[k.toNat] =c:=by rw[AAs hk] at M;exact AAn M
  rw[show (k+1).toNat=k.toNat+1 by omega];refine q _ ⟨⟨by simp;omega,by simp;omega,λd hd=> ?_, ?_⟩,λd hd=> ?_⟩;rotate_left 2
  .rcases AAj.mp hd with hd|hd
   .rcases AAj.mp hd with hd|hd
    .exact (i d (List.mem_of_mem_take hd)).mono (by decide)
    .simp at hd;subst hd;exact(i c H).mono (by decide)
   .exact (i d (List.mem_of_mem_drop hd)).mono (by decide)
  .rcases AAj.mp hd with hd|hd
   .rcases AAj.mp hd with hd|hd
    .exact (b.bd d (List.mem_of_mem_take hd)).mono (by decide)
    .simp at hd;subst hd;exact⟨j.m.mono (by decide),bx.mono (by decide),L.mono (by decide),bz.mono (by decide)⟩
   .exact (b.bd d (List.mem_of_mem_drop hd)).mono (by decide)
  .refine Z4 h.ris ?_;have e:cs=cs.take k.toNat ++ [c] ++ cs.drop (k.toNat+1):=by rw[AC4,List.singleton_append,<-N,<-ACk hk,List.take_append_drop]
   conv=>rhs;rw[e]
   simp only[AAk,AAc,ADJ]
 .rename_i k k0 K c M H c0 C D sp bs ps J;have j:=b.bd c H;have O:=b.bd c0 D;have e0:c0=a:=by rw[s] at C;exact(AAn C).symm
  refine q [(c0.1,c.2.1,c.2.2.1,c.2.2.2),(l.1+sp,c.2.1,c.2.2.1,c.2.2.2)] ⟨⟨by simp,by simp,λd hd=> ?_, ?_⟩,λd hd=> ?_⟩;rotate_left 2
  .simp only[AAV,AAp,AAq] at hd;rcases hd with rfl|rfl
   .exact (i c0 D).mono (by decide)
   .exact ((i l F).add J).mono (by decide)
  .simp only[AAV,AAp,AAq] at hd;rcases hd with rfl|rfl
   .exact ⟨O.m.mono (by decide),j.x.mono (by decide),j.y.mono (by decide),j.z.mono (by decide)⟩
   .exact ⟨(bl.add bs).mono (by decide),j.x.mono (by decide),j.y.mono (by decide),j.z.mono (by decide)⟩
  .refine AAZ.mpr ⟨λd hd=> ?_,AEK _ _⟩;simp at hd;subst hd;show c0.1<l.1+sp;rw[e0];grind
 .exact JJ λds pd=>q ds (A pd)
def Xe {cs:km C4}{d:Rat×Rat}(p:Pi 12 6 600 cs)(b1:Bd 3 d.1)(b2:Bd 3 d.2){Q:PV->Prop}(q:∀ds,LQ ds->Q (An ds)):Dp [.tape,An cs, .tup [fr d.1,fr d.2]] Q:=by
 have e:=p.few;have two:=p.two;apply OS;ac_rfl;rename_i w j l r m r1;have g:r=0\/r=1\/r=2:=by omega
 have a:Bd 11 (0:Rat):=qG.mono (by decide);have b:∀{k:Int} {R:PV->Prop},0<=k->k<3->(∀f:Rat,Bd 2 f->R (fr f))->Ai (.lst [fr (1/2),fr ((-1:Int):Rat), .tup [.int (-1), .int 3]]) (.int k) R:=λk0 i h=>by rw[uJ];refine M9 (xs:= [(1/2:Rat),((-1:Int):Rat), -1/3]) k0 i λx hx=>h x ?_;simp only[AAV,AAp,AAq] at hx;rcases hx with rfl|rfl|rfl <;> exact sm2
 rcases g with rfl|rfl|rfl
 .ac_rfl;rw[show (if decide ((0:Int)=2)=true then (1:Int) else 0)=0 from rfl];ac_rfl;simp only[l9,cF,AC9,ACo];repeat' (first | exact Ek (o:=(d.1,0,0)) p ⟨b1.mono (by decide),a,a⟩ q|array_mem_dec)
  refine b (by omega) (by omega) λf c=> ?_;ac_rfl;simp only[l9,cF,AC9,ACo];repeat' (first | exact Ek (o:=(d.1*f,0,0)) p ⟨(b1.mul c).mono (by decide),a,a⟩ q|array_mem_dec)
 .ac_rfl;rw[show (if decide ((1:Int)=2)=true then (1:Int) else 0)=0 from rfl];ac_rfl;simp only[mB,cF,AC9,ACo];repeat' (first | exact Ek (o:=(0,d.1,0)) p ⟨a,b1.mono (by decide),a⟩ q|array_mem_dec)
  refine b (by omega) (by omega) λf c=> ?_;ac_rfl;simp only[mB,cF,AC9,ACo];repeat' (first | exact Ek (o:=(0,d.1*f,0)) p ⟨a,(b1.mul c).mono (by decide),a⟩ q|array_mem_dec)
 .ac_rfl;rw[show (if decide ((2:Int)=2)=true then (1:Int) else 0)=1 from rfl];ac_rfl;simp only[mC,cF,AC9,ACo];repeat' (first | exact Ek (o:=(0,0,d.2)) p ⟨a,a,b2.mono (by decide)⟩ q|array_mem_dec)
  refine b (by omega) (by omega) λf c=> ?_;ac_rfl;simp only[mC,cF,AC9,ACo];repeat' (first | exact Ek (o:=(0,0,d.2*f)) p ⟨a,a,(b2.mul c).mono (by decide)⟩ q|array_mem_dec)
def dm {e:km Int}{k:Nat}(hk:k<=1000){Q:PV->Prop}(q:∀cs ds (d:Rat×Rat),LQ cs->LQ ds->Bd 3 d.1->Bd 3 d.2->1/3<=d.1->1/3<=d.2->Q (.tup [.tape,An cs,An ds, .tup [fr d.1,fr d.2]])):Ez [.scr e, .int k] Q:=by
 apply Rn;ac_rfl;refine R5 λd b1 b2 p1 p2=> ?_;ac_rfl;refine JJ λcs b=> ?_;ac_rfl;refine Xe b b1 b2 λds pd=> ?_;have a:LQ cs:=⟨⟨b.two,b.few,λc hc=>(b.mu c hc).bd (by decide) (by decide),b.ris⟩,λc hc=>(b.mu c hc).m.mono (by decide)⟩;ac_rfl
 .exact q ds cs d pd a b1 b2 p1 p2
 .exact q cs ds d a pd b1 b2 p1 p2
def Mul.up {D N:Nat}{a:Rat}(h:Mul D N a):Mul (12*D) (30*N) a:=by obtain⟨b,k,rfl,hk⟩:=h;refine⟨by omega,12*k, ?_,by omega⟩;rw[show ((12*D:Nat):Int)=12*(D:Int) by push_cast;rfl,Rat.divInt_mul_left (by decide)]
structure MB (A B:Nat) (cs:List C4):Prop where
 m:∀c∈cs,Bd A c.1
 x:∀c∈cs,EF B c
def fF {A B M:Nat}{a b:C4}{t:Rat}(ha:Bd A a.1)(hb:Bd A b.1)(c:EF B a)(d:EF B b)(bt:Bd M t)(h:a.1<b.1):Ea (M+3*A+3*B+4) (inter a b t):=by
 have n:b.1-a.1≠0:=by grind
 have s:=(bt.sub ha).div n (hb.sub ha);exact⟨(c.x.add (s.mul (d.x.sub c.x))).mono (by omega),(c.y.add (s.mul (d.y.sub c.y))).mono (by omega),(c.z.add (s.mul (d.z.sub c.z))).mono (by omega)⟩
theorem Sm {A B M:Nat}{t:Rat}(bt:Bd M t):∀{a:C4} {r:km C4},KF (a::r)->MB A B (a::r)->∀p,spotG a r t=some p->Ea (M+3*A+3*B+4) p
 | a, [],_,_,p,e=>by cases e
 | a,b::r,h,mb,p,e=>by
   simp only[spotG] at e;have d:=(AAZ.mp h).1 b (by simp);split at e
   .exact Sm bt (AAZ.mp h).2 ⟨λc hc=>mb.m c (by simp[hc]),λc hc=>mb.x c (by simp[hc])⟩ p e
   .cases e;exact fF (mb.m a (by simp)) (mb.m b (by simp)) (mb.x a (by simp)) (mb.x b (by simp)) bt d
def W4 {A B M:Nat}{cs:km C4}{t:Rat}{p:T3}(bt:Bd M t)(b:KF cs)(c:MB A B cs)(e:spotC cs t=some p):Ea (M+3*A+3*B+4) p:=by
 cases cs with
 | nil=>cases e
 | cons a r=>
   simp only[spotC] at e;split at e
   .cases e
   .exact Sm bt b c p e
def nK {cs ds:km C4}{d:Rat×Rat}{n M S D:Nat}(hn:n<=100)(t1:2<=cs.length)(t2:2<=ds.length)(f1:cs.length<=n)(f2:ds.length<=n)(r1:KF cs)(r2:KF ds)(c1:∀c∈cs,EF 150 c)(c2:∀c∈ds,EF 150 c)(m1:∀c∈cs,Bd M c.1)(m2:∀c∈ds,Bd M c.1)(b1:Bd D d.1)(b2:Bd D d.2)(G:0<d.1)(H:0<d.2)(B:D<=100)(hM:M<=150)(I:∀m,BH cs ds<=m->m<=BG cs ds->Bd M m->∀p,spotC cs m=some p->Ea S p)(J:∀m,BH cs ds<=m->m<=BG cs ds->Bd M m->∀p,spotC ds m=some p->Ea S p)(hW:2*S+1+D<=1050):E6 cs ds d M (2*S+1+D) where
 c1:=c1
 c2:=c2
 r1:=r1
 r2:=r2
 t1:=t1
 t2:=t2
 f1:=by omega
 f2:=by omega
 m1:=m1
 m2:=m2
 b1:=b1.mono B
 b2:=b2.mono B
 p1:=G
 p2:=H
 w:=λh m C=>by
  have K:Bd M (BH cs ds):=by obtain⟨a,r,l,rfl,j,e⟩:=open2 t1;obtain⟨k,f,o,rfl,u,b⟩:=open2 t2;exact(m1 a (by simp)).mx (m2 k (by simp))
  have L:Bd M (BG cs ds):=by obtain⟨a,r,l,rfl,j,e⟩:=open2 t1;obtain⟨k,f,o,rfl,u,b⟩:=open2 t2;unfold BG;rw[CO e,CO b];exact(m1 l (ABf e)).mn (m2 o (ABf b))
  have E:qF cs ds (BH cs ds) (BG cs ds):=by obtain⟨a,r,l,rfl,j,e⟩:=open2 t1;obtain⟨k,f,o,rfl,u,b⟩:=open2 t2;unfold BH BG at h ⊢;rw[CO e,CO b] at h ⊢;exact iP j u e b h
  obtain⟨g,i⟩:=EZ h C;have bm:Bd M m:=Gs m1 m2 K L C;obtain⟨s,es⟩:=E.one m g i;obtain⟨t,F⟩:=E.other m g i;have v:=I m g i bm s es;have A:=J m g i bm t F;have p1:d.1≠0:=by grind
  have p2:d.2≠0:=by grind
  unfold FH;rw[es,F];exact⟨(((v.x.sub A.x).div p1 b1)).mono (by omega),(((v.y.sub A.y).div p1 b1)).mono (by omega),(((v.z.sub A.z).div p2 b2)).mono (by omega)⟩
 hM:=hM
 hW:=hW
structure Ge (cs:List C4):Prop where
 ok:G3 12 28 cs
 mm:∀c∈cs,Bd 11 c.1
def LQ.y {cs:km C4}(p:LQ cs):Ge cs:=⟨⟨p.ok.two,p.ok.few,λc hc=>(p.ok.bd c hc).mono (by decide),p.ok.ris⟩,λc hc=>(p.mu c hc).bd (by decide) (by decide)⟩
def Ge.mb {cs:km C4}(p:Ge cs):MB 11 28 cs:=⟨p.mm,p.ok.bd⟩
def vg {cs ds:km C4}{d:Rat×Rat}(p:Ge cs)(p2:Ge ds)(b1:Bd 3 d.1)(b2:Bd 3 d.2)(a:0<d.1)(b:0<d.2):E6 cs ds d 11 268:=
 nK (n:=12) (S:=132) (D:=3) (by decide) p.ok.two p2.ok.two p.ok.few p2.ok.few p.ok.ris p2.ok.ris (λc hc=>(p.ok.bd c hc).mono (by decide)) (λc hc=>(p2.ok.bd c hc).mono (by decide)) p.mm p2.mm b1 b2 a b (by decide) (by decide) (λm _ _ bm q e=>(W4 bm p.ok.ris p.mb e)) (λm _ _ bm q e=>(W4 bm p2.ok.ris p2.mb e)) (by decide)
abbrev GP (F:AF):AS:=
 (AZ (BD (Ag (DD M5 (AB (AX Ai (aV 0) (aC (.int 0))) (AB (aC (.ty "int")) AL)))) (Ak (aV 0)) Ay)
   (Ak (Eb (CA (Hl (aV 0)) 1 [] (Ar 0) Dh (AN 1 F (AB (aV 0) AL))))))
def DW:Nat->AF
 | 0=>λ_ _=>False
 | n+1=>Av 1 (GP (DW n))
def Kb {m:Nat}{a:PV}{Q:PV->Prop}(h:GP (DW m) ⟨λ_=>Q .non,Q,λ_=>False,λ_=>False⟩ [some (.val a)]):DW (m+1) [a] Q:=h
def NB {m:Nat}{r:Rat}{Q:PV->Prop}(q:Q (fr r)):DW (m+1) [fr r] Q:=by apply Kb;ac_rfl;exact q
abbrev Hr:AS:=
 (AZ (BD (Hk (Vr (aV 8)) (Hk (Vr (aV 5)) (Vr (aV 7)))) (Vq 4 (LZ El (aC (.int 1))) (Vo (AX BQ (XF (AX Ai (aV 4) (LZ El (aC (.int 1)))) XG (XH (aC (.int 2)))) (A1 (AB (AX Ai (aV 3) (AX BQ (aV 6) (aC (.int 1)))) AL))))) (BD (Vr (aV 8)) (FG 4 Lw (AB (A1 (AB (AX Ai (aV 3) (aV 6)) (AB (DD RT (AB (aV 7) AL)) (AB (AX Ai (aV 3) (AX BQ (aV 6) (aC (.int 1)))) AL)))) AL)) Ay))
   (As (aV 8) (Ar 5)))
abbrev Hq:AS:=
 (AZ (As (AN 4 CG (AB (aV 0) (AB (aV 1) (AB (aV 2) (AB (AN 2 Dr (AB (AX Ai (aV 3) (aV 6)) (AB (AX Ai (aV 3) (AX BQ (aV 6) (aC (.int 1)))) AL))) AL))))) (Ar 8))
   Hr)
abbrev Js:AS:=
 (AZ (As (AN 4 CG (AB (aV 0) (AB (aV 1) (AB (aV 2) (AB (AX Ai (aV 3) (aV 6)) AL))))) (Ar 7))
   Hq)
abbrev Jv:AS:=
 (AZ (FO (RM (AB (AX Gi (DD EJ (AB (aV 3) AL)) (aC (.int 1))) AL)) (Ar 6) Js)
   (Ak (DD Bw (AB (aV 4) AL))))
abbrev Ju:AS:=
 (AZ (As (aC (.bl false)) (Ar 5))
   Jv)
abbrev Jt:AS:=
 (AZ (KG (DQ AL) 4)
   Ju)
abbrev Ha:AS:=
 (AZ (As (AN 3 C5 (AB (aV 0) (AB (aV 1) (AB (aV 2) AL)))) (Ar 3))
   Jt)
def C6:AF:=Av 9 Ha
def MC {a b c:PV}{Q:PV->Prop}(h:Ha ⟨λ_=>Q .non,Q,λ_=>False,λ_=>False⟩ [some (.val a),some (.val b),some (.val c),none,none,none,none,none,none]):C6 [a,b,c] Q:=h
section
variable {cs ds:km C4}{d:Rat×Rat}{M W:Nat}
theorem YD (h:BH cs ds<BG cs ds)(D:E6 cs ds d M W):(A3 cs ds d).head?=some (BH cs ds):=by
 have b:BH cs ds∈A3 cs ds d:=Q3 h (DC.mpr (.inl rfl));have hs:Q5 (A3 cs ds d):=Bz;have hi:∀x∈A3 cs ds d,BH cs ds<=x:=λx hx=>(Lx D x hx).1;generalize A3 cs ds d=ts at *;cases ts with
 | nil=>cases b
 | cons a r=>
   rcases AAV.mp b with e|e
   .rw [e];rfl
   .have:=(AAZ.mp hs).1 _ e;have:=hi a (by simp);grind
theorem YE (h:BH cs ds<BG cs ds)(D:E6 cs ds d M W):(A3 cs ds d)[(A3 cs ds d).length-1]? =some (BG cs ds):=by
 have a:BG cs ds∈A3 cs ds d:=Q3 h (DC.mpr (.inr (.inl rfl)));have hs:Q5 (A3 cs ds d):=Bz;have hi:∀x∈A3 cs ds d,x<=BG cs ds:=λx hx=>(Lx D x hx).2;generalize A3 cs ds d=ts at *;obtain⟨i,b,e⟩:=AEe.mp a;have hl:ts.length-1<ts.length:=by omega
 rw[AAs hl];by_cases k:i=ts.length-1
 .subst k;rw[<-e]
 .have c:=AEm.mp hs i (ts.length-1) b hl (by omega);have f:=hi _ (AD0 hl);rw[e] at c;grind
structure NS (cs ds:List C4) (d:Rat×Rat) (X:Nat) (x:Option Rat) (ff:List Bq) (go:Bool):Prop where
 sep:Sep ff
 ok:∀s∈ff,Ct X s
 fin:∀s∈ff,∃e y,s.2.2=some e/\x=some y/\e<=y
 stop:go=false->∀s∈ff,∃e y,s.2.2=some e/\x=some y/\e<y
 on:go=true->∃f0 b h y,ff=f0 ++ [(b,h,some y)] /\x=some y
 sem:∀m,ff.any (Bl · (m,0))=true↔BI cs ds d m/\∃y,x=some y/\m<y
theorem Z6 {ff:km Bq}{s:Bq}(h:Sep ff)(k:∀r∈ff,rH r s):Sep (ff ++ [s]):=AEG.mpr ⟨h,AEK _ _,λr b t a=>by simp at a;subst a;exact k r b⟩
theorem UX {B:Nat}{b e m:Rat}{h:Int}(os:Ct B (b,h,some e)): [((b,h,some e):Bq)].any (Bl · (m,0))=true↔(b<m\/(b=m/\h=1))/\m<e:=by rw[ABP,List.any_nil,ADc,Db os rfl]
theorem sW {X:Nat}{x y:Rat}{ff:km Bq}{go:kc}(D:E6 cs ds d M W)(hp:(x,y)∈(A3 cs ds d).zip (A3 cs ds d).tail)(i:NS cs ds d X (some x) ff go)(b:x<y)(hn:¬BI cs ds d ((x+y)*(1/2))):NS cs ds d X (some y) ff false:=by
 have mid:x<(x+y)*(1/2)/\(x+y)*(1/2)<y:=⟨by grind,by grind⟩;refine⟨i.sep,i.ok,λs hs=> ?_,λ_ s hs=> ?_,λh=>(by cases h),λm=> ?_⟩
 .obtain ⟨e,z,h1,h2,a⟩:=i.fin s hs;cases h2;exact⟨e,y,h1,rfl,by grind⟩
 .obtain ⟨e,z,h1,h2,a⟩:=i.fin s hs;cases h2;exact⟨e,y,h1,rfl,by grind⟩
 .rw [i.sem];constructor
  .rintro ⟨h1,z,h2,a⟩;cases h2;exact⟨h1,y,rfl,by grind⟩
  .rintro ⟨h1,z,h2,a⟩;cases h2;refine⟨h1,x,rfl, ?_⟩;by_cases w:m<x
   .exact w
   .exact absurd (QG D hp (m1:=m) (m2:=(x+y)*(1/2)) (by grind) a mid.1 mid.2 h1) hn
theorem SZ {x y:Rat}(D:E6 cs ds d M W)(hp:(x,y)∈(A3 cs ds d).zip (A3 cs ds d).tail)(hn:BI cs ds d ((x+y)*(1/2)))(a:x<y){m:Rat}(h1:x<m)(h2:m<y):BI cs ds d m:=
 QG D hp (m1:=(x+y)*(1/2)) (by grind) (by grind) h1 h2 hn
theorem oS {X:Nat}{x y b:Rat}{f0:km Bq}{h:Int}(D:E6 cs ds d M W)(hp:(x,y)∈(A3 cs ds d).zip (A3 cs ds d).tail)(f:Bd X y)(i:NS cs ds d X (some x) (f0 ++ [(b,h,some x)]) true)(l:x<y)(hn:BI cs ds d ((x+y)*(1/2)))(hx:BI cs ds d x):NS cs ds d X (some y) (f0 ++ [(b,h,some y)]) true:=by
 have os:=i.ok (b,h,some x) (by simp);have u:b<x:=(os.e x rfl).1;have a:Ct X (b,h,some y):=⟨os.b,os.h,λe he=>by cases he;exact⟨by show b<y;grind,f⟩⟩;refine⟨?_, ?_, ?_,λz=>(by cases z),λ_=>⟨f0,b,h,y,rfl,rfl⟩,λm=> ?_⟩
 .have:=AEG.mp i.sep;refine Z6 this.1 λr n=> ?_;exact this.2.2 r n (b,h,some x) (by simp)
 .intro s hs;rcases AAj.mp hs with hs|hs
  .exact i.ok s (by simp[hs])
  .simp at hs;subst hs;exact a
 .intro s hs;rcases AAj.mp hs with hs|hs
  .obtain ⟨e,z,h1,h2,v⟩:=i.fin s (by simp[hs]);cases h2;exact⟨e,y,h1,rfl,by grind⟩
  .simp at hs;subst hs;exact⟨y,y,rfl,rfl,by grind⟩
 .have k:=i.sem m;rw[AEQ,ABr,UX os] at k;rw[AEQ,ABr,UX a];constructor
  .rintro (z|⟨g,c⟩)
   .obtain ⟨o,w,p,A⟩:=k.mp (.inl z);cases p;exact⟨o,y,rfl,by grind⟩
   .refine ⟨?_,y,rfl,c⟩;by_cases w:m<x
    .exact (k.mp (.inr ⟨g,w⟩)).1
    .by_cases t:x<m
     .exact SZ D hp hn l t c
     .have:m=x:=by grind
      rw[this];exact hx
  .rintro ⟨g,w,c,j⟩;cases c;by_cases w:m<x
   .rcases k.mpr ⟨g,x,rfl,w⟩ with q|q
    .exact .inl q
    .exact .inr ⟨q.1,j⟩
   .exact .inr ⟨.inl (by grind),j⟩
theorem oT {X:Nat}{x y:Rat}{ff:km Bq}{go:kc}(D:E6 cs ds d M W)(hp:(x,y)∈(A3 cs ds d).zip (A3 cs ds d).tail)(l:Bd X x)(c:Bd X y)(i:NS cs ds d X (some x) ff go)(j:x<y)(hn:BI cs ds d ((x+y)*(1/2)))(hx:go=true->¬BI cs ds d x):NS cs ds d X (some y) (ff ++ [(x,(if decide (BI cs ds d x)=true then 1 else 0),some y)]) true:=by
 have f:(if decide (BI cs ds d x)=true then (1:Int) else 0)=0\/(if decide (BI cs ds d x)=true then (1:Int) else 0)=1:=by split <;> simp
 have os:Ct X (x,(if decide (BI cs ds d x)=true then 1 else 0),some y):=⟨l,f,λe he=>by cases he;exact⟨j,c⟩⟩;refine⟨?_, ?_, ?_,λz=>(by cases z),λ_=>⟨_,_,_,_,rfl,rfl⟩,λm=> ?_⟩
 .refine Z6 i.sep λr k=> ?_;cases go with
  | true=>
    obtain⟨e,z,h1,h2,g⟩:=i.fin r k;cases h2;refine⟨e,h1, ?_⟩;by_cases w:e<x
    .exact .inl w
    .exact .inr ⟨by show e=x;grind,AAS (by simp[hx rfl])⟩
  | false=> obtain⟨e,z,h1,h2,g⟩:=i.stop rfl r k;cases h2;exact⟨e,h1, .inl g⟩
 .intro s hs;rcases AAj.mp hs with hs|hs
  .exact i.ok s hs
  .simp at hs;subst hs;simpa using os
 .intro s hs;rcases AAj.mp hs with hs|hs
  .obtain ⟨e,z,h1,h2,g⟩:=i.fin s hs;cases h2;exact⟨e,y,h1,rfl,by grind⟩
  .simp at hs;subst hs;exact⟨y,y,rfl,rfl,by grind⟩
 .rw [AEQ,ABr,UX os,i.sem];have n:((if decide (BI cs ds d x)=true then (1:Int) else 0)=1)↔BI cs ds d x:=by
   by_cases w:BI cs ds d x
   .simp [w]
   .simp [w]
  rw[n];constructor
  .rintro (⟨a,w,b,h⟩|⟨a|⟨a,o⟩,b⟩)
   .cases b;exact⟨a,y,rfl,by grind⟩
   .exact ⟨SZ D hp hn j a b,y,rfl,b⟩
   .subst a;exact⟨o,y,rfl,b⟩
  .rintro ⟨a,w,b,h⟩;cases b;by_cases w:m<x
   .exact .inl ⟨a,x,rfl,w⟩
   .by_cases p:x<m
    .exact .inr ⟨.inl p,h⟩
    .have e:x=m:=by grind
     exact .inr ⟨.inr ⟨e,by rw[e];exact a⟩,h⟩
theorem WJ {xs:km PV}{x:PV}{R:PV->Prop}(h:R x):Ai (.lst (xs ++ [x])) (.int (-1)) R:=by
 show c5 (JA (xs ++ [x]) (-1)) R;have q:JA (xs ++ [x]) (-1)=some x:=by
  unfold JA Oi;rw[AA8,AEc,AAS (by decide),AAU (by omega)];have a:(-1+((xs.length+1:Nat):Int)).toNat=xs.length:=by omega
  rw[Option.bind_some,a,ABV (AAY _),Nat.sub_self];rfl
 rw[q];exact h
theorem Nv (D:E6 cs ds d M W){B:Nat}(hc:∀c∈cs,EF B c)(G:∀c∈ds,EF B c)(hB:2*(3*W+3*M+9)+9+6*B+10<=3900){Q:PV->Prop}(q:∀ff,Sep ff->Told (BI cs ds d) (3*W+3*M+9) ff->Q (.tup (ff.map D7))):C6 [An cs,An ds, .tup [fr d.1,fr d.2]] Q:=by
 have H:=WP D;have mf:=bX D;have J:=λh=>YD (d:=d) h D;have K:=λh=>YE (d:=d) h D;apply MC;ac_rfl;refine UB D ?_;have hM:=D.hM;have hW:=D.hW;have w:NS cs ds d (3*W+3*M+9) ((A3 cs ds d)[0]?) [] false:=by
  refine⟨.nil,by simp,by simp,by simp,λh=>(by cases h),λm=> ?_⟩;refine⟨λz=>(by simp at z),λz=> ?_⟩;obtain⟨C,y,I,z3⟩:=z;have h:BH cs ds<BG cs ds:=by have:=C.1;have:=C.2.1;grind
  rw[<-List.head?_eq_getElem?,J h] at I;cases I;have:=C.1;grind
 have L:∀i x y,(A3 cs ds d)[i]? =some x->(A3 cs ds d)[i+1]? =some y->(x,y)∈(A3 cs ds d).zip (A3 cs ds d).tail:=λi x y h1 h2=>AA9 (zip_get h1 h2);have O:Q5 (A3 cs ds d):=Bz;have P:=λx y ff go (hp:(x,y)∈(A3 cs ds d).zip (A3 cs ds d).tail) i k hn=>sW (X:=3*W+3*M+9) (x:=x) (y:=y) (ff:=ff) (go:=go) D hp i k hn;have S:=λx y b f0 h (hp:(x,y)∈(A3 cs ds d).zip (A3 cs ds d).tail) a i k hn hx=>oS (X:=3*W+3*M+9) (x:=x) (y:=y) (b:=b) (f0:=f0) (h:=h) D hp a i k hn hx;have T:=λx y ff go (hp:(x,y)∈(A3 cs ds d).zip (A3 cs ds d).tail) n a i k hn hx=>oT (X:=3*W+3*M+9) (x:=x) (y:=y) (ff:=ff) (go:=go) D hp n a i k hn hx;generalize hX:3*W+3*M+9=X at *;generalize A3 cs ds d=mk at *;ac_rfl;refine Tl (λi τ=>∃ff go f g j,NS cs ds d X (mk[i]?) ff go/\ff.length<=i/\τ= [some (.val (An cs)),some (.val (An ds)),some (.val (.tup [fr d.1,fr d.2])),some (.val (.lst (mk.map fr))),some (.own (ff.map D7)),some (.val (.bl go)),f,g,j]) ?_ ?_ ⟨[],false,_,_,_,w,by simp,rfl⟩
 .rintro τ ⟨ff,go,f,g,j,i,E,rfl⟩;ac_rfl;have U:((mk.length:Int)-1).toNat=mk.length-1:=by omega
  rw[U] at i E;refine q ff i.sep ⟨i.ok,λs hs=> ?_,by omega,λm=> ?_⟩
  .obtain ⟨e,y,h1,_⟩:=i.fin s hs;exact⟨e,h1⟩
  .rw [i.sem];refine⟨λz=>z.1,λz=>⟨z,BG cs ds, ?_,z.2.1⟩⟩;exact K (by have:=z.1;have:=z.2.1;grind)
 .rintro i hi τ R l ⟨ff,go,f,g,j,u,E,rfl⟩;have Y:i+1<mk.length:=by omega
  obtain⟨x,ex⟩:∃x,mk[i]? =some x:=⟨_,AAs (by omega)⟩;obtain⟨y,v⟩:∃y,mk[i+1]? =some y:=⟨_,AAs Y⟩;have hp:=L i x y ex v;have k:x<y:=(Iv O _ hp).2.2.1;have n:=H x (AA9 ex);have a:=H y (AA9 v);have bm:Bd (2*X+9) ((x+y)*(1/2)):=((n.add a).mul (y7 (r:=1/2))).mono (by omega);have t1:((0:Int)+(i:Int)).toNat=i:=by omega
  have t2:((0:Int)+(i:Int)+1).toNat=i+1:=by omega
  rw[ex] at u;rw[v] at l;have o:∀{Q:PV->Prop},Q (fr x)->Ai (.lst (mk.map fr)) (.int ((0:Int)+(i:Int))) Q:=λh=>by rw[show (0:Int)+(i:Int)=(i:Int) by omega];exact yj ex h
  have p:∀{Q:PV->Prop},Q (fr y)->Ai (.lst (mk.map fr)) (.int ((0:Int)+(i:Int)+1)) Q:=λh=>by rw[show (0:Int)+(i:Int)+1=((i+1:Nat):Int) by omega];exact yj v h
  repeat' (first | (with_reducible refine o ?_)|(with_reducible refine p ?_)|array_mem_dec)
  refine Fk D hc G n (by omega) ?_;repeat' (first | (with_reducible refine o ?_)|(with_reducible refine p ?_)|array_mem_dec)
  refine Ra (n.mono (by omega)) (a.mono (by omega)) ((n.add a).mono (by omega)) ?_;repeat' (first | (with_reducible refine o ?_)|(with_reducible refine p ?_)|array_mem_dec)
  refine Fk D hc G bm (by omega) ?_;generalize F:decide (BI cs ds d x)=A at *;generalize hN:decide (BI cs ds d ((x+y)*(1/2)))=N at *;cases N with
  | false=> have t:=l _ ⟨ff,false,some (.val (.int ((0:Int)+i))),some (.val (.bl A)),some (.val (.bl false)),P x y ff go hp u k (ABY hN),by omega,rfl⟩;clear l;ac_rfl;exact t
  | true=>
    have oP:=ABX hN;have new:∀{f g j},(go=true->A=false)->R [some (.val (An cs)),some (.val (An ds)),some (.val (.tup [fr d.1,fr d.2])),some (.val (.lst (mk.map fr))),some (.own (ff.map D7 ++ [.tup [fr x, .int (if A=true then 1 else 0),fr y]])),some (.val (.bl true)),f,g,j] :=λ{f g j} hgo=>l _ ⟨_,true,f,g,j,T x y ff go hp n a u k oP (λz=>ABY (F.trans (hgo z))),by simp;omega,by rw[AAk,F];rfl⟩;cases go with
    | false=>
      have new:=λ{f g j}=> @new f g j (λz=>(by cases z));clear l;repeat' (first | (with_reducible refine o ?_)|(with_reducible refine p ?_)|array_mem_dec)
      exact new
    | true=>
      cases A with
      | false=>
        have new:=λ{f g j}=> @new f g j (λ_=>rfl);clear l;repeat' (first | (with_reducible refine o ?_)|(with_reducible refine p ?_)|array_mem_dec)
        exact new
      | true=>
        obtain⟨f0,b,h,y',Z,e2⟩:=u.on rfl;cases e2;subst Z;have t:∀{f g j},R [some (.val (An cs)),some (.val (An ds)),some (.val (.tup [fr d.1,fr d.2])),some (.val (.lst (mk.map fr))),some (.own (f0.map D7 ++ [.tup [fr b, .int h,fr y]])),some (.val (.bl true)),f,g,j] :=λ{f g j}=>l _ ⟨f0 ++ [(b,h,some y)],true,f,g,j,S x y b f0 h hp a u k oP (ABX F),by simp at E ⊢;omega,by rw[AAk];rfl⟩;clear l new;repeat' (first | (with_reducible refine o ?_)|(with_reducible refine p ?_)|array_mem_dec)
        rw[AAk];refine WJ ?_;ac_rfl;show Xq (.tup [fr b, .int h,fr x]) none (some 2) _;refine HQ ?_;show A1 _ _ λy=>BQ (.tup [fr b, .int h]) y _;repeat' (first | (with_reducible refine o ?_)|(with_reducible refine p ?_)|array_mem_dec)
        have ei:Oi (List.map D7 f0++List.map D7 [(b,h,some x)]).length (-1)=some f0.length:=by unfold Oi;rw[AA8,AAb,AAb,AEc,AAS (by decide),AAU (by omega)];congr 1;omega
        have es:(List.map D7 f0++List.map D7 [(b,h,some x)]).set f0.length (PV.tup [fr b,PV.int h,fr y])=List.map D7 f0 ++ [.tup [fr b, .int h,fr y]] :=by rw[List.set_append_right _ _ (by rw[AAb];exact AAY _),AAb,Nat.sub_self];rfl
        rw[ei];show Rp _ _ _ _;rw[es];ac_rfl;exact t
end
end PL
namespace PL.K25
open PySem L2 PL PyProof.Rows
abbrev JN:AS:=
 (AZ (BD (DI (Bc (Ag (AN 1 BW (AB (AX Ai (aV 0) (aC (.int 0))) AL)))) (Bc (Ag (AN 1 BW (AB (AX Ai (aV 0) (aC (.int 1))) AL))))) (Ak (aC (.bl false))) Ay)
   (Ak (Tg (AX lf (AX Ai (aV 0) (aC (.int 1))) (aC (.int 0))) (AX GM (DD Bw (AB (aV 0) AL)) (AN 2 BC (AB (AX Ai (aV 0) (aC (.int 0))) (AB (AX Ai (aV 0) (aC (.int 1))) AL)))))))
abbrev GR:AS:=
 (AZ (BD (DI (Bc (Ag (LY (aV 0) ["list","tuple"]))) (Ag (AX Lh (DD EJ (AB (aV 0) AL)) (aC (.int 2))))) (Ak (aC (.bl false))) Ay)
   JN)
def Bp:AF:=Av 1 GR
def Kg {a:PV}{Q:PV->Prop}(h:GR ⟨λ_=>Q .non,Q,λ_=>False,λ_=>False⟩ [some (.val a)]):Bp [a] Q:=h
abbrev Mc:AS:=
 (AZ (BD (DI (Bc (Ag (AN 1 BW (AB (AX Ai (aV 0) (aC (.int 2))) AL)))) (DI (Bc (Ag (AN 1 BW (AB (AX Ai (aV 0) (aC (.int 3))) AL)))) (DI (Bc (Ag (uZ yQ ZU (aC (.int 0)) (AX Ai (aV 0) (aC (.int 2))) (aC (.int 3))))) (Ag (AX Lh (DD Py (AB (AX Ai (aV 0) (aC (.int 3))) AL)) (aC (.int 1))))))) (Ak (aC (.bl false))) Ay)
   (Ak (AN 2 Am (AB (AX Ai (aV 0) (aC (.int 0))) (AB (AX Ai (aV 0) (aC (.int 1))) AL)))))
abbrev Ja:AS:=
 (AZ (BD (DI (Bc (Ag (LY (aV 0) ["list","tuple"]))) (DI (Ag (AX Lh (DD EJ (AB (aV 0) AL)) (aC (.int 4)))) (DI (Bc (Ag (AN 1 Bp (AB (AX Ai (aV 0) (aC (.int 0))) AL)))) (Bc (Ag (AN 1 Bp (AB (AX Ai (aV 0) (aC (.int 1))) AL))))))) (Ak (aC (.bl false))) Ay)
   Mc)
def Dq:AF:=Av 1 Ja
def OT {a:PV}{Q:PV->Prop}(h:Ja ⟨λ_=>Q .non,Q,λ_=>False,λ_=>False⟩ [some (.val a)]):Dq [a] Q:=h
abbrev JO:AS:=
 (AZ (As (AX Ai (AN 4 Co (AB (aV 0) (AB (aV 1) (AB (aV 2) (AB (aV 5) AL))))) (AX Ai (aV 3) (aC (.int 2)))) (Ar 8))
   (BD (Ag (AX ZU (AX DY (AX Ai (aV 3) (aC (.int 3))) (AX Ai (aV 8) (aC (.int 0)))) (AX Ai (aV 8) (aC (.int 1))))) (Ak (aC (.bl false))) Ay))
abbrev JQ:AS:=
 (AZ (FO (Hl (AX BQ (AX BQ (Eb (DQ (AB (aV 6) AL))) (aV 4)) (Eb (DQ (AB (aV 7) AL))))) (Ar 5) JO)
   (Ak (aC (.bl true))))
abbrev JP:AS:=
 (AZ (As (Eb (CA (Hl (AN 2 CW (AB (aV 0) (AB (aV 1) AL)))) 1 [6,7] (Ar 0) (Hk (Ag (AN 2 Am (AB (aV 1) (AB (aV 0) AL)))) (Ag (AN 2 Am (AB (aV 0) (AB (aV 2) AL))))) (aV 0))) (Ar 4))
   JQ)
abbrev GS:AS:=
 (AZ (As (A1 (AB (DD Bw (AB (AX Ai (aV 3) (aC (.int 0))) AL)) (AB (DD Bw (AB (AX Ai (aV 3) (aC (.int 1))) AL)) AL))) (IM 2 (Ae (Ar 6) (Ae (Ar 7) Bu))))
   JP)
def Cj:AF:=Av 9 GS
def Kh {a b c d:PV}{Q:PV->Prop}(h:GS ⟨λ_=>Q .non,Q,λ_=>False,λ_=>False⟩ [some (.val a),some (.val b),some (.val c),some (.val d),none,none,none,none,none]):Cj [a,b,c,d] Q:=h
abbrev OA:AS:=
 (AZ (BD (DI (Ag (AX Lh (AX Ai (aV 5) (aC (.int 0))) (AX Ai (aV 4) (aC (.int 0))))) (DI (Ag (AX Lh (AX Ai (aV 6) (LZ El (aC (.int 1)))) (AX Ai (aV 4) (LZ El (aC (.int 1)))))) (Ag (AX Lh (XF (aV 5) (XH (aC (.int 1))) XG) (XF (aV 6) XG (XH (LZ El (aC (.int 1))))))))) (Ak (aC (.bl false))) Ay)
   (Ak (DD (Tp λbs=>bs.all id) (AB (Eb (CA (Hl (aV 3)) 1 [0,1,2] (Ar 0) Dh (AN 4 Cj (AB (aV 1) (AB (aV 2) (AB (aV 3) (AB (aV 0) AL))))))) AL))))
abbrev N9:AS:=
 (AZ (As (Eb (CA (Hl (aV 3)) 1 [] (Ar 0) Dh (DD Bw (AB (AX Ai (aV 0) (aC (.int 1))) AL)))) (Ar 6))
   OA)
abbrev N8:AS:=
 (AZ (As (Eb (CA (Hl (aV 3)) 1 [] (Ar 0) Dh (DD Bw (AB (AX Ai (aV 0) (aC (.int 0))) AL)))) (Ar 5))
   N9)
abbrev N7:AS:=
 (AZ (BD (DI (Ag (AX GM (DD EJ (AB (aV 4) AL)) (aC (.int 0)))) (Ag (AX GM (DD EJ (AB (aV 3) AL)) (aC (.int 0))))) (Ak (AX GM (DD EJ (AB (aV 4) AL)) (DD EJ (AB (aV 3) AL)))) Ay)
   N8)
abbrev N6:AS:=
 (AZ (As (AN 2 CW (AB (aV 0) (AB (aV 1) AL))) (Ar 4))
   N7)
abbrev LH:AS:=
 (AZ (BD (DI (Bc (Ag (LY (aV 3) ["list","tuple"]))) (Ag (AX (lh false) (aC (.bl false)) (Eb (CA (Hl (aV 3)) 1 [] (Ar 0) Dh (AN 1 Dq (AB (aV 0) AL))))))) (Ak (aC (.bl false))) Ay)
   N6)
def EO:AF:=Av 7 LH
def Qe {a b c d:PV}{Q:PV->Prop}(h:LH ⟨λ_=>Q .non,Q,λ_=>False,λ_=>False⟩ [some (.val a),some (.val b),some (.val c),some (.val d),none,none,none]):EO [a,b,c,d] Q:=h
abbrev JR:AS:=
 (AZ (As (AN 2 BV (AB (aV 0) (AB (aC (.int 3)) AL))) (Ar 7))
   (Vq 6 (aV 7) (AN 2 BU (AB (AX Ai (aV 1) (DD RT (AB (AX GM (aV 7) (aC (.int 2))) AL))) (AB (AX Ai (Eb (DQ (AB (A1 (AB (aC (.int 1)) (AB (aC (.int 1)) AL))) (AB (A1 (AB (LZ El (aC (.int 1))) (AB (aC (.int 1)) AL))) (AB (A1 (AB (aC (.int 3)) (AB (aC (.int 2)) AL))) AL))))) (AN 2 BV (AB (aV 0) (AB (aC (.int 3)) AL)))) AL)))))
abbrev Cs:AS:=
 (AZ (Vq 6 (aV 4) (AN 2 BU (AB (AX Ai (aV 1) (DD RT (AB (AX GM (aV 4) (aC (.int 2))) AL))) (AB (AX Ai (Eb (DQ (AB (A1 (AB (aC (.int 1)) (AB (aC (.int 1)) AL))) (AB (A1 (AB (aC (.int 1)) (AB (aC (.int 1)) AL))) (AB (A1 (AB (aC (.int 2)) (AB (aC (.int 1)) AL))) AL))))) (AN 2 BV (AB (aV 0) (AB (aC (.int 3)) AL)))) AL))))
   (FG 3 Lw (AB (Vo (AX BQ (A1 (AB (AX Ai (aV 5) (aC (.int 0))) AL)) (DD Bw (AB (Eb (CA (RM (AB (aC (.int 3)) AL)) 1 [5,6] (Ar 0) Dh (AN 2 B6 (AB (AX Ai (aV 1) (AX BQ (aV 0) (aC (.int 1)))) (AB (AX Ai (aV 2) (aV 0)) AL))))) AL)))) AL)))
abbrev EL:AS:=
 (AZ (BD (Ag (AX GM (AN 2 BV (AB (aV 0) (AB (aC (.int 3)) AL))) (aC (.int 0)))) JR Ay)
   Cs)
abbrev FF:AS:=
 (AZ (KG (DQ (AB (A1 (AB (aC (.int 0)) (AB (aC (.int 1)) AL))) (AB (A1 (AB (aC (.int 0)) (AB (aC (.int 1)) AL))) (AB (A1 (AB (aC (.int 0)) (AB (aC (.int 1)) AL))) AL)))) 6)
   EL)
abbrev JU:AS:=
 (AZ (FO (Hl (aV 2)) (Ar 5) FF)
   (Ak (A1 (AB (aV 2) (AB (DD Bw (AB (aV 3) AL)) AL)))))
abbrev JT:AS:=
 (AZ (As (AN 2 BV (AB (aV 0) (AB (aC (.int 3)) AL))) (Ar 4))
   JU)
abbrev JS:AS:=
 (AZ (KG (DQ AL) 3)
   JT)
abbrev GT:AS:=
 (AZ (As (AN 1 CI (AB (aV 0) AL)) (Ar 2))
   JS)
def Cm:AF:=Av 8 GT
def Kk {a b:PV}{Q:PV->Prop}(h:GT ⟨λ_=>Q .non,Q,λ_=>False,λ_=>False⟩ [some (.val a),some (.val b),none,none,none,none,none,none]):Cm [a,b] Q:=h
abbrev Jd:AS:=
 (AZ (BD (DI (Bc (Ag (DD M5 (AB (aV 0) (AB (aC (.ty "tuple")) AL))))) (Bc (Ag (DD (Tp λbs=>bs.all id) (AB (Eb (CA (Hl (aV 0)) 1 [] (Ar 0) Dh (DD M5 (AB (aV 0) (AB (aC (.ty "tuple")) AL))))) AL))))) (Ak (aC (.bl false))) Ay)
   (Ak (DD (Tp λbs=>bs.all id) (AB (Eb (CA (Hl (aV 0)) 1 [] (Ar 0) Dh (Tg (DD M5 (AB (AX Ai (aV 0) (aC (.int 0))) (AB (aC (.ty "tuple")) AL))) (DD M5 (AB (AX Ai (aV 0) (aC (.int 1))) (AB (aC (.ty "tuple")) AL)))))) AL))))
def Dt:AF:=Av 1 Jd
def OW {a:PV}{Q:PV->Prop}(h:Jd ⟨λ_=>Q .non,Q,λ_=>False,λ_=>False⟩ [some (.val a)]):Dt [a] Q:=h
abbrev GQ (F:AF):AS:=
 (AZ (BD (Ag (DD M5 (AB (aV 0) (AB (aC (.ty "tuple")) AL)))) (Ak (Eb (CA (Hl (aV 0)) 1 [] (Ar 0) Dh (AN 1 F (AB (aV 0) AL))))) Ay)
   (Ak (aV 0)))
def Az:Nat->AF
 | 0=>λ_ _=>False
 | n+1=>Av 1 (GQ (Az n))
def Cy {m:Nat}{a:PV}{Q:PV->Prop}(h:GQ (Az m) ⟨λ_=>Q .non,Q,λ_=>False,λ_=>False⟩ [some (.val a)]):Az (m+1) [a] Q:=h
def Lu {cs ds:km C4}{d:Rat×Rat}{M W B X:Nat}(hc:∀c∈cs,EF B c)(f:∀c∈ds,EF B c)(n:X+6*B+10<=1900)(D:E6 cs ds d M W){b e m:Rat}(g:qF cs ds b e)(h1:b<=m)(h2:m<=e)(bm:Bd X m){Q:PV->Prop}(q:Q (.lst ((Oj (FH cs ds d m)).map fr))):Co [An cs,An ds, .tup [fr d.1,fr d.2],fr m] Q:=by
 have hM:=D.hM;obtain⟨s,es⟩:=g.one m h1 h2;obtain⟨t,a⟩:=g.other m h1 h2;have t1:=(Ea.spotC bm D.r1 hc s es).mono (B':=1900) (by omega);have t2:=(Ea.spotC bm D.r2 f t a).mono (B':=1900) (by omega);have h:=t1.x;have i:=t1.y;have j:=t1.z;have y1:=t2.x;have y2:=t2.y;have y3:=t2.z;have o:=h.sub y1;have p:=i.sub y2;have r:=j.sub y3;have b1:=D.b1;have b2:=D.b2;have u:d.1≠0:=by have:=D.p1;grind
 have v:d.2≠0:=by have:=D.p2;grind
 have f1:=D.f1;have f2:=D.f2;have k:=D.t1;have l:=D.t2;apply Jm;ac_rfl;refine Ck hc D.r1 (by intro z;subst z;simp at k) (by omega) bm (by omega) ?_;rw[es,show Ho (some s)= .tup [fr s.1,fr s.2.1,fr s.2.2] from rfl];ac_rfl;refine Ck f D.r2 (by intro z;subst z;simp at l) (by omega) bm (by omega) ?_;rw[a,show Ho (some t)= .tup [fr t.1,fr t.2.1,fr t.2.2] from rfl];ac_rfl;rw[show rng 0 (Int.toNat 3)= [.int 0, .int 1, .int 2] from rfl];repeat' array_get_dec
 rw[show (if decide ((0:Int)=2)=true then (1:Int) else 0)=0 from rfl];repeat' array_get_dec
 rw[show (if decide ((1:Int)=2)=true then (1:Int) else 0)=0 from rfl];repeat' array_get_dec
 rw[show (if decide ((2:Int)=2)=true then (1:Int) else 0)=1 from rfl];repeat' array_get_dec
 have q:Q (.lst ((Oj (Eo ((spotC cs m).getD (0,0,0)) ((spotC ds m).getD (0,0,0)) d)).map fr)):=q;rw[es,a] at q;exact q
def X9 {r:Rat}{v:PV}(b:Bd 8000 r)(hv:uR r v){Q:PV->Prop}(q:Q (.bl true)):Bp [v] Q:=by
 have c:=r.den_pos;have hv:v= .tup [.int r.num, .int (r.den:Int)] \/v= .lst [.int r.num, .int (r.den:Int)] :=hv;have a:∀{Q:PV->Prop},Q (.bl true)->GM (.tup [.int r.num, .int (r.den:Int)]) (fr r) Q:=λ{Q} q=>by show GM (fr r) (fr r) Q;refine⟨⟨rfl,rfl⟩, ?_⟩;rw[KM,AAi rfl];exact q
 rcases hv with rfl|rfl;all_goals
  apply Kg;ac_rfl;refine FY ?_;ac_rfl;refine FY ?_;ac_rfl;rotate_left
  .exfalso;omega
  refine CH _ _ (BZ r) (Ax b.top (by decide)) (Ax b.botI (by decide)) ?_;rw[ABk];exact a q
def fH {r:Rw}{v:PV}(h:iZ r v)(hs:r.sd<3)(f:r.b<r.e){X:Nat}(a:Bd X r.b)(c:Bd X r.e)(d:X<=4000){Q:PV->Prop}(q:Q (.bl true)):Dq [v] Q:=by
 obtain⟨x,y,hx,hy,hv⟩:=h;have g:∀{Q:PV->Prop},Q (.bl true)->Am [x,y] Q:=λ{Q} q=>by have e:decide (r.b<r.e)=true:=AAi f;have:=Bt (a.mono d) (c.mono d) (Q:=Q) (by rw[e];exact q);rcases hx with rfl|rfl <;> rcases hy with rfl|rfl <;> exact this
 have i:(((K2 r.up).natAbs:Nat):Int)=1:=by cases r.up <;> rfl
 apply OT;rcases hv with rfl|rfl;all_goals
  ac_rfl;refine X9 (a.mono (by omega)) hx ?_;ac_rfl;refine X9 (c.mono (by omega)) hy ?_;ac_rfl;refine FY ?_;ac_rfl;refine FY ?_;ac_rfl;all_goals first | (exfalso;omega)|exact g q
section
variable {cs ds:km C4}{d:Rat×Rat}{M W:Nat}
theorem fQ {o:T3}{k:Nat}(hk:k<3){R:PV->Prop}(h:R (fr (Ft o k))):Ai (.lst ((Oj o).map fr)) (.int (k:Nat)) R:=by
 match k,hk with
 | 0,_=>exact h
 | 1,_=>exact h
 | 2,_=>exact h
theorem Zo {g:Rat}:g.num<(g.den:Int)↔g<1:=by rw[AC0];show _↔g.num*1<1*(g.den:Int);omega
theorem g9 {u:kc}{x:Rat}(h:1<=(K2 u:Rat)*x):¬K2 u*x.num<(x.den:Int):=by
 cases u
 .have h1:¬ -x<1:=by have a:((K2 false:Int):Rat)= -1:=rfl;rw[a] at h;grind
  have h2:=λz=>h1 (Zo.mp z);rw[Rat.neg_num,Rat.neg_den] at h2;intro z;have z:(-1)*x.num<(x.den:Int):=z;exact h2 (by omega)
 .have h1:¬x<1:=by have a:((K2 true:Int):Rat)=1:=rfl;rw[a] at h;grind
  have h2:=λz=>h1 (Zo.mp z);intro z;have z:1*x.num<(x.den:Int):=z;exact h2 (by omega)
theorem mO {u:kc}{n:Int}{k:Nat}(h:n.natAbs<2^k)(hk:k<=100000):MulOk (K2 u) n:=by
 cases u
 .exact MulOk.of (m:=2) (n:=k) (by decide) h (by omega) (by omega)
 .exact MulOk.of (m:=2) (n:=k) (by decide) h (by omega) (by omega)
theorem Wl (D:E6 cs ds d M W){B X:Nat}(hc:∀c∈cs,EF B c)(f:∀c∈ds,EF B c)(l:X+6*B+10<=1900)(u:M<=X){r:Rw}(g:Vn cs ds d X r){Q:PV->Prop}(q:Q (.bl true)):Cj [An cs,An ds, .tup [fr d.1,fr d.2],FI r] Q:=by
 have o:=g.bb;have s:=g.be;have lo:=g.lo;have hi:=g.hi;have H:=g.lt;have bt:BH cs ds<BG cs ds:=by grind
 have v:∀m∈MN cs ds,Bd X m:=λm a=>by rw[Nc bt] at a;exact(Gs D.m1 D.m2 D.begB D.endB a).mono u
 have I:(MN cs ds).length<=202:=by rw[Nc bt];have:=JL (cs:=cs) (ds:=ds) (b:=BH cs ds) (e:=BG cs ds);have:=D.f1;have:=D.f2;unfold MO;omega
 unfold FI;apply Kh;ac_rfl;refine EV D ?_;ac_rfl;refine D5 fr fr (λm=>decide (r.b<m)&&decide (m<r.e)) (λm=>m∈MN cs ds) (λm a R N h1 h2=> ?_) (MN cs ds) [] (λ_ h=>h) ?_
 .have bm:=v m a;ac_rfl
  .rename_i i k;exact h1 (by rw[AAi i,AAi k];rfl)
  .rename_i i k;exact h2 (by rw[AAr k,Bool.and_false])
  .rename_i i;exact h2 (by rw[AAr i,AEW])
 .have w:(MN cs ds).filter (λm=>decide (r.b<m)&&decide (m<r.e))= [] :=by
   rw[AFJ];intro m a z;rw[ABJ,AC7,AC7] at z;rw[Nc bt] at a;rcases DC.mp a with rfl|rfl|⟨_,_,c,A,rfl⟩
   .grind
   .grind
   .exact g.no c A z
  rw[w];repeat' array_get_dec
  rw[show [fr r.b] ++ ([] ++ List.map fr []) ++ [fr r.e] = [fr r.b,fr r.e] from rfl];have j:=D.tog bt;have C:=fo j lo (by grind) D.r1 D.r2 hc f o D.b1 D.b2 (by have:=D.p1;grind) (by have:=D.p2;grind);have E:=fo j (show BH cs ds<=r.e by grind) hi D.r1 D.r2 hc f s D.b1 D.b2 (by have:=D.p1;grind) (by have:=D.p2;grind);have t:∀{n:Nat} {p:T3},Ea n p->Bd n (Ft p r.sd):=λh=>by unfold Ft;split;exact h.x;split;exact h.y;exact h.z
  have c1:=t C;have c2:=t E;have F:=g9 g.at0;have G:=g9 g.at1;repeat' array_get_dec
  refine Lu hc f l D j lo (by grind) o ?_;repeat' array_get_dec
  refine fQ g.sd ?_;repeat' array_get_dec
  refine⟨mO c1.top (by omega), ?_⟩;repeat' array_get_dec
  .exact absurd ‹_› F
  refine Lu hc f l D j (by grind) hi s ?_;repeat' array_get_dec
  refine fQ g.sd ?_;repeat' array_get_dec
  refine⟨mO c2.top (by omega), ?_⟩;repeat' array_get_dec
  .exact absurd ‹_› G
  exact q
theorem Vs {a:Type}:∀xs:km a,Lc (xs.map λ_=>PV.bl true)=some (xs.map λ_=>true)
 | [] =>rfl
 | x::xs=>by have:=Vs xs;simp only[AAc,Lc,this];rfl
theorem Pm {a:Type}{xs:km a}{Q:PV->Prop}(q:Q (.bl true)):Tp (λbs=>bs.all id) [.lst (xs.map λ_=>PV.bl true)] Q:=by
 refine mN (Vs xs) ?_;have:(xs.map λ_=>true).all id=true:=by rw[ABd];intro b hb;obtain⟨_,_,rfl⟩:=AAe.mp hb;rfl
 rw[this];exact q
theorem fj {a:Type}{xs:km a}{Q:PV->Prop}(q:Q (.bl false)):lh false (.bl false) (.lst (xs.map λ_=>PV.bl true)) Q:=by
 refine⟨⟨rfl,EW λx hx=> ?_⟩, ?_⟩
 .obtain ⟨_,_,rfl⟩:=AAe.mp hx;rfl
 .rw [AAS (by decide)];have e:l8 (.bl false) (xs.map λ_=>PV.bl true)=false:=by unfold l8;rw[ADD];intro x hx;obtain⟨_,_,rfl⟩:=AAe.mp hx;decide +kernel
  rw[e];exact q
theorem ZI {e:Rat}:∀{rs:km Rw} {b:Rat},cv b e rs->(rs.map (·.b)).tail=(rs.map (·.e)).dropLast
 | [],_,_=>rfl
 | [r],_,_=>rfl
 | r::s::rs,_,h=>by have ih:=ZI (rs:=s::rs) h.2;have h1:s.b=r.e:=h.2.1;simp only[AAc,AEv,List.dropLast_cons₂] at ih ⊢;rw[h1,ih]
theorem SJ {e:Rat}:∀{rs:km Rw} {b:Rat},rs≠ [] ->cv b e rs->(rs.map (·.e)).getLast?=some e
 | [],_,h,_=>absurd rfl h
 | [r],_,_,h=>by have:r.e=e:=h.2;simp[this]
 | r::s::rs,_,_,h=>by have:=SJ (rs:=s::rs) (by simp) h.2;simpa using this
theorem d8 (xs:km Rat):Gh (xs.map fr) (some 1) none=xs.tail.map fr:=by have h1:∀ys:km PV,Gh ys (some 1) none=ys.drop 1:=q8;rw[h1,<-ACn,List.drop_one]
theorem fP {xs:km Rat}{x:Rat}(e:xs.getLast?=some x){R:PV->Prop}(h:R (fr x)):Ai (.lst (xs.map fr)) (.int (-1)) R:=by obtain⟨u,hu⟩:=List.getLast?_eq_some_iff.mp e;rw[hu,AAk];exact WJ h
theorem nR {xs:km Rat}{Q:PV->Prop}(q:Q (.bl false)):Lh (.lst (xs.map fr)) (.lst (xs.map fr)) Q:=by
 have o:D2 30 (.lst (xs.map fr))=true:=by simp only[D2];exact EW λx hx=>by obtain⟨y,_,rfl⟩:=AAe.mp hx;rfl
 refine⟨⟨o,o⟩, ?_⟩;have e:G9 (.lst (xs.map fr)) (.lst (xs.map fr))=true:=by
  induction xs with
  | nil=>rfl
  | cons x xs ih=>
    have h:G9 (.lst ((x::xs).map fr)) (.lst ((x::xs).map fr))=(G9 (fr x) (fr x)&&G9 (.lst (xs.map fr)) (.lst (xs.map fr))):=rfl;rw[h,KM,AAi rfl,ih (by
     simp only[D2];exact EW λx hx=>by
      obtain⟨y,_,rfl⟩:=AAe.mp hx;rfl)]
    rfl
 rw[e];exact q
theorem ku (D:E6 cs ds d M W){B X:Nat}(hc:∀c∈cs,EF B c)(u:∀c∈ds,EF B c)(v:X+6*B+10<=1900)(w:M<=X){rs:km Rw}(P:dR cs ds d X rs){Q:PV->Prop}(q:Q (.bl true)):EO [An cs,An ds, .tup [fr d.1,fr d.2], .tup (rs.map FI)] Q:=by
 have x:=P.few;apply Qe;ac_rfl;refine Cu FI (λ_:Rw=>PV.bl true) id (λr=>Vn cs ds d X r) (λr g R j=> ?_) rs [] P.ok ?_
 .ac_rfl;exact fH (iZ.self r) g.sd g.lt g.bb g.be (by omega) j
 rw[ABG,AC5];ac_rfl;refine fj ?_;ac_rfl;refine EV D ?_;by_cases h:BH cs ds<BG cs ds
 .obtain ⟨t,ch⟩:=P.some_ h;obtain⟨k,i,rfl⟩:=AFM t;have l:=Oz h;have f:=U7 h;rw[<-Nc h] at l f;obtain⟨n,m,y⟩:∃n m,MN cs ds=n::m:=by
   cases e:MN cs ds with
   | nil=>rw[e] at l;cases l
   | cons a b=>exact⟨a,b,rfl⟩
  rw[y] at l f ⊢;have o:n=BH cs ds:=AAn l;have c0:k.b=BH cs ds:=ch.1;have A:=ZI ch;have cl:=SJ t ch;have C:∀r∈k::i,Vn cs ds d X r:=P.ok;ac_rfl
  .exfalso;rename_i z;simp at z;omega
  .exfalso;rename_i G E;simp at E;omega
  refine Cu FI fr (λr:Rw=>r.b) (λ_=>True) (λr _ R j=> ?_) (k::i) [] (λ_ _=>trivial) ?_
  .unfold FI;ac_rfl;exact j
  rw[ABG];ac_rfl;refine Cu FI fr (λr:Rw=>r.e) (λ_=>True) (λr _ R j=> ?_) (k::i) [] (λ_ _=>trivial) ?_
  .unfold FI;ac_rfl;exact j
  rw[ABG];ac_rfl
  .rename_i c1 p _ c2 s _ z;exfalso;have p:some k.b=some c1:=p;have s:some n=some c2:=s;cases p;cases s;exact z (by rw[c0,o])
  refine fP cl ?_;ac_rfl;refine fP f ?_;ac_rfl;all_goals first | (exfalso;exact absurd rfl ‹_›)|skip
  rw[d8,nI,<-List.map_dropLast,A];refine nR ?_;ac_rfl;refine Cu FI (λ_:Rw=>PV.bl true) id (λr=>Vn cs ds d X r) (λr g R j=> ?_) (k::i) [] C ?_
  .ac_rfl;exact Wl D hc u v w g j
  rw[ABG,AC5];ac_rfl;exact Pm q
 .have F:=P.none_ h;subst F;rw[show MN cs ds= [] from AAS h];ac_rfl;exact q
theorem iS {rs:km Rw}(b:rs.length<=402){Q:PV->Prop}(q:Q (.bl true)):Dt [.tup (rs.map FI)] Q:=by
 apply OW;ac_rfl;refine Cu FI (λ_:Rw=>PV.bl true) id (λ_=>True) (λr _ R a=> ?_) rs [] (λ_ _=>trivial) ?_
 .unfold FI;ac_rfl;exact a
 rw[ABG,AC5];ac_rfl;refine Pm ?_;ac_rfl;refine Cu FI (λ_:Rw=>PV.bl true) id (λ_=>True) (λr _ R a=> ?_) rs [] (λ_ _=>trivial) ?_
 .unfold FI;ac_rfl;exact a
 rw[ABG,AC5];ac_rfl;exact Pm q
def vh (r:Rat):PV:= .lst [.int r.num, .int (r.den:Int)]
def tR (r:Rw):PV:= .lst [vh r.b,vh r.e, .int (r.sd:Nat), .int (K2 r.up)]
theorem iZ.lists (r:Rw):iZ r (tR r):=⟨_,_, .inr rfl, .inr rfl, .inr rfl⟩
theorem HB {m:Nat}{i:Int}{Q:PV->Prop}(q:Q (.int i)):Az (m+1) [.int i] Q:=by apply Cy;ac_rfl;exact q
theorem NB {m:Nat}{r:Rat}{Q:PV->Prop}(q:Q (vh r)):Az (m+2) [fr r] Q:=by
 show Az (m+2) [.tup [.int r.num, .int (r.den:Int)]] Q;apply Cy;repeat' array_get_dec
 refine HB ?_;repeat' array_get_dec
 refine HB ?_;repeat' array_get_dec
 exact q
theorem bV {m:Nat}{r:Rw}{Q:PV->Prop}(q:Q (tR r)):Az (m+3) [FI r] Q:=by
 unfold FI;apply Cy;repeat' array_get_dec
 refine NB ?_;repeat' array_get_dec
 refine NB ?_;repeat' array_get_dec
 refine HB (m:=m+1) ?_;repeat' array_get_dec
 refine HB (m:=m+1) ?_;repeat' array_get_dec
 exact q
theorem X8 {m:Nat}{rs:km Rw}(a:rs.length<=402){Q:PV->Prop}(q:Q (.lst (rs.map tR))):Az (m+4) [.tup (rs.map FI)] Q:=by
 apply Cy;ac_rfl;refine Cu FI tR id (λ_=>True) (λr _ R b=> ?_) rs [] (λ_ _=>trivial) ?_
 .ac_rfl;exact bV b
 rw[ABG,AC5];exact q
theorem ZD {d:Rat×Rat}{k:Int}{R:PV->Prop}(h:∀x,(x=d.1\/x=d.2)->R (fr x)):Ai (.tup [fr d.1,fr d.2]) (.int (if decide (k=2)=true then 1 else 0)) R:=by
 by_cases e:k=2
 .rw [AAi e,AAU rfl];exact h _ (.inr rfl)
 .rw [AAr e,AAS (by decide)];exact h _ (.inl rfl)
theorem yt {a b c:PV}{P:Nat->Prop}(h:P 0):cF (Oi [a,b,c].length 0) P:=h
theorem yu {a b c:PV}{P:Nat->Prop}(h:P 1):cF (Oi [a,b,c].length 1) P:=h
theorem yw {a b c:PV}{P:Nat->Prop}(h:P 2):cF (Oi [a,b,c].length 2) P:=h
theorem O1 {d:Rat×Rat}{c:C4}{k:km C4}{x y z:Rat}{a:Int}{n:PV}{b:ke AV}{D:HX}(b1:Bd 3 d.1)(b2:Bd 3 d.2)(o:EF 22 c)(gl:k.length<=12)(r:Bd 5 x)(l:Bd 5 y)(s:Bd 5 z)(C:0<=a)(E:a<3)(q:∀(e:C4) g b,e.1=c.1->EF 28 e->D.nx [some (.val .tape),some (.val (.tup [fr d.1,fr d.2])),some (.val n),some (.own ((k ++ [e]).map cor)),some (.val (.int a)),some (.val (cor c)),g,b]):Cs D [some (.val .tape),some (.val (.tup [fr d.1,fr d.2])),some (.val n),some (.own (k.map cor)),some (.val (.int a)),some (.val (cor c)),some (.own [fr x,fr y,fr z]),b] :=by
 obtain⟨nx,rt,bk,ct⟩:=D;have q:∀(e:C4) g b,e.1=c.1->EF 28 e->nx [some (.val .tape),some (.val (.tup [fr d.1,fr d.2])),some (.val n),some (.own ((k ++ [e]).map cor)),some (.val (.int a)),some (.val (cor c)),g,b] :=q;have t:∀f∈ [(1:Rat),1,2],Bd 2 f:=by intro f p;simp only[AAV,AAp,AAq] at p;rcases p with rfl|rfl|rfl <;> exact⟨by decide +kernel,by decide +kernel⟩
 have u:∀w,(w=d.1\/w=d.2)->Bd 3 w:=λw h=>by rcases h with rfl|rfl <;> assumption
 have i:∀(x y z:Rat),Bd 5 x->Bd 5 y->Bd 5 z->∀g b,nx [some (.val .tape),some (.val (.tup [fr d.1,fr d.2])),some (.val n),some (.own (k.map cor ++ [.tup [fr c.1,fr (c.2.1+x),fr (c.2.2.1+y),fr (c.2.2.2+z)]])),some (.val (.int a)),some (.val (cor c)),g,b] :=λx y z h1 h2 v g b=>by have:=q (c.1,c.2.1+x,c.2.2.1+y,c.2.2.2+z) g b rfl ⟨o.m.mono (by decide),(o.x.add h1).mono (by decide),(o.y.add h2).mono (by decide),(o.z.add v).mono (by decide)⟩;rw[AAk] at this;exact this
 clear q;rcases (show a=0\/a=1\/a=2 by omega) with rfl|rfl|rfl;all_goals
  ac_rfl;refine ZD λw hw=> ?_;have A:=u w hw;ac_rfl;refine M9 (xs:= [1,1,2]) (by assumption) (by assumption) λf p=> ?_;have B:=t f p;have j:=A.mul B;ac_rfl;first | refine yt ?_|refine yu ?_|refine yw ?_
  simp only[List.set];ac_rfl;rw[show rng 0 (Int.toNat 3)= [.int 0, .int 1, .int 2] from rfl];repeat' array_get_dec
  rw[show (0:Int)+1=1 from rfl];repeat' array_get_dec
  rw[show (1:Int)+1=2 from rfl];repeat' array_get_dec
  rw[show (2:Int)+1=3 from rfl];repeat' array_get_dec
  first | exact i _ _ _ j l s _ _|exact i _ _ _ r j s _ _|exact i _ _ _ r l j _ _
theorem lS {d:Rat×Rat}(b1:Bd 3 d.1)(b2:Bd 3 d.2){Q:PV->Prop}(q:∀cs ds,Ge cs->Ge ds->Q (.tup [An cs,An ds])):Cm [.tape, .tup [fr d.1,fr d.2]] Q:=by
 apply Kk;ac_rfl;refine JJ λcs b=> ?_;have v:LQ cs:=⟨⟨b.two,b.few,λc hc=>(b.mu c hc).bd (by decide) (by decide),b.ris⟩,λc hc=>(b.mu c hc).m.mono (by decide)⟩;have F:=b.few;ac_rfl;rename_i A p r;refine EU cor (λB vs τ=>∃(a:km C4) (x n o:ke AV),a.map (·.1)=B.map (·.1)/\(∀g∈a,EF 28 g)/\τ= [some (.val .tape),some (.val (.tup [fr d.1,fr d.2])),some (.val (An cs)),some (.own (a.map cor)),some (.val (.int A)),x,n,o]) ?_ ?_ ⟨[],_,_,_,rfl,by simp,rfl⟩
 .rintro τ ⟨a,x,n,o,e,z,rfl⟩;ac_rfl;have C:a.length=cs.length:=by have:=congrArg List.length e;simpa using this
  refine q cs a v.y ⟨⟨by rw[C];exact b.two,by rw[C];exact b.few,z, ?_⟩,λc hc=> ?_⟩
  .have h1:(cs.map (·.1)).Pairwise (· < ·):=ADd.mpr b.ris;rw[<-e] at h1;exact ADd.mp h1
  .have:c.1∈cs.map (·.1):=by rw[<-e];exact AAe.mpr ⟨c,hc,rfl⟩
   obtain⟨G,H,I⟩:=AAe.mp this;rw[<-I];exact v.y.mm G H
 .rintro B c vs e τ R D ⟨a,x,n,o,E,z,rfl⟩;have s:=v.ok.bd c (by rw[<-e];simp);have gl:a.length<=12:=by have h1:=congrArg List.length E;have h2:=congrArg List.length e;simp at h1 h2;omega
  have i:∀(e:C4) n o,e.1=c.1->EF 28 e->R [some (.val .tape),some (.val (.tup [fr d.1,fr d.2])),some (.val (An cs)),some (.own ((a ++ [e]).map cor)),some (.val (.int A)),some (.val (cor c)),n,o] :=λe n o h1 h2=>D _ ⟨a ++ [e],_,_,_,by rw[AAk,AAk,E];simp[h1],λg J=>by
   rcases AAj.mp J with h|h
   .exact z g h
   .rcases AC6.mp h with rfl;exact h2,rfl⟩
  clear D;have K:∀f∈ [(1:Rat), -1,3/2],Bd 2 f:=by intro f t;simp only[AAV,AAp,AAq] at t;rcases t with rfl|rfl|rfl <;> exact⟨by decide +kernel,by decide +kernel⟩
  have L:∀w,(w=d.1\/w=d.2)->Bd 3 w:=λw h=>by rcases h with rfl|rfl <;> assumption
  have j:Bd 5 (0:Rat):=qG.mono (by decide);unfold FF EL;generalize u:Cs=T;ac_rfl
  .rename_i k k0 P;refine ZD λw hw=> ?_;have N:=L w hw;ac_rfl;refine M9 (xs:= [1, -1,3/2]) (by assumption) (by assumption) λf t=> ?_;have O:=K f t;have l:=N.mul O;ac_rfl;rcases (show k=0\/k=1\/k=2 by omega) with rfl|rfl|rfl
   .refine yt ?_;simp only[List.set];ac_rfl;subst u;exact O1 b1 b2 s gl l j j p r i
   .refine yu ?_;simp only[List.set];ac_rfl;subst u;exact O1 b1 b2 s gl j l j p r i
   .refine yw ?_;simp only[List.set];ac_rfl;subst u;exact O1 b1 b2 s gl j j l p r i
  .subst u;exact O1 b1 b2 s gl j j j p r i
end
abbrev Jw:AS:=
 (AZ (BD (DI (Ag (AX Lh (AX Ai (aV 3) (aC (.int 0))) (aC (.str "near")))) (DI (Bc (Ag (DD M5 (AB (AX Ai (aV 3) (aC (.int 1))) (AB (aC (.ty "tuple")) AL))))) (Bc (Ag (AN 1 Bp (AB (AX Ai (aV 3) (aC (.int 1))) AL)))))) (Ak (aC (.bl false))) Ay)
   (Ak (AN 4 CG (AB (aV 0) (AB (aV 1) (AB (aV 2) (AB (AX Ai (aV 3) (aC (.int 1))) AL)))))))
abbrev J0:AS:=
 (AZ (BD (Ag (AX eH (AN 4 CV (AB (aV 0) (AB (aV 1) (AB (aV 2) (AB (AN 1 (Az 12) (AB (AX Ai (aV 3) (aC (.int 1))) AL)) AL))))) (aC (.bl true)))) (Ak (aC (.bl false))) Ay)
   (Ak (Tg (AX nM (AN 4 CV (AB (aV 0) (AB (aV 1) (AB (aV 2) (AB (AX Ai (aV 3) (aC (.int 1))) AL))))) (aC (.bl true))) (AX GM (AX GM (AX Ai (aV 3) (aC (.int 1))) (A1 AL)) (AX GM (AN 2 CW (AB (aV 0) (AB (aV 1) AL))) (Eb (DQ AL)))))))
abbrev Jz:AS:=
 (AZ (BD (DI (Ag (AX Lh (AX Ai (aV 3) (aC (.int 0))) (aC (.str "clear")))) (DI (Bc (Ag (AN 1 Dt (AB (AX Ai (aV 3) (aC (.int 1))) AL)))) (Bc (Ag (AN 4 EO (AB (aV 0) (AB (aV 1) (AB (aV 2) (AB (AX Ai (aV 3) (aC (.int 1))) AL))))))))) (Ak (aC (.bl false))) Ay)
   J0)
abbrev Jy:AS:=
 (AZ (BD (Ag (AX Lh (AN 3 C6 (AB (aV 0) (AB (aV 1) (AB (aV 2) AL)))) (A1 AL))) Jw Ay)
   Jz)
abbrev Jx:AS:=
 (AZ (BD (DI (Bc (Ag (DD M5 (AB (aV 3) (AB (aC (.ty "tuple")) AL))))) (DI (Ag (AX Lh (DD EJ (AB (aV 3) AL)) (aC (.int 2)))) (Ag (AX Lh (AN 3 FW (AB (aV 0) (AB (aV 1) (AB (aV 2) AL)))) (aV 3))))) (Ak (aC (.bl false))) Ay)
   Jy)
abbrev Hc:AS:=
 (AZ (As (AN 3 FW (AB (aV 0) (AB (aV 1) (AB (aV 2) AL)))) (Ar 3))
   Jx)
def B5:AF:=Av 4 Hc
def MD {a b c:PV}{Q:PV->Prop}(h:Hc ⟨λ_=>Q .non,Q,λ_=>False,λ_=>False⟩ [some (.val a),some (.val b),some (.val c),none]):B5 [a,b,c] Q:=h
abbrev OD:AS:=
 (AZ (As (AN 1 DV (AB (aV 3) AL)) (Ar 2))
   (FO (Hl (A1 (AB (A1 (AB (aV 4) (AB (aV 5) AL))) (AB (A1 (AB (aV 7) (AB (aV 8) AL))) (AB (A1 (AB (aV 8) (AB (aV 7) AL))) AL))))) (IM 2 (Ae (Ar 9) (Ae (Ar 10) Bu))) (BD (Bc (Ag (DD (Tp λbs=>bs.all id) (AB (Eb (CA (Hl (A1 (AB (aV 6) (AB (aV 2) (AB (aV 6) AL))))) 1 [9,10] (Ar 0) Dh (AN 3 B5 (AB (aV 1) (AB (aV 2) (AB (aV 0) AL)))))) AL)))) (Ak (aC (.bl false))) Ay)))
abbrev OC:AS:=
 (AZ (As (AN 2 Cm (AB (aV 3) (AB (aV 6) AL))) (IM 2 (Ae (Ar 7) (Ae (Ar 8) Bu))))
   OD)
abbrev S2:AS:=
 (AZ (As (AN 2 Ez (AB (aV 0) (AB (aV 1) AL))) (IM 4 (Ae (Ar 3) (Ae (Ar 4) (Ae (Ar 5) (Ae (Ar 6) Bu))))))
   OC)
abbrev Rt:AS:=
 (AZ (FO (RM (AB (AX BQ (aC (.int 1)) (DD (rG min) (AB (aC (.int 2)) (AB (DD EJ (AB (aV 0) AL)) AL)))) AL)) (Ar 1) S2)
   (Ak (aC (.bl true))))
def FU:AF:=Av 11 Rt
def Wo {a:PV}{Q:PV->Prop}(h:Rt ⟨λ_=>Q .non,Q,λ_=>False,λ_=>False⟩ [some (.val a),none,none,none,none,none,none,none,none,none,none]):FU [a] Q:=h
def fq (n:Nat)(rs:km Rw):D2 (n+3) (.tup (rs.map FI))=true:=by simp only[D2];exact EW λx hx=>by obtain⟨r,_,rfl⟩:=AAe.mp hx;rfl
def oU (n:Nat)(ss:km Bq):D2 (n+3) (.tup (ss.map D7))=true:=by simp only[D2];exact EW λx hx=>by obtain⟨r,_,rfl⟩:=AAe.mp hx;exact j0 _ _
def nL (r:Rw):G9 (FI r) (FI r)=true:=by have h:G9 (FI r) (FI r)=(G9 (fr r.b) (fr r.b)&&(G9 (fr r.e) (fr r.e)&&(G9 (.int (r.sd:Nat)) (.int (r.sd:Nat))&&(G9 (.int (K2 r.up)) (.int (K2 r.up))&&true)))):=rfl;rw[h,KM,KM,AAi rfl,AAi rfl];simp[G9,pd,PyData.eqv]
theorem ZT:∀rs:km Rw,G9 (.tup (rs.map FI)) (.tup (rs.map FI))=true
 | [] =>rfl
 | r::rs=>by have h:G9 (.tup ((r::rs).map FI)) (.tup ((r::rs).map FI))=(G9 (FI r) (FI r)&&G9 (.tup (rs.map FI)) (.tup (rs.map FI))):=rfl;rw[h,nL,ZT rs];rfl
def jp {m:Rat}{Q:PV->Prop}(q:Q (.bl false)):Lh (.tup [.str "near",fr m]) (.tup [.str "near",fr m]) Q:=by
 have o:D2 30 (.tup [.str "near",fr m])=true:=by
  have h1:PyData.strOk (Str.ofString "near")=true:=by decide +kernel
  simp only[D2,Hz,fr,h1];rfl
 refine⟨⟨o,o⟩, ?_⟩;have h:G9 (.tup [.str "near",fr m]) (.tup [.str "near",fr m])=(G9 (.str "near") (.str "near")&&(G9 (fr m) (fr m)&&true)):=rfl;rw[h,KM,AAi rfl,show G9 (.str "near") (.str "near")=true by decide +kernel];exact q
def fh {rs:km Rw}{Q:PV->Prop}(q:Q (.bl false)):Lh (.tup [.str "clear", .tup (rs.map FI)]) (.tup [.str "clear", .tup (rs.map FI)]) Q:=by
 have o:D2 30 (.tup [.str "clear", .tup (rs.map FI)])=true:=by
  have:=fq 26 rs;have h1:PyData.strOk (Str.ofString "clear")=true:=by decide +kernel
  simp only[D2,Hz] at this ⊢;simp[this,h1]
 refine⟨⟨o,o⟩, ?_⟩;have h:G9 (.tup [.str "clear", .tup (rs.map FI)]) (.tup [.str "clear", .tup (rs.map FI)])=(G9 (.str "clear") (.str "clear")&&(G9 (.tup (rs.map FI)) (.tup (rs.map FI))&&true)):=rfl;rw[h,ZT,show G9 (.str "clear") (.str "clear")=true by decide +kernel];exact q
def jq {Q:PV->Prop}(q:Q (.bl false)):Lh (.tup []) (.tup []) Q:=⟨⟨rfl,rfl⟩,q⟩
def jo {x:PV}{xs:km PV}(h:D2 30 (.tup (x::xs))=true){Q:PV->Prop}(q:Q (.bl true)):Lh (.tup (x::xs)) (.tup []) Q:=⟨⟨h,rfl⟩,by
 have:G9 (.tup (x::xs)) (.tup [])=false:=by simp[G9,pd,Nx,PyData.eqv,PyData.eqvAll]
 rw[this];exact q⟩
def jK {x:PV}{xs:km PV}(h:D2 30 (.tup (x::xs))=true){Q:PV->Prop}(q:Q (.bl false)):GM (.tup (x::xs)) (.tup []) Q:=⟨⟨h,rfl⟩,by
 have:G9 (.tup (x::xs)) (.tup [])=false:=by simp[G9,pd,Nx,PyData.eqv,PyData.eqvAll]
 rw[this];exact q⟩
def eF {x:Rat}{xs:km Rat}{Q:PV->Prop}(q:Q (.bl false)):GM (.lst ((x::xs).map fr)) (.lst []) Q:=by
 refine⟨⟨?_,rfl⟩, ?_⟩
 .simp only[D2];exact EW λy hy=>by obtain⟨z,_,rfl⟩:=AAe.mp hy;rfl
 .have:G9 (.lst ((x::xs).map fr)) (.lst [])=false:=by simp[G9,pd,Nx,PyData.eqv,PyData.eqvAll]
  rw[this];exact q
section
variable {cs ds:km C4}{d:Rat×Rat}
theorem Wj (p:Ge cs)(p2:Ge ds)(b1:Bd 3 d.1)(b2:Bd 3 d.2)(v:0<d.1)(w:0<d.2){Q:PV->Prop}(q:Q (.bl true)):B5 [An cs,An ds, .tup [fr d.1,fr d.2]] Q:=by
 have D:=vg p p2 b1 b2 v w;apply MD;ac_rfl;refine KY D (.self _) (.self _) (.inl rfl) (by decide) (λm c bm mid=> ?_) (λj rs P=> ?_)
 .ac_rfl;refine KY D (.self _) (.self _) (.inl rfl) (by decide) (λo _ _ g=> ?_) (λj rs P=>absurd c (j m));have e:=g.one mid;subst e;ac_rfl;refine jp ?_;ac_rfl;refine Nv D p.ok.bd p2.ok.bd (by decide) λff sp t=> ?_;cases ff with
  | nil=>have:=(t.sem _).mpr c;cases this
  | cons s r=> ac_rfl;refine jo (oU _ (s::r)) ?_;ac_rfl;refine X9 (bm.mono (by decide)) (.inl rfl) ?_;ac_rfl;refine Fk D p.ok.bd p2.ok.bd bm (by decide) ?_;rw[AAi c];exact q
 .ac_rfl;refine KY D (.self _) (.self _) (.inl rfl) (by decide) (λo c _ _=>absurd c (j o)) (λ_ y z=> ?_);have e:=z.det.one P.det;subst e;ac_rfl;refine fh ?_;ac_rfl;refine Nv D p.ok.bd p2.ok.bd (by decide) λff sp t=> ?_;cases ff with
  | cons s r=> obtain⟨x,hx⟩:=t.fin s (by simp);exact absurd (WQ t hx) (j _)
  | nil=>
    ac_rfl;refine jq ?_;ac_rfl;refine iS P.few ?_;ac_rfl;refine ku D p.ok.bd p2.ok.bd (by decide) (by decide) P ?_;ac_rfl;refine X8 (m:=8) P.few ?_;ac_rfl;refine Qt D (f:=tR) p.ok.bd p2.ok.bd (.self _) (.self _) (.inl rfl) P (by decide) (by decide) (by decide) iZ.lists (.inr rfl) ?_;ac_rfl;refine Qt D (f:=FI) p.ok.bd p2.ok.bd (.self _) (.self _) (.inl rfl) P (by decide) (by decide) (by decide) iZ.self (.inl rfl) ?_;ac_rfl;by_cases h:BH cs ds<BG cs ds
    .obtain ⟨A,ch⟩:=P.some_ h;obtain⟨B,k,l⟩:=AFM A;obtain⟨u,i,C⟩:∃u i,MN cs ds=u::i:=by
      have n:=Oz h;rw[<-Nc h] at n;cases e:MN cs ds with
      | nil=>rw[e] at n;cases n
      | cons a b=>exact⟨a,b,rfl⟩
     rw[l];refine jK (fq _ (B::k)) ?_;ac_rfl;refine EV D ?_;rw[C];ac_rfl;refine eF ?_;exact q
    .have l:=P.none_ h;subst l;refine(show GM (.tup []) (.tup []) _ from⟨⟨rfl,rfl⟩, ?_⟩);ac_rfl;refine EV D ?_;rw[show MN cs ds= [] from AAS h];ac_rfl;refine(show GM (.lst []) (.lst []) _ from⟨⟨rfl,rfl⟩, ?_⟩);exact q
theorem fT (e:km Int)(hn:e.length<=63):FU [.scr e] λx=>x= .bl true:=by
 apply Wo;repeat' array_get_dec
 refine Tl (λi τ=>∃f g h j k l m n o a,τ= [some (.val (.scr e)),f,g,h,j,k,l,m,n,o,a]) ?_ ?_ ⟨_,_,_,_,_,_,_,_,_,_,rfl⟩
 .rintro τ ⟨f,g,h,j,k,l,m,n,o,a,rfl⟩;repeat' array_get_dec
 .rintro i hi τ R s ⟨f,g,h,j,k,l,m,n,o,a,rfl⟩;have t:(0:Int)+i=i:=by omega
  rw[t];ac_rfl;refine dm (by omega) λcs ds d p p2 b1 b2 w z=> ?_;ac_rfl;refine lS b1 b2 λes A b c=> ?_;ac_rfl;refine R5 λr u v B C=> ?_;have r1:∀{xs ys:km C4},Ge xs->Ge ys->∀{Q:PV->Prop},Q (.bl true)->B5 [An xs,An ys, .tup [fr d.1,fr d.2]] Q:=λh1 h2 _ q=>Wj h1 h2 b1 b2 (by grind) (by grind) q;have r2:∀{xs ys:km C4},Ge xs->Ge ys->∀{Q:PV->Prop},Q (.bl true)->B5 [An xs,An ys, .tup [fr r.1,fr r.2]] Q:=λh1 h2 _ q=>Wj h1 h2 u v (by grind) (by grind) q;repeat' array_get_dec
  refine r1 p.y p2.y ?_;repeat' array_get_dec
  refine r2 p.y p2.y ?_;repeat' array_get_dec
  refine r1 p.y p2.y ?_;repeat' array_get_dec
  refine r1 b c ?_;repeat' array_get_dec
  refine r2 b c ?_;repeat' array_get_dec
  refine r1 b c ?_;repeat' array_get_dec
  refine r1 c b ?_;repeat' array_get_dec
  refine r2 c b ?_;repeat' array_get_dec
  refine r1 c b ?_;repeat' array_get_dec
  exact s _ ⟨_,_,_,_,_,_,_,_,_,_,rfl⟩
end
end PL.K25
section
namespace K25
open PySem L2 PL PL.K25 PyProof.Rows
def DJ {N Q:km Str}{s:Scope}(a:s.kind= .function:=by rfl)(b:s.isCoroutine=false:=by rfl)(c:s.isGenerator=false:=by rfl)(d:N.Nodup:=by decide +kernel)(e:N.take Q.length=Q:=by rfl)(f:∀x∈Q,s.names.lookup x=some .local\/s.names.lookup x=some .cell:=by decide +kernel)(g:∀y∈s.names,y.2≠ .free:=by decide +kernel):Ev N Q s:=⟨a,b,c,d,e,f,g⟩
section
variable (P:gn)(w:fe)(K:AAR)(Z:Str->ke kj)(Y:da)(n:Nat)
abbrev DR:=Has P w K Z Y n "_law_draw" ["_law_tape_here","_law_many"] (Cg K 2 BV)
abbrev Lj:=Has P w K Z Y n "_law_apart" ["_law_tape_here"] (Cg K 1 DV)
abbrev DS:=Has P w K Z Y n "_law_part" ["_law_top","_law_bottom"] (Cg K 2 BC)
abbrev D6:=Has P w K Z Y n "_law_sum" ["_law_one","_law_other"] (Cg K 2 B6)
abbrev Tr:=Has P w K Z Y n "_law_moved" ["_law_plan_here","_law_late","_law_by"] (Cg K 3 B4)
abbrev Em:=Has P w K Z Y n "_law_off" ["_law_one","_law_other"] (Cg K 2 Bh)
abbrev Ll:=Has P w K Z Y n "_law_place" ["_law_tape_here"] (Cg K 1 BE)
abbrev Np:=Has P w K Z Y n "_law_span" ["_law_tape_here"] (Cg K 1 DN)
abbrev IR:=Has P w K Z Y n "_law_plan" ["_law_tape_here"] (Cg K 1 CI)
abbrev DT:=Has P w K Z Y n "_law_product" ["_law_one","_law_other"] (Cg K 2 BU)
abbrev RV:=Has P w K Z Y n "_law_beside" ["_law_tape_here","_law_plan_here","_law_apart_here"] (Cg K 3 Dp)
abbrev V5:=Has P w K Z Y n "_law_tape" ["_law_script","_law_k"] (Cg K 2 Pe)
abbrev V4:=Has P w K Z Y n "_law_case" ["_law_script","_law_k"] (Cg K 2 Ez)
abbrev EH:=Has P w K Z Y n "_law_less" ["_law_one","_law_other"] (Cg K 2 Am)
abbrev FP:=Has P w K Z Y n "_law_ratio" ["_law_one","_law_other"] (Cg K 2 CB)
abbrev Nq:=Has P w K Z Y n "_law_spot" ["_law_plan_here","_law_m"] (Cg K 2 DO)
abbrev Xu:=Has P w K Z Y n "_law_gap" ["_law_one","_law_other","_law_apart_here","_law_m","_law_end"] (Cg K 5 Fa)
abbrev IQ:=Has P w K Z Y n "_law_is_near" ["_law_one","_law_other","_law_apart_here","_law_m"] (Cg K 4 CG)
abbrev Jf (m:Nat):=Has P w K Z Y n "_law_listed" ["_law_thing"] (Cg K 1 (Az m))
abbrev Jh:=Has P w K Z Y n "_law_number" ["_law_thing"] (Cg K 1 BW)
abbrev Jg:=Has P w K Z Y n "_law_lowest" ["_law_thing"] (Cg K 1 Bp)
abbrev Nn:=Has P w K Z Y n "_law_offs" ["_law_one","_law_other","_law_apart_here","_law_m"] (Cg K 4 Co)
abbrev Ji:=Has P w K Z Y n "_law_rising" ["_law_moments"] (Cg K 1 DA)
abbrev Tu:=Has P w K Z Y n "_law_share" ["_law_low","_law_high","_law_begin","_law_end"] (Cg K 4 EN)
abbrev FQ:=Has P w K Z Y n "_law_turns" ["_law_one","_law_other"] (Cg K 2 CW)
abbrev Tq:=Has P w K Z Y n "_law_marks" ["_law_one","_law_other","_law_apart_here"] (Cg K 3 C5)
abbrev RX:=Has P w K Z Y n "_law_middle" ["_law_one","_law_other"] (Cg K 2 Dr)
abbrev OK:=Has P w K Z Y n "_law_near_set" ["_law_one","_law_other","_law_apart_here"] (Cg K 3 C6)
abbrev RW:=Has P w K Z Y n "_law_is_row" ["_law_row"] (Cg K 1 Dq)
abbrev M7:=Has P w K Z Y n "_law_row_holds" ["_law_one","_law_other","_law_apart_here","_law_row"] (Cg K 4 Cj)
abbrev Tv:=Has P w K Z Y n "_law_shows" ["_law_one","_law_other","_law_apart_here","_law_paper"] (Cg K 4 EO)
abbrev RY:=Has P w K Z Y n "_law_tupled" ["_law_paper"] (Cg K 1 Dt)
abbrev Pz:=Has P w K Z Y n "common" ["one","other"] (Cg K 2 GW)
abbrev P4:=Has P w K Z Y n "part" ["top","bottom"] (Cg K 2 IJ)
abbrev Xw:=Has P w K Z Y n "over" ["one","other"] (Cg K 2 KB)
abbrev OL:=Has P w K Z Y n "shared_bottom" ["numbers"] (Cg K 1 C7)
abbrev Xv:=Has P w K Z Y n "lines_of" ["first","last"] (Cg K 2 Fc)
abbrev Od:=Has P w K Z Y n "minus" ["one","other"] (Cg K 2 EQ)
abbrev SU:=Has P w K Z Y n "size_of" ["apart","side"] (Cg K 2 Eh)
abbrev Dw:=Has P w K Z Y n "before" ["one","other"] (Cg K 2 Am)
abbrev Xx:=Has P w K Z Y n "plus" ["one","other"] (Cg K 2 IK)
abbrev Tw:=Has P w K Z Y n "times" ["one","other"] (Cg K 2 Fx)
abbrev P5:=Has P w K Z Y n "spot_between" ["former","latter","m"] (Cg K 3 ES)
abbrev SV:=Has P w K Z Y n "spot_at" ["plan","m"] (Cg K 2 Ei)
abbrev bE:=Has P w K Z Y n "offs_at" ["one","other","apart","m"] (Cg K 4 GZ)
abbrev bA:=Has P w K Z Y n "greater" ["one","other"] (Cg K 2 DM)
abbrev V6:=Has P w K Z Y n "lesser" ["one","other"] (Cg K 2 Fb)
abbrev P6:=Has P w K Z Y n "together" ["one","other"] (Cg K 2 D4)
abbrev Lm:=Has P w K Z Y n "corners_between" ["plan","begin","end"] (Cg K 3 CY)
abbrev RZ:=Has P w K Z Y n "count_below" ["numbers","number"] (Cg K 2 Du)
abbrev V8:=Has P w K Z Y n "rising" ["numbers"] (Cg K 1 Gc)
abbrev Za:=Has P w K Z Y n "turns" ["one","other","begin","end"] (Cg K 4 Iy)
abbrev V7:=Has P w K Z Y n "pieces" ["one","other","apart"] (Cg K 3 Gb)
abbrev bC:=Has P w K Z Y n "longest" ["bottom","lines"] (Cg K 2 FV)
abbrev Nr:=Has P w K Z Y n "moment_at" ["begin","end","share"] (Cg K 3 DP)
abbrev eZ:=Has P w K Z Y n "row_of" ["begin","end","at"] (Cg K 3 Fd)
abbrev bH:=Has P w K Z Y n "rows_of" ["piece"] (Cg K 1 Gd)
abbrev bD:=Has P w K Z Y n "near_in" ["piece"] (Cg K 1 GY)
abbrev Xy:=Has P w K Z Y n "steps_of" ["stretches"] (Cg K 1 Iw)
abbrev eY:=Has P w K Z Y n "levels" ["stretches"] (Cg K 1 II)
abbrev az:=Has P w K Z Y n "counted" ["stretches","n"] (Cg K 2 FT)
abbrev Xz:=Has P w K Z Y n "told_set" ["stretches"] (Cg K 1 Fe)
abbrev X0:=Has P w K Z Y n "too_near" ["one","other","apart"] (Cg K 3 Ff)
abbrev Zb:=Has P w K Z Y n "whole" ["n"] (Cg K 1 Iz)
abbrev bF:=Has P w K Z Y n "parting" ["one","other","apart"] (Cg K 3 FW)
abbrev jV:=Has P w K Z Y n "holds" ["one","other","apart","row"] (Cg K 4 LO)
abbrev P3:=Has P w K Z Y n "is_whole" ["thing"] (Cg K 1 BW)
abbrev bB:=Has P w K Z Y n "is_part" ["thing"] (Cg K 1 Ef)
abbrev eV:=Has P w K Z Y n "is_row" ["thing"] (Cg K 1 GX)
abbrev OM:=Has P w K Z Y n "shows_parting" ["one","other","apart","paper"] (Cg K 4 CV)
abbrev Tt:=Has P w K Z Y n "_law_right" ["_law_one","_law_other","_law_apart_here"] (Cg K 3 B5)
abbrev M8:=Has P w K Z Y n "_law_wide_pair" ["_law_tape_here","_law_apart_here"] (Cg K 2 Cm)
end
section
variable {P:gn}{w:fe}{K:AAR}{Z:Str->ke kj}{Y:da}{n m:Nat}{f:kf}{U:FuncData}
theorem MH:Ev ["_law_tape_here","_law_many","_law_once","_law_found"] ["_law_tape_here","_law_many"] (BY F3):=DJ
theorem UL (F:Vl K "_law_draw" "_law_draw" F3 f U):FA P w K Z Y TR (n+1) f U ["_law_tape_here","_law_many"] (Cg K 2 BV):=by
 have l:=MH.nd;refine F.ok MH (λvs H Q E h=> ?_) (λv A outer s H vs Q E I h=> ?_)
 .obtain ⟨T,M,xs,y,_,_,r,hl,_⟩:=h;rw[r.length,hl] <;> rfl
 obtain⟨T,M,xs,y,va,_,r,hl,e,hQ⟩:=h;unfold BV at e;split at e <;> first | exact e.elim|skip
 rename_i m;obtain⟨⟨m0,m1⟩,e⟩:=e;cases r with
 | cons r k=>
 cases k with
 | cons r2 k=>
 cases k;cases r2;cases r with
 | tape tp=>
 rename_i p;obtain⟨d,x,hp,o,z,B⟩:=va.tp p tp;refine⟨_,(Cc (Zv (Oq mJ (Ny Fz (pv 0) BO (λ_ _=>rfl)) BO (Bx _)) (Cc (GB (i:=3) l rfl (Or.inl rfl) (Cr HD (Ny Fz (pv 0) BO (λ_ _=>rfl)) (pv 1)))
  (Cc (Ub (Cr gF (Ny Fz (pv 0) BO (λ_ _=>rfl)) (pv 1)) (Ya (pv 0) BO Qr))
  (F1 (QY (pv 3))))) Op)
  (Cc (Ub (Cr HD (Cr KW (Cr JH (Ny Fz (pv 0) BO (λ_ _=>rfl)) BO) BO) BO) (Ya (pv 0) BO Qr))
  (Cc (GB (i:=2) l rfl (Or.inl rfl) (Cr HD (Cr JH (Ny Fz (pv 0) BO (λ_ _=>rfl)) (Cr KW (Cr HD (Ny Fz (pv 0) BO (λ_ _=>rfl)) BO) BO)) BO))
  (F1 (QY (Cr HD (Cr HD (Cr JH (pv 2) (Cr KW (Cr HD (pv 2) BO) BO)) BO) (pv 1))))))), ?_⟩
 have g:∀(r d' j:Int),0<=r->r<m->0<=d'->0<=j->j<2147483647->Q (.int r) (upd H p (.lst [.int d', .int j])):=λr d' j C r1 a b c=>
  hQ _ (.int r) T _ (iO va.tp tp a b c) (.int r) (e r C r1)
 refine⟨_,rfl,p,_,_,_,rfl,rfl,Fs.of hp,rfl,_,_,rfl,rfl,_,rfl, ?_⟩;refine sF (λc=> ?_) (λc=> ?_)
 .refine ⟨_,rfl,p,_,_,_,rfl,rfl,Fs.of hp,rfl,_,rfl,_,_,rfl,rfl,m0, ?_⟩;refine⟨_,rfl,p,_,_,_,rfl,rfl,Fs.of hp,rfl,_,rfl,_,_,rfl,rfl,⟨m0,by omega⟩, ?_⟩;refine⟨_,rfl,p,_,_,_,rfl,rfl,hp,rfl, ?_⟩;exact⟨_,rfl,g _ _ _ (ADj _ (by omega)) (ADk _ m0) (Int.ediv_nonneg o (by omega)) z B⟩
 .refine ⟨_,rfl,p,_,_,_,rfl,rfl,Fs.of hp,rfl,_,_,rfl,rfl, .inl (.inr ⟨by decide,by decide⟩),_,_,rfl,rfl,_,_,rfl,rfl,(show (0:Int)<2147483647 by decide), ?_⟩;refine⟨_,rfl,p,_,_,_,rfl,rfl,hp,rfl, ?_⟩;have t:0<=(x*48271+12345) % 2147483647:=ADj _ (by decide);have y1:(x*48271+12345) % 2147483647<2147483647:=ADk _ (by decide);have u:upd H p (.lst ([V.int d,V.int x].set (Int.toNat 1) (V.int ((x*48271+12345) % 2147483647)))) p=some (.lst [.int d, .int ((x*48271+12345) % 2147483647)]):=Au;have D:0<=(x*48271+12345) % 2147483647*((x*48271+12345) % 2147483647 % 1009+3) % 2147483629:=ADj _ (by decide);have G:(x*48271+12345) % 2147483647*((x*48271+12345) % 2147483647 % 1009+3) % 2147483629<2147483629:=ADk _ (by decide);refine⟨_,rfl,p,_,_,_,rfl,rfl,Fs.of u,rfl,_,rfl,p,_,_,_,rfl,rfl,Fs.of u,rfl,_,_,rfl,rfl,(show (0:Int)<1009 by decide),_,_,rfl,rfl,_,_,rfl,rfl, .inl (.inl (Qw t y1)),_,_,rfl,rfl,(show (0:Int)<2147483629 by decide), ?_⟩;refine⟨_,rfl,_,rfl,_,_,rfl,rfl,(show (0:Int)<997 by decide),_,_,rfl,rfl,_,_,rfl,rfl, .inl (.inl (Qw D (Int.lt_trans G (by decide)))),_,_,rfl,rfl,(show (0:Int)<998244353 by decide),_,rfl,_,_,rfl,rfl,m0, ?_⟩;exact g _ _ _ (ADj _ (by omega)) (ADk _ m0) o t y1
theorem DZ {P:gn}{w:fe}{K:AAR}{Z:Str->ke kj}{Y:da}{x q:Str}{st:Stmt}{f:kf}{U:FuncData}{N:km Str}{k n:Nat}{b:AS}(F:Vl K x q st f U)(S:Ev N (N.take n) (BY st))(hn:n=(N.take n).length)(h:∀(v:kj) (A:Wf) (o:km Env) (s:ki) (H:Hp) (E:XK),Room k (A.deeper (envOfC q (BY st) s.heap.objs.size f v))->N.Nodup->ia (V0 TR P w K Z Y N q (BY st) f v A o s H E).nox (Ex st) b):FA P w K Z Y TR (k+1) f U (N.take n) (Cg K n (Av N.length b)):=
 ZW F S hn λv A o s H E r=>h v A o s H E r S.nd
abbrev Z1 (K:AAR)(x:Str)(s:Stmt)(f:kf)(d:FuncData):=Vl K x x s f d
abbrev Z2 (P:gn)(w:fe)(K:AAR)(Z:Str->ke kj)(b:da)(n:Nat)(f:kf)(d:FuncData)(N:km Str)(k:Nat)(F:AF):=FA P w K Z b TR (n+1) f d (N.take k) (Cg K k F)
theorem Rb (F:Z1 K "_law_apart" HE f U)(a:DR P w K Z Y n):Z2 P w K Z Y n f U ["_law_tape_here","_law_some"] 1 DV:=DZ F DJ rfl λ_ _ _ _ _ _ b c=>(AM (Cn 1 c (CT (BP (BF (Ab (Ao AJ AJ)) (BF (Ab (Ao AJ AJ)) (D8 (Ab (Ao AJ AJ)) (Ab (Ao AJ AJ)) (Ab (Ao AJ AJ)))))))) (AR (AU (Ab (Ao (AW (AH 1) (AK a b rfl (Ao (AH 0) AJ))) (AW (AH 1) (AK a b rfl (Ao (AH 0) AJ))))))))
theorem UO (F:Z1 K "_law_part" Ic f U)(b:Z "abs" =none)(c:Z "int" =none):Z2 P w K Z Y n f U ["_law_top","_law_bottom","_law_sign","_law_one","_law_other"] 2 BC:=DZ F DJ rfl λ_ _ _ _ _ _ _ a=>(AM (NZ (i:=3) (j:=4) rfl a rfl rfl (by decide) rfl rfl (Ao (Ah Ij rfl b ABv (BJ (AH 0))) (Ah Ij rfl b ABv (BJ (AH 1)))) rfl) (AM (MK AAl (EC Sj (AH 4) AJ) (AR (NZ (i:=3) (j:=4) rfl a rfl rfl (by decide) rfl rfl (Ao (AH 4) (Af Yq (AH 3) (AH 4))) rfl))) (AM (Cn 2 a (Af C0 AJ (Af BX AJ (A0 K0 rfl c ACP (BJ (CK Go (AH 1) AJ (Bx _))))))) (AR (AU (Ab (Ao (Af FS (Af BX (AH 2) (AH 0)) (AH 3)) (Af FS (Af BX (AH 2) (AH 1)) (AH 3)))))))))
theorem WU (F:Z1 K "_law_sum" Kr f U)(a:DS P w K Z Y n):Z2 P w K Z Y n f U ["_law_one","_law_other"] 2 B6:=DZ F DJ rfl λ_ _ _ _ _ _ b _=>(AR (AU (AK a b rfl (Ao (Af A5 (Af BX (AW (AH 0) AJ) (AW (AH 1) AJ)) (Af BX (AW (AH 1) AJ) (AW (AH 0) AJ))) (Af BX (AW (AH 0) AJ) (AW (AH 1) AJ))))))
theorem Re (F:Z1 K "_law_moved" HG f U)(c:D6 P w K Z Y n)(g:Z "range" =none)(d:Z "tuple" =none):Z2 P w K Z Y n f U ["_law_plan_here","_law_late","_law_by"] 3 B4:=by
 have a:(["_law_one","_law_late","_law_by"] :km Str).Nodup:=by decide +kernel
 have b:(["_law_k","_law_one","_law_by"] :km Str).Nodup:=by decide +kernel
 exact DZ F DJ rfl λ_ _ _ _ _ _ e _=>(AR (AU (A0 Bi rfl d AAf (BJ (CT (gz rfl (DU (AH 0)) (jI (own:=1) (ix:= [1,2]) (N:= ["_law_one","_law_late" ,"_law_by" ]) "_law_one" rfl rfl (λ_ _=>rfl) (λ_=>rfl) rfl rfl rfl rfl rfl (λ_ _ _ _ _ _=>(Z9 (i:=0) a rfl (Or.inr rfl) (by decide))) (λ_ _ _ _ _ _=>BS) (λ_ _ _ _ _ _=>(Af A5 (Ab (BJ (AK c e rfl (Ao (AW (AH 0) AJ) (AH 1))))) (A0 Bi rfl d AAf (BJ (CT (CC rfl (N1 rfl g (BJ AJ)) (B7 (own:=1) (ix:= [0,2]) (N:= ["_law_k","_law_one" ,"_law_by" ]) rfl rfl rfl rfl rfl rfl (λ_ _ _ _ _ _=>(JY 0 b)) (λ_ _ _ _ _ _=>BS) (λ_ _ _ _ _ _=>(AK c e rfl (Ao (AW (AH 1) (Af A5 (AH 0) AJ)) (AW (AH 2) (AH 0)))))))))))))))))))
theorem WT (F:Z1 K "_law_off" Kq f U)(a:DS P w K Z Y n):Z2 P w K Z Y n f U ["_law_one","_law_other"] 2 Bh:=DZ F DJ rfl λ_ _ _ _ _ _ b _=>(AR (AU (AK a b rfl (Ao (Af C0 (Af BX (AW (AH 0) AJ) (AW (AH 1) AJ)) (Af BX (AW (AH 1) AJ) (AW (AH 0) AJ))) (Af BX (AW (AH 0) AJ) (AW (AH 1) AJ))))))
theorem Rf (F:Z1 K "_law_place" HH f U)(b:DR P w K Z Y n)(c:DS P w K Z Y n):Z2 P w K Z Y n f U ["_law_tape_here","_law_kind"] 1 BE:=DZ F DJ rfl λ_ _ _ _ _ _ a d=>(AM (Cn 1 d (AK b a rfl (Ao (AH 0) AJ))) (AM (Aw (EC Go (AH 1) AJ) (AR (AU (Ab (Ao (Af C0 (AK b a rfl (Ao (AH 0) AJ)) AJ) AJ)))) Aj) (AM (Aw (EC (CS a) (AH 1) AJ) (AR (AU (AK c a rfl (Ao (Af C0 (AK b a rfl (Ao (AH 0) AJ)) AJ) AJ)))) Aj) (AR (AU (AK c a rfl (Ao (Af C0 (AK b a rfl (Ao (AH 0) AJ)) AJ) AJ)))))))
theorem UQ (F:Z1 K "_law_span" Ig f U)(b:DR P w K Z Y n)(c:DS P w K Z Y n):Z2 P w K Z Y n f U ["_law_tape_here","_law_way"] 1 DN:=DZ F DJ rfl λ_ _ _ _ _ _ a d=>(AM (Cn 1 d (AK b a rfl (Ao (AH 0) AJ))) (AM (Aw (EC Go (AH 1) AJ) (AR (AU (Ab (Ao (Af A5 AJ (AK b a rfl (Ao (AH 0) AJ))) AJ)))) Aj) (AR (AU (AK c a rfl (Ao (Af A5 AJ (AK b a rfl (Ao (AH 0) AJ))) (Af C0 (AH 1) AJ)))))))
theorem UP (F:Z1 K "_law_plan" Ie f U)(d:DR P w K Z Y n)(c:Ll P w K Z Y n)(e:Np P w K Z Y n)(g:D6 P w K Z Y n)(h:Z "len" =none)(j:Z "tuple" =none):Z2 P w K Z Y n f U ["_law_tape_here","_law_many","_law_m","_law_spot_here","_law_corners","_law_way"] 1 CI:=DZ F DJ rfl λ_ _ _ _ _ _ a b=>(AM (Cn 1 b (Af A5 AJ (AK d a rfl (Ao (AH 0) AJ)))) (AM (Aw (EC (CS a) (AK d a rfl (Ao (AH 0) AJ)) AJ) (AR (Cn 1 b (AW (CT (BP (BF AJ (D8 AJ AJ AJ)))) (AK d a rfl (Ao (AH 0) AJ))))) Aj) (AM (Cn 2 b (Ab (Ao (AK d a rfl (Ao (AH 0) AJ)) AJ))) (AM (Cn 3 b (CT (BP (D8 (AK c a rfl (BJ (AH 0))) (AK c a rfl (BJ (AH 0))) (AK c a rfl (BJ (AH 0))))))) (AM (FE (i:=4) b rfl (Or.inl rfl) (BP (BJ (Ab (BF (AH 2) (D8 (AW (AH 3) AJ) (AW (AH 3) AJ) (AW (AH 3) AJ))))))) (AM (MK AAl (EC Go (Ah Ce rfl h AAw (BJ (AH 4))) (AH 1)) (AM (Cn 2 b (AK g a rfl (Ao (AH 2) (AK e a rfl (BJ (AH 0)))))) (AM (Cn 5 b (AK d a rfl (Ao (AH 0) AJ))) (AM (Aw (EC Sj (AH 5) AJ) (AR (Cn 3 b (CT (BP (D8 (AK c a rfl (BJ (AH 0))) (AK c a rfl (BJ (AH 0))) (AK c a rfl (BJ (AH 0)))))))) (AR (Aw (EC Sj (AH 5) AJ) (AR (Cn 3 b (Af A5 (Af A5 (F5 (AH 3) aB (aD (Af C0 (AH 5) AJ))) (CT (BP (BJ (AK c a rfl (BJ (AH 0))))))) (F5 (AH 3) (aD (AH 5)) aB)))) Aj))) (AR (D3 (i:=4) ACI ACJ DB (BJ (Ab (BF (AH 2) (D8 (AW (AH 3) AJ) (AW (AH 3) AJ) (AW (AH 3) AJ))))))))))) (AR (AU (A0 Bi rfl j AAf (BJ (AH 4)))))))))))
theorem OP (F:Z1 K "_law_product" Fn f U)(a:DS P w K Z Y n):Z2 P w K Z Y n f U ["_law_one","_law_other"] 2 BU:=DZ F DJ rfl λ_ _ _ _ _ _ b _=>(AR (AU (AK a b rfl (Ao (Af BX (AW (AH 0) AJ) (AW (AH 1) AJ)) (Af BX (AW (AH 0) AJ) (AW (AH 1) AJ))))))
theorem QJ (F:Z1 K "_law_beside" GC f U)(c:DR P w K Z Y n)(e:Tr P w K Z Y n)(l:Em P w K Z Y n)(g:Ll P w K Z Y n)(h:IR P w K Z Y n)(o:DT P w K Z Y n)(j:Np P w K Z Y n)(p:D6 P w K Z Y n)(r:Z "int" =none)(k:Z "len" =none)(s:Z "reversed" =none)(t:Z "tuple" =none)(u:Z "zip" =none):Z2 P w K Z Y n f U ["_law_tape_here","_law_plan_here","_law_apart_here","_law_way","_law_by","_law_side","_law_other","_law_k","_law_spot_here"] 3 Dp:=by
 have d:(["_law_one","_law_other"] :km Str).Nodup:=by decide +kernel
 exact DZ F DJ rfl λ_ _ _ _ _ _ a b=>(AM (Cn 3 b (AK c a rfl (Ao (AH 0) AJ))) (AM (FE (i:=4) b rfl (Or.inl rfl) (BP (D8 (Ab (Ao AJ AJ)) (Ab (Ao AJ AJ)) (Ab (Ao AJ AJ))))) (AM (Cn 5 b (AK c a rfl (Ao (AH 0) AJ))) (AM (Q1 (i:=4) (AH 5) (AW (AH 2) (A0 K0 rfl r ACP (BJ (CK (CS a) (AH 5) AJ (Bx _)))))) (AM (Aw (EC (CS a) (AH 3) AJ) (AR (Q1 (i:=4) (AH 5) (Qp (AK o a rfl (Ao (AW (AH 4) (AH 5)) (AW (CT (BP (D8 (Ab (Ao AJ AJ)) (Ab (Ao (B8 AJ) AJ)) (Ab (Ao (B8 AJ) AJ))))) (AK c a rfl (Ao (AH 0) AJ)))))))) Aj) (AM (Aw (EC Go (AH 3) AJ) (AR (AU (AK e a rfl (D8 (AH 1) (Ab (Ao AJ AJ)) (AH 4))))) Aj) (AM (Aw (EC (CS a) (AH 3) AJ) (AR (AU (AK e a rfl (D8 (AH 1) (AW (CT (BP (Ao (AK j a rfl (BJ (AH 0))) (Ab (Ao AJ AJ))))) (AK c a rfl (Ao (AH 0) AJ))) (AH 4))))) Aj) (AM (Aw (EC (CS a) (AH 3) AJ) (AR (AU (A0 Bi rfl t AAf (BJ (CT (CC rfl (tz rfl u rfl s (AH 1) (AH 1)) (B7 (own:=2) (ix:= []) (N:= ["_law_one","_law_other" ]) rfl rfl rfl rfl rfl rfl (λ_ _ _ _ _ _=>(Uy (n:=2) rfl (E4 (JY 0 d) (E4 (JY 1 d) Ox)))) (λ_ _ _ _ _ _=>BS) (λ_ _ _ _ _ _=>(Af A5 (Ab (BJ (AW (AH 0) AJ))) (F5 (AH 1) (aD AJ) aB)))))))))) Aj) (AM (Aw (EC (CS a) (AH 3) AJ) (AM (Cn 6 b (AK h a rfl (BJ (AH 0)))) (AR (AU (AK e a rfl (D8 (AH 6) (AK l a rfl (Ao (AW (AW (AH 1) (B8 AJ)) AJ) (AW (AW (AH 6) AJ) AJ))) (CT (BP (D8 (Ab (Ao AJ AJ)) (Ab (Ao AJ AJ)) (Ab (Ao AJ AJ)))))))))) Aj) (AM (Aw (EC (CS a) (AH 3) AJ) (AM (Cn 7 b (AK c a rfl (Ao (AH 0) (Ah Ce rfl k AAw (BJ (AH 1)))))) (AM (Cn 8 b (Ab (D8 (AK g a rfl (BJ (AH 0))) (AK g a rfl (BJ (AH 0))) (AK g a rfl (BJ (AH 0)))))) (AR (AU (Af A5 (Af A5 (F5 (AH 1) aB (aD (AH 7))) (Ab (BJ (Af A5 (F5 (AW (AH 1) (AH 7)) aB (aD AJ)) (AH 8))))) (F5 (AH 1) (aD (Af A5 (AH 7) AJ)) aB)))))) Aj) (AM (Aw (EC (CS a) (AH 3) AJ) (AM (Cn 8 b (F5 (AW (AH 1) (AK c a rfl (Ao (AH 0) (Ah Ce rfl k AAw (BJ (AH 1)))))) (aD AJ) aB)) (AR (AU (Ab (Ao (Af A5 (Ab (BJ (AW (AW (AH 1) AJ) AJ))) (AH 8)) (Af A5 (Ab (BJ (AK p a rfl (Ao (AW (AW (AH 1) (B8 AJ)) AJ) (AK j a rfl (BJ (AH 0))))))) (AH 8))))))) Aj) (AR (AU (AK h a rfl (BJ (AH 0))))))))))))))))
theorem MI:Ev ["_law_script","_law_k","_law_cell","_law_digits"] ["_law_script","_law_k"] (BY F4):=DJ
theorem US (F:Vl K "_law_tape" "_law_tape" F4 f U)(o:Z "abs" =none)(u:Z "int" =none)(v:Z "len" =none):FA P w K Z Y TR (n+1) f U ["_law_script","_law_k"] (Cg K 2 Pe):=by
 have j:=MI.nd;refine F.ok MI (λvs H Q E h=> ?_) (λx A outer s H vs Q E B h=> ?_)
 .obtain ⟨T,M,xs,y,_,_,r,hl,_⟩:=h;rw[r.length,hl] <;> rfl
 obtain⟨T,M,xs,y,va,_,r,hl,e,hQ⟩:=h;unfold Pe at e;split at e <;> first | exact e.elim|skip
 rename_i d k;obtain⟨⟨k0,C⟩,e⟩:=e;cases r with
 | cons r l=>
 cases l with
 | cons r2 l=>
 cases l;cases r2;obtain⟨a,rfl,t⟩:=gx r;refine⟨_,(Cc (GB (i:=2) j rfl (Or.inl rfl) BO)
  (Cc (Zv (Oq mK (pv 1) (L4 Ld rfl v AAw (BM (pv 0) Dj)) (Bx _)) (F1 (GB (i:=2) j rfl (Or.inl rfl) (Ny Fz (pv 0) (pv 1) (λ_ _=>rfl)))) Op)
  (Cc (GB (i:=3) j rfl (Or.inl rfl) (Cr JH (L4 Pr rfl o ABv (BM (pv 2) Dj)) (JI SC rfl u PyProof.Rows.boot_int (BM (Zu mI (L4 Pr rfl o ABv (BM (pv 2) Dj)) (Cr oo BO BO) (Bx _)) Dj))))
  (F1 (QY (gP (BM (pv 3) (BM (Cr HD (Cr JH (Cr HD (Cr KW (Cr KW (pv 2) (Cr JH BO (pv 1))) BO) BO) BO) BO) Dj)))))))), ?_⟩
 have hl:(d.map V.int).length=d.length:=AAb _;have g:∀(c:Int) (p:kf),H p=none->Q (.ref p) (upd H p (.lst [.int ((if c<0 then -c else c)*(if decide ((10:Int)^18<=(if c<0 then -c else c)) then 1 else 0)), .int ((c+7919*k+1) % 2147483647*48271 % 2147483647)])):=λc p hp=>
  hQ _ .tape (λb=>T b\/b=p) _ (iN va.tp hp (AEy (by split <;> omega) (b01 _)) (ADj _ (by decide)) (ADk _ (by decide))) (.tape (.inr rfl)) e
 refine⟨_,rfl,_,rfl,a,_,rfl, .inl t,_,_,rfl,rfl,_,rfl, ?_⟩;refine sF (λc=> ?_) (λc=> ?_)
 .have z:k<(((d.map V.int).length:Nat):Int):=ABX c;rw[hl] at z;have hk:k.toNat<d.length:=by omega
  have hv:JA (d.map V.int) k=some (.int d[k.toNat]):=by
   have q:JA (d.map V.int) ((k.toNat:Nat):Int)=some (.int d[k.toNat]):=Ci (by rw[AA0,AAs hk] <;> rfl)
   rwa [show ((k.toNat:Nat):Int)=k by omega] at q
  refine⟨_,rfl,_,rfl,a,_,_,_,rfl,rfl,t,hv, ?_⟩;refine⟨_,rfl,_,rfl,_,rfl,_,rfl,_,_,rfl,rfl,⟨by decide,by decide,by decide⟩,_,_,rfl,rfl, .inr ⟨_,rfl,_,_,rfl,rfl, .inl (.inr (yN _)), ?_⟩⟩;exact⟨_,rfl,_,rfl,_,rfl,_,_,rfl,rfl, .inl (.inl ⟨by decide,by decide⟩),_,_,rfl,rfl,_,_,rfl,rfl,_,_,rfl,rfl,(show (0:Int)<2147483647 by decide),_,_,rfl,rfl, .inl (.inr ⟨by decide,by decide⟩),_,_,rfl,rfl,(show (0:Int)<2147483647 by decide),(show 2<=sizeLine by decide),λp hp=>g _ p hp⟩
 .refine ⟨_,rfl,_,rfl,_,rfl,_,rfl,_,_,rfl,rfl,⟨by decide,by decide,by decide⟩,_,_,rfl,rfl, .inr ⟨_,rfl,_,_,rfl,rfl, .inl (.inr (yN _)), ?_⟩⟩;exact⟨_,rfl,_,rfl,_,rfl,_,_,rfl,rfl, .inl (.inl ⟨by decide,by decide⟩),_,_,rfl,rfl,_,_,rfl,rfl,_,_,rfl,rfl,(show (0:Int)<2147483647 by decide),_,_,rfl,rfl, .inl (.inr ⟨by decide,by decide⟩),_,_,rfl,rfl,(show (0:Int)<2147483647 by decide),(show 2<=sizeLine by decide),λp hp=>g 0 p hp⟩
theorem UK (F:Z1 K "_law_case" IZ f U)(c:Lj P w K Z Y n)(d:RV P w K Z Y n)(e:DR P w K Z Y n)(g:IR P w K Z Y n)(h:V5 P w K Z Y n):Z2 P w K Z Y n f U ["_law_script","_law_k","_law_tape_here","_law_apart_here","_law_one","_law_other"] 2 Ez:=DZ F DJ rfl λ_ _ _ _ _ _ a b=>(AM (Cn 2 b (AK h a rfl (Ao (AH 0) (AH 1)))) (AM (Cn 3 b (AK c a rfl (BJ (AH 2)))) (AM (Cn 4 b (AK g a rfl (BJ (AH 2)))) (AM (Cn 5 b (AK d a rfl (D8 (AH 2) (AH 4) (AH 3)))) (AM (Aw (EC (CS a) (AK e a rfl (Ao (AH 2) AJ)) AJ) (AR (NZ (i:=4) (j:=5) rfl b rfl rfl (by decide) rfl rfl (Ao (AH 5) (AH 4)) rfl)) Aj) (AR (AU (Ab (BF (AH 2) (D8 (AH 4) (AH 5) (AH 3)))))))))))
theorem UM (F:Z1 K "_law_less" Ia f U):Z2 P w K Z Y n f U ["_law_one","_law_other"] 2 Am:=DZ F DJ rfl λ_ _ _ _ _ _ _ _=>(AR (AU (CK Go (Af BX (AW (AH 0) AJ) (AW (AH 1) AJ)) (Af BX (AW (AH 1) AJ) (AW (AH 0) AJ)) (Bx _))))
theorem Rg (F:Z1 K "_law_ratio" HI f U)(a:DS P w K Z Y n):Z2 P w K Z Y n f U ["_law_one","_law_other"] 2 CB:=DZ F DJ rfl λ_ _ _ _ _ _ b _=>(AR (AU (AK a b rfl (Ao (Af BX (AW (AH 0) AJ) (AW (AH 1) AJ)) (Af BX (AW (AH 0) AJ) (AW (AH 1) AJ))))))
theorem UR (F:Z1 K "_law_spot" Ih f U)(c:EH P w K Z Y n)(d:Em P w K Z Y n)(h:DT P w K Z Y n)(j:FP P w K Z Y n)(k:D6 P w K Z Y n)(l:Z "range" =none)(o:Z "tuple" =none)(p:Z "zip" =none):Z2 P w K Z Y n f U ["_law_plan_here","_law_m","_law_one","_law_other","_law_share_here","_law_gone"] 2 DO:=by
 have e:(["_law_k","_law_share_here","_law_other","_law_one"] :km Str).Nodup:=by decide +kernel
 have g:(["_law_k","_law_one","_law_gone"] :km Str).Nodup:=by decide +kernel
 exact DZ F DJ rfl λ_ _ _ _ _ _ a b=>(AM (Aw (EB (B3 (Ap (AK c a rfl (Ao (AH 1) (AW (AW (AH 0) AJ) AJ)))) (CN (Ap (AK c a rfl (Ao (AW (AW (AH 0) (B8 AJ)) AJ) (AH 1))))))) (AR (AU CL)) Aj) (AM (CU AAl rfl (hJ rfl p (Ao (AH 0) (F5 (AH 0) (aD AJ) aB))) (CM (n:=2) rfl (Ad (EY (i:=2) b rfl (Or.inr rfl)) (Ad (EY (i:=3) b rfl (Or.inr rfl)) Bj))) (AR (Aw (BA (Ap (AK c a rfl (Ao (AW (AH 3) AJ) (AH 1))))) (AM (Iq (i:=4) b rfl (Or.inr rfl) (AK j a rfl (Ao (AK d a rfl (Ao (AH 1) (AW (AH 2) AJ))) (AK d a rfl (Ao (AW (AH 3) AJ) (AW (AH 2) AJ)))))) (AM (Iq (i:=5) b rfl (Or.inr rfl) (CT (CC rfl (DU (Ab (D8 AJ AJ AJ))) (B7 (own:=1) (ix:= [4,3,2]) (N:= ["_law_k","_law_share_here" ,"_law_other" ,"_law_one" ]) rfl rfl rfl rfl rfl rfl (λ_ _ _ _ _ _=>(JY 0 e)) (λ_ _ _ _ _ _=>BS) (λ_ _ _ _ _ _=>(AK h a rfl (Ao (AH 1) (AK d a rfl (Ao (AW (AH 2) (AH 0)) (AW (AH 3) (AH 0))))))))))) (AR (AU (A0 Bi rfl o AAf (BJ (CT (CC rfl (N1 rfl l (BJ AJ)) (B7 (own:=1) (ix:= [2,5]) (N:= ["_law_k","_law_one" ,"_law_gone" ]) rfl rfl rfl rfl rfl rfl (λ_ _ _ _ _ _=>(JY 0 g)) (λ_ _ _ _ _ _=>BS) (λ_ _ _ _ _ _=>(AK k a rfl (Ao (AW (AH 1) (Af A5 (AH 0) AJ)) (AW (AH 2) (AH 0)))))))))))))) Aj))) (AR (AU CL))))
theorem WS (F:Z1 K "_law_gap" Ko f U)(b:EH P w K Z Y n)(g:Em P w K Z Y n)(h:FP P w K Z Y n)(d:Nq P w K Z Y n)(e:Z "abs" =none)(k:Z "int" =none)(l:Z "range" =none):Z2 P w K Z Y n f U ["_law_one","_law_other","_law_apart_here","_law_m","_law_end","_law_found","_law_k","_law_here","_law_there","_law_off_here"] 5 Fa:=DZ F DJ rfl λ_ _ _ _ _ _ a c=>(AM (Aw (EB (B3 (Ap (AK b a rfl (Ao (AH 3) (AW (AW (AH 0) AJ) AJ)))) (CN (Ap (AK b a rfl (Ao (AH 3) (AW (AW (AH 1) AJ) AJ))))))) (AR (AU CL)) Aj) (AM (Aw (EB (HV (BA (Na (AH 4))) (F6 (EB (B3 (BA (Ap (AK b a rfl (Ao (AH 3) (AW (AW (AH 0) (B8 AJ)) AJ))))) (CN (BA (Ap (AK b a rfl (Ao (AH 3) (AW (AW (AH 1) (B8 AJ)) AJ))))))))))) (AR (AU CL)) Aj) (AM (NZ (i:=7) (j:=8) rfl c rfl rfl (by decide) rfl rfl (Ao (AK d a rfl (Ao (AH 0) (AH 3))) (AK d a rfl (Ao (AH 1) (AH 3)))) rfl) (AM (Aw (EB (B3 (EC NX (AH 7) CL) (CN (EC NX (AH 8) CL)))) (AR (AU CL)) Aj) (AM (Cn 5 c (Ab (Ao AJ AJ))) (AM (CU AAl rfl (N1 rfl l (BJ AJ)) (EK 6 c) (AM (Cn 9 c (AK h a rfl (Ao (AK g a rfl (Ao (AW (AH 7) (AH 6)) (AW (AH 8) (AH 6)))) (AW (AH 2) (A0 K0 rfl k ACP (BJ (CK (CS a) (AH 6) AJ (Bx _)))))))) (AR (Aw (Ap (AK b a rfl (Ao (AH 5) (Ab (Ao (Ah Ij rfl e ABv (BJ (AW (AH 9) AJ))) (AW (AH 9) AJ)))))) (AR (Cn 5 c (Ab (Ao (Ah Ij rfl e ABv (BJ (AW (AH 9) AJ))) (AW (AH 9) AJ))))) Aj)))) (AR (AU (AH 5)))))))))
theorem OO (F:Z1 K "_law_is_near" Fm f U)(a:Xu P w K Z Y n):Z2 P w K Z Y n f U ["_law_one","_law_other","_law_apart_here","_law_m","_law_gap_here"] 4 CG:=DZ F DJ rfl λ_ _ _ _ _ _ b c=>(AM (Cn 4 c (AK a b rfl (BF (AH 0) (BF (AH 1) (D8 (AH 2) (AH 3) CQ))))) (AR (AU (Im (CK Oy (AH 4) CL (Bx _)) (Io (CK Go (AW (AH 4) AJ) (AW (AH 4) AJ) (Bx _)))))))
theorem Ik:Ev ["_law_thing"] ["_law_thing"] (BY Dz):=DJ
theorem QM (F:Vl K "_law_listed" "_law_listed" Dz f U)(b:Jf P w K Z Y n m)(c:Z "isinstance" =none)(d:Z "tuple" =none):FA P w K Z Y TR (n+1) f U ["_law_thing"] (Cg K 1 (Az (m+1))):=by
 have g:=Ik.nd;have a:(["_law_piece"] :km Str).Nodup:=by decide +kernel
 exact ZW F Ik rfl λ_ _ _ _ _ _ e=>(AM (Aw (Ap (Ah Fp rfl c ABB (Ao (AH 0) (Ip (n:="tuple") rfl d AAf rfl)))) (AR (AU (CT (CC rfl (DU (AH 0)) (B7 (own:=1) (ix:= []) (N:= ["_law_piece"]) rfl rfl rfl rfl rfl rfl (λ_ _ _ _ _ _=>(JY 0 a)) (λ_ _ _ _ _ _=>BS) (λ_ _ _ _ _ _=>(AK b e rfl (BJ (AH 0))))))))) Aj) (AR (AU (AH 0))))
theorem QP (F:Z1 K "_law_number" GG f U)(b:Z "bool" =none)(c:Z "int" =none)(a:Z "isinstance" =none):Z2 P w K Z Y n f U ["_law_thing"] 1 BW:=DZ F DJ rfl λ_ _ _ _ _ _ _ _=>(AR (AU (Im (Ah Fp rfl a ABB (Ao (AH 0) (Ip (n:="int") rfl c ACP rfl))) (Io (gy (Ah Fp rfl a ABB (Ao (AH 0) (Ip (n:="bool") rfl b boot_bool rfl))))))))
theorem QN (F:Z1 K "_law_lowest" GE f U)(b:Jh P w K Z Y n)(d:DS P w K Z Y n)(e:Z "isinstance" =none)(g:Z "len" =none)(h:Z "list" =none)(c:Z "tuple" =none):Z2 P w K Z Y n f U ["_law_thing"] 1 Bp:=DZ F DJ rfl λ_ _ _ _ _ _ a _=>(AM (Aw (EB (B3 (BA (Ap (Gm "list" "tuple" rfl e ABB (AH 0) (BM (Dc (v:= .ty "list") rfl h ACa rfl) (BM (Dc (v:= .ty "tuple") rfl c AAf rfl) Dj)) QC))) (CN (EC (E5 a) (Ah Ce rfl g AAw (BJ (AH 0))) AJ)))) (AR (AU CQ)) Aj) (AM (Aw (EB (B3 (BA (Ap (AK b a rfl (BJ (AW (AH 0) AJ))))) (CN (BA (Ap (AK b a rfl (BJ (AW (AH 0) AJ)))))))) (AR (AU CQ)) Aj) (AR (AU (Im (CK Sj (AW (AH 0) AJ) AJ (Bx _)) (Io (CK (CS a) (A0 Bi rfl c AAf (BJ (AH 0))) (AK d a rfl (Ao (AW (AH 0) AJ) (AW (AH 0) AJ))) (Bx _))))))))
theorem UN (F:Z1 K "_law_offs" Ib f U)(g:Em P w K Z Y n)(h:FP P w K Z Y n)(e:Nq P w K Z Y n)(j:Z "int" =none)(k:Z "range" =none):Z2 P w K Z Y n f U ["_law_one","_law_other","_law_apart_here","_law_m","_law_offs_here","_law_here","_law_there"] 4 Co:=by
 have b:(["_law_k","_law_apart_here","_law_here","_law_there"] :km Str).Nodup:=by decide +kernel
 have c:(["_law_off_here"] :km Str).Nodup:=by decide +kernel
 exact DZ F DJ rfl λ_ _ _ _ _ _ a d=>(AM (Et (Ab (Ao (AK e a rfl (Ao (AH 0) (AH 3))) (AK e a rfl (Ao (AH 1) (AH 3))))) (CM (n:=2) rfl (Ad (EY (i:=5) d rfl (Or.inr rfl)) (Ad (EY (i:=6) d rfl (Or.inr rfl)) Bj)))) (AM (Gq (i:=4) rfl d rfl (Or.inl rfl) (N1 rfl k (BJ AJ)) (B7 (own:=1) (ix:= [2,5,6]) (N:= ["_law_k","_law_apart_here" ,"_law_here" ,"_law_there" ]) rfl rfl rfl rfl rfl rfl (λ_ _ _ _ _ _=>(JY 0 b)) (λ_ _ _ _ _ _=>BS) (λ_ _ _ _ _ _=>(AK h a rfl (Ao (AK g a rfl (Ao (AW (AH 2) (AH 0)) (AW (AH 3) (AH 0)))) (AW (AH 1) (A0 K0 rfl j ACP (BJ (CK (CS a) (AH 0) AJ (Bx _)))))))))) (AR (AU (Af A5 (AH 4) (CT (CC rfl (DU (AH 4)) (B7 (own:=1) (ix:= []) (N:= ["_law_off_here"]) rfl rfl rfl rfl rfl rfl (λ_ _ _ _ _ _=>(JY 0 c)) (λ_ _ _ _ _ _=>BS) (λ_ _ _ _ _ _=>(Ab (Ao (B8 (AW (AH 0) AJ)) (AW (AH 0) AJ))))))))))))
theorem QQ (F:Z1 K "_law_rising" GH f U)(e:EH P w K Z Y n)(d:Z "len" =none):Z2 P w K Z Y n f U ["_law_moments","_law_found","_law_m","_law_at"] 1 DA:=by
 have a:(["_law_one","_law_m"] :km Str).Nodup:=by decide +kernel
 exact DZ F DJ rfl λ_ _ _ _ _ _ b c=>(AM (FE (i:=1) c rfl (Or.inl rfl) (BP Dk)) (AM (CU AAl rfl (DU (AH 0)) (EY (i:=2) c rfl (Or.inr rfl)) (AM (Cn 3 c (Qp (Ah Ce rfl d AAw (BJ (CT (CC rfl (DU (AH 1)) (B7 (own:=1) (ix:= [2]) (N:= ["_law_one","_law_m" ]) rfl rfl rfl rfl rfl rfl (λ_ _ _ _ _ _=>(JY 0 a)) (λ_ _ _ _ _ _=>(Ot (Ap (AK e b rfl (Ao (AH 0) (AH 1)))))) (λ_ _ _ _ _ _=>(AH 0))))))))) (AR (Aw (iF (EB (B3 (EC (CS b) (AH 3) (Ah Ce rfl d AAw (BJ (AH 1)))) (CN (EC (E5 b) (AW (AH 1) (AH 3)) (AH 2)))))) (AR (D3 (i:=1) AFN AFO Si (Ao (AH 3) (AH 2)))) Aj)))) (AR (AU (AH 1)))))
theorem Ri (F:Z1 K "_law_share" HK f U)(b:Em P w K Z Y n)(c:DT P w K Z Y n)(d:FP P w K Z Y n)(e:D6 P w K Z Y n):Z2 P w K Z Y n f U ["_law_low","_law_high","_law_begin","_law_end","_law_share_here"] 4 EN:=DZ F DJ rfl λ_ _ _ _ _ _ a g=>(AM (Aw (EC Qx (Af BX (AW (AH 0) AJ) (AW (AH 1) AJ)) AJ) (AR (AU CL)) Aj) (AM (Cn 4 g (AK d a rfl (Ao (AH 0) (AK b a rfl (Ao (AH 0) (AH 1)))))) (AR (AU (AK e a rfl (Ao (AH 2) (AK c a rfl (Ao (AH 4) (AK b a rfl (Ao (AH 3) (AH 2)))))))))))
theorem Rk (F:Z1 K "_law_turns" HM f U)(b:EH P w K Z Y n)(e:Ji P w K Z Y n):Z2 P w K Z Y n f U ["_law_one","_law_other","_law_first","_law_last","_law_inner"] 2 CW:=by
 have c:(["_law_corner","_law_first","_law_last"] :km Str).Nodup:=by decide +kernel
 exact DZ F DJ rfl λ_ _ _ _ _ _ a d=>(AM (Iq (i:=2) d rfl (Or.inr rfl) (N0 (Ap (AK b a rfl (Ao (AW (AW (AH 1) AJ) AJ) (AW (AW (AH 0) AJ) AJ)))) (AW (AW (AH 0) AJ) AJ) (AW (AW (AH 1) AJ) AJ))) (AM (Iq (i:=3) d rfl (Or.inr rfl) (N0 (Ap (AK b a rfl (Ao (AW (AW (AH 0) (B8 AJ)) AJ) (AW (AW (AH 1) (B8 AJ)) AJ)))) (AW (AW (AH 0) (B8 AJ)) AJ) (AW (AW (AH 1) (B8 AJ)) AJ))) (AM (Aw (BA (Ap (AK b a rfl (Ao (AH 2) (AH 3))))) (AR (AU (CT (BP Dk)))) Aj) (AM (Gq (i:=4) rfl d rfl (Or.inl rfl) (DU (Af A5 (AH 0) (AH 1))) (B7 (own:=1) (ix:= [2,3]) (N:= ["_law_corner","_law_first" ,"_law_last" ]) rfl rfl rfl rfl rfl rfl (λ_ _ _ _ _ _=>(JY 0 c)) (λ_ _ _ _ _ _=>(Ot (EB (HV (Ap (AK b a rfl (Ao (AH 1) (AW (AH 0) AJ)))) (F6 (Ap (AK b a rfl (Ao (AW (AH 0) AJ) (AH 2))))))))) (λ_ _ _ _ _ _=>(AW (AH 0) AJ)))) (AR (AU (AK e a rfl (BJ (Af A5 (CT (BP (Ao (AH 2) (AH 3)))) (AH 4))))))))))
theorem Rc (F:Z1 K "_law_marks" HF f U)(c:Em P w K Z Y n)(d:Nn P w K Z Y n)(g:Ji P w K Z Y n)(h:Tu P w K Z Y n)(k:FQ P w K Z Y n)(l:Z "list" =none)(e:Z "zip" =none):Z2 P w K Z Y n f U ["_law_one","_law_other","_law_apart_here","_law_turns_here","_law_found","_law_begin","_law_end","_law_lows","_law_highs","_law_low","_law_high","_law_m"] 3 C5:=DZ F DJ rfl λ_ _ _ _ _ _ b a=>(AM (Cn 3 a (AK k b rfl (Ao (AH 0) (AH 1)))) (AM (FE (i:=4) a rfl (Or.inl rfl) (kq rfl l ACa (BJ (AH 3)))) (AM (CU AAl rfl (hJ rfl e (Ao (AH 3) (F5 (AH 3) (aD AJ) aB))) (CM (n:=2) rfl (Ad (EK 5 a) (Ad (EK 6 a) Bj))) (AM (NZ (i:=7) (j:=8) rfl a rfl rfl (by decide) rfl rfl (Ao (AK d b rfl (BF (AH 0) (D8 (AH 1) (AH 2) (AH 5)))) (AK d b rfl (BF (AH 0) (D8 (AH 1) (AH 2) (AH 6))))) rfl) (AR (CU AAl rfl (hJ rfl e (Ao (AH 7) (AH 8))) (CM (n:=2) rfl (Ad (EK 9 a) (Ad (EK 10 a) Bj))) (AM (Cn 11 a (AK h b rfl (BF (AK c b rfl (Ao (AH 9) (Ab (Ao AJ AJ)))) (D8 (AK c b rfl (Ao (AH 10) (Ab (Ao AJ AJ)))) (AH 5) (AH 6))))) (AR (Aw (EC Oy (AH 11) CL) (AR (D3 (i:=4) ACI ACJ DB (BJ (AH 11)))) Aj))))))) (AR (AU (AK g b rfl (BJ (AH 4))))))))
theorem QO (F:Z1 K "_law_middle" GF f U)(b:DT P w K Z Y n)(c:D6 P w K Z Y n):Z2 P w K Z Y n f U ["_law_one","_law_other"] 2 Dr:=DZ F DJ rfl λ_ _ _ _ _ _ a _=>(AR (AU (AK b a rfl (Ao (AK c a rfl (Ao (AH 0) (AH 1))) (Ab (Ao AJ AJ))))))
theorem NG (F:Z1 K "_law_near_set" FB f U)(c:IQ P w K Z Y n)(d:Tq P w K Z Y n)(e:RX P w K Z Y n)(g:Z "int" =none)(h:Z "len" =none)(j:Z "range" =none)(k:Z "tuple" =none):Z2 P w K Z Y n f U ["_law_one","_law_other","_law_apart_here","_law_marks_here","_law_found","_law_going","_law_k","_law_held","_law_near"] 3 C6:=DZ F DJ rfl λ_ _ _ _ _ _ b a=>(AM (Cn 3 a (AK d b rfl (D8 (AH 0) (AH 1) (AH 2)))) (AM (FE (i:=4) a rfl (Or.inl rfl) (BP Dk)) (AM (Cn 5 a CQ) (AM (CU AAl rfl (N1 rfl j (BJ (Af C0 (Ah Ce rfl h AAw (BJ (AH 3))) AJ))) (EK 6 a) (AM (Cn 7 a (AK c b rfl (BF (AH 0) (D8 (AH 1) (AH 2) (AW (AH 3) (AH 6)))))) (AM (Cn 8 a (AK c b rfl (BF (AH 0) (D8 (AH 1) (AH 2) (AK e b rfl (Ao (AW (AH 3) (AH 6)) (AW (AH 3) (Af A5 (AH 6) AJ)))))))) (AM (Aw (EB (HV (Na (AH 8)) (HV (Na (AH 5)) (F6 (Na (AH 7)))))) (AR (Q1 (i:=4) (B8 AJ) (Qp (Af A5 (F5 (AW (AH 4) (B8 AJ)) aB (aD AJ)) (Ab (BJ (AW (AH 3) (Af A5 (AH 6) AJ)))))))) (AR (Aw (Na (AH 8)) (AR (D3 (i:=4) ACI ACJ DB (BJ (Ab (D8 (AW (AH 3) (AH 6)) (A0 K0 rfl g ACP (BJ (AH 7))) (AW (AH 3) (Af A5 (AH 6) AJ))))))) Aj))) (AR (Cn 5 a (AH 8))))))) (AR (AU (A0 Bi rfl k AAf (BJ (AH 4)))))))))
theorem QK (F:Z1 K "_law_is_row" GD f U)(d:EH P w K Z Y n)(b:Jg P w K Z Y n)(c:Jh P w K Z Y n)(e:Z "abs" =none)(g:Z "isinstance" =none)(h:Z "len" =none)(i:Z "list" =none)(j:Z "tuple" =none):Z2 P w K Z Y n f U ["_law_row"] 1 Dq:=DZ F DJ rfl λ_ _ _ _ _ _ a _=>(AM (Aw (EB (B3 (BA (Ap (Gm "list" "tuple" rfl g ABB (AH 0) (BM (Dc (v:= .ty "list") rfl i ACa rfl) (BM (Dc (v:= .ty "tuple") rfl j AAf rfl) Dj)) QC))) (B3 (EC (E5 a) (Ah Ce rfl h AAw (BJ (AH 0))) AJ) (B3 (BA (Ap (AK b a rfl (BJ (AW (AH 0) AJ))))) (CN (BA (Ap (AK b a rfl (BJ (AW (AH 0) AJ)))))))))) (AR (AU CQ)) Aj) (AM (Aw (EB (B3 (BA (Ap (AK c a rfl (BJ (AW (AH 0) AJ))))) (B3 (BA (Ap (AK c a rfl (BJ (AW (AH 0) AJ))))) (B3 (BA (t8 t7 Go AJ (AW (AH 0) AJ) AJ)) (CN (EC (E5 a) (Ah Ij rfl e ABv (BJ (AW (AH 0) AJ))) AJ)))))) (AR (AU CQ)) Aj) (AR (AU (AK d a rfl (Ao (AW (AH 0) AJ) (AW (AH 0) AJ)))))))
theorem L1 (F:Z1 K "_law_row_holds" Ep f U)(d:EH P w K Z Y n)(g:Nn P w K Z Y n)(h:FQ P w K Z Y n)(e:Z "tuple" =none):Z2 P w K Z Y n f U ["_law_one","_law_other","_law_apart_here","_law_row","_law_turns_here","_law_m","_law_begin","_law_end","_law_off_here"] 4 Cj:=by
 have c:(["_law_m","_law_begin","_law_end"] :km Str).Nodup:=by decide +kernel
 exact DZ F DJ rfl λ_ _ _ _ _ _ b a=>(AM (Et (Ab (Ao (A0 Bi rfl e AAf (BJ (AW (AH 3) AJ))) (A0 Bi rfl e AAf (BJ (AW (AH 3) AJ))))) (CM (n:=2) rfl (Ad (EY (i:=6) a rfl (Or.inr rfl)) (Ad (EY (i:=7) a rfl (Or.inr rfl)) Bj)))) (AM (Gq (i:=4) rfl a rfl (Or.inl rfl) (DU (AK h b rfl (Ao (AH 0) (AH 1)))) (B7 (own:=1) (ix:= [6,7]) (N:= ["_law_m","_law_begin" ,"_law_end" ]) rfl rfl rfl rfl rfl rfl (λ_ _ _ _ _ _=>(JY 0 c)) (λ_ _ _ _ _ _=>(Ot (EB (HV (Ap (AK d b rfl (Ao (AH 1) (AH 0)))) (F6 (Ap (AK d b rfl (Ao (AH 0) (AH 2))))))))) (λ_ _ _ _ _ _=>(AH 0)))) (AM (CU AAl rfl (DU (Af A5 (Af A5 (CT (BP (BJ (AH 6)))) (AH 4)) (CT (BP (BJ (AH 7)))))) (EK 5 a) (AM (Cn 8 a (AW (AK g b rfl (BF (AH 0) (D8 (AH 1) (AH 2) (AH 5)))) (AW (AH 3) AJ))) (AR (Aw (EC Go (Af BX (AW (AH 3) AJ) (AW (AH 8) AJ)) (AW (AH 8) AJ)) (AR (AU CQ)) Aj)))) (AR (AU CQ)))))
theorem Rj (F:Z1 K "_law_shows" HL f U)(k:RW P w K Z Y n)(l:M7 P w K Z Y n)(o:FQ P w K Z Y n)(p:Z "all" =none)(r:Z "isinstance" =none)(b:Z "len" =none)(s:Z "list" =none)(c:Z "tuple" =none):Z2 P w K Z Y n f U ["_law_one","_law_other","_law_apart_here","_law_paper","_law_turns_here","_law_begins","_law_ends"] 4 EO:=by
 have d:(["_law_row"] :km Str).Nodup:=by decide +kernel
 have e:(["_law_row"] :km Str).Nodup:=by decide +kernel
 have g:(["_law_row"] :km Str).Nodup:=by decide +kernel
 have h:(["_law_row","_law_one","_law_other","_law_apart_here"] :km Str).Nodup:=by decide +kernel
 exact DZ F DJ rfl λ_ _ _ _ _ _ a j=>(AM (Aw (EB (B3 (BA (Ap (Gm "list" "tuple" rfl r ABB (AH 3) (BM (Dc (v:= .ty "list") rfl s ACa rfl) (BM (Dc (v:= .ty "tuple") rfl c AAf rfl) Dj)) QC))) (CN (iG (iC a) CQ (CT (CC rfl (DU (AH 3)) (B7 (own:=1) (ix:= []) (N:= ["_law_row"]) rfl rfl rfl rfl rfl rfl (λ_ _ _ _ _ _=>(JY 0 d)) (λ_ _ _ _ _ _=>BS) (λ_ _ _ _ _ _=>(AK k a rfl (BJ (AH 0))))))) rfl)))) (AR (AU CQ)) Aj) (AM (Cn 4 j (AK o a rfl (Ao (AH 0) (AH 1)))) (AM (Aw (EB (B3 (EC (CS a) (Ah Ce rfl b AAw (BJ (AH 4))) AJ) (CN (EC (CS a) (Ah Ce rfl b AAw (BJ (AH 3))) AJ)))) (AR (AU (CK (CS a) (Ah Ce rfl b AAw (BJ (AH 4))) (Ah Ce rfl b AAw (BJ (AH 3))) (Bx _)))) Aj) (AM (Gq (i:=5) rfl j rfl (Or.inl rfl) (DU (AH 3)) (B7 (own:=1) (ix:= []) (N:= ["_law_row"]) rfl rfl rfl rfl rfl rfl (λ_ _ _ _ _ _=>(JY 0 e)) (λ_ _ _ _ _ _=>BS) (λ_ _ _ _ _ _=>(A0 Bi rfl c AAf (BJ (AW (AH 0) AJ)))))) (AM (Gq (i:=6) rfl j rfl (Or.inl rfl) (DU (AH 3)) (B7 (own:=1) (ix:= []) (N:= ["_law_row"]) rfl rfl rfl rfl rfl rfl (λ_ _ _ _ _ _=>(JY 0 g)) (λ_ _ _ _ _ _=>BS) (λ_ _ _ _ _ _=>(A0 Bi rfl c AAf (BJ (AW (AH 0) AJ)))))) (AM (Aw (EB (B3 (EC (E5 a) (AW (AH 5) AJ) (AW (AH 4) AJ)) (B3 (EC (E5 a) (AW (AH 6) (B8 AJ)) (AW (AH 4) (B8 AJ))) (CN (EC (E5 a) (F5 (AH 5) (aD AJ) aB) (F5 (AH 6) aB (aD (B8 AJ)))))))) (AR (AU CQ)) Aj) (AR (AU (Ah (Up rfl) rfl p boot_all (BJ (CT (CC rfl (DU (AH 3)) (B7 (own:=1) (ix:= [0,1,2]) (N:= ["_law_row","_law_one" ,"_law_other" ,"_law_apart_here" ]) rfl rfl rfl rfl rfl rfl (λ_ _ _ _ _ _=>(JY 0 h)) (λ_ _ _ _ _ _=>BS) (λ_ _ _ _ _ _=>(AK l a rfl (BF (AH 1) (D8 (AH 2) (AH 3) (AH 0))))))))))))))))))
theorem QR (F:Z1 K "_law_tupled" GI f U)(e:Z "all" =none)(a:Z "isinstance" =none)(b:Z "tuple" =none):Z2 P w K Z Y n f U ["_law_paper"] 1 Dt:=by
 have c:(["_law_row"] :km Str).Nodup:=by decide +kernel
 have d:(["_law_row"] :km Str).Nodup:=by decide +kernel
 exact DZ F DJ rfl λ_ _ _ _ _ _ _ _=>(AM (Aw (EB (B3 (BA (Ap (Ah Fp rfl a ABB (Ao (AH 0) (Ip (n:="tuple") rfl b AAf rfl))))) (CN (BA (Ap (Ah (Up rfl) rfl e boot_all (BJ (CT (CC rfl (DU (AH 0)) (B7 (own:=1) (ix:= []) (N:= ["_law_row"]) rfl rfl rfl rfl rfl rfl (λ_ _ _ _ _ _=>(JY 0 c)) (λ_ _ _ _ _ _=>BS) (λ_ _ _ _ _ _=>(Ah Fp rfl a ABB (Ao (AH 0) (Ip (n:="tuple") rfl b AAf rfl)))))))))))))) (AR (AU CQ)) Aj) (AR (AU (Ah (Up rfl) rfl e boot_all (BJ (CT (CC rfl (DU (AH 0)) (B7 (own:=1) (ix:= []) (N:= ["_law_row"]) rfl rfl rfl rfl rfl rfl (λ_ _ _ _ _ _=>(JY 0 d)) (λ_ _ _ _ _ _=>BS) (λ_ _ _ _ _ _=>(Im (Ah Fp rfl a ABB (Ao (AW (AH 0) AJ) (Ip (n:="tuple") rfl b AAf rfl))) (Io (Ah Fp rfl a ABB (Ao (AW (AH 0) AJ) (Ip (n:="tuple") rfl b AAf rfl))))))))))))))
theorem bq (F:Z1 K "common" Qi f U):Z2 P w K Z Y n f U ["one","other"] 2 GW:=DZ F DJ rfl λ_ _ _ _ _ _ a b=>(AM (MK AAl (EC (E5 a) (AH 1) AJ) (AR (NZ (i:=0) (j:=1) rfl b rfl rfl (by decide) rfl rfl (Ao (AH 1) (Af Yq (AH 0) (AH 1))) rfl))) (AR (AU (AH 0))))
theorem j4 (F:Z1 K "part" Yl f U)(c:Pz P w K Z Y n)(a:Z "abs" =none):Z2 P w K Z Y n f U ["top","bottom","shared"] 2 IJ:=DZ F DJ rfl λ_ _ _ _ _ _ d b=>(AM (Cn 2 b (AK c d rfl (Ao (Ah Ij rfl a ABv (BJ (AH 0))) (Ah Ij rfl a ABv (BJ (AH 1)))))) (AM (Aw (EC Go (AH 1) AJ) (AR (Cn 2 b (B8 (AH 2)))) Aj) (AR (AU (Ab (Ao (Af FS (AH 0) (AH 2)) (Af FS (AH 1) (AH 2))))))))
theorem j3 (F:Z1 K "over" Yk f U)(a:P4 P w K Z Y n):Z2 P w K Z Y n f U ["one","other"] 2 KB:=DZ F DJ rfl λ_ _ _ _ _ _ b _=>(AR (AU (AK a b rfl (Ao (Af BX (AW (AH 0) AJ) (AW (AH 1) AJ)) (Af BX (AW (AH 0) AJ) (AW (AH 1) AJ))))))
theorem NH (F:Z1 K "shared_bottom" FC f U)(b:Pz P w K Z Y n):Z2 P w K Z Y n f U ["numbers","told","top","bottom"] 1 C7:=DZ F DJ rfl λ_ _ _ _ _ _ c a=>(AM (Cn 1 a AJ) (AM (CU AAl rfl (DU (AH 0)) (CM (n:=2) rfl (Ad (EK 2 a) (Ad (EK 3 a) Bj))) (AR (iE (i:=1) a rfl (Or.inl rfl) (Af FS (AH 3) (AK b c rfl (Ao (AH 1) (AH 3)))) pT))) (AR (AU (AH 1)))))
theorem WW (F:Z1 K "lines_of" Kv f U)(b:OL P w K Z Y n)(c:Z "zip" =none):Z2 P w K Z Y n f U ["first","last","bottom","lines","former","latter","low","high"] 2 Fc:=DZ F DJ rfl λ_ _ _ _ _ _ d a=>(AM (Cn 2 a (AK b d rfl (BJ (Af A5 (AH 0) (AH 1))))) (AM (FE (i:=3) a rfl (Or.inl rfl) (BP Dk)) (AM (CU AAl rfl (hJ rfl c (Ao (AH 0) (AH 1))) (CM (n:=2) rfl (Ad (EK 4 a) (Ad (EK 5 a) Bj))) (AM (Cn 6 a (Af BX (AW (AH 4) AJ) (Af FS (AH 2) (AW (AH 4) AJ)))) (AM (Cn 7 a (Af BX (AW (AH 5) AJ) (Af FS (AH 2) (AW (AH 5) AJ)))) (AM (D3 (i:=3) ACI ACJ DB (BJ (Ab (Ao (AH 6) (AH 7))))) (AR (D3 (i:=3) ACI ACJ DB (BJ (Ab (Ao (B8 (AH 6)) (B8 (AH 7))))))))))) (AR (AU (Ab (Ao (AH 2) (AH 3))))))))
theorem fu (F:Z1 K "minus" Uk f U)(a:P4 P w K Z Y n):Z2 P w K Z Y n f U ["one","other"] 2 EQ:=DZ F DJ rfl λ_ _ _ _ _ _ b _=>(AR (AU (AK a b rfl (Ao (Af C0 (Af BX (AW (AH 0) AJ) (AW (AH 1) AJ)) (Af BX (AW (AH 1) AJ) (AW (AH 0) AJ))) (Af BX (AW (AH 0) AJ) (AW (AH 1) AJ))))))
theorem YU (F:Z1 K "size_of" NV f U):Z2 P w K Z Y n f U ["apart","side"] 2 Eh:=DZ F DJ rfl λ_ _ _ _ _ _ a _=>(AR (AU (N0 (EC (CS a) (AH 1) AJ) (AW (AH 0) AJ) (AW (AH 0) AJ))))
theorem bn (F:Z1 K "before" Qg f U):Z2 P w K Z Y n f U ["one","other"] 2 Am:=DZ F DJ rfl λ_ _ _ _ _ _ _ _=>(AR (AU (CK Go (Af BX (AW (AH 0) AJ) (AW (AH 1) AJ)) (Af BX (AW (AH 1) AJ) (AW (AH 0) AJ)) (Bx _))))
theorem j5 (F:Z1 K "plus" Ym f U)(a:P4 P w K Z Y n):Z2 P w K Z Y n f U ["one","other"] 2 IK:=DZ F DJ rfl λ_ _ _ _ _ _ b _=>(AR (AU (AK a b rfl (Ao (Af A5 (Af BX (AW (AH 0) AJ) (AW (AH 1) AJ)) (Af BX (AW (AH 1) AJ) (AW (AH 0) AJ))) (Af BX (AW (AH 0) AJ) (AW (AH 1) AJ))))))
theorem fz (F:Z1 K "times" Ul f U)(a:P4 P w K Z Y n):Z2 P w K Z Y n f U ["one","other"] 2 Fx:=DZ F DJ rfl λ_ _ _ _ _ _ b _=>(AR (AU (AK a b rfl (Ao (Af BX (AW (AH 0) AJ) (AW (AH 1) AJ)) (Af BX (AW (AH 0) AJ) (AW (AH 1) AJ))))))
theorem OQ (F:Z1 K "spot_between" Fo f U)(c:Od P w K Z Y n)(d:Xw P w K Z Y n)(e:Xx P w K Z Y n)(g:Tw P w K Z Y n)(h:Z "tuple" =none)(j:Z "zip" =none):Z2 P w K Z Y n f U ["former","latter","m","share"] 3 ES:=by
 have b:(["low","high","share"] :km Str).Nodup:=by decide +kernel
 exact DZ F DJ rfl λ_ _ _ _ _ _ a k=>(AM (Iq (i:=3) k rfl (Or.inr rfl) (AK d a rfl (Ao (AK c a rfl (Ao (AH 2) (AW (AH 0) AJ))) (AK c a rfl (Ao (AW (AH 1) AJ) (AW (AH 0) AJ)))))) (AR (AU (A0 Bi rfl h AAf (BJ (CT (CC rfl (hJ rfl j (Ao (F5 (AH 0) (aD AJ) aB) (F5 (AH 1) (aD AJ) aB))) (B7 (own:=2) (ix:= [3]) (N:= ["low","high" ,"share" ]) rfl rfl rfl rfl rfl rfl (λ_ _ _ _ _ _=>(Uy (n:=2) rfl (E4 (JY 0 b) (E4 (JY 1 b) Ox)))) (λ_ _ _ _ _ _=>BS) (λ_ _ _ _ _ _=>(AK e a rfl (Ao (AH 0) (AK g a rfl (Ao (AH 2) (AK c a rfl (Ao (AH 1) (AH 0))))))))))))))))
theorem YV (F:Z1 K "spot_at" NW f U)(b:Dw P w K Z Y n)(c:P5 P w K Z Y n)(d:Z "len" =none)(e:Z "range" =none):Z2 P w K Z Y n f U ["plan","m","at"] 2 Ei:=DZ F DJ rfl λ_ _ _ _ _ _ a g=>(AM (Aw (Ap (AK b a rfl (Ao (AH 1) (AW (AW (AH 0) AJ) AJ)))) (AR (AU CL)) Aj) (AM (CU AAl rfl (mP rfl e (Ao AJ (Ah Ce rfl d AAw (BJ (AH 0))))) (EK 2 g) (AR (Aw (BA (Ap (AK b a rfl (Ao (AW (AW (AH 0) (AH 2)) AJ) (AH 1))))) (AR (AU (AK c a rfl (D8 (AW (AH 0) (Af C0 (AH 2) AJ)) (AW (AH 0) (AH 2)) (AH 1))))) Aj))) (AR (AU CL))))
theorem YR (F:Z1 K "offs_at" NR f U)(e:Od P w K Z Y n)(g:Xw P w K Z Y n)(h:SU P w K Z Y n)(c:SV P w K Z Y n)(j:Z "range" =none):Z2 P w K Z Y n f U ["one","other","apart","m","here","there"] 4 GZ:=by
 have b:(["side","apart","here","there"] :km Str).Nodup:=by decide +kernel
 exact DZ F DJ rfl λ_ _ _ _ _ _ a d=>(AM (Iq (i:=4) d rfl (Or.inr rfl) (AK c a rfl (Ao (AH 0) (AH 3)))) (AM (Iq (i:=5) d rfl (Or.inr rfl) (AK c a rfl (Ao (AH 1) (AH 3)))) (AR (AU (CT (CC rfl (N1 rfl j (BJ AJ)) (B7 (own:=1) (ix:= [2,4,5]) (N:= ["side","apart" ,"here" ,"there" ]) rfl rfl rfl rfl rfl rfl (λ_ _ _ _ _ _=>(JY 0 b)) (λ_ _ _ _ _ _=>BS) (λ_ _ _ _ _ _=>(AK g a rfl (Ao (AK e a rfl (Ao (AW (AH 2) (AH 0)) (AW (AH 3) (AH 0)))) (AK h a rfl (Ao (AH 1) (AH 0)))))))))))))
theorem YM (F:Z1 K "greater" NN f U)(a:Dw P w K Z Y n):Z2 P w K Z Y n f U ["one","other"] 2 DM:=DZ F DJ rfl λ_ _ _ _ _ _ b _=>(AR (AU (N0 (Ap (AK a b rfl (Ao (AH 0) (AH 1)))) (AH 1) (AH 0))))
theorem b9 (F:Z1 K "lesser" Qk f U)(a:Dw P w K Z Y n):Z2 P w K Z Y n f U ["one","other"] 2 Fb:=DZ F DJ rfl λ_ _ _ _ _ _ b _=>(AR (AU (N0 (Ap (AK a b rfl (Ao (AH 1) (AH 0)))) (AH 1) (AH 0))))
theorem WY (F:Z1 K "together" Kx f U)(c:Dw P w K Z Y n)(d:bA P w K Z Y n)(e:V6 P w K Z Y n):Z2 P w K Z Y n f U ["one","other","begin","end"] 2 D4:=DZ F DJ rfl λ_ _ _ _ _ _ a b=>(AM (Cn 2 b (AK d a rfl (Ao (AW (AW (AH 0) AJ) AJ) (AW (AW (AH 1) AJ) AJ)))) (AM (Cn 3 b (AK e a rfl (Ao (AW (AW (AH 0) (B8 AJ)) AJ) (AW (AW (AH 1) (B8 AJ)) AJ)))) (AR (AU (N0 (Ap (AK c a rfl (Ao (AH 2) (AH 3)))) (Ab (Ao (AH 2) (AH 3))) CL)))))
theorem KS (F:Z1 K "corners_between" EX f U)(b:Dw P w K Z Y n)(d:Z "tuple" =none):Z2 P w K Z Y n f U ["plan","begin","end"] 3 CY:=by
 have a:(["corner","begin","end"] :km Str).Nodup:=by decide +kernel
 exact DZ F DJ rfl λ_ _ _ _ _ _ c _=>(AR (AU (CT (CC rfl (DU (AH 0)) (B7 (own:=1) (ix:= [1,2]) (N:= ["corner","begin" ,"end" ]) rfl rfl rfl rfl rfl rfl (λ_ _ _ _ _ _=>(JY 0 a)) (λ_ _ _ _ _ _=>(Ot (EB (HV (Ap (AK b c rfl (Ao (AH 1) (AW (AH 0) AJ)))) (F6 (Ap (AK b c rfl (Ao (AW (AH 0) AJ) (AH 2))))))))) (λ_ _ _ _ _ _=>(A0 Bi rfl d AAf (BJ (AH 0)))))))))
theorem QS (F:Z1 K "count_below" GJ f U)(b:Dw P w K Z Y n)(c:Z "len" =none):Z2 P w K Z Y n f U ["numbers","number","low","high","middle"] 2 Du:=DZ F DJ rfl λ_ _ _ _ _ _ d a=>(AM (Cn 2 a AJ) (AM (Cn 3 a (Ah Ce rfl c AAw (BJ (AH 0)))) (AM (MK AAl (EC Go (AH 2) (AH 3)) (AM (Cn 4 a (Af FS (Af A5 (AH 2) (AH 3)) AJ)) (AR (Aw (Ap (AK b d rfl (Ao (AW (AH 0) (AH 4)) (AH 1)))) (AR (Cn 2 a (Af A5 (AH 4) AJ))) (AR (Cn 3 a (AH 4))))))) (AR (AU (AH 2))))))
theorem cC (F:Z1 K "rising" Qn f U)(c:RZ P w K Z Y n)(d:Z "len" =none):Z2 P w K Z Y n f U ["numbers","told","number","at"] 1 Gc:=DZ F DJ rfl λ_ _ _ _ _ _ a b=>(AM (FE (i:=1) b rfl (Or.inl rfl) (BP Dk)) (AM (CU AAl rfl (DU (AH 0)) (EK 2 b) (AM (Cn 3 b (Qp (AK c a rfl (Ao (AH 1) (AH 2))))) (AR (Aw (iF (EB (B3 (EC (CS a) (AH 3) (Ah Ce rfl d AAw (BJ (AH 1)))) (CN (EC (E5 a) (AW (AH 1) (AH 3)) (AH 2)))))) (AR (D3 (i:=1) AFN AFO Si (Ao (AH 3) (AH 2)))) Aj)))) (AR (AU (AH 1)))))
theorem gA (F:Z1 K "turns" Um f U)(c:Lm P w K Z Y n)(d:V8 P w K Z Y n):Z2 P w K Z Y n f U ["one","other","begin","end","corners"] 4 Iy:=by
 have a:(["corner"] :km Str).Nodup:=by decide +kernel
 exact DZ F DJ rfl λ_ _ _ _ _ _ b e=>(AM (Cn 4 e (Af A5 (AK c b rfl (D8 (AH 0) (AH 2) (AH 3))) (AK c b rfl (D8 (AH 1) (AH 2) (AH 3))))) (AR (AU (AK d b rfl (BJ (Af A5 (CT (BP (Ao (AH 2) (AH 3)))) (CT (CC rfl (DU (AH 4)) (B7 (own:=1) (ix:= []) (N:= ["corner"]) rfl rfl rfl rfl rfl rfl (λ_ _ _ _ _ _=>(JY 0 a)) (λ_ _ _ _ _ _=>BS) (λ_ _ _ _ _ _=>(AW (AH 0) AJ)))))))))))
theorem cB (F:Z1 K "pieces" Qm f U)(d:Xv P w K Z Y n)(e:bE P w K Z Y n)(g:P6 P w K Z Y n)(h:Za P w K Z Y n)(j:Z "len" =none)(k:Z "range" =none):Z2 P w K Z Y n f U ["one","other","apart","span","moments","offs","told","at","bottom","lines"] 3 Gb:=by
 have c:(["m","one","other","apart"] :km Str).Nodup:=by decide +kernel
 exact DZ F DJ rfl λ_ _ _ _ _ _ b a=>(AM (Cn 3 a (AK g b rfl (Ao (AH 0) (AH 1)))) (AM (Aw (EC NX (AH 3) CL) (AR (AU (CT (BP Dk)))) Aj) (AM (Cn 4 a (AK h b rfl (BF (AH 0) (D8 (AH 1) (AW (AH 3) AJ) (AW (AH 3) AJ))))) (AM (Gq (i:=5) rfl a rfl (Or.inl rfl) (DU (AH 4)) (B7 (own:=1) (ix:= [0,1,2]) (N:= ["m","one" ,"other" ,"apart" ]) rfl rfl rfl rfl rfl rfl (λ_ _ _ _ _ _=>(JY 0 c)) (λ_ _ _ _ _ _=>BS) (λ_ _ _ _ _ _=>(AK e b rfl (BF (AH 1) (D8 (AH 2) (AH 3) (AH 0))))))) (AM (FE (i:=6) a rfl (Or.inl rfl) (BP Dk)) (AM (CU AAl rfl (mP rfl k (Ao AJ (Ah Ce rfl j AAw (BJ (AH 4))))) (EK 7 a) (AM (Et (AK d b rfl (Ao (AW (AH 5) (Af C0 (AH 7) AJ)) (AW (AH 5) (AH 7)))) (CM (n:=2) rfl (Ad (EK 8 a) (Ad (EK 9 a) Bj)))) (AR (D3 (i:=6) ACI ACJ DB (BJ (Ab (BF (AW (AH 4) (Af C0 (AH 7) AJ)) (D8 (AW (AH 4) (AH 7)) (AH 8) (AH 9))))))))) (AR (AU (AH 6)))))))))
theorem YO (F:Z1 K "longest" NP f U)(b:Dw P w K Z Y n)(c:Z "enumerate" =none):Z2 P w K Z Y n f U ["bottom","lines","told","at","first","last","share"] 2 FV:=DZ F DJ rfl λ_ _ _ _ _ _ d a=>(AM (Cn 2 a CL) (AM (CU AAl rfl (wj rfl c (BJ (AH 1))) (CM (n:=2) rfl (Ad (EK 3 a) (Ad (CM (n:=2) rfl (Ad (EK 4 a) (Ad (EK 5 a) Bj))) Bj))) (AR (Aw (EC Qx (AH 4) (AH 0)) (AM (Cn 6 a (N0 (EC Qx (AH 5) (AH 0)) (Ab (Ao AJ AJ)) (Ab (Ao (Af C0 (AH 4) (AH 0)) (Af C0 (AH 4) (AH 5)))))) (AR (Aw (EB (B3 (EC NX (AH 2) CL) (CN (Ap (AK b d rfl (Ao (AW (AH 2) AJ) (AH 6))))))) (AR (Cn 2 a (Ab (Ao (AH 3) (AH 6))))) Aj))) Aj))) (AR (AU (AH 2)))))
theorem UT (F:Z1 K "moment_at" Ii f U)(b:Od P w K Z Y n)(c:P4 P w K Z Y n)(d:Xx P w K Z Y n)(e:Tw P w K Z Y n):Z2 P w K Z Y n f U ["begin","end","share"] 3 DP:=DZ F DJ rfl λ_ _ _ _ _ _ a _=>(AR (AU (AK d a rfl (Ao (AH 0) (AK e a rfl (Ao (AK c a rfl (Ao (AW (AH 2) AJ) (AW (AH 2) AJ))) (AK b a rfl (Ao (AH 1) (AH 0)))))))))
theorem cD (F:Z1 K "row_of" Qo f U):Z2 P w K Z Y n f U ["begin","end","at","sign"] 3 Fd:=DZ F DJ rfl λ_ _ _ _ _ _ a b=>(AM (Cn 3 b (N0 (EC (CS a) (Af Yq (AH 2) AJ) AJ) AJ (B8 AJ))) (AR (AU (Ab (BF (AH 0) (D8 (AH 1) (Af FS (AH 2) AJ) (AH 3)))))))
theorem YT (F:Z1 K "rows_of" NU f U)(e:bC P w K Z Y n)(g:Nr P w K Z Y n)(d:eZ P w K Z Y n):Z2 P w K Z Y n f U ["piece","latter","cut","begin","end","bottom","lines","former","share"] 1 Gd:=by
 have c:(["first","last"] :km Str).Nodup:=by decide +kernel
 exact DZ F DJ rfl λ_ _ _ _ _ _ b a=>(AM (Et (AH 0) (CM (n:=4) rfl (Ad (EK 3 a) (Ad (EK 4 a) (Ad (EK 5 a) (Ad (EK 6 a) Bj)))))) (AM (Et (AK e b rfl (Ao (AH 5) (AH 6))) (CM (n:=2) rfl (Ad (EK 7 a) (Ad (EK 8 a) Bj)))) (AM (Aw (EC (CS b) (AH 8) (Ab (Ao AJ AJ))) (AR (AU (CT (BP (BJ (AK d b rfl (D8 (AH 3) (AH 4) (AH 7)))))))) Aj) (AM (Cn 1 a (AW (AK e b rfl (Ao (AH 5) (CT (CC rfl (DU (AH 6)) (B7 (own:=2) (ix:= []) (N:= ["first","last" ]) rfl rfl rfl rfl rfl rfl (λ_ _ _ _ _ _=>(Uy (n:=2) rfl (E4 (JY 0 c) (E4 (JY 1 c) Ox)))) (λ_ _ _ _ _ _=>BS) (λ_ _ _ _ _ _=>(Ab (Ao (AH 1) (AH 0))))))))) AJ)) (AM (Cn 2 a (AK g b rfl (D8 (AH 3) (AH 4) (AH 8)))) (AR (AU (CT (BP (Ao (AK d b rfl (D8 (AH 3) (AH 2) (AH 7))) (AK d b rfl (D8 (AH 2) (AH 4) (AH 1)))))))))))))
theorem YQ (F:Z1 K "near_in" NQ f U)(c:Dw P w K Z Y n)(e:V6 P w K Z Y n)(d:Nr P w K Z Y n):Z2 P w K Z Y n f U ["piece","low","held","high","begin","end","bottom","lines","first","last","share"] 1 GY:=DZ F DJ rfl λ_ _ _ _ _ _ b a=>(AM (Et (AH 0) (CM (n:=4) rfl (Ad (EK 4 a) (Ad (EK 5 a) (Ad (EK 6 a) (Ad (EK 7 a) Bj)))))) (AM (Cn 1 a (Ab (Ao AJ AJ))) (AM (Cn 2 a AJ) (AM (Cn 3 a (Ab (Ao AJ AJ))) (AM (CU AAl rfl (DU (AH 7)) (CM (n:=2) rfl (Ad (EK 8 a) (Ad (EK 9 a) Bj))) (AM (Aw (EB (HV (EC Qx (AH 8) (AH 6)) (F6 (EC Qx (AH 9) (AH 6))))) (AR (AU (CT (BP Dk)))) Aj) (AR (Aw (EC Qx (AH 8) (AH 6)) (AM (Cn 10 a (Ab (Ao (Af C0 (AH 8) (AH 6)) (Af C0 (AH 8) (AH 9))))) (AR (Aw (BA (Ap (AK c b rfl (Ao (AH 10) (AH 1))))) (AM (Cn 1 a (AH 10)) (AR (Cn 2 a AJ))) Aj))) (AR (Aw (EC Sj (AH 9) (AH 6)) (AR (Cn 3 a (AK e b rfl (Ao (AH 3) (Ab (Ao (Af C0 (AH 6) (AH 8)) (Af C0 (AH 9) (AH 8)))))))) Aj)))))) (AM (Aw (BA (Ap (AK c b rfl (Ao (AH 1) (AH 3))))) (AR (AU (CT (BP Dk)))) Aj) (AR (AU (CT (BP (BJ (Ab (D8 (AK d b rfl (D8 (AH 4) (AH 5) (AH 1))) (AH 2) (AK d b rfl (D8 (AH 4) (AH 5) (AH 3))))))))))))))))
theorem Nz:Ev ["stretches","steps","begin","held","end","first","last"] ["stretches"] (BY HN):=DJ
theorem WX (F:Vl K "steps_of" "steps_of" HN f U):FA P w K Z Y TR (n+1) f U ["stretches"] (Cg K 1 Iw):=by
 have a:=Nz.nd;refine F.ok Nz (λvs H Q E h=> ?_) (λb A outer s H vs Q E c h=> ?_)
 .obtain ⟨T,M,xs,d,_,_,r,hl,_⟩:=h;rw[r.length,hl] <;> rfl
 obtain⟨T,M,xs,d,va,_,r,hl,e,hQ⟩:=h;have hu:=ka c;obtain⟨x,ys,m,rfl,hx,hz,g,hq⟩:=XX e;cases r with
 | cons r j=> cases j;refine⟨_,(Cc (GB (i:=1) a rfl (Or.inl rfl) kH) (Cc (gU AAl rfl (gS (pv 0)) (YZ rfl (IW (L5 (i:=2) a rfl (Or.inl rfl)) (IW (L5 (i:=3) a rfl (Or.inl rfl)) (IW (L5 (i:=4) a rfl (Or.inl rfl)) Ua)))) (Cc (GB (i:=5) a rfl (Or.inl rfl) (QW (BM (pv 2) (BM (Cr YX BO (pv 3)) Dj)))) (Cc (Zw hu (pv 1) (pv 5) (Cr KW (Wg hu (pv 1) (pv 5) BO ⟨rfl,rfl,rfl,rfl⟩) BO) rfl) (F1 (Zv (Oq Zr (pv 4) gQ (Bx _)) (Cc (GB (i:=6) a rfl (Or.inl rfl) (QW (BM (pv 4) (BM BO Dj)))) (F1 (Zw hu (pv 1) (pv 6) (Cr YX (Wg hu (pv 1) (pv 6) BO ⟨rfl,rfl,rfl,rfl⟩) BO) rfl))) Op))))) (F1 (QY (pv 1))))), ?_⟩;exact Yv va r hx hz g λp k ex l hp=>hQ _ (.dct m) T k (lH va ex) (kY va l hp) hq
theorem cA (F:Z1 K "levels" Ql f U)(d:V8 P w K Z Y n)(e:Xy P w K Z Y n)(g:Z "list" =none):Z2 P w K Z Y n f U ["stretches","steps","told","count","moment","side"] 1 II:=by
 have b:(["moment","side"] :km Str).Nodup:=by decide +kernel
 exact DZ F DJ rfl λ_ _ _ _ _ _ c a=>(AM (Cn 1 a (AK e c rfl (BJ (AH 0)))) (AM (FE (i:=2) a rfl (Or.inl rfl) (BP Dk)) (AM (Cn 3 a AJ) (AM (CU AAl rfl (DU (AK d c rfl (BJ (CT (CC rfl (DU (CT (g6 c rfl g ACa (BJ (AH 1))))) (B7 (own:=2) (ix:= []) (N:= ["moment","side" ]) rfl rfl rfl rfl rfl rfl (λ_ _ _ _ _ _=>(Uy (n:=2) rfl (E4 (JY 0 b) (E4 (JY 1 b) Ox)))) (λ_ _ _ _ _ _=>BS) (λ_ _ _ _ _ _=>(AH 0)))))))) (EK 4 a) (AR (CU AAl rfl (DU (Ab (Ao AJ AJ))) (EK 5 a) (AR (Aw (pY c (AH 4) (AH 5) (AH 1)) (AM (iE (i:=3) a rfl (Or.inl rfl) (ko c (AH 1) (AH 4) (AH 5) (λ_ _=>rfl)) pS) (AR (D3 (i:=2) ACI ACJ DB (BJ (Ab (D8 (AH 4) (AH 5) (AH 3))))))) Aj))))) (AR (AU (AH 2)))))))
theorem YL (F:Z1 K "counted" NM f U)(b:eY P w K Z Y n)(c:Z "tuple" =none):Z2 P w K Z Y n f U ["stretches","n","told","begin","moment","side","count"] 2 FT:=DZ F DJ rfl λ_ _ _ _ _ _ d a=>(AM (FE (i:=2) a rfl (Or.inl rfl) (BP Dk)) (AM (Cn 3 a CL) (AM (CU AAl rfl (DU (AK b d rfl (BJ (AH 0)))) (CM (n:=3) rfl (Ad (EK 4 a) (Ad (EK 5 a) (Ad (EK 6 a) Bj)))) (AR (Aw (EB (HV (EC NX (AH 3) CL) (F6 (EC Qx (AH 6) (AH 1))))) (AR (Cn 3 a (Ab (Ao (AH 4) (Af C0 AJ (AH 5)))))) (AR (Aw (EB (HV (EC Oy (AH 3) CL) (F6 (EC Go (AH 6) (AH 1))))) (AM (D3 (i:=2) ACI ACJ DB (BJ (Ab (D8 (AW (AH 3) AJ) (AW (AH 3) AJ) (AH 4))))) (AR (Cn 3 a CL))) Aj))))) (AM (Aw (EC Oy (AH 3) CL) (AR (D3 (i:=2) ACI ACJ DB (BJ (Ab (D8 (AW (AH 3) AJ) (AW (AH 3) AJ) CL))))) Aj) (AR (AU (A0 Bi rfl c AAf (BJ (AH 2)))))))))
theorem WZ (F:Z1 K "told_set" Ky f U)(a:az P w K Z Y n):Z2 P w K Z Y n f U ["stretches"] 1 Fe:=DZ F DJ rfl λ_ _ _ _ _ _ b _=>(AR (AU (AK a b rfl (Ao (AH 0) AJ))))
theorem Wa (F:Z1 K "too_near" Kz f U)(c:bD P w K Z Y n)(d:V7 P w K Z Y n)(e:Xz P w K Z Y n):Z2 P w K Z Y n f U ["one","other","apart"] 3 Ff:=by
 have a:(["stretch","piece"] :km Str).Nodup:=by decide +kernel
 exact DZ F DJ rfl λ_ _ _ _ _ _ b _=>(AR (AU (AK e b rfl (BJ (CT (Wx rfl (DU (AK d b rfl (D8 (AH 0) (AH 1) (AH 2)))) (ZL (own:=2) (own2:=1) (ix:= []) (N:= ["stretch","piece" ]) rfl rfl rfl rfl rfl rfl (by decide) (λ_ _ _ _ _ _=>(JY 1 a)) (λ_ _ _ _ _ _=>BS) (λ_ _ _ _ _ _=>(DU (AK c b rfl (BJ (AH 1))))) (λ_ _ _ _ _ _=>(JY 0 a)) (λ_ _ _ _ _ _=>BS) (λ_ _ _ _ _ _=>(AH 0)))))))))
theorem gB (F:Z1 K "whole" Uo f U):Z2 P w K Z Y n f U ["n"] 1 Iz:=DZ F DJ rfl λ_ _ _ _ _ _ _ _=>(AR (AU (Ab (Ao (AH 0) AJ))))
theorem YS (F:Z1 K "parting" NT f U)(d:Xw P w K Z Y n)(e:V7 P w K Z Y n)(g:Xx P w K Z Y n)(h:bH P w K Z Y n)(i:X0 P w K Z Y n)(j:Zb P w K Z Y n)(k:Z "tuple" =none):Z2 P w K Z Y n f U ["one","other","apart","near","begin","held","end"] 3 FW:=by
 have b:(["row","piece"] :km Str).Nodup:=by decide +kernel
 exact DZ F DJ rfl λ_ _ _ _ _ _ a c=>(AM (Cn 3 c (AK i a rfl (D8 (AH 0) (AH 1) (AH 2)))) (AM (Aw (Na (AH 3)) (AM (Et (AW (AH 3) AJ) (CM (n:=3) rfl (Ad (EK 4 c) (Ad (EK 5 c) (Ad (EK 6 c) Bj))))) (AR (AU (Ab (Ao Uq (AK d a rfl (Ao (AK g a rfl (Ao (AH 4) (AH 6))) (AK j a rfl (BJ AJ))))))))) Aj) (AR (AU (Ab (Ao Uq (A0 Bi rfl k AAf (BJ (CT (Wx rfl (DU (AK e a rfl (D8 (AH 0) (AH 1) (AH 2)))) (ZL (own:=2) (own2:=1) (ix:= []) (N:= ["row","piece" ]) rfl rfl rfl rfl rfl rfl (by decide) (λ_ _ _ _ _ _=>(JY 1 b)) (λ_ _ _ _ _ _=>BS) (λ_ _ _ _ _ _=>(DU (AK h a rfl (BJ (AH 1))))) (λ_ _ _ _ _ _=>(JY 0 b)) (λ_ _ _ _ _ _=>BS) (λ_ _ _ _ _ _=>(AH 0)))))))))))))
theorem ft (F:Z1 K "holds" Uj f U)(d:Dw P w K Z Y n)(e:Od P w K Z Y n)(g:SU P w K Z Y n)(c:SV P w K Z Y n)(h:Tw P w K Z Y n)(i:Za P w K Z Y n)(j:Zb P w K Z Y n):Z2 P w K Z Y n f U ["one","other","apart","row","m","begin","end","side","sign","off"] 4 LO:=DZ F DJ rfl λ_ _ _ _ _ _ a b=>(AM (Et (AH 3) (CM (n:=4) rfl (Ad (EK 5 b) (Ad (EK 6 b) (Ad (EK 7 b) (Ad (EK 8 b) Bj)))))) (AM (CU AAl rfl (DU (AK i a rfl (BF (AH 0) (D8 (AH 1) (AH 5) (AH 6))))) (EK 4 b) (AM (Cn 9 b (AK e a rfl (Ao (AW (AK c a rfl (Ao (AH 0) (AH 4))) (AH 7)) (AW (AK c a rfl (Ao (AH 1) (AH 4))) (AH 7))))) (AR (Aw (Ap (AK d a rfl (Ao (AK h a rfl (Ao (AK j a rfl (BJ (AH 8))) (AH 9))) (AK g a rfl (Ao (AH 2) (AH 7)))))) (AR (AU CQ)) Aj)))) (AR (AU CQ))))
theorem WV (F:Z1 K "is_whole" Ku f U)(b:Z "bool" =none)(c:Z "int" =none)(a:Z "isinstance" =none):Z2 P w K Z Y n f U ["thing"] 1 BW:=DZ F DJ rfl λ_ _ _ _ _ _ _ _=>(AR (AU (Im (Ah Fp rfl a ABB (Ao (AH 0) (Ip (n:="int") rfl c ACP rfl))) (Io (gy (Ah Fp rfl a ABB (Ao (AH 0) (Ip (n:="bool") rfl b boot_bool rfl))))))))
theorem YN (F:Z1 K "is_part" NO f U)(d:Pz P w K Z Y n)(b:P3 P w K Z Y n)(e:Z "abs" =none)(g:Z "isinstance" =none)(h:Z "len" =none)(i:Z "list" =none)(j:Z "tuple" =none):Z2 P w K Z Y n f U ["thing","top","bottom"] 1 Ef:=DZ F DJ rfl λ_ _ _ _ _ _ a c=>(AM (Aw (EB (B3 (BA (Ap (Gm "tuple" "list" rfl g ABB (AH 0) (BM (Dc (v:= .ty "tuple") rfl j AAf rfl) (BM (Dc (v:= .ty "list") rfl i ACa rfl) Dj)) Lp))) (CN (EC (E5 a) (Ah Ce rfl h AAw (BJ (AH 0))) AJ)))) (AR (AU CQ)) Aj) (AM (Et (AH 0) (CM (n:=2) rfl (Ad (EK 1 c) (Ad (EK 2 c) Bj)))) (AM (Aw (EB (B3 (BA (Ap (AK b a rfl (BJ (AH 1))))) (CN (BA (Ap (AK b a rfl (BJ (AH 2)))))))) (AR (AU CQ)) Aj) (AR (AU (Im (CK Sj (AH 2) AJ (Bx _)) (Io (CK (CS a) (AK d a rfl (Ao (Ah Ij rfl e ABv (BJ (AH 1))) (AH 2))) AJ (Bx _)))))))))
theorem b6 (F:Z1 K "is_row" Qj f U)(c:bB P w K Z Y n)(d:P3 P w K Z Y n)(e:Z "isinstance" =none)(g:Z "len" =none)(h:Z "list" =none)(i:Z "tuple" =none):Z2 P w K Z Y n f U ["thing","begin","end","side","sign"] 1 GX:=DZ F DJ rfl λ_ _ _ _ _ _ a b=>(AM (Aw (EB (B3 (BA (Ap (Gm "tuple" "list" rfl e ABB (AH 0) (BM (Dc (v:= .ty "tuple") rfl i AAf rfl) (BM (Dc (v:= .ty "list") rfl h ACa rfl) Dj)) Lp))) (CN (EC (E5 a) (Ah Ce rfl g AAw (BJ (AH 0))) AJ)))) (AR (AU CQ)) Aj) (AM (Et (AH 0) (CM (n:=4) rfl (Ad (EK 1 b) (Ad (EK 2 b) (Ad (EK 3 b) (Ad (EK 4 b) Bj)))))) (AM (Aw (EB (B3 (BA (Ap (AK c a rfl (BJ (AH 1))))) (B3 (BA (Ap (AK c a rfl (BJ (AH 2))))) (B3 (BA (Ap (AK d a rfl (BJ (AH 3))))) (CN (BA (Ap (AK d a rfl (BJ (AH 4)))))))))) (AR (AU CQ)) Aj) (AR (AU (Im (CK (iC a) (AH 3) (Ab (D8 AJ AJ AJ)) rfl) (Io (CK (iC a) (AH 4) (Ab (Ao AJ (B8 AJ))) rfl))))))))
theorem NJ (F:Z1 K "shows_parting" FD f U)(d:Dw P w K Z Y n)(e:jV P w K Z Y n)(g:eV P w K Z Y n)(h:P6 P w K Z Y n)(i:Z "isinstance" =none)(j:Z "len" =none)(k:Z "list" =none)(c:Z "tuple" =none):Z2 P w K Z Y n f U ["one","other","apart","paper","span","row","at","last","begin","end"] 4 CV:=DZ F DJ rfl λ_ _ _ _ _ _ a b=>(AM (Aw (BA (Ap (Gm "tuple" "list" rfl i ABB (AH 3) (BM (Dc (v:= .ty "tuple") rfl c AAf rfl) (BM (Dc (v:= .ty "list") rfl k ACa rfl) Dj)) Lp))) (AR (AU CQ)) Aj) (AM (Cn 4 b (AK h a rfl (Ao (AH 0) (AH 1)))) (AM (Aw (EC NX (AH 4) CL) (AR (AU (CK (CS a) (Ah Ce rfl j AAw (BJ (AH 3))) AJ (Bx _)))) Aj) (AM (Et (AH 4) (CM (n:=2) rfl (Ad (EK 6 b) (Ad (EK 7 b) Bj)))) (AM (CU AAl rfl (DU (AH 3)) (EK 5 b) (AM (Aw (BA (Ap (AK g a rfl (BJ (AH 5))))) (AR (AU CQ)) Aj) (AM (Cn 8 b (A0 Bi rfl c AAf (BJ (AW (AH 5) AJ)))) (AM (Cn 9 b (A0 Bi rfl c AAf (BJ (AW (AH 5) AJ)))) (AM (Aw (EB (B3 (EC (E5 a) (AH 8) (AH 6)) (B3 (BA (Ap (AK d a rfl (Ao (AH 8) (AH 9))))) (CN (Ap (AK d a rfl (Ao (AH 7) (AH 9)))))))) (AR (AU CQ)) Aj) (AM (Aw (BA (Ap (AK e a rfl (BF (AH 0) (D8 (AH 1) (AH 2) (Ab (BF (AH 8) (D8 (AH 9) (AW (AH 5) AJ) (AW (AH 5) AJ))))))))) (AR (AU CQ)) Aj) (AR (Cn 6 b (AH 9))))))))) (AR (AU (CK (CS a) (AH 6) (AH 7) (Bx _)))))))))
theorem Rh (F:Z1 K "_law_right" HJ f U)(g:IQ P w K Z Y n)(h:Jf P w K Z Y n 12)(i:Jg P w K Z Y n)(j:OK P w K Z Y n)(k:Tv P w K Z Y n)(l:RY P w K Z Y n)(o:FQ P w K Z Y n)(b:bF P w K Z Y n)(c:OM P w K Z Y n)(d:Z "isinstance" =none)(p:Z "len" =none)(e:Z "tuple" =none):Z2 P w K Z Y n f U ["_law_one","_law_other","_law_apart_here","_law_found"] 3 B5:=DZ F DJ rfl λ_ _ _ _ _ _ a r=>(AM (Cn 3 r (AK b a rfl (D8 (AH 0) (AH 1) (AH 2)))) (AM (Aw (EB (B3 (BA (Ap (Ah Fp rfl d ABB (Ao (AH 3) (Ip (n:="tuple") rfl e AAf rfl))))) (B3 (EC (E5 a) (Ah Ce rfl p AAw (BJ (AH 3))) AJ) (CN (EC (E5 a) (AK b a rfl (D8 (AH 0) (AH 1) (AH 2))) (AH 3)))))) (AR (AU CQ)) Aj) (AM (Aw (EC (E5 a) (AK j a rfl (D8 (AH 0) (AH 1) (AH 2))) (Ab Dk)) (AM (Aw (EB (B3 (EC (E5 a) (AW (AH 3) AJ) Uq) (B3 (BA (Ap (Ah Fp rfl d ABB (Ao (AW (AH 3) AJ) (Ip (n:="tuple") rfl e AAf rfl))))) (CN (BA (Ap (AK i a rfl (BJ (AW (AH 3) AJ))))))))) (AR (AU CQ)) Aj) (AR (AU (AK g a rfl (BF (AH 0) (D8 (AH 1) (AH 2) (AW (AH 3) AJ))))))) Aj) (AM (Aw (EB (B3 (EC (E5 a) (AW (AH 3) AJ) Uq) (B3 (BA (Ap (AK l a rfl (BJ (AW (AH 3) AJ))))) (CN (BA (Ap (AK k a rfl (BF (AH 0) (D8 (AH 1) (AH 2) (AW (AH 3) AJ)))))))))) (AR (AU CQ)) Aj) (AM (Aw (EC lG (AK c a rfl (BF (AH 0) (D8 (AH 1) (AH 2) (AK h a rfl (BJ (AW (AH 3) AJ)))))) CQ) (AR (AU CQ)) Aj) (AR (AU (Im (CK pX (AK c a rfl (BF (AH 0) (D8 (AH 1) (AH 2) (AW (AH 3) AJ)))) CQ (Bx _)) (Io (CK (CS a) (CK (CS a) (AW (AH 3) AJ) (Ab Dk) (Bx _)) (CK (CS a) (AK o a rfl (Ao (AH 0) (AH 1))) (CT (BP Dk)) (Bx _)) (Bx _)))))))))))
theorem L3 (F:Z1 K "_law_wide_pair" Er f U)(c:DR P w K Z Y n)(j:IR P w K Z Y n)(e:DT P w K Z Y n)(k:D6 P w K Z Y n)(g:Z "int" =none)(l:Z "range" =none)(h:Z "tuple" =none):Z2 P w K Z Y n f U ["_law_tape_here","_law_apart_here","_law_plan_here","_law_corners","_law_side","_law_corner","_law_by","_law_other"] 2 Cm:=by
 have d:(["_law_j","_law_corner","_law_by"] :km Str).Nodup:=by decide +kernel
 exact DZ F DJ rfl λ_ _ _ _ _ _ a b=>(AM (Cn 2 b (AK j a rfl (BJ (AH 0)))) (AM (FE (i:=3) b rfl (Or.inl rfl) (BP Dk)) (AM (Cn 4 b (AK c a rfl (Ao (AH 0) AJ))) (AM (CU AAl rfl (DU (AH 2)) (EY (i:=5) b rfl (Or.inr rfl)) (AM (FE (i:=6) b rfl (Or.inr rfl) (BP (D8 (Ab (Ao AJ AJ)) (Ab (Ao AJ AJ)) (Ab (Ao AJ AJ))))) (AM (Aw (EC (CS a) (AK c a rfl (Ao (AH 0) AJ)) AJ) (AM (Cn 7 b (AK c a rfl (Ao (AH 0) AJ))) (AR (Q1 (i:=6) (AH 7) (AK e a rfl (Ao (AW (AH 1) (A0 K0 rfl g ACP (BJ (CK (CS a) (AH 7) AJ (Bx _))))) (AW (CT (BP (D8 (Ab (Ao AJ AJ)) (Ab (Ao (B8 AJ) AJ)) (Ab (Ao AJ AJ))))) (AK c a rfl (Ao (AH 0) AJ)))))))) Aj) (AM (Q1 (i:=6) (AH 4) (AK e a rfl (Ao (AW (AH 1) (A0 K0 rfl g ACP (BJ (CK (CS a) (AH 4) AJ (Bx _))))) (AW (CT (BP (D8 (Ab (Ao AJ AJ)) (Ab (Ao AJ AJ)) (Ab (Ao AJ AJ))))) (AK c a rfl (Ao (AH 0) AJ)))))) (AR (D3 (i:=3) ACI ACJ DB (BJ (Qp (Af A5 (Ab (BJ (AW (AH 5) AJ))) (A0 Bi rfl h AAf (BJ (CT (CC rfl (N1 rfl l (BJ AJ)) (B7 (own:=1) (ix:= [5,6]) (N:= ["_law_j","_law_corner" ,"_law_by" ]) rfl rfl rfl rfl rfl rfl (λ_ _ _ _ _ _=>(JY 0 d)) (λ_ _ _ _ _ _=>BS) (λ_ _ _ _ _ _=>(AK k a rfl (Ao (AW (AH 1) (Af A5 (AH 0) AJ)) (AW (AH 2) (AH 0))))))))))))))))))) (AR (AU (Ab (Ao (AH 2) (A0 Bi rfl h AAf (BJ (AH 3)))))))))))
theorem oV (F:Z1 K "law" Se f U)(d:Lj P w K Z Y n)(e:V4 P w K Z Y n)(g:Tt P w K Z Y n)(h:M8 P w K Z Y n)(j:Z "all" =none)(k:Z "len" =none)(l:Z "min" =none)(o:Z "range" =none):Z2 P w K Z Y n f U ["_law_script","_law_k","_law_wide","_law_tape_here","_law_one","_law_other","_law_apart_here","_law_plan_here","_law_beside_here","_law_first","_law_second"] 1 FU:=by
 have c:(["_law_far","_law_first","_law_second"] :km Str).Nodup:=by decide +kernel
 exact DZ F DJ rfl λ_ _ _ _ _ _ b a=>(AM (CU AAl rfl (N1 rfl o (BJ (Af A5 AJ (Ah (pR rfl) rfl l boot_min (Ao AJ (Ah Ce rfl k AAw (BJ (AH 0)))))))) (EK 1 a) (AM (Et (AK e b rfl (Ao (AH 0) (AH 1))) (CM (n:=4) rfl (Ad (EK 3 a) (Ad (EK 4 a) (Ad (EK 5 a) (Ad (EK 6 a) Bj)))))) (AM (Et (AK h b rfl (Ao (AH 3) (AH 6))) (CM (n:=2) rfl (Ad (EK 7 a) (Ad (EK 8 a) Bj)))) (AM (Cn 2 a (AK d b rfl (BJ (AH 3)))) (AR (CU AAl rfl (DU (Ab (D8 (Ab (Ao (AH 4) (AH 5))) (Ab (Ao (AH 7) (AH 8))) (Ab (Ao (AH 8) (AH 7)))))) (CM (n:=2) rfl (Ad (EY (i:=9) a rfl (Or.inr rfl)) (Ad (EY (i:=10) a rfl (Or.inr rfl)) Bj))) (AR (Aw (BA (Ap (Ah (Up rfl) rfl j boot_all (BJ (CT (CC rfl (DU (Ab (D8 (AH 6) (AH 2) (AH 6)))) (B7 (own:=1) (ix:= [9,10]) (N:= ["_law_far","_law_first" ,"_law_second" ]) rfl rfl rfl rfl rfl rfl (λ_ _ _ _ _ _=>(JY 0 c)) (λ_ _ _ _ _ _=>BS) (λ_ _ _ _ _ _=>(AK g b rfl (D8 (AH 1) (AH 2) (AH 0))))))))))) (AR (AU CQ)) Aj)))))))) (AR (AU CQ)))
end
def eh {P:gn}{w:fe}{K:AAR}{Z:Str->ke kj}{Y:da}{k:Nat}{x:Str}{st:Stmt}{a:km Str}{sp:Sp}{f:kf}{U:FuncData}(F:Vl K x x st f U)(b:Binds K U a [])(m:Z x=some (.ref f))(G:FA P w K Z Y TR k f U a sp):Has P w K Z Y k x a sp:=⟨f,U,m,F.kp,b,G⟩
theorem Hm {P:gn}{w:fe}{K:AAR}{Z:Str->ke kj}{Y:da}{k0:Nat}{f:kf}{U:FuncData}(F:Vl K "_law_listed" "_law_listed" Dz f U)(b:Binds K U ["_law_thing"] [])(m:Z "_law_listed" =some (.ref f))(a:Z "isinstance" =none)(c:Z "tuple" =none):∀n:Nat,FA P w K Z Y TR (k0+n) f U ["_law_thing"] (Cg K 1 (Az n))
 | 0=>by
   have d:∀vs H Q E,¬Cg K 1 (Az 0) vs H Q E:=λvs H Q E h=>by obtain⟨_,_,_,_,_,_,_,_,h,_⟩:=h;exact h
   exact⟨λvs H Q E h=>absurd h (d vs H Q E),λA outer s H args e vs Q E _ _ _ _ h=>absurd h (d vs H Q E)⟩
 | n+1=>QM (n:=k0+n) F (eh F b m (Hm F b m a c n)) a c
def sG {a:km kj}(hl:a.length=1):∃b:kj,a= [b] :=by match a,hl with | [b],_=>exact⟨_,rfl⟩
def sH {a:km kj}(hl:a.length=2):∃b c:kj,a= [b,c] :=by match a,hl with | [b,c],_=>exact⟨_,_,rfl⟩
def sI {a:km kj}(hl:a.length=3):∃b c d:kj,a= [b,c,d] :=by match a,hl with | [b,c,d],_=>exact⟨_,_,_,rfl⟩
def sJ {a:km kj}(hl:a.length=4):∃b c d e:kj,a= [b,c,d,e] :=by match a,hl with | [b,c,d,e],_=>exact⟨_,_,_,_,rfl⟩
def sK {a:km kj}(hl:a.length=5):∃b c d e f:kj,a= [b,c,d,e,f] :=by match a,hl with | [b,c,d,e,f],_=>exact⟨_,_,_,_,_,rfl⟩
def C8 (K:AAR)(x:Str)(st:Stmt)(f:kf):Prop:=PySem.W.nsIn K mainGlobals x=some (some (.ref f))/\∃U,Vl K x x st f U
def at1 {K:AAR}{x:Str}{st:Stmt}{f:kf}{g:kj}{h i:ke kf}{d:Array (ke kj)}{kV e j b ct:kj}(a:PySem.W.nsIn K mainGlobals x=some (some (.ref f)))(l:K.lookup f=some ⟨g,h, .func (PySem.W.fnOf x x (G7 st) (Ex st) (BY st) .none kV e j i b ct),d⟩)(c:PySem.W.codeIn K b x=true)(k:PySem.W.keepIn K (.ref f)=true):C8 K x st f:=⟨a,_,eJ l c k⟩
def vz {P:gn}{w:fe}{K:AAR}{h Y:da}{Z:Str->ke kj}{k:Nat}{x:Str}{st:Stmt}{c:km Str}{sp:Sp}{f:kf}(A:C8 K x st f)(X:K.In h)(G:h.Ns mainGlobals Z)(g:∀U,Vl K x x st f U->Binds K U c [] ->Z x=some (.ref f)->FA P w K Z Y TR k f U c sp)(b:∀U,Vl K x x st f U->Binds K U c [] :=by exact λ_ F=>F.binds λ_ _ _ _ _ _ d hl=>by first | (obtain⟨_,rfl⟩:=sG hl;rfl)|(obtain⟨_,_,rfl⟩:=sH hl;rfl)|(obtain⟨_,_,_,rfl⟩:=sI hl;rfl)|(obtain⟨_,_,_,_,rfl⟩:=sJ hl;rfl)|(obtain⟨_,_,_,_,_,rfl⟩:=sK hl;rfl)):Has P w K Z Y k x c sp:=
 let ⟨a,U,F⟩:=A;eh F (b U F) (AE1 X G a) (g U F (b U F) (AE1 X G a))
def all_mk {l:PySem.W.OpenLaw}{w:fe}{K:AAR}{h:da}{Z:Str->ke kj}{fa f1 f2 f3 f4 f5 f6 f7 f8 f9 T f11 f12 f13 f14 f15 f16 f17 f18 f19 f20 f21 f22 f23 f24 f25 f26 f27 f28 f29 f30 f31 f32 f33 f34 f35 f36 f37 f38 f39 f40 f41 f42 f43 f44 f45 f46 f47 f48 f49 f50 f51 f52 f53 f54 f55 f56 f57 f58 f59 f60 f61 f62 f63 f64 f65 f66 f67 f68 f69 f70 f71 f72 f73:kf}(X:K.In h)(G:h.Ns mainGlobals Z)(hfa:Z "law" =some (.ref fa))(a1:C8 K "_law_draw" F3 f1)(a2:C8 K "_law_apart" HE f2)(a3:C8 K "_law_part" Ic f3)(a4:C8 K "_law_sum" Kr f4)(a5:C8 K "_law_moved" HG f5)(a6:C8 K "_law_off" Kq f6)(a7:C8 K "_law_place" HH f7)(a8:C8 K "_law_span" Ig f8)(a9:C8 K "_law_plan" Ie f9)(a10:C8 K "_law_product" Fn T)(a11:C8 K "_law_beside" GC f11)(a12:C8 K "_law_tape" F4 f12)(a13:C8 K "_law_case" IZ f13)(a14:C8 K "_law_less" Ia f14)(a15:C8 K "_law_ratio" HI f15)(a16:C8 K "_law_spot" Ih f16)(a17:C8 K "_law_gap" Ko f17)(a18:C8 K "_law_is_near" Fm f18)(a19:C8 K "_law_listed" Dz f19)(a20:C8 K "_law_number" GG f20)(a21:C8 K "_law_lowest" GE f21)(a22:C8 K "_law_offs" Ib f22)(a23:C8 K "_law_rising" GH f23)(a24:C8 K "_law_share" HK f24)(a25:C8 K "_law_turns" HM f25)(a26:C8 K "_law_marks" HF f26)(a27:C8 K "_law_middle" GF f27)(a28:C8 K "_law_near_set" FB f28)(a29:C8 K "_law_is_row" GD f29)(a30:C8 K "_law_row_holds" Ep f30)(a31:C8 K "_law_shows" HL f31)(a32:C8 K "_law_tupled" GI f32)(a33:C8 K "common" Qi f33)(a34:C8 K "part" Yl f34)(a35:C8 K "over" Yk f35)(a36:C8 K "shared_bottom" FC f36)(a37:C8 K "lines_of" Kv f37)(a38:C8 K "minus" Uk f38)(a39:C8 K "size_of" NV f39)(a40:C8 K "before" Qg f40)(a41:C8 K "plus" Ym f41)(a42:C8 K "times" Ul f42)(a43:C8 K "spot_between" Fo f43)(a44:C8 K "spot_at" NW f44)(a45:C8 K "offs_at" NR f45)(a46:C8 K "greater" NN f46)(a47:C8 K "lesser" Qk f47)(a48:C8 K "together" Kx f48)(a49:C8 K "corners_between" EX f49)(a50:C8 K "count_below" GJ f50)(a51:C8 K "rising" Qn f51)(a52:C8 K "turns" Um f52)(a53:C8 K "pieces" Qm f53)(a54:C8 K "longest" NP f54)(a55:C8 K "moment_at" Ii f55)(a56:C8 K "row_of" Qo f56)(a57:C8 K "rows_of" NU f57)(a58:C8 K "near_in" NQ f58)(a59:C8 K "steps_of" HN f59)(a60:C8 K "levels" Ql f60)(a61:C8 K "counted" NM f61)(a62:C8 K "told_set" Ky f62)(a63:C8 K "too_near" Kz f63)(a64:C8 K "whole" Uo f64)(a65:C8 K "parting" NT f65)(a66:C8 K "holds" Uj f66)(a67:C8 K "is_whole" Ku f67)(a68:C8 K "is_part" NO f68)(a69:C8 K "is_row" Qj f69)(a70:C8 K "shows_parting" FD f70)(a71:C8 K "_law_right" HJ f71)(a72:C8 K "_law_wide_pair" Er f72)(M:C8 K "law" Se f73)(x:PySem.W.nsIn K mainGlobals "abs" =some none)(y:PySem.W.nsIn K mainGlobals "all" =some none)(y_bool:PySem.W.nsIn K mainGlobals "bool" =some none)(d:PySem.W.nsIn K mainGlobals "enumerate" =some none)(z:PySem.W.nsIn K mainGlobals "int" =some none)(a:PySem.W.nsIn K mainGlobals "isinstance" =some none)(A:PySem.W.nsIn K mainGlobals "len" =some none)(r:PySem.W.nsIn K mainGlobals "list" =some none)(B:PySem.W.nsIn K mainGlobals "min" =some none)(i:PySem.W.nsIn K mainGlobals "range" =some none)(f:PySem.W.nsIn K mainGlobals "reversed" =some none)(j:PySem.W.nsIn K mainGlobals "tuple" =some none)(C:PySem.W.nsIn K mainGlobals "zip" =some none):∃U:FuncData,(∀(s:ki) (v:kj),BindsTo s U ⟨[v], []⟩ [("_law_script",v)])/\∀Y:da,K.In Y->Y.Ns mainGlobals Z->FA l.prog w K Z Y TR 14 fa U ["_law_script"] (Cg K 1 FU):=by have e:=hfa.symm.trans (AE1 X G M.1);cases e;obtain⟨aL,fdL,FL⟩:=M;obtain⟨⟨oc,od,kV,doc,pm,an,cdv,ct,osl,eL,lL,cL⟩,kL⟩:=FL;subst eL;have FL:=eJ lL cL kL;have I:=ABR X G x;have Jn:=ABR X G y;have Nf:=ABR X G y_bool;have Iu:=ABR X G d;have t:=ABR X G z;have k:=ABR X G a;have g:=ABR X G A;have u:=ABR X G r;have iV:=ABR X G B;have o:=ABR X G i;have K7:=ABR X G f;have c:=ABR X G j;have N:=ABR X G C;refine⟨PySem.W.fnOf "law" "law" (G7 Se) (Ex Se) (BY Se) .none kV doc pm an cdv ct,λs v=> .of_eq rfl,λY _ _=> ?_⟩;have hs:= @vz l.prog w K h Y Z;have D:=hs a1 X G λ_ F _ _=>UL (n:=0) F;have H2:=hs a2 X G λ_ F _ _=>Rb (n:=1) F (A9 D);have E:=hs a3 X G λ_ F _ _=>UO (n:=0) F I t;have H:=hs a4 X G λ_ F _ _=>WU (n:=1) F (A9 E);have H5:=hs a5 X G λ_ F _ _=>Re (n:=2) F (A9 H) o c;have J:=hs a6 X G λ_ F _ _=>WT (n:=1) F (A9 E);have H7:=hs a7 X G λ_ F _ _=>Rf (n:=1) F (A9 D) (A9 E);have H8:=hs a8 X G λ_ F _ _=>UQ (n:=1) F (A9 D) (A9 E);have H9:=hs a9 X G λ_ F _ _=>UP (n:=2) F (A9 D) (A9 H7) (A9 H8) (A9 H) g c;have O:=hs a10 X G λ_ F _ _=>OP (n:=1) F (A9 E);have qB:=hs a11 X G λ_ F _ _=>QJ (n:=3) F (A9 D) (A9 H5) (A9 J) (A9 H7) (A9 H9) (A9 O) (A9 H8) (A9 H) t g K7 c N;have H12:=hs a12 X G λ_ F _ _=>US (n:=0) F I t g;have H13:=hs a13 X G λ_ F _ _=>UK (n:=4) F (A9 H2) (A9 qB) (A9 D) (A9 H9) (A9 H12);have L:=hs a14 X G λ_ F _ _=>UM (n:=0) F;have Q:=hs a15 X G λ_ F _ _=>Rg (n:=1) F (A9 E);have xy:=hs a16 X G λ_ F _ _=>UR (n:=2) F (A9 L) (A9 J) (A9 O) (A9 Q) (A9 H) o c N;have H17:=hs a17 X G λ_ F _ _=>WS (n:=3) F (A9 L) (A9 J) (A9 Q) (A9 xy) I t o;have x5:=hs a18 X G λ_ F _ _=>OO (n:=4) F (A9 H17);have H19:=hs a19 X G λ_ F b m=>Hm (k0:=0) F b m k c 12;have x6:=hs a20 X G λ_ F _ _=>QP (n:=0) F Nf t k;have x8:=hs a21 X G λ_ F _ _=>QN (n:=1) F (A9 x6) (A9 E) k g u c;have x9:=hs a22 X G λ_ F _ _=>UN (n:=3) F (A9 J) (A9 Q) (A9 xy) t o;have yA:=hs a23 X G λ_ F _ _=>QQ (n:=1) F (A9 L) g;have H24:=hs a24 X G λ_ F _ _=>Ri (n:=2) F (A9 J) (A9 O) (A9 Q) (A9 H);have R:=hs a25 X G λ_ F _ _=>Rk (n:=2) F (A9 L) (A9 yA);have H26:=hs a26 X G λ_ F _ _=>Rc (n:=4) F (A9 J) (A9 x9) (A9 yA) (A9 H24) (A9 R) u N;have H27:=hs a27 X G λ_ F _ _=>QO (n:=2) F (A9 O) (A9 H);have H28:=hs a28 X G λ_ F _ _=>NG (n:=5) F (A9 x5) (A9 H26) (A9 H27) t g o c;have H29:=hs a29 X G λ_ F _ _=>QK (n:=2) F (A9 L) (A9 x8) (A9 x6) I k g u c;have H30:=hs a30 X G λ_ F _ _=>L1 (n:=4) F (A9 L) (A9 x9) (A9 R) c;have H31:=hs a31 X G λ_ F _ _=>Rj (n:=5) F (A9 H29) (A9 H30) (A9 R) Jn k g u c;have H32:=hs a32 X G λ_ F _ _=>QR (n:=0) F Jn k c;have vK:=hs a33 X G λ_ F _ _=>bq (n:=0) F;have P:=hs a34 X G λ_ F _ _=>j4 (n:=1) F (A9 vK) I;have vL:=hs a35 X G λ_ F _ _=>j3 (n:=2) F (A9 P);have H36:=hs a36 X G λ_ F _ _=>NH (n:=1) F (A9 vK);have H37:=hs a37 X G λ_ F _ _=>WW (n:=2) F (A9 H36) N;have S:=hs a38 X G λ_ F _ _=>fu (n:=2) F (A9 P);have yB:=hs a39 X G λ_ F _ _=>YU (n:=0) F;have p:=hs a40 X G λ_ F _ _=>bn (n:=0) F;have vM:=hs a41 X G λ_ F _ _=>j5 (n:=2) F (A9 P);have vN:=hs a42 X G λ_ F _ _=>fz (n:=2) F (A9 P);have H43:=hs a43 X G λ_ F _ _=>OQ (n:=3) F (A9 S) (A9 vL) (A9 vM) (A9 vN) c N;have yC:=hs a44 X G λ_ F _ _=>YV (n:=4) F (A9 p) (A9 H43) g o;have H45:=hs a45 X G λ_ F _ _=>YR (n:=5) F (A9 S) (A9 vL) (A9 yB) (A9 yC) o;have H46:=hs a46 X G λ_ F _ _=>YM (n:=1) F (A9 p);have yD:=hs a47 X G λ_ F _ _=>b9 (n:=1) F (A9 p);have yE:=hs a48 X G λ_ F _ _=>WY (n:=2) F (A9 p) (A9 H46) (A9 yD);have H49:=hs a49 X G λ_ F _ _=>KS (n:=1) F (A9 p) c;have H50:=hs a50 X G λ_ F _ _=>QS (n:=1) F (A9 p) g;have yF:=hs a51 X G λ_ F _ _=>cC (n:=2) F (A9 H50) g;have yG:=hs a52 X G λ_ F _ _=>gA (n:=3) F (A9 H49) (A9 yF);have yH:=hs a53 X G λ_ F _ _=>cB (n:=6) F (A9 H37) (A9 H45) (A9 yE) (A9 yG) g o;have H54:=hs a54 X G λ_ F _ _=>YO (n:=1) F (A9 p) Iu;have yI:=hs a55 X G λ_ F _ _=>UT (n:=3) F (A9 S) (A9 P) (A9 vM) (A9 vN);have H56:=hs a56 X G λ_ F _ _=>cD (n:=0) F;have H57:=hs a57 X G λ_ F _ _=>YT (n:=4) F (A9 H54) (A9 yI) (A9 H56);have H58:=hs a58 X G λ_ F _ _=>YQ (n:=4) F (A9 p) (A9 yD) (A9 yI);have H59:=hs a59 X G λ_ F _ _=>WX (n:=0) F;have H60:=hs a60 X G λ_ F _ _=>cA (n:=3) F (A9 yF) (A9 H59) u;have H61:=hs a61 X G λ_ F _ _=>YL (n:=4) F (A9 H60) c;have H62:=hs a62 X G λ_ F _ _=>WZ (n:=5) F (A9 H61);have H63:=hs a63 X G λ_ F _ _=>Wa (n:=7) F (A9 H58) (A9 yH) (A9 H62);have yJ:=hs a64 X G λ_ F _ _=>gB (n:=0) F;have H65:=hs a65 X G λ_ F _ _=>YS (n:=8) F (A9 vL) (A9 yH) (A9 vM) (A9 H57) (A9 H63) (A9 yJ) c;have H66:=hs a66 X G λ_ F _ _=>ft (n:=5) F (A9 p) (A9 S) (A9 yB) (A9 yC) (A9 vN) (A9 yG) (A9 yJ);have yK:=hs a67 X G λ_ F _ _=>WV (n:=0) F Nf t k;have H68:=hs a68 X G λ_ F _ _=>YN (n:=1) F (A9 vK) (A9 yK) I k g u c;have H69:=hs a69 X G λ_ F _ _=>b6 (n:=2) F (A9 H68) (A9 yK) k g u c;have H70:=hs a70 X G λ_ F _ _=>NJ (n:=6) F (A9 p) (A9 H66) (A9 H69) (A9 yE) k g u c;have H71:=hs a71 X G λ_ F _ _=>Rh (n:=12) F (A9 x5) (A9 H19) (A9 x8) (A9 H28) (A9 H31) (A9 H32) (A9 R) (A9 H65) (A9 H70) k g c;have H72:=hs a72 X G λ_ F _ _=>L3 (n:=3) F (A9 D) (A9 H9) (A9 O) (A9 H) t o c;exact oV (n:=13) FL (A9 H2) (A9 H13) (A9 H71) (A9 H72) Jn g iV o
def walk {l:PySem.W.OpenLaw}{q:gn}{loose:km Str}{XP:(Str->ke kj)->da->Prop}{YP:fe->da->Prop}{d:DefRec}{K:Params->AAR}(hn:l.most=some 63)(c:d.params.defaults= [])(e:∀(w:fe) (h:da),YP w h->(K w.params).In h)(F:∀(w:fe) (Z:Str->ke kj) (b:kf) (h:da),(K w.params).In h->h.Ns mainGlobals Z->Z d.name=some (.ref b)-> ∃U:FuncData,(∀(s:ki) (u:kj),BindsTo s U ⟨[u], []⟩ [("_law_script",u)])/\∀Y:da,(K w.params).In Y->Y.Ns mainGlobals Z->FA l.prog w (K w.params) Z Y TR 14 b U ["_law_script"] (Cg (K w.params) 1 FU)):PySem.W.WalkO q loose XP YP l.row.toRowW d [] (λf vs=>PySem.call f vs):=
 L2.walk_of (n:=63) (k:=14) (x:="_law_script") (CX:=λ_=>TR) (sp:=λw=>Cg (K w.params) 1 FU) hn (by decide) c ⟨rfl,by decide,by decide,rfl⟩ e F (λ_ _ a g hl _ i=>PL.law_sp i (fT g hl)) λ_ _ _ _ _ z=>z
def atK {K:AAR}{x:String}{s:Stmt}(m:String)(i c f:Nat)(a:PySem.W.nsIn K mainGlobals (Str.ofString x)=some (some (.ref f)):=by kernel_rfl)(l:K.lookup f=some (fO x s m i c):=by kernel_rfl)(d:PySem.W.codeIn K (.ref c) (Str.ofString x)=true:=by kernel_rfl)(k:PySem.W.keepIn K (.ref f)=true:=by kernel_rfl):C8 K (Str.ofString x) s f:=at1 a l d k
end K25
open PySem PySem.W PyProof.Rows
def K25.lg:LeftO PySem.Challenge.pw_skylanes_k25_partings K25.q [] (λs=>xlAt K25.q [] s&&recOk [] s) (λs=>K25.KA.map s.heap.get?) (λw=>(K25.KK w.params).map λp=>some p.2) 6000:=λw=>PL.map_pair (PL.map5 (K25.l0 w) (K25.l1 w) (K25.l2 w) (K25.l3 w) (K25.l4 w)) (K25.l5 w)
set_option maxRecDepth 100000 in
set_option maxHeartbeats 0 in
theorem PySem.Challenge.cw_skylanes_k25_partings_holds : PySem.Challenge.rw_skylanes_k25_partings.Holds := by
 refine ⟨K25.w1, ?_⟩
 refine PySem.W.holds_open (q:=K25.q) (loose:= []) (Xt:=λs=>xlAt K25.q [] s&&recOk [] s) (XP:=XL K25.q []) (YP:=InK K25.KK) (N:=6000) K25.lg (InK.of (as:=K25.KA) λ_=>by kernel_rfl) InK.keeps (λs e=>xl_of s (Bool.and_eq_true_iff.mp e).1) XL.keeps (by rfl) (by rfl) (by rfl) (λs e=>recFacts_of (Bool.and_eq_true_iff.mp e).2) (by rfl) K25.w0 (by decide +kernel) ⟨rfl,rfl,rfl,rfl,rfl,by decide +kernel⟩ ?hw ?hc
 (case hw=>w_witness2)
 case hc=>
 refine K25.walk (l:=PySem.Challenge.rw_skylanes_k25_partings) (K:=K25.KK) rfl rfl (λw h Y=>Y) ?F
 intro w mg fa h KX G rY
 exact K25.all_mk KX G rY (K25.atK K25.m0 544 275 276) (K25.atK K25.m0 544 345 346) (K25.atK K25.m0 544 282 283) (K25.atK K25.m0 544 296 297) (K25.atK K25.m0 544 355 356) (K25.atK K25.m0 544 303 304) (K25.atK K25.m0 544 324 325) (K25.atK K25.m0 544 331 332) (K25.atK K25.m0 544 338 339) (K25.atK K25.m0 544 310 311) (K25.atK K25.m0 544 360 361) (K25.atK K25.m0 544 268 269) (K25.atK K25.m0 544 367 368) (K25.atK K25.m0 544 289 290) (K25.atK K25.m0 544 317 318) (K25.atK K25.m0 544 350 351) (K25.atK K25.m0 544 374 375) (K25.atK K25.m0 544 417 418) (K25.atK K25.m0 544 465 466) (K25.atK K25.m0 544 431 432) (K25.atK K25.m0 544 438 439) (K25.atK K25.m0 544 389 390) (K25.atK K25.m0 544 379 380) (K25.atK K25.m0 544 396 397) (K25.atK K25.m0 544 384 385) (K25.atK K25.m0 544 403 404) (K25.atK K25.m0 544 410 411) (K25.atK K25.m0 544 424 425) (K25.atK K25.m0 544 445 446) (K25.atK K25.m0 544 450 451) (K25.atK K25.m0 544 455 456) (K25.atK K25.m0 544 470 471) (K25.atK K25.m1 187 27 28) (K25.atK K25.m1 187 34 35) (K25.atK K25.m1 187 69 70) (K25.atK K25.m1 187 104 105) (K25.atK K25.m2 380 192 193) (K25.atK K25.m1 187 55 56) (K25.atK K25.m2 380 180 181) (K25.atK K25.m1 187 76 77) (K25.atK K25.m1 187 48 49) (K25.atK K25.m1 187 62 63) (K25.atK K25.m3 316 123 124) (K25.atK K25.m3 316 130 131) (K25.atK K25.m2 380 185 186) (K25.atK K25.m1 187 90 91) (K25.atK K25.m1 187 83 84) (K25.atK K25.m2 380 168 169) (K25.atK K25.m3 316 135 136) (K25.atK K25.m1 187 111 112) (K25.atK K25.m1 187 118 119) (K25.atK K25.m2 380 173 174) (K25.atK K25.m2 380 197 198) (K25.atK K25.m4 464 230 231) (K25.atK K25.m2 380 204 205) (K25.atK K25.m4 464 223 224) (K25.atK K25.m4 464 235 236) (K25.atK K25.m2 380 211 212) (K25.atK K25.m5 339 142 143) (K25.atK K25.m5 339 147 148) (K25.atK K25.m5 339 154 155) (K25.atK K25.m5 339 161 162) (K25.atK K25.m2 380 216 217) (K25.atK K25.m1 187 41 42) (K25.atK K25.m4 464 240 241) (K25.atK K25.m4 464 254 255) (K25.atK K25.m1 187 20 21) (K25.atK K25.m1 187 97 98) (K25.atK K25.m4 464 247 248) (K25.atK K25.m4 464 261 262) (K25.atK K25.m0 544 477 478) (K25.atK K25.m0 544 460 461) (K25.atK K25.m0 544 482 483) (by kernel_rfl) (by kernel_rfl) (by kernel_rfl) (by kernel_rfl) (by kernel_rfl) (by kernel_rfl) (by kernel_rfl) (by kernel_rfl) (by kernel_rfl) (by kernel_rfl) (by kernel_rfl) (by kernel_rfl) (by kernel_rfl)
end
