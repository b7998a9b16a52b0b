import PyProof.Rows.All
import KE.KItem
import KE.IntBitsLaws
import PySem.Challenge.RW_skylanes_k41_stays_between_bounds
set_option Elab.async false
set_option linter.all false
set_option maxRecDepth 100000
set_option maxHeartbeats 0
abbrev zy:=@List
abbrev zx:=PySem.Value
abbrev zw:=PySem.Shared
abbrev zu:=PySem.Addr
abbrev zt:=@Option
abbrev zr:=PySem.Expr
abbrev zq:=Bool
abbrev zp:=PySem.Program
abbrev zm:=PySem.World
abbrev zl:=PySem.Heap
abbrev zk:=PySem.Around
abbrev AAA:=@PySem.wpAny_bind
abbrev AAB:=PySem.W.Frag
abbrev AAC:=@if_neg
abbrev AAD:=@PySem.wpAny_pure
abbrev AAE:=@if_pos
abbrev AAF:=@List.mem_cons
abbrev AAG:=@PySem.Heap.lt_size
abbrev AAH:=@PySem.Heap.get?_push_of_some
abbrev AAI:=@Nat.le_refl
abbrev AAJ:=@List.length_map
abbrev AAK:=@List.map_cons
abbrev AAL:=@List.pairwise_cons
abbrev AAM:=@Nat.ne_of_lt
abbrev AAN:=@List.mem_map
abbrev AAO:=@List.mem_append
abbrev AAP:=@List.size_toArray
abbrev AAQ:=@PySem.PassesOwn.never
abbrev AAR:=@Bool.false_ne_true
abbrev AAS:=@PySem.Heap.get?_push_size
abbrev AAT:=@List.map_append
abbrev AAU:=@List.getElem?_eq_getElem
abbrev AAV:=@Nat.lt_of_lt_of_le
abbrev AAW:=@List.mem_singleton
abbrev AAX:=@Option.some.inj
abbrev AAY:=@List.getElem?_set_ne
abbrev AAZ:=@List.length_cons
abbrev AAa:=@if_false
abbrev AAb:=@or_false
abbrev AAc:=@List.map_map
abbrev AAd:=@List.not_mem_nil
abbrev AAe:=@Ne.symm
abbrev AAf:=@Bool.and_eq_true
abbrev AAg:=@List.mem_append_right
abbrev AAh:=@List.any_eq_true
abbrev AAi:=@Bool.false_eq_true
abbrev AAj:=@decide_eq_false
abbrev AAk:=@PySem.wpAny_holding
abbrev AAl:=@Nat.le_trans
abbrev AAm:=@List.getElem?_map
abbrev AAn:=@PySem.wpAny_field
abbrev AAo:=@Nat.le_of_ble_eq_true
abbrev AAp:=@List.getElem?_eq_some_iff
abbrev AAq:=@Nat.zero_le
abbrev AAr:=@List.length_append
abbrev AAs:=@Nat.lt_of_le_of_lt
abbrev AAt:=@PySem.F.slot_list_append
abbrev AAu:=@PySem.F.type_list_append
abbrev AAv:=@PySem.W.mg_none_of
abbrev AAw:=@PySem.wpAny_call_entry
abbrev AAx:=@PySem.wpAny_newObj_type
abbrev AAy:=@Nat.ne_of_gt
abbrev AAz:=@Bool.eq_iff_iff
abbrev AA0:=@List.nil_append
abbrev AA1:=@decide_eq_true
abbrev AA2:=@PySem.wpAny_seqItems
abbrev AA3:=@List.foldl_cons
abbrev AA4:=@PyProof.Rows.boot_tuple
abbrev AA5:=@if_true
abbrev AA6:=@List.getElem?_append_right
abbrev AA7:=@List.map_congr_left
abbrev AA8:=@PySem.boot_len
abbrev AA9:=@Bool.not_true
abbrev ABA:=@List.mem_cons_of_mem
abbrev ABB:=@Nat.lt_irrefl
abbrev ABC:=@PySem.Heap.size_push
abbrev ABD:=@List.of_mem_zip
abbrev ABE:=@List.getElem?_append_left
abbrev ABF:=@Rat.num_divInt_den
abbrev ABG:=@List.any_cons
abbrev ABH:=@Option.map_eq_some_iff
abbrev ABI:=@PySem.wpAny_rule
abbrev ABJ:=@PySem.wpAny_truthy_bool
abbrev ABK:=@PySem.wpAny_mono
abbrev ABL:=@PySem.wpAny_standAt
abbrev ABM:=@List.getElem?_replicate
abbrev ABN:=@List.length_replicate
abbrev ABO:=@PySem.wpAny_callSpecial?_slot
abbrev ABP:=@Int.fdiv_eq_ediv_of_nonneg
abbrev ABQ:=@of_decide_eq_true
abbrev ABR:=@of_decide_eq_false
abbrev ABS:=@decide_eq_decide
abbrev ABT:=@List.find?_cons
abbrev ABU:=@List.foldl_append
abbrev ABV:=@Bool.or_eq_true
abbrev ABW:=@List.mem_flatMap
abbrev ABX:=@PySem.wpAny_specialOf
abbrev ABY:=@Array.length_toList
abbrev ABZ:=@List.mem_cons_self
abbrev ABa:=@PySem.wpAny_passesOwn
abbrev ABb:=@List.mem_of_getElem?
abbrev ABc:=@List.map_nil
abbrev ABd:=@List.getElem_mem
abbrev ABe:=@decide_eq_true_eq
abbrev ABf:=@Nat.div_le_self
abbrev ABg:=@Int.natCast_ediv
abbrev ABh:=@List.filter_cons
abbrev ABi:=@PySem.wpAny_isInstance
abbrev ABj:=@PySem.Paired.length
abbrev ABk:=@List.mem_range
abbrev ABl:=@List.getElem?_set_self
abbrev ABm:=@Int.toNat_natCast
abbrev ABn:=@PyProof.Rows.slot_tuple_getitem
abbrev ABo:=@PySem.Heap.get?_update_self
abbrev ABp:=@List.all_eq_true
abbrev ABq:=@List.take_of_length_le
abbrev ABr:=@PySem.wpAny_setField_rec
abbrev ABs:=@Int.natAbs_neg
abbrev ABt:=@Nat.gcd_comm
abbrev ABu:=@Nat.gcd_pos_of_pos_right
abbrev ABv:=@List.getLast?_eq_some_getLast
abbrev ABw:=@List.getLast?_cons_cons
abbrev ABx:=@Int.natAbs_natCast
abbrev ABy:=@Rat.mul_pos_iff_of_pos_left
abbrev ABz:=@List.mem_filter
abbrev AB0:=@Nat.le_of_lt
abbrev AB1:=@PyProof.Rows.callWith_type1
abbrev AB2:=@PySem.Calls.spliced_cons
abbrev AB3:=@List.append_nil
abbrev AB4:=@PySem.mem_of_lookup
abbrev AB5:=@Prod.ext
abbrev AB6:=@PySem.wpAny_typeOf
abbrev AB7:=@PySem.Heap.get?_update_other
abbrev AB8:=@List.getD_eq_getElem?_getD
abbrev AB9:=@PySem.wpAny_pyIter_list
abbrev ACA:=@List.drop_eq_getElem_cons
abbrev ACB:=@Nat.gcd_dvd_right
abbrev ACC:=@List.sum_cons
abbrev ACD:=@List.pairwise_append
abbrev ACE:=@List.map_drop
abbrev ACF:=@Option.isSome_map
abbrev ACG:=@PySem.F.slot_dict_get
abbrev ACH:=@PySem.F.slot_dict_keyiterator_next
abbrev ACI:=@Nat.zero_add
abbrev ACJ:=@Classical.byContradiction
abbrev ACK:=@Rat.mul_eq_zero
abbrev ACL:=@Rat.le_refl
abbrev ACN:=@Int.emod_nonneg
abbrev ACO:=@Int.emod_lt_of_pos
abbrev ACP:=@PySem.W.mg_of
abbrev ACQ:=@PySem.F.slot_tuple_hash
abbrev ACR:=@PySem.wpAny_forIn_list
abbrev ACS:=@PySem.F.slot_tuple_eq
abbrev ACT:=@beq_eq_false_iff_ne
abbrev ACU:=@PySem.wpAny_execs_nil
abbrev ACV:=@List.nodup_cons
abbrev ACW:=@PySem.Calls.callWith_builtin
abbrev ACX:=@List.reverse_cons
abbrev ACY:=@List.forIn_cons
abbrev ACZ:=@Nat.lt_trans
abbrev ACa:=@PySem.F.slot_tuple_iterator_next
abbrev ACb:=@PySem.wpAny_setField
abbrev ACc:=@PySem.Heap.SameBut.update
abbrev ACd:=@PySem.Obj.data_mapFields
abbrev ACe:=@PySem.wpAny_onRaise
abbrev ACf:=@PySem.wpAny_letGo
abbrev ACg:=@PySem.wpAny_attempt
abbrev ACh:=@PySem.F.slot_zip_next
abbrev ACi:=@List.getElem?_set
abbrev ACj:=@Rat.num_divInt
abbrev ACk:=@Rat.div_def
abbrev ACl:=@Nat.le_of_dvd
abbrev ACm:=@Int.natCast_mul
abbrev ACn:=@List.mem_of_getLast?
abbrev ACo:=@List.length_nil
abbrev ACp:=@PySem.call_meetsIn
abbrev ACq:=@PySem.wpAny_typeNameOfWhole_keyiter
abbrev ACr:=@List.getElem?_drop
abbrev ACs:=@PySem.wpAny_pyIter_enum
abbrev ACt:=@decide_eq_true_iff
abbrev ACu:=@List.flatMap_cons
abbrev ACv:=@List.any_eq_false
abbrev ACw:=@List.dropLast_concat_getLast
abbrev ACx:=@Rat.intCast_mul
abbrev ACy:=@Rat.intCast_lt_intCast
abbrev ACz:=@PySem.wpAny_tupleItemsOf
abbrev AC0:=@Array.forIn_toList
abbrev AC1:=@Nat.add_assoc
abbrev AC2:=@PySem.isSubtype_tuple_tuple
abbrev AC3:=@List.getElem?_eq_none_iff
abbrev AC4:=@List.filterMap_cons
abbrev AC5:=@List.mem_append_left
abbrev AC6:=@PySem.wpAny_assign_Name
abbrev AC7:=@Int.fmod_eq_emod_of_nonneg
abbrev AC8:=@PySem.Calls.spliced_nil
abbrev AC9:=@PySem.wpAny_Call_Name_kw
abbrev ADA:=@List.length_take
abbrev ADB:=@PySem.noFill_tuple_add
abbrev ADC:=@PySem.F.slot_tuple_add
abbrev ADD:=@PySem.F.entry_tuple_add
abbrev ADE:=@PySem.F.args_tuple_add_2
abbrev ADF:=@PySem.Calls.evalArgs_plain
abbrev ADG:=@PySem.wpAny_comprehension_free
abbrev ADH:=@PySem.wpAny_updateSeq_pair
abbrev ADI:=@List.drop_eq_nil_of_le
abbrev ADJ:=@List.take_succ_cons
abbrev ADK:=@Nat.pow_le_pow_right
abbrev ADL:=@Int.natAbs_mul
abbrev ADM:=@Rat.den_divInt
abbrev ADN:=@Int.sign_eq_one_of_pos
abbrev ADO:=@List.cons_append
abbrev ADP:=@PySem.F.entry_dict_get
abbrev ADQ:=@PySem.F.args_dict_get_3
abbrev ADR:=@PySem.wpAny_Call_method
abbrev ADS:=@PySem.F.plainAttrs_dict
abbrev ADT:=@PySem.wpAny_dictEntries
abbrev ADU:=@PySem.wpAny_dictEpoch
abbrev ADV:=@PySem.wpAny_updateSeq
abbrev ADW:=@Option.bind_eq_some_iff
abbrev ADX:=@List.map_take
abbrev ADY:=@Prod.mk.injEq
abbrev ADZ:=@Rat.intCast_zero
abbrev ADa:=@List.mem_of_mem_drop
abbrev ADb:=@Rat.mul_le_mul_of_nonneg_left
abbrev ADc:=@PySem.W.cellsFrom_some
abbrev ADd:=@PyProof.noPylong_of_log2
abbrev ADe:=@PySem.F.entry_tuple_iterator_next
abbrev ADf:=@PySem.F.args_tuple_iterator_next_1
abbrev ADg:=@Rat.divInt_add_divInt
abbrev ADh:=@Rat.divInt_mul_divInt
abbrev ADi:=@Int.gcd_eq_natAbs_gcd_natAbs
abbrev ADj:=@Int.fdiv_eq_ediv_of_dvd
abbrev ADk:=@Int.sign_eq_neg_one_of_neg
abbrev ADl:=@Rat.divInt_eq_divInt_iff
abbrev ADm:=@PySem.F.type_dict_get
abbrev ADn:=@PySem.F.entry_dict_keyiterator_next
abbrev ADo:=@PySem.F.args_dict_keyiterator_next_1
abbrev ADp:=@Array.getElem?_eq_getElem
abbrev ADq:=@PySem.F.slot_dict_itemiterator_iter
abbrev ADr:=@PySem.F.slot_dict_items
abbrev ADs:=@List.length_eq_zero_iff
abbrev ADt:=@List.getElem?_zip_eq_some
abbrev ADu:=@PySem.F.slot_list_insert
abbrev ADv:=@PySem.F.type_list_insert
section
namespace L2
open PySem
def Fb (s:Stmt):Arguments:=match s with
 | .FunctionDef _ a _ _ _ _ _ _ _ _=>a
 | _=>{posonlyargs:= [],args:= [],vararg:=none,kwonlyargs:= [],kw_defaults:= [],kwarg:=none,defaults:= [] }
def Dv (s:Stmt):zy Stmt:=match s with
 | .FunctionDef _ _ b _ _ _ _ _ _ _=>b
 | _=> []
def BG (s:Stmt):Scope:=match s with
 | .FunctionDef _ _ _ _ _ _ sc _ _ _=>sc
 | _=>{kind:= .function,names:= [],isGenerator:=false,isCoroutine:=false}
end L2
namespace K41
open PySem L2 PyProof.Rows
abbrev pwA:=PySem.Challenge.pw_skylanes_k41_stays_between_bounds
def top (i:Nat):Stmt:=K41.pwA.main.body.getD i (.Pass ⟨0,0,0,0⟩)
abbrev Ew:Stmt:=top 42
abbrev E7:Stmt:=top 52
abbrev GZ:Stmt:=top 44
abbrev Fi:Stmt:=top 62
abbrev Ga:Stmt:=top 43
abbrev Ef:Stmt:=top 47
abbrev IX:Stmt:=top 45
abbrev Ee:Stmt:=top 59
abbrev E9:Stmt:=top 56
abbrev IU:Stmt:=top 46
abbrev Fn:Stmt:=top 48
abbrev Gf:Stmt:=top 54
abbrev Fh:Stmt:=top 67
abbrev IT:Stmt:=top 53
abbrev Fj:Stmt:=top 63
abbrev Fl:Stmt:=top 49
abbrev Ge:Stmt:=top 50
abbrev Gb:Stmt:=top 51
abbrev Gc:Stmt:=top 55
abbrev Gd:Stmt:=top 68
abbrev IS:Stmt:=top 64
abbrev E8:Stmt:=top 65
abbrev Dq:Stmt:=top 58
abbrev Fk:Stmt:=top 57
abbrev IW:Stmt:=top 60
abbrev IV:Stmt:=top 61
abbrev Dr:Stmt:=top 66
abbrev Ex:Stmt:=top 41
abbrev NQ:Stmt:=top 1
abbrev Uh:Stmt:=top 2
abbrev Ui:Stmt:=top 3
abbrev NP:Stmt:=top 7
abbrev FA:Stmt:=top 9
abbrev NS:Stmt:=top 10
abbrev Fp:Stmt:=top 12
abbrev NR:Stmt:=top 13
abbrev KO:Stmt:=top 14
abbrev Ih:Stmt:=top 15
abbrev Ia:Stmt:=top 16
abbrev NT:Stmt:=top 21
abbrev KP:Stmt:=top 22
abbrev IZ:Stmt:=top 23
abbrev KS:Stmt:=top 24
abbrev Fo:Stmt:=top 25
abbrev Ig:Stmt:=top 26
abbrev IY:Stmt:=top 27
abbrev QY:Stmt:=top 4
abbrev Ug:Stmt:=top 6
abbrev Qa:Stmt:=top 5
abbrev D2:Stmt:=top 33
abbrev Gh:Stmt:=top 34
abbrev Ib:Stmt:=top 32
abbrev D3:Stmt:=top 8
abbrev Ic:Stmt:=top 20
abbrev Gi:Stmt:=top 37
abbrev Ie:Stmt:=top 28
abbrev Gg:Stmt:=top 38
abbrev KQ:Stmt:=top 18
abbrev Ii:Stmt:=top 36
abbrev QZ:Stmt:=top 39
abbrev Oy:Stmt:=top 69
def m0:String:="law_skylanes_k41_stays_between_bounds"
def m1:String:="skylanes.fractions"
def m2:String:="skylanes.stretches"
def m3:String:="skylanes.planes"
def m4:String:="skylanes.wedges"
def m5:String:="skylanes.rooms"
def m6:String:="skylanes.nearness"
def eN (P:Params)(x:String)(i:Nat)(v:zx):DictEntry:=⟨PyData.keyHash P (Str.ofString x), .str (Str.ofString x) i,v⟩
abbrev eR (P:Params)(x:String)(i f:Nat):=eN P x i (.ref f)
def fO (x:String)(s:Stmt)(m:String)(i c:Nat):Obj:=⟨.type "function",none, .func (PySem.W.fnOf (Str.ofString x) (Str.ofString x) (Fb s) (Dv s) (BG s) .none .none .none (.str (Str.ofString m) i) none (.ref c) .none), #[]⟩
def rV:Nat->zx
 | 0=> .none
 | n+1=> .ref (n+1)
def fc (x:String)(s:Stmt)(m:String)(a c f i l n g b d e h j u:Nat)(r:AAB):AAB:=
 (c,⟨.type "code",none, .fields #[.str (Str.ofString x) i, .str (Str.ofString x) (i+1), .str (Str.ofString "/claim/cut.py") (i+2), .int l 0, .int n 0, .int 0 0, .int 0 0, .int g 0,rV b, .bool true, .int 181 0,rV d, .none,rV e,rV h,rV j, .int u 0, .int l 0, .str (Str.ofString "/claim/cut.py") (u+1)], #[]⟩) ::
 (f,fO x s m a c)::r
def oB (P:Params):Obj:=⟨.type "dict",none, .dict #[eN P "__name__" 165 (.str (Str.ofString "law_skylanes_k41_stays_between_bounds") 511),eN P "__doc__" 166 .none,eN P "__package__" 167 .none,eN P "__loader__" 168 (.builtin "__main__.__loader__#opaque"),eN P "__spec__" 169 .none,eR P "__annotations__" 170 6,eR P "__builtins__" 171 4,eN P "__file__" 173 (.str (Str.ofString "/claim/cut.py") 172),eN P "__cached__" 174 .none,eR P "common" 196 21,eR P "part" 205 28,eR P "plus" 213 35,eR P "minus" 221 42,eR P "times" 229 49,eR P "over" 237 56,eR P "before" 245 63,eR P "shared_bottom" 255 70,eR P "count_below" 266 77,eR P "rising" 276 84,eR P "steps_of" 291 91,eR P "levels" 297 96,eR P "counted" 310 103,eR P "told_set" 317 110,eR P "later_by" 329 117,eR P "size_of" 339 124,eR P "plane_of" 347 129,eR P "summed" 353 134,eR P "crossed" 362 141,eR P "is_never" 370 148,eR P "turn_of" 380 155,eR P "is_tighter" 391 162,eR P "tightest" 402 169,eR P "fault_in" 413 176,eR P "range_in" 425 183,eR P "ONCE" 430 184,eR P "BACK" 434 185,eR P "negative" 441 192,eR P "piece_between" 454 199,eR P "pieces_of" 460 204,eR P "walls_of" 473 211,eR P "planes_in" 489 218,eR P "own_stays" 500 225,eR P "stays" 510 232,eR P "_law_tape" 522 239,eR P "_law_draw" 532 246,eR P "_law_part" 543 253,eR P "_law_less" 551 260,eR P "_law_sum" 559 267,eR P "_law_off" 567 274,eR P "_law_product" 575 281,eR P "_law_ratio" 583 288,eR P "_law_place" 591 295,eR P "_law_span" 599 302,eR P "_law_plan" 611 309,eR P "_law_bounds" 619 316,eR P "_law_far" 625 321,eR P "_law_spot" 631 326,eR P "_law_room" 637 331,eR P "_law_rising" 647 338,eR P "_law_marks" 653 343,eR P "_law_is_inside" 659 348,eR P "_law_middles" 665 353,eR P "_law_set" 678 360,eR P "_law_own" 684 365,eR P "_law_is_in" 690 370,eR P "_law_lists" 696 375,eR P "_law_box" 702 380,eR P "_law_may_be" 714 387,eR P "_law_stays_due" 720 392,eR P "_law_comes" 726 397,eR P "_law_same" 734 404,eR P "law" 749 411] 72, #[]⟩
def KK (P:Params):AAB:=(3,oB P)::(fc "_law_draw" Ew m0 511 245 246 523 182 2 3 240 241 242 243 244 530 <| fc "_law_bounds" E7 m0 511 315 316 612 234 1 3 310 311 312 313 314 617 <| fc "_law_less" GZ m0 511 259 260 544 196 2 3 254 255 256 257 258 549 <| fc "_law_is_in" Fi m0 511 369 370 685 302 2 3 366 367 0 0 368 688 <| fc "_law_part" Ga m0 511 252 253 533 190 2 3 247 248 249 250 251 541 <| fc "_law_product" Ef m0 511 280 281 568 202 2 3 275 276 277 278 279 573 <| fc "_law_sum" IX m0 511 266 267 552 198 2 3 261 262 263 264 265 557 <| fc "_law_middles" Ee m0 511 352 353 660 284 1 3 349 350 0 0 351 663 <| fc "_law_rising" E9 m0 511 337 338 638 257 1 3 332 333 334 335 336 645 <| fc "_law_off" IU m0 511 273 274 560 200 2 3 268 269 270 271 272 565 <| fc "_law_ratio" Fn m0 511 287 288 576 204 2 3 282 283 284 285 286 581 <| fc "_law_spot" Gf m0 511 325 326 626 241 2 3 322 323 0 0 324 629 <| fc "_law_comes" Fh m0 511 396 397 721 327 4 3 393 394 0 0 395 724 <| fc "_law_far" IT m0 511 320 321 620 239 1 3 317 318 0 0 319 623 <| fc "_law_lists" Fj m0 511 374 375 691 304 2 3 371 372 0 0 373 694 <| fc "_law_place" Fl m0 511 294 295 584 206 1 3 289 290 291 292 293 589 <| fc "_law_span" Ge m0 511 301 302 592 213 1 3 296 297 298 299 300 597 <| fc "_law_plan" Gb m0 511 308 309 600 218 1 3 303 304 305 306 307 609 <| fc "_law_room" Gc m0 511 330 331 632 250 1 3 327 328 0 0 329 635 <| fc "_law_same" Gd m0 511 403 404 727 341 2 3 398 399 400 401 402 732 <| fc "_law_box" IS m0 511 379 380 697 308 2 3 376 377 0 0 378 700 <| fc "_law_may_be" E8 m0 511 386 387 703 312 3 3 381 382 383 384 385 712 <| fc "_law_is_inside" Dq m0 511 347 348 654 277 4 3 344 345 0 0 346 657 <| fc "_law_marks" Fk m0 511 342 343 648 266 3 3 339 340 0 0 341 651 <| fc "_law_set" IW m0 511 359 360 666 286 3 3 354 355 356 357 358 676 <| fc "_law_own" IV m0 511 364 365 679 298 3 3 361 362 0 0 363 682 <| fc "_law_stays_due" Dr m0 511 391 392 715 317 2 3 388 389 0 0 390 718 <| fc "_law_tape" Ex m0 511 238 239 513 176 2 3 233 234 235 236 237 520 <| fc "common" NQ m1 187 20 21 189 2 2 3 15 16 17 18 19 194 <| fc "part" Uh m1 187 27 28 197 6 2 3 22 23 24 25 26 203 <| fc "plus" Ui m1 187 34 35 206 11 2 3 29 30 31 32 33 211 <| fc "before" NP m1 187 62 63 238 19 2 3 57 58 59 60 61 243 <| fc "count_below" FA m1 187 76 77 256 26 2 3 71 72 73 74 75 264 <| fc "rising" NS m1 187 83 84 267 36 1 3 78 79 80 81 82 274 <| fc "steps_of" Fp m2 277 90 91 279 44 1 3 85 86 87 88 89 289 <| fc "levels" NR m2 277 95 96 292 53 1 3 92 93 0 0 94 295 <| fc "counted" KO m2 277 102 103 298 63 2 3 97 98 99 100 101 308 <| fc "told_set" Ih m2 277 109 110 311 75 1 3 104 105 106 107 108 315 <| fc "later_by" Ia m2 277 116 117 318 77 2 3 111 112 113 114 115 327 <| fc "summed" NT m3 340 133 134 348 90 4 3 130 131 0 0 132 351 <| fc "crossed" KP m3 340 140 141 354 96 3 3 135 136 137 138 139 360 <| fc "is_never" IZ m3 340 147 148 363 98 1 3 142 143 144 145 146 368 <| fc "turn_of" KS m3 340 154 155 371 101 2 3 149 150 151 152 153 378 <| fc "is_tighter" Fo m3 340 161 162 381 105 3 3 156 157 158 159 160 389 <| fc "tightest" Ig m3 340 168 169 392 113 3 3 163 164 165 166 167 400 <| fc "fault_in" IY m3 340 175 176 403 119 2 3 170 171 172 173 174 411 <| fc "minus" QY m1 187 41 42 214 13 2 3 36 37 38 39 40 219 <| fc "over" Ug m1 187 55 56 230 17 2 3 50 51 52 53 54 235 <| fc "times" Qa m1 187 48 49 222 15 2 3 43 44 45 46 47 227 <| fc "piece_between" D2 m4 426 198 199 442 142 2 3 193 194 195 196 197 452 <| fc "pieces_of" Gh m4 426 203 204 455 149 1 3 200 201 0 0 202 458 <| fc "negative" Ib m4 426 191 192 435 140 1 3 186 187 188 189 190 439 <| fc "shared_bottom" D3 m1 187 69 70 246 21 1 3 64 65 66 67 68 253 <| fc "plane_of" Ic m3 340 128 129 342 86 3 3 125 126 0 0 127 345 <| fc "planes_in" Gi m5 461 217 218 474 158 2 3 212 213 214 215 216 487 <| fc "range_in" Ie m3 340 182 183 414 128 2 3 177 178 179 180 181 423 <| fc "own_stays" Gg m5 461 224 225 490 165 2 3 219 220 221 222 223 498 <| fc "size_of" KQ m6 330 123 124 332 83 2 3 118 119 120 121 122 337 <| fc "walls_of" Ii m5 461 210 211 463 152 2 3 205 206 207 208 209 471 <| fc "stays" QZ m5 461 231 232 501 172 2 3 226 227 228 229 230 508 <| fc "law" Oy m0 511 410 411 735 343 1 3 405 406 407 408 409 747 <| [(184,⟨.type "tuple",none, .seq #[(.int 1 428),(.int 1 429)] 0, #[]⟩),(185,⟨.type "tuple",none, .seq #[(.int (-1) 432),(.int 1 433)] 0, #[]⟩)])
def KA:zy zu:= [3,245,246,315,316,259,260,369,370,252,253,280,281,266,267,352,353,337,338,273,274,287,288,325,326,396,397,320,321,374,375,294,295,301,302,308,309,330,331,403,404,379,380,386,387,347,348,342,343,359,360,364,365,391,392,238,239,20,21,27,28,34,35,62,63,76,77,83,84,90,91,95,96,102,103,109,110,116,117,133,134,140,141,147,148,154,155,161,162,168,169,175,176,41,42,55,56,48,49,198,199,203,204,191,192,69,70,128,129,217,218,182,183,224,225,123,124,210,211,231,232,410,411,184,185]
def q:zp:={K41.pwA with main:={K41.pwA.main with body:= [top 1,top 2,top 3,top 4,top 5,top 6,top 7,top 8,top 9,top 10,top 12,top 13,top 14,top 15,top 16,top 18,top 20,top 21,top 22,top 23,top 24,top 25,top 26,top 27,top 28,top 30,top 31,top 32,top 33,top 34,top 36,top 37,top 38,top 39,top 41,top 42,top 43,top 44,top 45,top 46,top 47,top 48,top 49,top 50,top 51,top 52,top 53,top 54,top 55,top 56,top 57,top 58,top 59,top 60,top 61,top 62,top 63,top 64,top 65,top 66,top 67,top 68,top 69] }}
end K41
open PySem PySem.W PyProof.Rows
def K41.se (s:zw):=openSeen K41.q [] (importedModules (K41.pwA).main.body) (λs=>xlAt K41.q [] s&&recOk [] s) true s
def K41.go:=openGood K41.q []
def K41.rn (w:zm):=openEnds treeTable K41.pwA w 6000
def K41.l0:∀w,(K41.rn w).map (λs=>(K41.se s).1)=some (K41.go.1):=by intro w;kernel_rfl
def K41.l1:∀w,(K41.rn w).map (λs=>(K41.se s).2.1)=some (K41.go.2.1):=by intro w;kernel_rfl
def K41.l2:∀w,(K41.rn w).map (λs=>(K41.se s).2.2.1)=some (K41.go.2.2.1):=by intro w;kernel_rfl
def K41.l3:∀w,(K41.rn w).map (λs=>(K41.se s).2.2.2.1)=some (K41.go.2.2.2.1):=by intro w;kernel_rfl
def K41.l4:∀w,(K41.rn w).map (λs=>(K41.se s).2.2.2.2)=some (K41.go.2.2.2.2):=by intro w;kernel_rfl
def K41.l5:∀w,(K41.rn w).map (λs=>K41.KA.map s.heap.get?)=some ((K41.KK w.params).map λp=>some p.2):=by intro w;kernel_rfl
def K41.w1:PySem.Challenge.rw_skylanes_k41_stays_between_bounds.wellSaid=true:=by
 kernel_rfl
def K41.w0:PySem.Challenge.rw_skylanes_k41_stays_between_bounds.row.wellSaid=true:=by
 kernel_rfl
end
namespace PySem
open Sem (wp)
abbrev FK:=(Int×Int)×Int
section
variable {prog:zp}{w:zm}
def Ht (prog:zp)(w:zm)(h:zl)(k:FK)(a:zu):Prop:=∃o items n b u,h.get? a=some o/\o.cls= .type "tuple" /\o.data= .seq items n/\items.toList= [.ref b, .int k.2 u] /\IsTupleKey (intKind prog w) h [k.1.1,k.1.2] b
def Ht.typeIs {s:zw}{k:FK}{a:zu}(x:Ht prog w s.heap k a):s.TypeIs (.ref a) "tuple" :=let ⟨o,_,_,_,_,b,hc,_⟩:=x;⟨o,b,hc⟩
def Ht.inj {h:zl}{a:zu}{x y:FK}(hx:Ht prog w h x a)(hy:Ht prog w h y a):x=y:=by obtain⟨o,items,n,b,u,i,_,hd,hi,hk⟩:=hx;obtain⟨j,c,m,p,r,k,_,e,f,l⟩:=hy;obtain rfl:o=j:=AAX (i.symm.trans k);rw[hd] at e;injection e with h1 _;subst h1;rw[hi] at f;injection f with h1 h2;injection h1 with h1;subst h1;injection h2 with h2 _;injection h2 with h2 _;have:=hk.inj l;obtain⟨⟨s,t⟩,v⟩:=x;obtain⟨⟨y1,y2⟩,y3⟩:=y;injection this with g d;injection d with d _;simp only at h2 g d;subst h2;subst g;subst d;rfl
def Ht.keeps {h h':zl}{k:FK}{a d:zu}{o:Obj}{es ep}(x:Ht prog w h k a)(e:h.get? d=some o)(hd:o.data= .dict es ep)(hs:Heap.SameBut d h h'):Ht prog w h' k a:=by
 obtain⟨f,items,n,b,u,g,hc,c,hi,hk⟩:=x;have i:a≠d:=by rintro rfl;obtain rfl:f=o:=AAX (g.symm.trans e);rw[hd] at c;exact nomatch c
 exact⟨f,items,n,b,u,(hs.2 a i).trans g,hc,c,hi,hk.keeps e hd hs⟩
def Th (prog:zp)(w:zm)(k:FK):Int:=reduceHash (Builtin.Tuple.tupleHashOf [tupleKeyHash (intKind prog w) [k.1.1,k.1.2],hashInt k.2])
variable {A:zk}{E:zx->zw->Prop}{s:zw}
def Lj {k:FK}{a:zu}{Q:Int->zw->Prop}(hu:A.units+1<cLine)(hk:Ht prog w s.heap k a)(h:Q (Th prog w k) {s with toks:=s.toks+5}):wpAny (model prog w) A (pyHash (.ref a)) Q E s:=by
 have f:=hk.typeIs;obtain⟨o,items,n,b,u,i,_,hd,hi,j⟩:=hk;unfold pyHash;first | unfold pyHashByItsType|skip
 first | refine AAA (wpAny_cRoomFor_or (.inr (by omega)) ?_)|skip
 refine AAA (ABX f ACQ.lookup ?_);show wpAny _ _ (if (some (Value.builtin "tuple.__hash__")==some Value.none)=true then _ else _) Q E s;rw[AAC (by rw[beq_builtin_none];exact AAR)];refine AAA (ABX f ACQ.lookup ?_);show wpAny _ _ (callSpecialIfBoundUnlessNone? (.ref a) "__hash__" _ >>= _) Q E s;refine AAA (wpAny_callSpecialIfBoundUnlessNone?_slot f ACQ (AAw ACQ f F.entry_tuple_hash ?_ (F.args_tuple_hash_1 _)));show wpAny _ _ (Builtin.Tuple.tupleItemsOf (.ref a) >>= _) _ _ s;refine AAA (ACz i hd ?_);refine AAA ?_;rw[<-AC0,hi];refine ACR _
  (λrest (r:Array Int) d=>(rest= [.ref b, .int k.2 u] /\r.toList= [] /\d=s)\/(rest= [.int k.2 u] /\r.toList= [tupleKeyHash (intKind prog w) [k.1.1,k.1.2]] /\d={s with toks:=s.toks+3})\/
    (rest= [] /\r.toList= [tupleKeyHash (intKind prog w) [k.1.1,k.1.2],hashInt k.2] /\d={s with toks:=s.toks+4}))
  _ ?_ ?_ _ _ (.inl ⟨rfl,rfl,rfl⟩)
 .rintro x rest r d (⟨c,e,rfl⟩|⟨c,e,rfl⟩|⟨c,_⟩)
  .cases c;refine AAA (wpAny_pyHash_tuple (knd:=intKind prog w) (by first | exact hu|omega) j ?_);exact AAD (.inr (.inl ⟨rfl,by simp[e],rfl⟩))
  .cases c;refine AAA (wpAny_pyHash_int ?_);exact AAD (.inr (.inr ⟨rfl,by simp[e],by simp[AC1]⟩))
  .cases c
 .rintro r d (⟨c,_⟩|⟨c,_⟩|⟨_,e,rfl⟩)
  .cases c
  .cases c
  .show wpAny _ _ (retInt (Builtin.Tuple.tupleHashOf r.toList)) _ _ _;rw[e];refine wpAny_ret_mkInt ?_;show wpAny _ _ (if (decide (-(2:Int)^63<=Builtin.Tuple.tupleHashOf [tupleKeyHash (intKind prog w) [k.1.1,k.1.2],hashInt k.2])&&decide (Builtin.Tuple.tupleHashOf [tupleKeyHash (intKind prog w) [k.1.1,k.1.2],hashInt k.2] < 2^63))=true then _ else _) Q E _;unfold Th reduceHash at h;by_cases g:(decide (-(2:Int)^63<=Builtin.Tuple.tupleHashOf [tupleKeyHash (intKind prog w) [k.1.1,k.1.2],hashInt k.2])&&decide (Builtin.Tuple.tupleHashOf [tupleKeyHash (intKind prog w) [k.1.1,k.1.2],hashInt k.2] < 2^63))=true
   .rw [AAE g];rw[AAE g] at h;exact AAD (by simpa[AC1] using h)
   .rw [AAC g];rw[AAC g] at h;exact AAA (ABI (AAD (by simpa[AC1] using h)))
def Ti {x y:FK}{a b:zu}{P:Fin->zw->Prop}(hu:A.units<cLine)(hx:Ht prog w s.heap x a)(hy:Ht prog w s.heap y b)(h:P (.done (.ret (.bool (decide (x=y))))) s):wpAny (model prog w) A (Builtin.«tuple.__eq__» ⟨[.ref a, .ref b], []⟩) P E s:=by
 have B:=hy.typeIs;obtain⟨Q,xs,R,C,n,D,_,F,o,G⟩:=hx;obtain⟨S,ys,T,H,p,I,_,hdb,t,J⟩:=hy;have K:xs.size=2:=by rw[<-ABY,o];rfl
 have L:ys.size=2:=by rw[<-ABY,t];rfl
 obtain⟨⟨e,f⟩,c⟩:=x;obtain⟨⟨y1,y2⟩,y3⟩:=y;show wpAny _ _ (isInstance (.ref b) (.type "tuple") >>= _) _ _ s;refine AAA (ABi B AC2 ?_);simp only[AA9,AAi,AAa];refine AAA (ACz D F ?_);refine AAA (ACz I hdb ?_);refine AAA ?_;rw[o,t];refine ACR _
  (λrest r g=>r.1=none/\g=s/\(rest= [(.ref C, .ref H),(.int c n, .int y3 p)] \/(rest= [(.int c n, .int y3 p)] /\e=y1/\f=y2)\/(rest= [] /\e=y1/\f=y2/\c=y3)))
  _ ?_ ?_ _ _ ⟨rfl,rfl, .inl rfl⟩
 .rintro ⟨u,v⟩ rest r g ⟨j,rfl,(hz|⟨hz,k,l⟩|⟨hz,_⟩)⟩
  .cases hz;refine AAA (wpAny_eqBool_tuple (knd:=intKind prog w) (by first | exact hu|omega) G J ?_);by_cases hk:e=y1/\f=y2
   .rw [AA1 (by rw[hk.1,hk.2])];simp only[AA9,AAi,AAa];exact AAD ⟨rfl,rfl, .inr (.inl ⟨by first | trivial|rfl,hk⟩)⟩
   .rw [AAj (by intro z;injection z with i d;injection d with d _;exact hk ⟨i,d⟩)];simp only[Bool.not_false,AA5];have m:decide ((((e,f),c):FK)=((y1,y2),y3))=false:=by apply AAj;intro z;injection z with i d;injection i with M N;exact hk ⟨M,N⟩
    rw[m] at h;exact AAA (AAD (AAD (AAD h)))
  .cases hz;refine AAA (wpAny_eqBool_int ?_);by_cases hk:c=y3
   .rw [show (c==y3)=true by simp[hk]];simp only[AA9,AAi,AAa];exact AAD ⟨rfl,rfl, .inr (.inr ⟨by first | trivial|rfl,k,l,hk⟩)⟩
   .rw [show (c==y3)=false by simp[hk]];simp only[Bool.not_false,AA5];have m:decide ((((e,f),c):FK)=((y1,y2),y3))=false:=by apply AAj;intro z;injection z with i d;exact hk d
    rw[m] at h;exact AAA (AAD (AAD (AAD h)))
  .cases hz
 .rintro ⟨U,W⟩ g ⟨j,rfl,(hz|⟨hz,_⟩|⟨_,k,l,O⟩)⟩
  .cases hz
  .cases hz
  .simp only at j;subst j;refine AAD ?_;show P (.done (.ret (.bool (xs.size==ys.size)))) g;rw[K,L];rw[AA1 (by rw[k,l,O])] at h;exact h
def Li {x y:FK}{a b:zu}{Q:zq->zw->Prop}(hu:A.units+1<cLine)(hx:Ht prog w s.heap x a)(hy:Ht prog w s.heap y b)(h:Q (decide (x=y)) s):wpAny (model prog w) A (eqBool (.ref a) (.ref b)) Q E s:=by
 unfold eqBool;try with_reducible refine AAk ?_
 show wpAny _ _ (if (Value.ref a==Value.ref b)=true then _ else _) Q E s;by_cases c:(Value.ref a==Value.ref b)=true
 .rw [AAE c];have e:a=b:=by have:=eq_of_beq c;injection this
  subst e;obtain rfl:=hx.inj hy;exact AAA (ABI (AAD (by simpa using h)))
 .rw [AAC c];exact AAA (wpAny_richCompare_same_room (op:= .Eq) hx.typeIs hy.typeIs ACS
   (AAw ACS hx.typeIs F.entry_tuple_eq (Ti (by first | exact hu|omega) hx hy ⟨_,rfl,(λe=>nomatch e),ABJ h⟩) (F.args_tuple_eq_2 _ _)) (by omega))
def Fv {K:Type}[DecidableEq K]{knd:KeyKind prog w K}{f:zy K}{a:zu}{Q:zq->zw->Prop}(m:Nat)(hk:IsTupleKey knd s.heap f a)(h:Q true s):wpAny (model prog w) A (eqIsQuiet (m+1) (.ref a)) Q E s:=by
 have d:=hk.typeIs;obtain⟨o,items,n,g,_,hd,hi⟩:=hk;unfold eqIsQuiet;refine AAA (ABX d ACS.lookup ?_);show wpAny _ _ (isInstance (.ref a) (.type "tuple") >>= _) _ _ s;refine AAA (ABi d AC2 ?_);simp only[AA9,AAi,AAa];refine AAA (AA2 g hd ?_);refine AAA ?_;show wpAny _ _ (forIn items _ _) _ _ s;rw[<-AC0];refine ACR _ (λrest r b=>r.1=none/\b=s/\∀v∈rest,carriedByValue v=true) _ ?_ ?_ _ _ ⟨rfl,rfl,hi.byValue⟩
 .rintro v rest r b ⟨c,rfl,e⟩;rw[eqIsQuiet_byValue _ (e v ABZ)];refine AAA (AAD ?_);simp only[AA9,AAi,AAa];exact AAD ⟨rfl,rfl,λu i=>e u (ABA _ i)⟩
 .rintro ⟨j,k⟩ b ⟨c,rfl,_⟩;simp only at c;subst c;exact AAD h
def Ip {k:FK}{a:zu}{Q:zq->zw->Prop}(hk:Ht prog w s.heap k a)(h:Q true s):wpAny (model prog w) A (eqIsQuiet 8 (.ref a)) Q E s:=by
 have e:=hk.typeIs;obtain⟨o,items,n,b,u,f,_,hd,hi,g⟩:=hk;unfold eqIsQuiet;refine AAA (ABX e ACS.lookup ?_);show wpAny _ _ (isInstance (.ref a) (.type "tuple") >>= _) _ _ s;refine AAA (ABi e AC2 ?_);simp only[AA9,AAi,AAa];refine AAA (AA2 f hd ?_);refine AAA ?_;show wpAny _ _ (forIn items _ _) _ _ s;rw[<-AC0,hi];refine ACR _ (λrest r c=>r.1=none/\c=s/\(rest= [.ref b, .int k.2 u] \/rest= [.int k.2 u] \/rest= [])) _ ?_ ?_ _ _ ⟨rfl,rfl, .inl rfl⟩
 .rintro v rest r c ⟨d,rfl,(hz|hz|hz)⟩
  .cases hz;refine AAA (Fv (knd:=intKind prog w) 6 g ?_);simp only[AA9,AAi,AAa];exact AAD ⟨rfl,rfl, .inr (.inl (by first | trivial|rfl))⟩
  .cases hz;rw[eqIsQuiet_byValue _ rfl];refine AAA (AAD ?_);simp only[AA9,AAi,AAa];exact AAD ⟨rfl,rfl, .inr (.inr (by first | trivial|rfl))⟩
  .cases hz
 .rintro ⟨i,j⟩ c ⟨d,rfl,_⟩;simp only at d;subst d;exact AAD h
end
def fkKind (prog:zp)(w:zm):HeapKind prog w FK where
 is:=Ht prog w
 hash:=Th prog w
 draws:=λ_=>5
 room:=λA=>A.units+1<cLine
 inj:=λhx hy=>hx.inj hy
 keeps:=λx a hd hs=>x.keeps a hd hs
 pyHash:=λhu hk h=>Lj hu hk h
 eqBool:=λhu hx hy h=>Li hu hx hy h
 quiet:=λhk h=>Ip hk h
def DC {prog:zp}{w:zm}{A:zk}(h:A.units+2<cLine):(fkKind prog w).room A.in1:=by show A.units+1+1<cLine;omega
end PySem
namespace L2
open PySem PySem.Spec PyProof.Rows
abbrev Cf:=Sum Int Str
def Ou:Cf->zx->zq
 | .inl k,v=>Value.isInt k v
 | .inr x,v=>Value.isStrOf x v
def nP (w:zm):Cf->Int
 | .inl k=>hashInt k
 | .inr x=>hashStr w x
def Bm:∀{k:Cf} {v:zx},Ou k v=true->(∃i t,k=Sum.inl i/\v=Value.int i t)\/(∃x t,k=Sum.inr x/\v=Value.str x t)
 | .inl i,v,h=>by obtain⟨t,e⟩:=Value.isInt_shape (k:=i) (v:=v) h;exact .inl ⟨i,t,rfl,e⟩
 | .inr x,v,h=>by obtain⟨t,e⟩:=Value.isStrOf_shape (x:=x) (v:=v) h;exact .inr ⟨x,t,rfl,e⟩
def W6 (i:Int)(t:Tok):Ou (.inl i) (.int i t)=true:=by simp[Ou,Value.isInt]
def W7 (x:Str)(t:Tok):Ou (.inr x) (.str x t)=true:=by simp[Ou,Value.isStrOf]
def gE (a b:Int):decide ((Sum.inl a:Cf)=Sum.inl b)=(a==b):=by
 by_cases e:a=b
 .subst e;simp
 .have h:¬(Sum.inl a:Cf)=Sum.inl b:=λq=>e (Sum.inl.inj q);rw[AAj h];exact(ACT.mpr e).symm
def gH (a b:Str):decide ((Sum.inr a:Cf)=Sum.inr b)=decide (a=b):=by
 by_cases e:a=b
 .subst e;simp
 .have h:¬(Sum.inr a:Cf)=Sum.inr b:=λq=>e (Sum.inr.inj q);rw[AAj h,AAj e]
def gF (a:Int)(b:Str):decide ((Sum.inl a:Cf)=Sum.inr b)=false:=AAj (λq=>nomatch q)
def gG (a:Str)(b:Int):decide ((Sum.inr a:Cf)=Sum.inl b)=false:=AAj (λq=>nomatch q)
def A4 (prog:zp)(w:zm):PySem.KeyKind prog w Cf where
 is:=Ou
 hash:=nP w
 inj:=λv a b ha hb=>by
  rcases Bm ha with⟨i,t,rfl,rfl⟩|⟨x,t,rfl,rfl⟩
  .rcases Bm hb with⟨j,u,rfl,e⟩|⟨y,u,rfl,e⟩
   .injection e with c _;rw[c]
   .exact nomatch e
  .rcases Bm hb with⟨j,u,rfl,e⟩|⟨y,u,rfl,e⟩
   .exact nomatch e
   .injection e with c _;rw[c]
 byValue:=λk v h=>by rcases Bm h with⟨i,t,rfl,rfl⟩|⟨x,t,rfl,rfl⟩ <;> rfl
 pyHash:=λhv h=>by
  rcases Bm hv with⟨i,t,rfl,rfl⟩|⟨x,t,rfl,rfl⟩
  .exact wpAny_pyHash_int h
  .exact wpAny_pyHash_str h
 eqBool:=λhu hv h=>by
  rcases Bm hu with⟨i,t,rfl,rfl⟩|⟨x,t,rfl,rfl⟩
  .rcases Bm hv with⟨j,u,rfl,rfl⟩|⟨y,u,rfl,rfl⟩
   .rw [gE] at h;exact wpAny_eqBool_int h
   .rw [gF] at h;exact SeqAt.EqAt.int_str i t y u _ _ _ _ h
  .rcases Bm hv with⟨j,u,rfl,rfl⟩|⟨y,u,rfl,rfl⟩
   .rw [gG] at h;exact SeqAt.EqAt.str_int x t j u _ _ _ _ h
   .rw [gH] at h;exact wpAny_eqBool_str h
 «strs»:=λk x t v h=>by
  rcases Bm h with⟨i,u,rfl,e⟩|⟨y,u,rfl,e⟩
  .exact nomatch e
  .injection e with c _;subst c;cases v <;> rfl
def Rs (prog:zp)(w:zm)(i:Int)(t:Tok):(A4 prog w).is (.inl i) (.int i t)=true:=W6 i t
def Rt (prog:zp)(w:zm)(x:Str)(t:Tok):(A4 prog w).is (.inr x) (.str x t)=true:=W7 x t
inductive V where
 | non|bl (b:Bool)|int (i:Int)|str (x:Str)|byt (b:Array UInt8)|flt (b:UInt64)|ref (a:Addr)|ty (n:String)
 deriving DecidableEq
def RelV:V->zx->Prop
 | .non,u=>u=Value.none
 | .bl b,u=>u=Value.bool b
 | .int i,u=>∃t,u=Value.int i t
 | .str x,u=>∃t,u=Value.str x t
 | .byt b,u=>∃t,u=Value.bytes b t
 | .flt b,u=>∃t,u=Value.float b t
 | .ref a,u=>u=Value.ref a
 | .ty n,u=>u=Value.type n
abbrev Ao:zy V->zy zx->Prop:=Paired RelV
def Ao.length {xs:zy V}{us:zy zx}(r:Ao xs us):xs.length=us.length:=ABj r
theorem Ao.get:∀{xs:zy V} {us:zy zx} {i:Nat} {x:V},Ao xs us->xs[i]? =some x->∃u,us[i]? =some u/\RelV x u
 | _,_,_,_, .nil,e=>by simp at e
 | _,_,0,_, .cons r _,e=>by simp at e;subst e;exact⟨_,rfl,r⟩
 | _,_,i+1,x, .cons _ t,e=>by obtain⟨u,h1,h2⟩:=Ao.get (i:=i) (x:=x) t (by simpa using e);exact⟨u,by simpa using h1,h2⟩
theorem Ao.set {x:V}{u:zx}(r:RelV x u):∀{xs:zy V} {us:zy zx} (i:Nat),Ao xs us->Ao (xs.set i x) (us.set i u)
 | _,_,_, .nil=> .nil
 | _,_,0, .cons _ t=> .cons r t
 | _,_,i+1, .cons q t=> .cons q (Ao.set r i t)
theorem Ao.append:∀{xs ys:zy V} {us a:zy zx},Ao xs us->Ao ys a->Ao (xs++ys) (us++a)
 | _,_,_,_, .nil,s=>s
 | _,_,_,_, .cons r t,s=> .cons r (Ao.append t s)
theorem Ao.take:∀{xs:zy V} {us:zy zx} (n:Nat),Ao xs us->Ao (xs.take n) (us.take n)
 | _,_,0,_=> .nil
 | _,_,_+1, .nil=> .nil
 | _,_,n+1, .cons r t=> .cons r (Ao.take n t)
theorem Ao.drop:∀{xs:zy V} {us:zy zx} (n:Nat),Ao xs us->Ao (xs.drop n) (us.drop n)
 | _,_,0,r=>r
 | _,_,_+1, .nil=> .nil
 | _,_,n+1, .cons _ t=>Ao.drop n t
def Ao.none_of:∀{xs:zy V} {us:zy zx} {i:Nat},Ao xs us->xs[i]? =none->us[i]? =none:=λ{xs us i} r e=>by have h1:=r.length;have h2:xs.length<=i:=AC3.mp e;exact AC3.mpr (by omega)
def LX:zt V->zt zx->Prop
 | some v,some u=>RelV v u
 | none,none=>True
 | _,_=>False
def KV {a:Type}:zy (a×V)->zy (a×zx)->Prop:=Paired λ(p:a×V) (q:a×zx)=>p.1=q.1/\RelV p.2 q.2
def kV:Cf->V
 | .inl i=> .int i
 | .inr x=> .str x
inductive HO where
 | lst (xs:List V)
 | tup (xs:List V)
 | dK (kvs:List (Cf×V))|dT (kvs:List (List Cf×V))|dN (K:AAB) (kvs:List (PySem.FK×V))
 | set (S:Int->Bool) (n:Nat)
 | ins (C dx:Addr) (fs:List (Str×V))
 | own (x:Addr)
 | xd (fs:List (Str×V))
 | met (f x:Addr)
 | rng (lo hi:Int)
 | frz (o:Obj) (u:HO)
 | tbl (ps:Array Value)
 | ext (φ:Heap->Prop)
abbrev Hp:=zu->zt HO
def upd (H:Hp)(a:zu)(o:HO):Hp:=λb=>if b=a then some o else H b
def Ab {H:Hp}{a:zu}{o:HO}:upd H a o a=some o:=by unfold upd;rw[AAE rfl]
def Ad {H:Hp}{a b:zu}{o:HO}(h:b≠a):upd H a o b=H b:=by unfold upd;rw[AAC h]
def dw {H:Hp}{a b:zu}{o u:HO}(h:H a=some o)(h':H b=some u)(d:o≠u):a≠b:=by intro e;subst e;rw[h] at h';exact d (AAX h')
def Ah {H:Hp}{a b:zu}{o:HO}(h:H a=some o)(h':H b=none):a≠b:=by intro e;subst e;rw[h] at h';cases h'
def X2 (K:AAB)(H:Hp)(b:zu)(t d:Int):Prop:=H b=some (.tup [.int t, .int d])\/∃(o:Obj) (a:Array zx) (n:Nat),K.lookup b=some o/\o.cls= .type "tuple" /\o.data= .seq a n/\Ao [.int t, .int d] a.toList
def FX (K:AAB)(H:Hp)(a:zu)(k:PySem.FK):Prop:=∃b,H a=some (.tup [.ref b, .int k.2])/\X2 K H b k.1.1 k.1.2
def FX.stay {K:AAB}{H c:Hp}{a:zu}{k:PySem.FK}(x:FX K H a k)(d:∀b xs,H b=some (.tup xs)->c b=some (.tup xs)):FX K c a k:=let ⟨b,h1,h2⟩:=x;⟨b,d _ _ h1,h2.elim (λz=> .inl (d _ _ z)) .inr⟩
section
variable (P:zp)(w:zm)
def B4 (H:Hp)(h:zl)(a:zu):HO->Prop
 | .lst xs=>xs.length<=sizeLine/\∃(b:zy zx) (n:Nat),Ao xs b/\h.get? a=some {cls:= .type "list",data:= .seq b.toArray n}
 | .tup xs=>xs.length<=sizeLine/\∃b:zy zx,Ao xs b/\IsTup h a b.toArray
 | .dK kvs=>kvs.length<=sizeLine/\(a==sysModules)=false/\∃vs,KV kvs vs/\h.DictOf (A4 P w) a vs
 | .dT kvs=>kvs.length<=sizeLine/\(a==sysModules)=false/\∃xs:zy (zy Cf×zu×zx),
     Paired (λ(p:zy Cf×V) (q:zy Cf×zu×zx)=>p.1=q.1/\H q.2.1=some (.tup (p.1.map kV))/\RelV p.2 q.2.2) kvs xs/\
     ∃o es ep,h.get? a=some o/\o.ExactDict/\o.data= .dict es ep/\es.toList=xs.map (entryOfKey (tupleKind (A4 P w)))/\(xs.map (·.1)).Nodup
 | .dN K kvs=>kvs.length<=sizeLine/\(a==sysModules)=false/\∃xs:zy (PySem.FK×zu×zx),Paired (λ(p:PySem.FK×V) (q:PySem.FK×zu×zx)=>p.1=q.1/\FX K H q.2.1 p.1/\RelV p.2 q.2.2) kvs xs/\∃o es ep,h.get? a=some o/\o.ExactDict/\o.data= .dict es ep/\es.toList=xs.map (entryOfKey (PySem.fkKind P w))/\(xs.map (·.1)).Nodup
 | .set S n=>h.SetOf (intKind P w) a S n
 | .ins C e d=>H e=some (.own a)/\d.length<=1000/\e≠a/\h.get? a=some (PySem.W.instObj C e)/\
     ∃c,h.Ns1 e c/\(∀f,LX (d.lookup f) (c f))/\PySem.Within c (d.map (·.1))
 | .own _=>∃o,h.get? a=some o
 | .xd d=>∃c,h.Ns1 a c/\∀f,LX (d.lookup f) (c f)
 | .rng lo hi=>∃t u v,h.get? a=some {cls:= .type "range",data:= .fields #[.int lo t, .int hi u, .int 1 v] }
 | .frz o u=>h.get? a=some o/\B4 H h a u
 | .tbl i=>h.get? a=some {cls:= .none,data:= .fields i}
 | .met f x=>h.get? a=some (PySem.W.methodObj (.ref f) (.ref x))
 | .ext g=>g h/\(∃o,h.get? a=some o)/\∀h1 h2:zl,g h1->(∀o,h1.get? a=some o->h2.get? a=some o)->g h2
def Hs (H:Hp)(h:zl):Prop:=∀a o,H a=some o->B4 P w H h a o
end
section
variable {P:zp}{w:zm}{H H':Hp}{h h':zl}{a:zu}{o:HO}
def B4.lt (x:B4 P w H h a o):a<h.objs.size:=by
 cases o with
 | lst xs=>obtain⟨_,_,_,_,e⟩:=x;exact AAG e
 | tup xs=>obtain⟨_,_,_,p⟩:=x;exact p.lt
 | dK kvs=>obtain⟨_,_,_,_,o,_,_,e,_⟩:=x;exact AAG e
 | dT kvs=>obtain⟨_,_,_,_,o,_,_,e,_⟩:=x;exact AAG e
 | dN K kvs=>obtain⟨_,_,_,_,o,_,_,e,_⟩:=x;exact AAG e
 | set S n=>obtain⟨o,_,_,_,e,_⟩:=x;exact AAG e
 | ins C c b=>obtain⟨_,_,_,e,_⟩:=x;exact AAG e
 | own y=>obtain⟨_,e⟩:=x;exact AAG e
 | xd b=>obtain⟨_,⟨_,_,_,e,_⟩,_⟩:=x;exact AAG e
 | rng lo hi=>obtain⟨_,_,_,e⟩:=x;exact AAG e
 | frz d u=>obtain⟨e,_⟩:=x;exact AAG e
 | tbl g=>exact AAG (show h.get? a=some _ from x)
 | met f y=>exact AAG (show h.get? a=some _ from x)
 | ext i=>obtain⟨_,⟨_,e⟩,_⟩:=x;exact AAG e
theorem Paired.mapP {d e:Type}{F G:d->e->Prop}:∀{l₁:zy d} {c:zy e},Paired F l₁ c->(∀a b,F a b->G a b)->Paired G l₁ c
 | _,_, .nil,_=> .nil
 | _,_, .cons r t,f=> .cons (f _ _ r) (Paired.mapP t f)
def B4.stay (x:B4 P w H h a o)(k:∀b u,(b=a\/H b=some (.own a))->h.get? b=some u->h'.get? b=some u)(A:∀b,H b=some (.own a)->H' b=some (.own a))(m:∀b xs,H b=some (.tup xs)->H' b=some (.tup xs)):B4 P w H' h' a o:=by
 induction o with
 | lst xs=>obtain⟨z,i,n,r,e⟩:=x;exact⟨z,i,n,r,k _ _ (.inl rfl) e⟩
 | tup xs=>obtain⟨z,i,r,g,e,c⟩:=x;exact⟨z,i,r,g,k _ _ (.inl rfl) e,c⟩
 | dK kvs=>obtain⟨z,y,vs,r,g,es,ep,e,c⟩:=x;exact⟨z,y,vs,r,g,es,ep,k _ _ (.inl rfl) e,c⟩
 | dT kvs=> obtain⟨z,y,xs,r,g,es,ep,e,c⟩:=x;exact⟨z,y,xs,Paired.mapP r λp q z=>⟨z.1,m _ _ z.2.1,z.2.2⟩,g,es,ep,k _ _ (.inl rfl) e,c⟩
 | dN K kvs=> obtain⟨z,y,xs,r,g,es,ep,e,c⟩:=x;exact⟨z,y,xs,Paired.mapP r λp q z=>⟨z.1,z.2.1.stay m,z.2.2⟩,g,es,ep,k _ _ (.inl rfl) e,c⟩
 | set S n=>obtain⟨g,es,ep,t,e,c⟩:=x;exact⟨g,es,ep,t,k _ _ (.inl rfl) e,c⟩
 | ins C F B=> obtain⟨d,z,D,e,j,⟨l,es,ep,E,c⟩,r⟩:=x;exact⟨A _ d,z,D,k _ _ (.inl rfl) e,j,⟨l,es,ep,k _ _ (.inr d) E,c⟩,r⟩
 | own y=>obtain⟨g,e⟩:=x;exact⟨g,k _ _ (.inl rfl) e⟩
 | xd B=>obtain⟨j,⟨l,es,ep,e,c⟩,r⟩:=x;exact⟨j,⟨l,es,ep,k _ _ (.inl rfl) e,c⟩,r⟩
 | rng lo hi=>obtain⟨t,u,v,e⟩:=x;exact⟨t,u,v,k _ _ (.inl rfl) e⟩
 | frz g u ih=>obtain⟨e,q⟩:=x;exact⟨k _ _ (.inl rfl) e,ih q⟩
 | tbl s=> have e:h.get? a=some {cls:= .none,data:= .fields s}:=x;show h'.get? a=some {cls:= .none,data:= .fields s};exact k a _ (.inl rfl) e
 | met f y=> have e:h.get? a=some (PySem.W.methodObj (.ref f) (.ref y)):=x;show h'.get? a=some (PySem.W.methodObj (.ref f) (.ref y));exact k a _ (.inl rfl) e
 | ext G=>obtain⟨p,⟨o,e⟩,st⟩:=x;exact⟨st _ _ p λo q=>k _ _ (.inl rfl) q,⟨o,k _ _ (.inl rfl) e⟩,st⟩
def Hs.lt (x:Hs P w H h)(e:H a=some o):a<h.objs.size:=(x a o e).lt
def Hs.fresh (x:Hs P w H h)(e:h.objs.size<=a):H a=none:=by
 cases q:H a with
 | none=>rfl
 | some u=>exact absurd (AAV (x.lt q) e) (ABB _)
def Hs.kept (x:Hs P w H h)(k:∀b u,h.get? b=some u->h'.get? b=some u):Hs P w H h':=λa o e=>
 (x a o e).stay (λb u _ q=>k b u q) (λ_ q=>q) λ_ _ q=>q
def Hs.laid (x:Hs P w H h)(k:∀b u,h.get? b=some u->h'.get? b=some u)(hp:h.objs.size<=a)(new:B4 P w (upd H a o) h' a o):Hs P w (upd H a o) h':=λb u e=>by
 have d:=x.fresh hp;by_cases hb:b=a
 .subst hb;rw[Ab] at e;cases e;exact new
 .rw [Ad hb] at e;exact(x b u e).stay (λc v _ q=>k c v q) (λc q=>by rw[Ad (Ah q d)];exact q) λc xs q=>by rw[Ad (Ah q d)];exact q
end
def Rd (H:Hp)(a:zu)(u:HO):Prop:=H a=some u\/∃o,H a=some (.frz o u)
def Rd.ok {P:zp}{w:zm}{H:Hp}{h:zl}{a:zu}{u:HO}(r:Rd H a u)(x:Hs P w H h):B4 P w H h a u:=by
 rcases r with r|⟨o,r⟩
 .exact x a u r
 .obtain ⟨_,q⟩:=x a _ r;exact q
def jN:zt HO->Prop
 | some (.lst _)=>True
 | some (.dK _)=>True
 | some (.dT _)=>True
 | some (.dN _ _)=>True
 | some (.set _ _)=>True
 | some (.ins _ _ _)=>True
 | some (.ext _)=>True
 | _=>False
section
variable {P:zp}{w:zm}{H:Hp}{h h':zl}{x e:zu}{o':HO}
def Hs.write (ok:Hs P w H h)(f:jN (H x))(he:e=x\/H e=some (.own x))(k:∀b u,b≠e->h.get? b=some u->h'.get? b=some u)(j:∃u,h'.get? e=some u)(new:B4 P w (upd H x o') h' x o'):Hs P w (upd H x o') h':=λb u q=>by
 have a:∀c y,H c=some (.own y)->c≠x:=λc y r z=>by subst z;rw[r] at f;exact f
 have d:∀c xs,H c=some (.tup xs)->c≠x:=λc xs r z=>by subst z;rw[r] at f;exact f
 by_cases hb:b=x
 .subst hb;rw[Ab] at q;cases q;exact new
 .rw [Ad hb] at q;by_cases g:b=e
  .have i:H b=some (.own x):=by
    rcases he with z|z
    .exact absurd (g.trans z) hb
    .rw [g];exact z
   rw[q] at i;cases i;obtain⟨v,hv⟩:=j;exact⟨v,by rw[g];exact hv⟩
  .refine (ok b u q).stay (λc v hc r=>k c v ?_ r) (λc r=>by rw[Ad (a c b r)];exact r) λc xs r=>by rw[Ad (d c xs r)];exact r
   rcases hc with rfl|hc
   .exact g
   .rintro rfl;rcases he with z|z
    .exact a c b hc z
    .rw [hc] at z;cases z;exact hb rfl
end
structure Un (fs ex:List Addr) (H H':Hp) (h h':Heap):Prop where
 keep:∀b o,h.get? b=some o->H b=none->b ∉ fs->b ∉ ex->h'.get? b=some o
 slot:∀b o,h.get? b=some o->H b=none->b∈fs->b ∉ ex->∃sl,h'.get? b=some {o with slots:=sl}
 free:∀b o,h.get? b=some o->H b=none->b ∉ ex->H' b=none
 there:∀b o,h.get? b=some o->b ∉ ex->∃o',h'.get? b=some o'
 tups:∀b xs,H b=some (.tup xs)->H' b=some (.tup xs)
 frzs:∀b o u,H b=some (.frz o u)->H' b=some (.frz o u)
 tbls:∀b ps,H b=some (.tbl ps)->∃more,H' b=some (.tbl (ps++more))
section
variable {fs fs' ex ex':zy zu}{H H1 H2:Hp}{h h1 h2 h':zl}{a x e:zu}{o:HO}
def Un.any (u:Un fs ex H H1 h h1){b:zu}{c:Obj}(q:h.get? b=some c)(n:H b=none)(hx:b ∉ ex):∃d,h1.get? b=some {c with slots:=d}:=by
 by_cases hb:b∈fs
 .exact u.slot b c q n hb hx
 .exact ⟨c.slots,u.keep b c q n hb hx⟩
def Un.kept (k:∀b u,h.get? b=some u->h'.get? b=some u):Un fs ex H H h h':=
 ⟨λb c q _ _ _=>k b c q,λb c q _ _ _=>⟨c.slots,k b c q⟩,λ_ _ _ n _=>n,λb c q _=>⟨c,k b c q⟩,λ_ _ q=>q,λ_ _ _ q=>q,λ_ d q=>⟨#[],by rw[q];simp⟩⟩
def Un.refl:Un fs ex H H h h:=Un.kept λ_ _ q=>q
def Un.laid (k:∀b u,h.get? b=some u->h'.get? b=some u)(hp:h.objs.size<=a)(c:H a=none):Un fs ex H (upd H a o) h h' where
 keep:=λb u q _ _ _=>k b u q
 slot:=λb u q _ _ _=>⟨u.slots,k b u q⟩
 free:=λb u q n _=>by rw[Ad (AAM (AAV (AAG q) hp))];exact n
 there:=λb u q _=>⟨u,k b u q⟩
 tups:=λb xs q=>by rw[Ad (Ah q c)];exact q
 frzs:=λb u xs q=>by rw[Ad (Ah q c)];exact q
 tbls:=λb d q=>⟨#[],by rw[Ad (Ah q c),q];simp⟩
def Un.write (c:jN (H x))(he:e=x\/H e=some (.own x))(k:∀b u,b≠e->h.get? b=some u->h'.get? b=some u)(g:∃u,h'.get? e=some u):Un fs ex H (upd H x o) h h':=by
 have hx:∀b,H b=none->b≠x:=λb n z=>by subst z;rw[n] at c;exact c
 have hb:∀b,H b=none->b≠e:=λb n z=>by
  subst z;rcases he with r|r
  .exact hx b n r
  .rw [n] at r;cases r
 have d:∀b u,H b=some u->¬jN (some u)->b≠x:=λb u q i z=>by subst z;rw[q] at c;exact i c
 refine⟨λb u q n _ _=>k b u (hb b n) q,λb u q n _ _=>⟨u.slots,k b u (hb b n) q⟩,λb u q n _=>by rw[Ad (hx b n)];exact n,λb u q _=> ?_,
  λb xs q=>by rw[Ad (d b _ q λz=>z)];exact q,λb u xs q=>by rw[Ad (d b _ q λz=>z)];exact q,λb j q=>⟨#[],by rw[Ad (d b _ q λz=>z),q];simp⟩⟩
 by_cases f:b=e
 .subst f;exact g
 .exact ⟨u,k b u f q⟩
end
def lh (h:zl)(H:Hp):zy zu:=(List.range h.objs.size).filter λa=>(H a).isSome
def Pp (h:zl)(H:Hp):zl:=PySem.W.hideAll h (lh h H)
def Wz (h:zl)(H:Hp):(Pp h H).objs.size=h.objs.size:=PySem.W.hideAll_size _ _
def Yh {h:zl}{H:Hp}{b:zu}{o:Obj}(e:h.get? b=some o)(n:H b=none):(Pp h H).get? b=some o:=
 PySem.W.hideAll_get _ e λa=>by have q:(H b).isSome=true:=(ABz.mp a).2;rw[n] at q;simp at q
def cI {h:zl}{H:Hp}{b:zu}{o:Obj}(e:(Pp h H).get? b=some o):h.get? b=some o/\H b=none:=by
 have a:h.get? b=some o:=PySem.W.of_hideAll (lh h H) e;refine⟨a, ?_⟩;cases q:H b with
 | none=>rfl
 | some x=> have c:b∈lh h H:=ABz.mpr ⟨ABk.mpr (AAG a),by simp[q]⟩;have z:(Pp h H).get? b=none:=PySem.W.hideAll_none (lh h H) c;rw[z] at e;cases e
def bE (g h:zl)(L:zu):zy (zu×Obj):=(List.range h.objs.size).filterMap λa=>if a=L\/(g.get? a).isSome=true then none else (h.get? a).map λo=>(a,o)
def rest (g h:zl)(L d:zu):zy (zu×Obj):=(bE g h L).filter λp=>decide (p.1≠d)
structure Mod (K:AAB) (mg:Str->Option Value) (base:Heap):Prop where
 kin:K.In base
 glob:base.Ns mainGlobals mg
 blt:∃mb,base.Ns builtinsNs mb/\∀x:Str,x≠"__name__" ->mb x=bootBuiltins x
 nolimit:base.NoLimit
structure Cx where
 prog:Program
 w:World
 K:AAB
 mg:Str->Option Value
 base:Heap
 A:Around
 N:List Str
 s₀:Shared
 H₀:Hp
 env:Env
 outer:List Env
 stack:List Env
 ex:List Addr
 fn:Str->Bool
 calm:Bool
 pn:List (Addr×Obj)
 xe:Value->Shared->Prop
def Xh (l:zy Env):zy zu:=l.filterMap (·.frame)
abbrev Cx.fs (X:Cx):zy zu:=Xh X.outer
def ig (sc:Scope)(x:Str):Prop:=sc.names.lookup x=some .local\/sc.names.lookup x=some .cell\/sc.names.lookup x=some .free
def Loc (sc:Scope)(x:Str):Prop:=sc.names.lookup x=some .local\/sc.names.lookup x=some .cell
def Look (env:Env)(h:zl)(m:Str->zt zx)(x:Str)(u:zx):Prop:=
 (env.kindOf x=some .local/\m x=some u)\/((env.kindOf x=some .cell\/env.kindOf x=some .free)/\∃c,env.cells.lookup x=some c/\h.IsCell c (some u))
structure Cx.Ok (X:Cx):Prop where
 mod:Mod X.K X.mg X.base
 kind:X.env.scope.kind= .function
 glob:X.env.globals=mainGlobals
 blt:X.env.builtins=builtinsNs
 above:X.s₀.heap.objs.size<=X.env.locals
 inj:∀x y c,X.env.cells.lookup x=some c->X.env.cells.lookup y=some c->x=y
 has:∀x,(X.env.kindOf x=some .cell\/X.env.kindOf x=some .free)->∃c,X.env.cells.lookup x=some c
 cab:∀x c,X.fn x=true->X.env.cells.lookup x=some c->X.s₀.heap.objs.size<=c
 hd:X.calm=true->X.A.handled=none
 frames:X.A.frames=some X.stack
 stk:X.stack=X.outer\/(X.stack=X.env::X.outer/\X.env.frame=some X.env.locals)
 exf:∀b∈X.ex,b≠X.env.locals/\∀x c,X.env.cells.lookup x=some c->c≠b
 bs:∀b o,X.base.get? b=some o->X.s₀.heap.get? b=some o/\X.H₀ b=none
 bsz:X.base.objs.size<=X.s₀.heap.objs.size
 noex:∀b o,X.base.get? b=some o->b ∉ X.ex
 exfs:∀b∈X.ex,b ∉ X.fs
 funs:X.s₀.heap.FunFrames X.base X.outer
 frf:∀b∈X.fs,X.H₀ b=none
structure Inv (X:Cx) (zj:List (Addr×Obj)) (σ:List (Option V)) (H:Hp) (s:Shared):Prop where
 ok:X.Ok
 os:s.os=X.s₀.os
 bare:AllBare s.gens
 base:Un X.fs X.ex X.H₀ H X.s₀.heap s.heap
 loc:∃m,s.heap.Ns X.env.locals m/\∀(i:Nat) (x:Str) (v:V),X.N[i]? =some x->σ[i]? =some (some v)->ig X.env.scope x->∃u,RelV v u/\Look X.env s.heap m x u
 cell:∀x c,X.env.cells.lookup x=some c->∃v,s.heap.IsCell c v
 free:H X.env.locals=none
 freeC:∀x c,X.env.cells.lookup x=some c->H c=none
 pin:∀p∈X.pn++zj,s.heap.get? p.1=some p.2/\H p.1=none/\p.1≠X.env.locals/\p.1 ∉ X.fs/\∀v,p.2.data≠ .cell v
 hok:Hs X.prog X.w H s.heap
 len:σ.length=X.N.length
section
variable {X:Cx}{zj:zy (zu×Obj)}{σ:zy (zt V)}{H H':Hp}{s:zw}{h':zl}
def Cx.Ok.nofr (ok:X.Ok){b:zu}{o:Obj}(e:X.base.get? b=some o):b ∉ X.fs:=λhb=>by have:=(ok.funs.mem hb).1;rw[e] at this;cases this
def Inv.bs (I:Inv X zj σ H s):∀b o,X.base.get? b=some o->s.heap.get? b=some o/\H b=none:=λb o e=>
 ⟨I.base.keep b o (I.ok.bs b o e).1 (I.ok.bs b o e).2 (I.ok.nofr e) (I.ok.noex b o e),I.base.free b o (I.ok.bs b o e).1 (I.ok.bs b o e).2 (I.ok.noex b o e)⟩
def Inv.bk (I:Inv X zj σ H s):∀b o,X.base.get? b=some o->s.heap.get? b=some o:=λb o e=>(I.bs b o e).1
def Inv.mod (I:Inv X zj σ H s):Mod X.K X.mg X.base:=I.ok.mod
def Inv.kIn (I:Inv X zj σ H s):X.K.In s.heap:=I.ok.mod.kin.keeps I.bk
def Inv.nolimit (I:Inv X zj σ H s):s.heap.NoLimit:=I.ok.mod.nolimit.keeps I.bk
def Inv.lt (I:Inv X zj σ H s):X.env.locals<s.heap.objs.size:=let ⟨_,a,_⟩:=I.loc;a.lt
def Inv.sz (I:Inv X zj σ H s):X.s₀.heap.objs.size<=s.heap.objs.size:=AAl I.ok.above (AB0 I.lt)
def Inv.nofs (I:Inv X zj σ H s){a:zu}(h:s.heap.objs.size<=a):a ∉ X.fs:=λhb=>by obtain⟨_,o,b,_⟩:=I.ok.funs.mem hb;exact absurd (AAV (AAG b) (AAl I.sz h)) (ABB _)
def Inv.cne (I:Inv X zj σ H s):∀x c,X.env.cells.lookup x=some c->c≠X.env.locals:=λx c e z=>by obtain⟨v,o,a,hd⟩:=I.cell x c e;obtain⟨m,⟨f,es,ep,b,d,_⟩,_⟩:=I.loc;rw[z,b] at a;cases a;rw[d] at hd;cases hd
def Inv.funs (I:Inv X zj σ H s):s.heap.FunFrames X.base X.outer:=by
 have all:∀(l:zy Env),(∀b∈Xh l,b∈X.fs)->X.s₀.heap.FunFrames X.base l->s.heap.FunFrames X.base l:=by
  intro l;induction l with
  | nil=>intro _ _;trivial
  | cons env r ih=> intro hs hl;obtain⟨hk,⟨L,o,a,d,f,hd⟩,g⟩:=hl;have c:L∈X.fs:=hs L (by unfold Xh;rw[AC4,a];exact ABZ);obtain⟨h,e⟩:=I.base.slot L o f (I.ok.frf L c) c λz=>I.ok.exfs L z c;exact⟨hk,⟨L,_,a,d,e,hd⟩,ih (λb hb=>hs b (by unfold Xh;rw[AC4,a];exact ABA _ hb)) g⟩
 exact all X.outer (λ_ hb=>hb) I.ok.funs
def Inv.stack (I:Inv X zj σ H s):s.heap.FunFrames X.base X.stack:=by
 rcases I.ok.stk with e|⟨e,a⟩
 .rw [e];exact I.funs
 .rw [e];obtain⟨m,b,_⟩:=I.loc;refine .cons (by rw[I.ok.kind];decide) a b ?_ I.funs;exact Heap.get?_none_of_le (AAl I.ok.bsz I.ok.above)
def Inv.stkSub (I:Inv X zj σ H s):∀b∈Xh X.stack,b∈X.env.locals::X.fs:=λb hb=>by
 rcases I.ok.stk with e|⟨e,a⟩
 .rw [e] at hb;exact ABA _ hb
 .rw [e] at hb;unfold Xh at hb;rw[AC4,a] at hb;exact hb
def Inv.stkFree (I:Inv X zj σ H s):∀b∈Xh X.stack,H b=none:=λb hb=>by
 rcases AAF.mp (I.stkSub b hb) with e|hb
 .rw [e];exact I.free
 .obtain ⟨_,o,a,_⟩:=I.ok.funs.mem hb;exact I.base.free b o a (I.ok.frf b hb) λz=>I.ok.exfs b z hb
def Inv.step {g':Array GenState}{t':Nat}{d':Drawn}{ch:zy zu}(I:Inv X zj σ H s)(j:∀b∈ch,(b∈X.ex\/X.s₀.heap.objs.size<=b)/\b≠X.env.locals/\(∀x c,X.env.cells.lookup x=some c->c≠b)/\∀p∈X.pn++zj,p.1≠b)(keep:∀b o,b≠X.env.locals->b ∉ X.fs->b ∉ ch->s.heap.get? b=some o->H b=none->h'.get? b=some o)(slot:∀b o,b≠X.env.locals->b∈X.fs->b ∉ ch->s.heap.get? b=some o->H b=none->∃C,h'.get? b=some {o with slots:=C})(free:∀b o,b ∉ ch->s.heap.get? b=some o->H b=none->H' b=none)(there:∀b o,b ∉ ch->s.heap.get? b=some o->∃t,h'.get? b=some t)(tups:∀b xs,H b=some (.tup xs)->H' b=some (.tup xs))(frzs:∀b o u,H b=some (.frz o u)->H' b=some (.frz o u))(tbls:∀b B,H b=some (.tbl B)->∃more,H' b=some (.tbl (B++more)))(G:∀m,s.heap.Ns X.env.locals m->h'.Ns X.env.locals m)(hok:Hs X.prog X.w H' h')(J:AllBare g'):Inv X zj σ H' {s with heap:=h',gens:=g',drawn:=d',toks:=t'}:=by
 have y:∀b o,X.s₀.heap.get? b=some o->b≠X.env.locals:=λb o e=>AAM (AAV (AAG e) I.ok.above);have f:∀b o,X.s₀.heap.get? b=some o->b ∉ X.ex->b ∉ ch:=λb o e hx hb=>by
  rcases (j b hb).1 with z|z
  .exact hx z
  .exact absurd (AAV (AAG e) z) (ABB _)
 have cellK:∀x c,X.env.cells.lookup x=some c->∀v,s.heap.IsCell c v->h'.IsCell c v:=λx c e v ⟨o,h,hd⟩=>by
  have a:c ∉ ch:=λz=>(j c z).2.2.1 x c e rfl;by_cases hc:c∈X.fs
  .obtain ⟨C,q⟩:=slot c o (I.cne x c e) hc a h (I.freeC x c e);exact⟨_,q,hd⟩
  .exact ⟨o,keep c o (I.cne x c e) hc a h (I.freeC x c e),hd⟩
 refine⟨I.ok,I.os,J,⟨λb o e n hb hx=> ?_,λb o e n hb hx=> ?_,λb o e n hx=> ?_,λb o e hx=> ?_,λb xs e=>tups b xs (I.base.tups b xs e),λb o xs e=>frzs b o xs (I.base.frzs b o xs e),λb B e=> ?_⟩, ?_,λx c e=> ?_, ?_,λx c e=> ?_,λp hp=> ?_,hok,I.len⟩
 .exact keep b o (y b o e) hb (f b o e hx) (I.base.keep b o e n hb hx) (I.base.free b o e n hx)
 .obtain ⟨C,g⟩:=I.base.slot b o e n hb hx;obtain⟨D,A⟩:=slot b _ (y b o e) hb (f b o e hx) g (I.base.free b o e n hx);exact⟨D,A⟩
 .obtain ⟨t,g⟩:=I.base.there b o e hx;exact free b t (f b o e hx) g (I.base.free b o e n hx)
 .obtain ⟨t,g⟩:=I.base.there b o e hx;exact there b t (f b o e hx) g
 .obtain ⟨m1,g⟩:=I.base.tbls b B e;obtain⟨m2,A⟩:=tbls b _ g;exact⟨m1++m2,by rw[A,Array.append_assoc]⟩
 .obtain ⟨m,K,hl⟩:=I.loc;refine⟨m,G m K,λi x v g A L=> ?_⟩;obtain⟨u,r,l⟩:=hl i x v g A L;refine⟨u,r, ?_⟩;rcases l with l|⟨k,c,e,z⟩
  .exact .inl l
  .exact .inr ⟨k,c,e,cellK x c e _ z⟩
 .obtain ⟨v,z⟩:=I.cell x c e;exact⟨v,cellK x c e v z⟩
 .obtain ⟨m,⟨o,_,_,h,_⟩,_⟩:=I.loc;exact free _ o (λz=>(j _ z).2.1 rfl) h I.free
 .obtain ⟨v,o,h,hd⟩:=I.cell x c e;exact free c o (λz=>(j c z).2.2.1 x c e rfl) h (I.freeC x c e)
 .obtain ⟨e,n,E,F,d⟩:=I.pin p hp;have a:p.1 ∉ ch:=λz=>(j p.1 z).2.2.2 p hp rfl;exact⟨keep p.1 p.2 E F a e n,free p.1 p.2 a e n,E,F,d⟩
def Inv.un {t':Nat}(I:Inv X zj σ H s)(u:Un X.fs [] H H' s.heap h')(hok:Hs X.prog X.w H' h'):Inv X zj σ H' {s with heap:=h',toks:=t'}:=by
 obtain⟨m,⟨o,es,ep,d,r⟩,_⟩:=id I.loc;obtain⟨j,g⟩:=u.any d I.free (by simp);exact I.step (g':=s.gens) (d':=s.drawn) (ch:= []) (λ_ z=>nomatch z) (λb o _ hb _ e n=>u.keep b o e n hb (by simp)) (λb o _ hb _ e n=>u.slot b o e n hb (by simp)) (λb o _ e n=>u.free b o e n (by simp)) (λb o _ e=>u.there b o e (by simp)) u.tups u.frzs u.tbls (λk h=>by
  obtain⟨l,a,c,f,i⟩:=h;rw[d] at f;cases f;exact⟨_,a,c,g,i⟩) hok I.bare
def Inv.call {g':Array GenState}{t':Nat}{d':Drawn}{ch:zy zu}(I:Inv X zj σ H s)(u:Un (Xh X.stack) ch H H' s.heap h')(hok:Hs X.prog X.w H' h')(j:AllBare g')(g:∀b∈ch,(b∈X.ex\/X.s₀.heap.objs.size<=b)/\b≠X.env.locals/\(∀x c,X.env.cells.lookup x=some c->c≠b)/\∀p∈X.pn++zj,p.1≠b):Inv X zj σ H' {s with heap:=h',gens:=g',drawn:=d',toks:=t'}:=by
 obtain⟨m,⟨o,es,ep,h,r⟩,_⟩:=id I.loc;obtain⟨t,a⟩:=u.any h I.free λz=>(g _ z).2.1 rfl;exact I.step (ch:=ch) g (λb o a hb hc e n=>u.keep b o e n (λz=>(AAF.mp (I.stkSub b z)).elim a hb) hc) (λb o _ _ hc e n=>u.any e n hc) (λb o hc e n=>u.free b o e n hc) (λb o hc e=>u.there b o e hc) u.tups u.frzs u.tbls (λv k=>by
  obtain⟨y,d,f,i,l⟩:=k;rw[h] at i;cases i;exact⟨_,d,f,a,l⟩) hok j
def Inv.turned {t':Nat}{it:zu}(I:Inv X zj σ H s)(k:∀b o,b≠it->s.heap.get? b=some o->h'.get? b=some o)(f:H it=none)(d:it≠X.env.locals)(h1:it∈X.ex\/X.s₀.heap.objs.size<=it)(h2:∀x c,X.env.cells.lookup x=some c->c≠it)(g:∀p∈X.pn++zj,p.1≠it):Inv X zj σ H {s with heap:=h',toks:=t'}:=by
 have a:∀b u,H b=some u->b≠it:=λb u e z=>by rw[z,f] at e;cases e
 refine I.step (g':=s.gens) (d':=s.drawn) (ch:= [it]) (λb hb=> ?_) (λb o _ _ hc e _=>k b o (λz=>hc (by simp[z])) e) (λb o _ _ hc e _=>⟨o.slots,k b o (λz=>hc (by simp[z])) e⟩) (λ_ _ _ _ n=>n)
  (λb o hc e=>⟨o,k b o (λz=>hc (by simp[z])) e⟩) (λ_ _ e=>e) (λ_ _ _ e=>e) (λb j e=>⟨#[],by rw[e];simp⟩) (λm h=> ?_) (λb u e=> ?_) I.bare
 .have e:b=it:=by simpa using hb
  subst e;exact⟨h1,d,h2,g⟩
 .obtain ⟨o,es,ep,i,r⟩:=h;exact⟨o,es,ep,k _ o (AAe d) i,r⟩
 .refine (I.hok b u e).stay (λc v hc q=>k c v ?_ q) (λ_ q=>q) λ_ _ q=>q;rcases hc with z|z
  .rw [z];exact a b u e
  .exact a c _ z
def Inv.tok (I:Inv X zj σ H s)(t:Nat):Inv X zj σ H {s with toks:=t}:=I.un (h':=s.heap) (t':=t) Un.refl I.hok
def Inv.kept {t':Nat}(I:Inv X zj σ H s)(k:∀b u,s.heap.get? b=some u->h'.get? b=some u):Inv X zj σ H {s with heap:=h',toks:=t'}:=I.un (Un.kept k) (I.hok.kept k)
def Inv.laid {a:zu}{o:HO}{t':Nat}(I:Inv X zj σ H s)(k:∀b u,s.heap.get? b=some u->h'.get? b=some u)(hp:s.heap.objs.size<=a)(new:B4 X.prog X.w (upd H a o) h' a o):Inv X zj σ (upd H a o) {s with heap:=h',toks:=t'}:=I.un (Un.laid k hp (I.hok.fresh hp)) (I.hok.laid k hp new)
def Inv.write {x e:zu}{o:HO}{t':Nat}(I:Inv X zj σ H s)(a:jN (H x))(he:e=x\/H e=some (.own x))(k:∀b u,b≠e->s.heap.get? b=some u->h'.get? b=some u)(c:∃u,h'.get? e=some u)(new:B4 X.prog X.w (upd H x o) h' x o):Inv X zj σ (upd H x o) {s with heap:=h',toks:=t'}:=I.un (Un.write a he k c) (I.hok.write a he k c new)
def Inv.weak {σ':zy (zt V)}(I:Inv X zj σ H s)(hl:σ'.length=σ.length)(w:∀(i:Nat) v,σ'[i]? =some (some v)->σ[i]? =some (some v)):Inv X zj σ' H s:=
 ⟨I.ok,I.os,I.bare,I.base,let ⟨m,a,b⟩:=I.loc;⟨m,a,λi x v c d e=>b i x v c (w i v d) e⟩,I.cell,I.free,I.freeC,I.pin,I.hok,hl.trans I.len⟩
def Inv.pins_of {a:zy (zu×Obj)}(I:Inv X zj σ H s)(h:∀p∈a,s.heap.get? p.1=some p.2/\H p.1=none/\p.1≠X.env.locals/\p.1 ∉ X.fs/\∀v,p.2.data≠ .cell v):Inv X a σ H s:=
 ⟨I.ok,I.os,I.bare,I.base,I.loc,I.cell,I.free,I.freeC,λp hp=>(AAO.mp hp).elim (λz=>I.pin p (AC5 _ z)) (h p),I.hok,I.len⟩
def Rv {N:zy Str}(hN:N.Nodup){i j:Nat}{x:Str}(a:N[i]? =some x)(b:N[j]? =some x):i=j:=by obtain⟨h1,c⟩:=AAp.mp a;obtain⟨h2,d⟩:=AAp.mp b;exact(List.getElem_inj hN).mp (c.trans d.symm)
def Kb {M:Model}{A:zk}{E:zx->zw->Prop}{i:Nat}{x:Str}{v:V}{u:zx}{Q:Unit->zw->Prop}(I:Inv X zj σ H s)(hN:X.N.Nodup)(hi:X.N[i]? =some x)(hx:Loc X.env.scope x)(r:RelV v u)(h:∀F,Inv X zj (σ.set i (some v)) H F->(∃a,Heap.SameBut a s.heap F.heap/\(a=X.env.locals\/X.env.cells.lookup x=some a))->Q () F)(hf:X.fn x=true\/X.env.scope.names.lookup x=some .local:=by first | exact .inl rfl|exact .inr rfl|assumption):wpAny M A (storeName X.env x u) Q E s:=by
 obtain⟨m,G,hl⟩:=id I.loc;have mY:(X.env.scope.kind == .class||(X.env.scope.kind == .module&&X.env.locals != X.env.globals))=false:=by rw[I.ok.kind];rfl
 have l:i<σ.length:=by rw[I.len];exact(AAp.mp hi).1
 have t:=I.cne;have tracked:∀{a:zu} {h':zl},(∃o,s.heap.get? a=some o/\H a=none)->Heap.SameBut a s.heap h'->Hs X.prog X.w H h':=λ{a h'} ha hs b ob e=>by
  obtain⟨_,_,U⟩:=ha;refine(I.hok b ob e).stay (λc B hc q=>(hs.2 c ?_).trans q) (λ_ q=>q) λ_ _ q=>q;rintro rfl;rcases hc with rfl|hc
  .rw [U] at e;cases e
  .rw [U] at hc;cases hc
 rcases hx with hk|hk
 .refine wpAny_storeName_local hk G (λh' uO hs=> ?_) mY;obtain⟨oL,_,_,uQ,_⟩:=id G;refine h _ ⟨I.ok,I.os,I.bare,⟨λb o e n hb hx=> ?_,λb o e n hb hx=> ?_,I.base.free,λb o e hx=> ?_,I.base.tups,I.base.frzs,I.base.tbls⟩,⟨_,uO,λj y J f g K=> ?_⟩,λy c e=> ?_,I.free,I.freeC,λp hp=> ?_,tracked ⟨oL,uQ,I.free⟩ hs,by simpa using I.len⟩ ⟨_,hs, .inl rfl⟩
  .exact (hs.2 b (AAM (AAV (AAG e) I.ok.above))).trans (I.base.keep b o e n hb hx)
  .obtain ⟨L,f⟩:=I.base.slot b o e n hb hx;exact⟨L,(hs.2 b (AAM (AAV (AAG e) I.ok.above))).trans f⟩
  .obtain ⟨O,f⟩:=I.base.there b o e hx;exact⟨O,(hs.2 b (AAM (AAV (AAG e) I.ok.above))).trans f⟩
  .by_cases hj:j=i
   .subst hj;rw[hi] at f;cases f;rw[ABl l] at g;cases g;exact⟨u,r, .inl ⟨hk,by simp⟩⟩
   .rw [AAY (AAe hj)] at g;obtain⟨P,R,q⟩:=hl j y J f g K;refine⟨P,R, ?_⟩;rcases q with⟨k,e⟩|⟨k,c,e,z⟩
    .refine .inl ⟨k, ?_⟩;have:y≠x:=λe=>hj (Rv hN f (e ▸ hi));simp[this,e]
    .exact .inr ⟨k,c,e,z.sameBut hs (t y c e)⟩
  .obtain ⟨B,z⟩:=I.cell y c e;exact⟨B,z.sameBut hs (t y c e)⟩
  .obtain ⟨e,n,C,S,d⟩:=I.pin p hp;exact⟨(hs.2 p.1 C).trans e,n,C,S,d⟩
 .have T:X.fn x=true:=by
   rcases hf with z|z
   .exact z
   .rw [z] at hk;cases hk
  obtain⟨c,hc⟩:=I.ok.has x (.inl hk);obtain⟨B,z⟩:=I.cell x c hc;refine wpAny_storeName_cell I.ok.kind hk hc z (λh' W hs=> ?_);obtain⟨Y,Z,m8⟩:=id z;refine h {s with heap:=h'} ⟨I.ok,I.os,I.bare,⟨λb o e n hb hx=> ?_,λb o e n hb hx=> ?_,I.base.free,λb o e hx=> ?_,I.base.tups,I.base.frzs,I.base.tbls⟩,⟨m,G.sameBut hs (AAe (t x c hc)),λj y J f g K=> ?_⟩,λy D e=> ?_,I.free,I.freeC,λp hp=> ?_,tracked ⟨Y,Z,I.freeC x c hc⟩ hs,by simpa using I.len⟩ ⟨c,hs, .inr hc⟩
  .exact (hs.2 b (AAM (AAV (AAG e) (I.ok.cab x c T hc)))).trans (I.base.keep b o e n hb hx)
  .obtain ⟨L,f⟩:=I.base.slot b o e n hb hx;exact⟨L,(hs.2 b (AAM (AAV (AAG e) (I.ok.cab x c T hc)))).trans f⟩
  .obtain ⟨O,f⟩:=I.base.there b o e hx;exact⟨O,(hs.2 b (AAM (AAV (AAG e) (I.ok.cab x c T hc)))).trans f⟩
  .by_cases hj:j=i
   .subst hj;rw[hi] at f;cases f;rw[ABl l] at g;cases g;exact⟨u,r, .inr ⟨.inl hk,c,hc,W⟩⟩
   .rw [AAY (AAe hj)] at g;obtain⟨P,R,q⟩:=hl j y J f g K;refine⟨P,R, ?_⟩;rcases q with q|⟨k,D,e,z'⟩
    .exact .inl q
    .refine .inr ⟨k,D,e,z'.sameBut hs ?_⟩;rintro rfl;exact hj (Rv hN f (I.ok.inj _ _ _ e hc ▸ hi))
  .by_cases pq:D=c
   .subst pq;exact⟨_,W⟩
   .obtain ⟨w2,z2⟩:=I.cell y D e;exact⟨w2,z2.sameBut hs pq⟩
  .obtain ⟨e,n,C,S,d⟩:=I.pin p hp;refine⟨(hs.2 p.1 ?_).trans e,n,C,S,d⟩;intro q;rw[q,Z] at e;have q':Y=p.2:=AAX e;exact d B (by rw[<-q'];exact m8)
def Gm {M:Model}{A:zk}{E:zx->zw->Prop}{i:Nat}{x:Str}{v:V}{u:zx}{Q:Unit->zw->Prop}(I:Inv X zj σ H s)(hN:X.N.Nodup)(hi:X.N[i]? =some x)(hx:Loc X.env.scope x)(r:RelV v u)(h:∀a,Inv X zj (σ.set i (some v)) H a->Q () a)(b:X.fn x=true\/X.env.scope.names.lookup x=some .local:=by first | exact .inl rfl|exact .inr rfl|assumption):wpAny M A (storeName X.env x u) Q E s:=
 Kb I hN hi hx r (λa c _=>h a c) b
def Inv.call' {a:zw}{ch:zy zu}(I:Inv X zj σ H s)(d:a.os=s.os)(u:Un (Xh X.stack) ch H H' s.heap a.heap)(hok:Hs X.prog X.w H' a.heap)(f:AllBare a.gens)(g:∀b∈ch,(b∈X.ex\/X.s₀.heap.objs.size<=b)/\b≠X.env.locals/\(∀x c,X.env.cells.lookup x=some c->c≠b)/\∀p∈X.pn++zj,p.1≠b):Inv X zj σ H' a:=by obtain⟨h',g',d',t',h⟩:=a;have e:h=s.os:=d;subst e;exact I.call (g':=g') (t':=t') (d':=d') u hok f g
end
abbrev XK:=zx->zt zu->Hp->Prop
abbrev St:=zy (zt V)
abbrev VK:=V->Hp->Prop
abbrev TE:=St->Hp->VK->Prop
abbrev TT:=St->Hp->(zq->Hp->Prop)->Prop
abbrev TA:=St->Hp->(zy V->Hp->Prop)->Prop
structure LV where
 nx:St->Hp->Prop
 rt:VK
 bk:St->Hp->Prop:=λ_ _=>False
 ct:St->Hp->Prop:=λ_ _=>False
abbrev TS:=LV->St->Hp->Prop
def EP (X:Cx)(b:zy (zu×Obj))(c:St)(Q:VK)(u:zx)(d:zw):Prop:=∃v a,Inv X b c a d/\RelV v u/\Q v a
def TP (X:Cx)(c:zy (zu×Obj))(d:St)(Q:zq->Hp->Prop)(b:zq)(e:zw):Prop:=∃a,Inv X c d a e/\Q b a
def AP (X:Cx)(b:zy (zu×Obj))(c:St)(Q:zy V->Hp->Prop)(us:zy zx)(d:zw):Prop:=∃vs a,Inv X b c a d/\Ao vs us/\Q vs a
def SP (X:Cx)(b:zy (zu×Obj))(D:LV)(f:Flow)(c:zw):Prop:=
 match f with
 | .next=>∃σ' a,Inv X b σ' a c/\D.nx σ' a
 | .brk=>∃σ' a,Inv X b σ' a c/\D.bk σ' a
 | .cont=>∃σ' a,Inv X b σ' a c/\D.ct σ' a
 | .ret u=>∃v σ' a,Inv X b σ' a c/\RelV v u/\D.rt v a
def PE (X:Cx)(e:zr)(t:TE):Prop:=
 ∀(b:zy (zu×Obj)) (s:zw) (a:St) (H:Hp) (Q:VK),Inv X b a H s->t a H Q->wpAny (model X.prog X.w) X.A (eval e X.env) (EP X b a Q) X.xe s
def PT (X:Cx)(e:zr)(t:TT):Prop:=
 ∀(b:zy (zu×Obj)) (s:zw) (a:St) (H:Hp) (Q:zq->Hp->Prop),Inv X b a H s->t a H Q->wpAny (model X.prog X.w) X.A (isTrue e X.env (eval e X.env)) (TP X b a Q) X.xe s
def PW (X:Cx)(e:zr)(t:TT):Prop:=
 ∀(whole:Sem zx) (b:zy (zu×Obj)) (s:zw) (a:St) (H:Hp) (Q:zq->Hp->Prop),Inv X b a H s->t a H Q->wpAny (model X.prog X.w) X.A (isTrue e X.env whole) (TP X b a Q) X.xe s
def PW.pt {X:Cx}{e:zr}{t:TT}(h:PW X e t):PT X e t:=h _
def PA (X:Cx)(es:zy zr)(t:TA):Prop:=
 ∀(a:Pos) (c:zy (zu×Obj)) (s:zw) (b:St) (H:Hp) (Q:zy V->Hp->Prop),Inv X c b H s->t b H Q->wpAny (model X.prog X.w) X.A (spliced (backTo a (starEach es X.env))) (AP X c b Q) X.xe s
def PS (X:Cx)(st:Stmt)(t:TS):Prop:=
 ∀(a:zy (zu×Obj)) (s:zw) (b:St) (H:Hp) (D:LV),Inv X a b H s->t D b H->wpAny (model X.prog X.w) X.A (exec st X.env) (SP X a D) X.xe s
def Su (X:Cx)(st:zy Stmt)(t:TS):Prop:=
 ∀(a:zy (zu×Obj)) (s:zw) (b:St) (H:Hp) (D:LV),Inv X a b H s->t D b H->wpAny (model X.prog X.w) X.A (execs st X.env) (SP X a D) X.xe s
def BY {b:Type}{t:Sem b}{Q c:b->zw->Prop}{M:Model}{A:zk}{E:zx->zw->Prop}{s:zw}(h:wpAny M A t Q E s)(hQ:∀a s,Q a s->c a s):wpAny M A t c E s:=ABK h hQ λ_ _ x=>x
section
variable {X:Cx}
def C8 (i:Nat):TE:=λa H Q=>∃v,a[i]? =some (some v)/\Q v H
def tC (v:V):TE:=λ_ H Q=>Q v H
def UU {i:Nat}{x:Str}{b:Pos}(hN:X.N[i]? =some x)(hv:ig X.env.scope x)(hd:(x==("__debug__" :Str))=false:=by decide)(f:(x==("__classdict__" :Str))=false:=by decide):PE X (.Name x b) (C8 i):=by
 intro g s j H Q I h;obtain⟨v,e,h⟩:=h;obtain⟨m,k,hl⟩:=I.loc;obtain⟨u,r,l⟩:=hl i x v hN e hv;have a:EP X g j Q u s:=⟨v,H,I,r,h⟩;rcases l with⟨hk,n⟩|⟨hk,c,hc,d⟩
 .exact wpAny_Name (wpAny_loadName_local I.ok.kind hk k n a) hd
 .rcases hk with hk|hk
  .exact wpAny_Name (wpAny_loadName_cell I.ok.kind hk hc d a) hd
  .exact wpAny_Name (wpAny_loadName_free I.ok.kind hk hc d a f) hd
def A0 {i j pos}:PE X (.Constant (.int i) j pos) (tC (.int i)):=λ_ _ _ H _ I h=>wpAny_Constant_int ⟨.int i,H,I.tok _,⟨_,rfl⟩,h⟩
def kB {b j pos}:PE X (.Constant (.bool b) j pos) (tC (.bl b)):=λ_ _ _ H _ I h=>Constant_bool ⟨.bl b,H,I,rfl,h⟩
def ZI {j pos}:PE X (.Constant .none j pos) (tC .non):=λ_ _ _ H _ I h=>Constant_none ⟨.non,H,I,rfl,h⟩
def gk {x j pos}:PE X (.Constant (.str x) j pos) (tC (.str x)):=λ_ _ _ H _ I h=>Calls.Constant_str ⟨.str x,H,I.tok _,⟨_,rfl⟩,h⟩
def Gl (X:Cx)(x:Str):Prop:=X.env.kindOf x=some .globalImplicit
def Vm {E:zx->zw->Prop}{b:zy (zu×Obj)}{s:zw}{c:St}{H:Hp}{x:Str}{u:zx}{a:Pos}{Q:zx->zw->Prop}(I:Inv X b c H s)(d:Gl X x)(e:X.mg x=some u)(h:Q u s)(hd:(x==("__debug__" :Str))=false:=by decide):wpAny (model X.prog X.w) X.A (eval (.Name x a) X.env) Q E s:=
 Calls.Name_function_global I.ok.kind d (Calls.loadGlobal_global (by rw[I.ok.glob];exact I.mod.glob.keeps I.bk) e h) hd
def J5 {E:zx->zw->Prop}{b:zy (zu×Obj)}{s:zw}{c:St}{H:Hp}{x:Str}{u:zx}{a:Pos}{Q:zx->zw->Prop}(I:Inv X b c H s)(d:Gl X x)(e:X.mg x=none)(hv:bootBuiltins x=some u)(h:Q u s)(f:x≠"__name__" :=by decide)(hd:(x==("__debug__" :Str))=false:=by decide):wpAny (model X.prog X.w) X.A (eval (.Name x a) X.env) Q E s:=by obtain⟨g,h1,h2⟩:=I.mod.blt;exact Calls.Name_function_global I.ok.kind d (Calls.loadGlobal_builtin (by rw[I.ok.glob];exact I.mod.glob.keeps I.bk) e (by rw[I.ok.blt];exact h1.keeps I.bk) ((h2 x f).trans hv) h) hd
def cT {x:Str}{v:V}{u:zx}{a:Pos}(b:Gl X x)(c:X.mg x=some u)(r:RelV v u)(hd:(x==("__debug__" :Str))=false:=by decide):PE X (.Name x a) (tC v):=
 λ_ _ _ H _ I h=>Vm I b c ⟨v,H,I,r,h⟩ hd
variable {a b:zr}{ta tb:TE}{pos:Pos}
def PC (X:Cx)(op:CmpOp)(a b:zr)(t:TE):Prop:=
 ∀(f:zy (zu×Obj)) (s:zw) (e:St) (H:Hp) (Q:VK),Inv X f e H s->t e H Q->
  wpAny (model X.prog X.w) X.A (eval a X.env) (λv c=>wpAny (model X.prog X.w) X.A (eval b X.env) (λu d=>wpAny (model X.prog X.w) X.A (compareOp op v u) (EP X f e Q) X.xe d) X.xe c) X.xe s
def Y3 (b:zr){op:CmpOp}(h:op≠ .In)(h2:op≠ .NotIn):behindInMarks op b=false:=by
 have c:(op==CmpOp.In)=false:=by cases op <;> first | rfl|exact absurd rfl h
 have d:(op==CmpOp.NotIn)=false:=by cases op <;> first | rfl|exact absurd rfl h2
 cases b <;> simp[behindInMarks,c,d]
def tB (t:TE):TT:=λd H Q=>t d H λx H1=>∃c,x= .bl c/\Q c H1
def gv {op:CmpOp}{t:TE}(h:PC X op a b t)(h1:behindInMarks op b=false:=by first | exact Y3 _ (by decide) (by decide)|rfl):PT X (.Compare a [op] [b] pos) (tB t):=by intro e s f H Q I hw;refine wpAny_isTrue_Compare1 (BY (h e s f H _ I hw) λv k h1=>BY h1 λu l h2=>BY h2 λc m ⟨x,H1,g,i,j⟩=> ?_) h1;obtain⟨d,rfl,q⟩:=j;cases i;exact ABJ ⟨H1,g,q⟩
def gx {e:zr}{t:TE}(h:PE X e t)(he:∀whole,isTrue e X.env whole=(do let v <-whole;standAt e.pos;holding [v] (truthy v)):=by intro _;rfl):PT X e (tB t):=by intro c s f H Q I hw;refine isTrue_plain (BY (h c s f H _ I hw) λv k ⟨x,H1,g,i,j⟩=> ?_) (he _);obtain⟨d,rfl,q⟩:=j;cases i;exact ABJ ⟨H1,g,q⟩
variable {tA tB':TT}{rest:zy zr}
def nk (t u:TT):TT:=λd H Q=>t d H λc H1=>if c=true then u d H1 Q else Q false H1
def uq (t u:TT):TT:=λd H Q=>t d H λc H1=>if c=true then Q true H1 else u d H1 Q
def nz (t:TT):TT:=λd H Q=>t d H λc H1=>Q (!c) H1
def ck (ha:PT X a tA):PW X (.BoolOp .And [a] pos) tA:=by
 intro g d s f H Q I h;refine isTrue_and (BY (ha d s f H Q I h) λc i e=> ?_);cases c with
 | true=>exact isTrue_and_nil e
 | false=>exact e
def gz (ha:PT X a tA):PW X (.BoolOp .Or [a] pos) tA:=by
 intro g d s f H Q I h;refine isTrue_or (BY (ha d s f H Q I h) λc i e=> ?_);cases c with
 | false=>exact isTrue_or_nil e
 | true=>exact e
def gy (ha:PT X a tA)(hb:PW X (.BoolOp .And (b::rest) pos) tB'):PW X (.BoolOp .And (a::b::rest) pos) (nk tA tB'):=by
 intro i d s e H Q I h;refine isTrue_and (BY (ha d s e H _ I h) λc j ⟨H1,f,g⟩=> ?_);cases c with
 | true=>exact hb i d j e H1 Q f g
 | false=>exact⟨H1,f,g⟩
def kF (ha:PT X a tA)(hb:PW X (.BoolOp .Or (b::rest) pos) tB'):PW X (.BoolOp .Or (a::b::rest) pos) (uq tA tB'):=by
 intro i d s e H Q I h;refine isTrue_or (BY (ha d s e H _ I h) λc j ⟨H1,f,g⟩=> ?_);cases c with
 | true=>exact⟨H1,f,g⟩
 | false=>exact hb i d j e H1 Q f g
def gw (ha:PT X a tA):PT X (.UnaryOp .Not a pos) (nz tA):=by intro d s e H Q I h;exact isTrue_not (ha d s e H (λc H1=>Q (!c) H1) I h)
def kr (ta tb:TE):TE:=λd H Q=>ta d H λx H1=>∃c,x= .bl c/\if c=true then tb d H1 Q else Q (.bl false) H1
def n9 (ta tb:TE):TE:=λd H Q=>ta d H λx H1=>∃c,x= .bl c/\if c=true then Q (.bl true) H1 else tb d H1 Q
def lA (ta:TE):TE:=λd H Q=>ta d H λx H1=>∃c,x= .bl c/\Q (.bl (!c)) H1
def gj {op}{t:TE}(h:PE X a t):PE X (.BoolOp op [a] pos) t:=λc s d H Q I hw=>BoolOp_one (h c s d H Q I hw)
def gg (ha:PE X a ta)(hb:PE X (.BoolOp .And (b::rest) pos) tb):PE X (.BoolOp .And (a::b::rest) pos) (kr ta tb):=by
 intro e s f H Q I h;refine BoolOp_and (BY (ha e s f H _ I h) λv i ⟨x,H1,g,j,d⟩=> ?_);obtain⟨c,rfl,d⟩:=d;cases j;refine ABJ ?_;cases c with
 | true=>exact hb e i f H1 Q g d
 | false=>exact⟨.bl false,H1,g,rfl,d⟩
def kD (ha:PE X a ta)(hb:PE X (.BoolOp .Or (b::rest) pos) tb):PE X (.BoolOp .Or (a::b::rest) pos) (n9 ta tb):=by
 intro e s f H Q I h;refine BoolOp_or (BY (ha e s f H _ I h) λv i ⟨x,H1,g,j,d⟩=> ?_);obtain⟨c,rfl,d⟩:=d;cases j;refine ABJ ?_;cases c with
 | false=>exact hb e i f H1 Q g d
 | true=>exact⟨.bl true,H1,g,rfl,d⟩
def gi (ha:PE X a ta):PE X (.UnaryOp .Not a pos) (lA ta):=by intro e s f H Q I h;refine UnaryOp_ (BY (ha e s f H _ I h) λv j ⟨x,H1,g,i,d⟩=> ?_);obtain⟨c,rfl,d⟩:=d;cases i;exact not_of (ABJ ⟨.bl (!c),H1,g,rfl,d⟩)
def uo (t:TT)(ta tb:TE):TE:=λd H Q=>t d H λc H1=>if c=true then ta d H1 Q else tb d H1 Q
def ZG {c:zr}(hc:PT X c tA)(ha:PE X a ta)(hb:PE X b tb):PE X (.IfExp c a b pos) (uo tA ta tb):=by
 intro e s f H Q I h;refine wpAny_IfExp (BY (hc e s f H _ I h) λd g ⟨H1,i,j⟩=> ?_);cases d with
 | true=>exact ha e g f H1 Q i j
 | false=>exact hb e g f H1 Q i j
end
def Ep (K:AAB)(H:Hp)(a:zu)(xs:zy V):Prop:=
 Rd H a (.lst xs)\/
  ∃(o:Obj) (b:Array zx) (n:Nat),K.lookup a=some o/\o.cls= .type "list" /\o.dict=none/\o.data= .seq b n/\b.size<=sizeLine/\Ao xs b.toList
def Kx (K:AAB)(H:Hp)(a:zu)(xs:zy V):Prop:=
 Rd H a (.tup xs)\/
  ∃(o:Obj) (b:Array zx) (n:Nat),K.lookup a=some o/\o.cls= .type "tuple" /\o.data= .seq b n/\b.size<=sizeLine/\Ao xs b.toList
def mL:zx->zt V
 | .none=>some .non
 | .bool b=>some (.bl b)
 | .int i _=>some (.int i)
 | .str x _=>some (.str x)
 | .bytes b _=>some (.byt b)
 | .float b _=>some (.flt b)
 | .ref a=>some (.ref a)
 | .type n=>some (.ty n)
 | _=>none
def RelV.abs {x:V}{u:zx}(r:RelV x u):mL u=some x:=by
 cases x with
 | non=>cases r;rfl
 | bl _=>cases r;rfl
 | int _=>obtain⟨t,rfl⟩:=r;rfl
 | str _=>obtain⟨t,rfl⟩:=r;rfl
 | byt _=>obtain⟨t,rfl⟩:=r;rfl
 | flt _=>obtain⟨t,rfl⟩:=r;rfl
 | ref _=>cases r;rfl
 | ty _=>cases r;rfl
def RelV.inj {x y:V}{u:zx}(r:RelV x u)(q:RelV y u):x=y:=AAX (r.abs.symm.trans q.abs)
theorem Ao.inj:∀{xs ys:zy V} {us:zy zx},Ao xs us->Ao ys us->xs=ys
 | _,_,_, .nil, .nil=>rfl
 | _,_,_, .cons r t, .cons a t'=>by rw[r.inj a,Ao.inj t t']
section
variable {X:Cx}{zj:zy (zu×Obj)}{σ:St}{H:Hp}{s:zw}{a:zu}{xs ys:zy V}
def Ep.of {K:AAB}(h:H a=some (.lst xs)):Ep K H a xs:= .inl (.inl h)
def Inv.list (I:Inv X zj σ H s)(h:Ep X.K H a xs):∃b:zy zx,Ao xs b/\PlainL s.heap a b.toArray/\xs.length<=sizeLine:=by
 rcases h with h|⟨o,b,n,hk,hc,hd,hs,hz,r⟩
 .obtain ⟨z,b,n,r,e⟩:=h.ok I.hok;exact⟨b,r,⟨_,n,e,rfl,rfl,rfl⟩,z⟩
 .refine ⟨b.toList,r,⟨o,n,I.kIn a o hk,hc,hd,by simpa using hs⟩, ?_⟩;have e:=r.length;simp only[ABY] at e;omega
def Inv.tuple (I:Inv X zj σ H s)(h:Kx X.K H a xs):∃b:zy zx,Ao xs b/\IsTup s.heap a b.toArray/\xs.length<=sizeLine:=by
 rcases h with h|⟨o,b,n,hk,hc,hs,hz,r⟩
 .obtain ⟨z,b,r,p⟩:=h.ok I.hok;exact⟨b,r,p,z⟩
 .refine ⟨b.toList,r,⟨o,I.kIn a o hk,hc,n,by simpa using hs⟩, ?_⟩;have e:=r.length;simp only[ABY] at e;omega
def Inv.list_inj (I:Inv X zj σ H s)(h:Ep X.K H a xs)(h':Ep X.K H a ys):xs=ys:=by
 obtain⟨b,r,⟨o,n,e,_,_,d⟩,_⟩:=I.list h;obtain⟨its',f,⟨i,j,c,_,_,d'⟩,_⟩:=I.list h';rw[e] at c;cases c;rw[d] at d';injection d' with g _;have:b=its':=by simpa using congrArg Array.toList g
 subst this;exact r.inj f
def Inv.tuple_inj (I:Inv X zj σ H s)(h:Kx X.K H a xs)(h':Kx X.K H a ys):xs=ys:=by
 obtain⟨b,r,⟨o,e,_,n,d⟩,_⟩:=I.tuple h;obtain⟨its',f,⟨i,c,_,j,d'⟩,_⟩:=I.tuple h';rw[e] at c;cases c;rw[d] at d';injection d' with g _;have:b=its':=by simpa using congrArg Array.toList g
 subst this;exact r.inj f
end
abbrev Cx.wish (X:Cx)(E:zx->zw->Prop):Cx:={X with xe:=E}
abbrev Cx.nox (X:Cx):Cx:=X.wish λ_ _=>False
def Cx.Ok.wish {X:Cx}(ok:X.Ok)(E:zx->zw->Prop):(X.wish E).Ok:=
 ⟨ok.mod,ok.kind,ok.glob,ok.blt,ok.above,ok.inj,ok.has,ok.cab,ok.hd,ok.frames,ok.stk,ok.exf,ok.bs,ok.bsz,ok.noex,ok.exfs,ok.funs,ok.frf⟩
def Cx.Ok.unwish {X:Cx}{E:zx->zw->Prop}(ok:(X.wish E).Ok):X.Ok:=
 ⟨ok.mod,ok.kind,ok.glob,ok.blt,ok.above,ok.inj,ok.has,ok.cab,ok.hd,ok.frames,ok.stk,ok.exf,ok.bs,ok.bsz,ok.noex,ok.exfs,ok.funs,ok.frf⟩
section
variable {X:Cx}{zj:zy (zu×Obj)}{σ:St}{H:Hp}{s:zw}{E:zx->zw->Prop}
def Inv.wish (I:Inv X zj σ H s)(E:zx->zw->Prop):Inv (X.wish E) zj σ H s:=⟨I.ok.wish E,I.os,I.bare,I.base,I.loc,I.cell,I.free,I.freeC,I.pin,I.hok,I.len⟩
def Inv.unwish (I:Inv (X.wish E) zj σ H s):Inv X zj σ H s:=⟨I.ok.unwish,I.os,I.bare,I.base,I.loc,I.cell,I.free,I.freeC,I.pin,I.hok,I.len⟩
def SP.unwish {D:LV}{f:Flow}{b:zw}(h:SP (X.wish E) zj D f b):SP X zj D f b:=by
 cases f with
 | next=>obtain⟨σ',a,I,q⟩:=h;exact⟨σ',a,I.unwish,q⟩
 | brk=>obtain⟨σ',a,I,q⟩:=h;exact⟨σ',a,I.unwish,q⟩
 | cont=>obtain⟨σ',a,I,q⟩:=h;exact⟨σ',a,I.unwish,q⟩
 | ret u=>obtain⟨v,σ',a,I,r,q⟩:=h;exact⟨v,σ',a,I.unwish,r,q⟩
def Su.nox {st:zy Stmt}{t:TS}(h:Su X.nox st t):Su X st t:=λzj s σ H D I hw=>
 ABK (h zj s σ H D (I.wish _) hw) (λ_ _ q=>q.unwish) λ_ _ z=>False.elim z
end
section
variable {X:Cx}{st:Stmt}{rest:zy Stmt}{t u:TS}{e:zr}{te:TE}{pos:Pos}
def eI:TS:=λD a H=>D.nx a H
def U1 (t u:TS):TS:=λD a H=>t {D with nx:=u D} a H
def Lw:Su X [] eI:=λ_ _ a H _ I h=>ACU ⟨a,H,I,h⟩
def Be (h1:PS X st t)(h2:Su X rest u):Su X (st::rest) (U1 t u):=by
 intro a s b H D I h;refine wpAny_execs_cons (BY (h1 a s b H {D with nx:=u D} I h) λf c q=> ?_);cases f with
 | next=> obtain⟨σ',d,g,q⟩:=q;exact h2 a c σ' d D g q
 | ret v=>exact q
 | brk=>exact q
 | cont=>exact q
def EG (h1:PS X st t):Su X [st] t:=by
 intro a s b H D I h;refine wpAny_execs_cons (BY (h1 a s b H D I h) λf c q=> ?_);cases f with
 | next=>exact ACU q
 | ret v=>exact q
 | brk=>exact q
 | cont=>exact q
def Inv.quiet {a:zy (zu×Obj)}{b:St}{H:Hp}{s:zw}(I:Inv X a b H s):interactive X.env=false:=by simp[interactive,I.ok.kind]
def eF (te:TE):TS:=λD a H=>te a H λ_ H1=>D.nx a H1
def ci (he:PE X e te)(hs:swapsWith e none pos.line X.env=pure false:=by rfl):PS X (.Expr e pos) (eF te):=by intro b s a H D I h;exact wpAny_Expr_any (BY (he b s a H _ I h) λv f ⟨x,H1,c,g,d⟩=>⟨a,H1,c,d⟩) I.quiet hs
def aI (te:TE):TS:=λD a H=>te a H D.rt
def NI (he:PE X e te):PS X (.Return (some e) pos) (aI te):=by intro b s a H D I h;exact wpAny_Return_some (BY (he b s a H _ I h) λv g ⟨x,H1,c,d,f⟩=>⟨x,a,H1,c,d,f⟩)
def ku (c:TT)(t u:TS):TS:=λD a H=>c a H λb H1=>if b=true then t D a H1 else u D a H1
def Vw {c:zr}{a b:zy Stmt}{i:TT}(hc:PT X c i)(ha:Su X a t)(hb:Su X b u):PS X (.If c a b pos) (ku i t u):=by
 intro f s g H D I h;refine wpAny_If (BY (hc f s g H _ I h) λd j ⟨H1,k,l⟩=> ?_);cases d with
 | true=>exact ha f j g H1 D k l
 | false=>exact hb f j g H1 D k l
end
abbrev TG:=V->St->Hp->(St->Hp->Prop)->Prop
abbrev TL:=zy V->St->Hp->(St->Hp->Prop)->Prop
def PG (X:Cx)(target:zr)(t:TG):Prop:=
 ∀(a:zy (zu×Obj)) (s:zw) (b:St) (H:Hp) (v:V) (u:zx) (Q:St->Hp->Prop),Inv X a b H s->RelV v u->t v b H Q->
  wpAny (model X.prog X.w) X.A (assign target X.env u) (λ_ d=>∃σ' c,Inv X a σ' c d/\Q σ' c) X.xe s
def ic (X:Cx)(d:zy zr)(t:TL):Prop:=
 ∀(a:zy (zu×Obj)) (s:zw) (b:St) (H:Hp) (vs:zy V) (us:zy zx) (Q:St->Hp->Prop),Inv X a b H s->Ao vs us->t vs b H Q->
  wpAny (model X.prog X.w) X.A (assignInOrder ((assignEach d X.env).map (·.2)) us) (λ_ e=>∃σ' c,Inv X a σ' c e/\Q σ' c) X.xe s
abbrev fA:=V->V->V->Hp->(Hp->Prop)->Prop
def jO (X:Cx)(t:fA):Prop:=
 ∀(a:zy (zu×Obj)) (s:zw) (b:St) (H:Hp) (o i v:V) (c d u:zx) (Q:Hp->Prop),Inv X a b H s->RelV o c->RelV i d->RelV v u->t o i v H Q->
  wpAny (model X.prog X.w) X.A (setItem c d u) (λ_ f=>∃e,Inv X a b e f/\Q e) X.xe s
abbrev jR:=V->V->Hp->VK->Prop
def ie (X:Cx)(op:Operator)(t:jR):Prop:=
 ∀(a:zy (zu×Obj)) (s:zw) (b:St) (H:Hp) (x y:V) (v u:zx) (Q:VK),Inv X a b H s->RelV x v->RelV y u->t x y H Q->
  wpAny (model X.prog X.w) X.A (inplaceOp op v u) (EP X a b Q) X.xe s
section
variable {X:Cx}{pos:Pos}
def Bc (i:Nat):TG:=λv a H Q=>Q (a.set i (some v)) H
def EF {i:Nat}{x:Str}(hN:X.N.Nodup)(hi:X.N[i]? =some x)(hx:Loc X.env.scope x)(a:X.fn x=true\/X.env.scope.names.lookup x=some .local:=by first | exact .inl rfl|exact .inr rfl|assumption):PG X (.Name x pos) (Bc i):=by intro c s d H v u Q I r h;exact AC6 (Gm I hN hi hx r (λe b=>⟨_,H,b,h⟩) a)
def LZ:TL:=λvs a H Q=>vs= [] /\Q a H
def Cw (t:TG)(u:TL):TL:=λvs a H Q=>∃v r,vs=v::r/\t v a H λσ' b=>u r σ' b Q
def Ja:ic X [] LZ:=by intro b s a H vs us Q I r h;obtain⟨e,h⟩:=h;subst e;cases r;exact assignInOrder_nil ⟨a,H,I,h⟩
def DY {e:zr}{es:zy zr}{t:TG}{u:TL}(h1:PG X e t)(h2:ic X es u)(hs:(assignEach (e::es) X.env).map (·.2)=assign e X.env::(assignEach es X.env).map (·.2):=by rfl):ic X (e::es) (Cw t u):=by
 intro b s c H vs us Q I r h;obtain⟨v,k,d,h⟩:=h;subst d;cases r with
 | cons r f=> rw[hs];refine assignInOrder_cons (BY (h1 b s c H _ _ _ I r h) λ_ g ⟨a,H1,i,j⟩=> ?_);exact h2 b g a H1 _ _ Q i f j
def mR (b c:TE)(t:fA):TG:=λv a H Q=>b a H λo H1=>c a H1 λi d=>t o i v d λe=>Q a e
def ZK {o i:zr}{e f:TE}{t:fA}(g:PE X o e)(hi:PE X i f)(hs:jO X t)(ha:∀v,assign (.Subscript o i pos) X.env v=(do
   let a <-holding [v] (eval o X.env);let b <-holding [v,a] (eval i X.env)
   standAt pos
   holding [v,a,b] (setItem a b v)
   release [v,a,b] []):=by intro _;rfl):PG X (.Subscript o i pos) (mR e f t):=by intro d s c H v u Q I r h;rw[ha];refine AAA (AAk (BY (g d s c H _ I h) λa j ⟨x,H1,k,l,m⟩=> ?_));refine AAA (AAk (BY (hi d j c H1 _ k m) λb n ⟨y,p,w,z,A⟩=> ?_));refine AAA (ABL (AAA (AAk (BY (hs d n c p x y v a b u _ w l z r A) λ_ E ⟨B,C,D⟩=> ?_))));exact wpAny_release ⟨c,B,C,D⟩
def OQ (b:TE)(g:TG):TS:=λD a H=>b a H λx H1=>g x a H1 D.nx
def UW {a e:zr}{b:TE}{g:TG}(he:PE X e b)(f:PG X a g)(hs:swapsWithSole [a] e pos.line X.env=pure false:=by rfl)(hw:swappedStores [a] e X.env=pure none:=by rfl)(h1:(assignEach [a] X.env).map (·.2)= [assign a X.env] :=by rfl):PS X (.Assign [a] e pos) (OQ b g):=by intro c s d H D I h;refine wpAny_Assign_stores (BY (he c s d H _ I h) λv i ⟨x,H1,j,k,l⟩=> ?_) hs hw;rw[h1];exact BY (f c i d H1 x v _ j k l) λ_ m q=>q
def E5 {i:Nat}{x:Str}{e:zr}{a:TE}{pos':Pos}(hN:X.N.Nodup)(hi:X.N[i]? =some x)(hx:Loc X.env.scope x)(he:PE X e a)(hs:swapsWith e (some (.Name x pos')) pos.line X.env=pure false:=by rfl)(b:X.fn x=true\/X.env.scope.names.lookup x=some .local:=by first | exact .inl rfl|exact .inr rfl|assumption):PS X (.Assign [.Name x pos'] e pos) (OQ a (Bc i)):=by intro c s d H D I h;refine wpAny_Assign_Name (BY (he c s d H _ I h) λv l ⟨y,H1,f,g,j⟩=> ?_) hs;exact Gm f hN hi hx g (λm k=>⟨_,H1,k,j⟩) b
def oA (i j:Nat)(b:TA):TS:=λD a H=>b a H λvs H1=>∃v w,vs= [v,w] /\D.nx ((a.set i (some v)).set j (some w)) H1
def gu {i j:Nat}{x y:Str}{a b:zr}{r:TA}{g k l:Pos}{kt k2 pt2}(hc:X.calm=true)(hN:X.N.Nodup)(hi:X.N[i]? =some x)(hj:X.N[j]? =some y)(B:i≠j)(hx:X.env.scope.names.lookup x=some .local)(hy:X.env.scope.names.lookup y=some .local)(ha:PA X [a,b] r)(hw:swappedStores [.Tuple [.Name x g, .Name y k] kt l] (.Tuple [a,b] k2 pt2) X.env=pure (some [x,y]))(hs:swapsWithSole [.Tuple [.Name x g, .Name y k] kt l] (.Tuple [a,b] k2 pt2) pos.line X.env=pure false:=by rfl):PS X (.Assign [.Tuple [.Name x g, .Name y k] kt l] (.Tuple [a,b] k2 pt2) pos) (oA i j r):=by
 intro t s u H D I h;rw[exec_Assign_arm];refine AAA (ABL ?_);rw[hs];refine AAA (AAD ?_);rw[AAC (by decide)];refine AAA (Tuple_ (BY (ha _ t s u H _ I h) λus c ⟨vs,H1,C,E,m⟩=> ?_));obtain⟨v,w,F,m⟩:=m;subst F;obtain⟨d,f,rfl,rv,n⟩:∃d f,us= [d,f] /\RelV v d/\RelV w f:=by
  cases E with
  | cons p q=>
    cases q with
    | cons G J=> cases J;exact⟨_,_,rfl,p,G⟩
 refine AAx ?_ (by show 2<=sizeLine;decide);have K:Inv X t u H1 {c with heap:=c.heap.push {cls:= .type "tuple",data:= .seq [d,f].toArray}}:=C.kept (t':=c.toks) λb o e=>AAH _ e;rw[hw];refine AAA (AAD ?_);show wpAny (model X.prog X.w) X.A (do rule "assign.swapped-stores";let items <-unpackItems (.ref c.heap.objs.size) 2 none;assignInOrder [λv=>bindName X.env y v,λv=>bindName X.env x v] items.reverse;pure Flow.next) _ _ _;refine AAA (ABI (AAA (unpackItems_tuple (items:= #[d,f]) (I.ok.hd hc) (IsTup.new c.heap _) λh' L=> ?_)));have M:=K.kept (h':=h') (t':=c.toks) λb o e=>L b o (AAM (AAG e)) e;show wpAny _ _ (assignInOrder [λv=>bindName X.env y v,λv=>bindName X.env x v] [f,d] >>= λ_=>pure Flow.next) _ _ _;refine AAA (assignInOrder_cons (wpAny_bindName (Gm M hN hj (.inl hy) n (λP O=> ?_) (.inr hy))));refine assignInOrder_cons (wpAny_bindName (Gm O hN hi (.inl hx) rv (λQ z=>assignInOrder_nil (AAD ?_)) (.inr hx)));rw[List.set_comm _ _ (AAe B)] at z;exact⟨_,H1,z,m⟩
def nr (i:Nat)(b:TE)(c:jR):TS:=λD a H=>∃x,a[i]? =some (some x)/\b a H λy H1=>c x y H1 λz d=>D.nx (a.set i (some z)) d
def gt {i:Nat}{x:Str}{e:zr}{g:TE}{op:Operator}{j:jR}{pos':Pos}(hN:X.N.Nodup)(hi:X.N[i]? =some x)(hx:Loc X.env.scope x)(he:PE X e g)(o:ie X op j)(p:X.fn x=true\/X.env.scope.names.lookup x=some .local:=by first | exact .inl rfl|exact .inr rfl|assumption):PS X (.AugAssign (.Name x pos') op e pos) (nr i g j):=by
 intro d s n H D I h;obtain⟨v,t,h⟩:=h;obtain⟨m,B,hl⟩:=I.loc;have f:ig X.env.scope x:=by rcases hx with k|k;exact .inl k;exact .inr (.inl k)
 obtain⟨u,r,l⟩:=hl i x v hi t f;refine wpAny_AugAssign_Name ?_;have go:wpAny (model X.prog X.w) X.A (eval e X.env) (λw a=>wpAny (model X.prog X.w) X.A (inplaceOp op u w) (λr b=>wpAny (model X.prog X.w) X.A (storeName X.env x r) (λ_=>SP X d D .next) X.xe b) X.xe a) X.xe s:=by refine BY (he d s n H _ I h) λw C ⟨y,H1,E,F,G⟩=> ?_;refine BY (o d C n H1 v y u w _ E r F G) λz R ⟨S,J,K,L,M⟩=> ?_;exact Gm K hN hi hx L (λT O=>⟨_,J,O,M⟩) p
 rcases l with⟨hk,P⟩|⟨hk,c,hc,Q⟩
 .exact wpAny_loadName_local I.ok.kind hk B P go
 .rcases hk with hk|hk
  .exact wpAny_loadName_cell I.ok.kind hk hc Q go
  .rcases hx with k|k
   .have:X.env.scope.names.lookup x=some .free:=hk;rw[k] at this;cases this
   .have:X.env.scope.names.lookup x=some .free:=hk;rw[k] at this;cases this
def nJ (f:Int->Int->Int):jR:=λx y H Q=>∃i j,x= .int i/\y= .int j/\Q (.int (f i j)) H
def fy:ie X .Add (nJ λi j=>i+j):=by intro e s f H x y v u Q I a b h;obtain⟨i,j,c,d,q⟩:=h;subst c;subst d;obtain⟨t,rfl⟩:=a;obtain⟨t',rfl⟩:=b;exact iadd_int ⟨.int _,H,I.tok _,⟨_,rfl⟩,q⟩
def iR (c:TT)(f:TS):TS:=λD a H=>∃W:Nat->St->Hp->Prop,(∃m,W m a H)/\∀m a H,W m a H->
 c a H λb H1=>if b=true then ∃N:St->Hp->Prop,(∀σ' d,N σ' d->∃e,e<m/\W e σ' d)/\f {D with nx:=N,ct:=N,bk:=D.nx} a H1 else D.nx a H1
def ZT {c:zr}{body:zy Stmt}{r:TT}{t:TS}(hp:PassesOwn (model X.prog X.w) X.A X.env X.xe)(hc:PT X c r)(hb:Su X body t):PS X (.While c body [] pos) (iR r t):=by
 intro j s z H D I h;obtain⟨W,⟨m0,B⟩,turn⟩:=h;refine wpAny_While (codeAny_whileLoop (λn C=>∃σ' u,Inv X j σ' u C/\W n σ' u) ?_ m0 ⟨z,H,I,B⟩);rintro n E ⟨d,H1,F,G⟩;refine ABa hp (BY (hc j E d H1 _ F (turn n d H1 G)) λb J ⟨x,y,g⟩=> ?_);cases b with
 | true=>
   obtain⟨N,hN,g⟩:=g;rw[AAE rfl];refine ABa hp (BY (hb j J d x _ y g) λf K i=> ?_);cases f with
   | next=> obtain⟨a,e,k,l⟩:=i;obtain⟨m,o,p⟩:=hN a e l;exact⟨m,o,a,e,k,p⟩
   | cont=> obtain⟨a,e,k,l⟩:=i;obtain⟨m,o,p⟩:=hN a e l;exact⟨m,o,a,e,k,p⟩
   | brk=>exact i
   | ret v=>exact i
 | false=> rw[AAC AAR];exact ACU ⟨d,x,y,g⟩
end
structure It where
 go:Nat->Hp->Prop
 yld:Nat->Hp->V->Hp->Prop
 stop:Nat->Hp->Prop
def FW (X:Cx)(a:zy (zu×Obj))(H:Hp)(b:zu):Prop:=
 H b=none/\b≠X.env.locals/\b ∉ X.fs/\(b∈X.ex\/X.s₀.heap.objs.size<=b)/\(∀x c,X.env.cells.lookup x=some c->c≠b)/\∀p∈X.pn++a,p.1≠b
def Inv.fpOk {X:Cx}{a:zy (zu×Obj)}{f:St}{H d:Hp}{s:zw}{b:zu}(I:Inv X a f H s)(hb:s.heap.objs.size<=b)(g:d b=none):FW X a d b:=by
 refine⟨g,AAy (AAV I.lt hb),I.nofs hb, .inr (AAl I.sz hb),λx c e z=> ?_,λp hp z=> ?_⟩
 .obtain ⟨v,q⟩:=I.cell x c e;exact absurd (AAV q.lt (by rw[z];exact hb)) (ABB _)
 .exact absurd (AAV (AAG (I.pin p hp).1) (by rw[z];exact hb)) (ABB _)
structure LY (P:Program) (w:World) (K:AAB) (tg:Expr) (J:It) (fp:List Addr) (it:Addr) (tn:Nat->Heap->Prop):Prop where
 mem:it∈fp
 obj:∀i h,tn i h->∀b∈fp,∃o,h.get? b=some o/\∀v,o.data≠ .cell v
 keep:∀i h h',tn i h->(∀b∈fp,∀o,h.get? b=some o->h'.get? b=some o)->tn i h'
 item:∀(X:Cx),X.prog=P->X.w=w->X.K=K->X.calm=true->∀(i:Nat) (zj:List (Addr×Obj)) (s:Shared) (σ:St) (H:Hp) (E:Value->Shared->Prop),Inv X zj σ H s->(∀b∈fp,FW X zj H b)->tn i s.heap->J.go i H->
  wpAny (model P w) X.A (pyNext (.ref it)) (λr s1=>∃u,r=some u/\
   wpAny (model P w) X.A (letOwnedTupleGo tg (.ref it) u) (λ_ s2=>∃x H',Inv X zj σ H' s2/\RelV x u/\J.yld i H x H'/\tn (i+1) s2.heap/\∀b∈fp,H' b=none) E s1) E s
 done:∀(X:Cx),X.prog=P->X.w=w->X.K=K->X.calm=true->∀(i:Nat) (zj:List (Addr×Obj)) (s:Shared) (σ:St) (H:Hp) (E:Value->Shared->Prop),Inv X zj σ H s->(∀b∈fp,FW X zj H b)->tn i s.heap->J.stop i H->
  wpAny (model P w) X.A (pyNext (.ref it)) (λr s1=>r=none/\Inv X zj σ H s1) E s
 self:∀(A:Around) (i:Nat) (s:Shared) (Q:Value->Shared->Prop) (E:Value->Shared->Prop),tn i s.heap->Q (.ref it) s->wpAny (model P w) A (pyIter (.ref it)) Q E s
abbrev TI:=St->Hp->(It->Hp->Prop)->Prop
def pU (X:Cx)(d:zy (zu×Obj))(f:St)(g:zr)(R:It->Hp->Prop)(a:zx)(e:zw):Prop:=
 ∃(it:zu) (fp:zy zu) (tn:Nat->zl->Prop) (J:It) (c:Hp),a= .ref it/\Inv X d f c e/\LY X.prog X.w X.K g J fp it tn/\tn 0 e.heap/\(∀b∈fp,FW X d c b)/\R J c
def PI (X:Cx)(c iter:zr)(d:TI):Prop:=
 ∀(b:zy (zu×Obj)) (s:zw) (a:St) (H:Hp) (R:It->Hp->Prop),Inv X b a H s->d a H R->
  wpAny (model X.prog X.w) X.A (eval iter X.env) (λv e=>wpAny (model X.prog X.w) X.A (pyIter v) (pU X b a c R) X.xe e) X.xe s
def YZ {M:Model}{A:zk}{E:zx->zw->Prop}{s:zw}{a:zr}{it:zu}{u:zx}{o:Obj}{n:String}{vs:Array zx}{Q:Unit->zw->Prop}(b:s.heap.get? it=some o)(hc:o.cls= .type n)(hd:o.data= .fields vs)(c: ["enumerate","zip","dict_itemiterator","dict_reverseitemiterator","odict_iterator","itertools.zip_longest","itertools.pairwise"].contains n=false)(hQ:Q () s):wpAny M A (letOwnedTupleGo a (.ref it) u) Q E s:=by
 unfold letOwnedTupleGo;cases a <;> first
  | exact AAD hQ
  | (cases u <;> first
      | exact AAD hQ
      | (refine AAA (wpAny_load b ?_)
         rw[hc,hd];show wpAny M A (if (["enumerate","zip","dict_itemiterator","dict_reverseitemiterator","odict_iterator","itertools.zip_longest","itertools.pairwise"].contains n&&vs[0]?==some (rawInt _))=true then _ else _) Q E s;rw[AAC (by intro h;rw[c,Bool.false_and] at h;cases h)];exact AAD hQ))
def mC (K:AAB)(a:zu):It:=
 ⟨λi H=>∃xs x,Ep K H a xs/\xs[i]? =some x,λi H x b=>b=H/\∀xs,Ep K H a xs->xs[i]? =some x,λi H=>∃xs,Ep K H a xs/\xs.length<=i⟩
def mD (K:AAB)(a:zu):It:=
 ⟨λi H=>∃xs x,Kx K H a xs/\xs[i]? =some x,λi H x b=>b=H/\∀xs,Kx K H a xs->xs[i]? =some x,λi H=>∃xs,Kx K H a xs/\xs.length<=i⟩
def lH (lo:Int)(n:Nat):It:=⟨λi _=>i<n,λi H x a=>a=H/\x= .int (lo+i),λi _=>n<=i⟩
def Xc {P:zp}{w:zm}{K:AAB}{C:zr}(a it:zu):LY P w K C (mC K a) [it] it (λi h=>h.IsListIter it a i) where
 mem:=by simp
 obj:=λi h st b hb=>by
  have e:b=it:=by simpa using hb
  subst e;obtain⟨o,e,c,d⟩:=st;exact⟨o,e,λv z=>by rw[d] at z;cases z⟩
 keep:=λi h h' st k=>st.at λo e=>k it (by simp) o e
 item:=by intro X j hw l hc i A s B H E I g st m;subst j hw l;obtain⟨xs,x,hq,hx⟩:=m;obtain⟨n,rv,p,hz⟩:=I.list hq;obtain⟨u,hu,D⟩:=rv.get hx;obtain⟨f0,f1,F,r,t,y⟩:=g it (by simp);refine wpAny_pyNext_list_item st p.isList (x:=u) (by simpa using hu) λh' f G=> ?_;have J:Inv X A B H {s with heap:=h'}:=I.turned (t':=s.toks) (λb o hb e=>(G.2 b hb).trans e) f0 f1 r t y;obtain⟨o,e,c,d⟩:=id f;exact⟨u,rfl,YZ (s:={s with heap:=h'}) e c d (by decide) ⟨x,H,J,D,⟨rfl,λys hy=>by rw[I.list_inj hy hq];exact hx⟩,f,λb hb=>(g b hb).1⟩⟩
 done:=by intro X j hw l hc i A s B H E I g st m;subst j hw l;obtain⟨xs,hq,hx⟩:=m;obtain⟨n,rv,p,hz⟩:=I.list hq;obtain⟨f0,f1,F,r,t,y⟩:=g it (by simp);have hl:=rv.length;exact wpAny_pyNext_list_end (I.ok.hd hc) st p.isList (by simp;omega) λh' L=>⟨rfl,I.turned (t':=s.toks) (λb o hb e=>L b o hb e) f0 f1 r t y⟩
 self:=λ_ _ _ _ _ st h=>wpAny_pyIter_listiter st h
def U8 {P:zp}{w:zm}{K:AAB}{C:zr}(a it:zu):LY P w K C (mD K a) [it] it (λi h=>h.IsTupleIter it a i) where
 mem:=by simp
 obj:=λi h st b hb=>by
  have e:b=it:=by simpa using hb
  subst e;obtain⟨o,e,c,d⟩:=st;exact⟨o,e,λv z=>by rw[d] at z;cases z⟩
 keep:=λi h h' st k=>st.at λo e=>k it (by simp) o e
 item:=by intro X l hw m hc i A s B H E I j st n;subst l hw m;obtain⟨xs,x,hq,hx⟩:=n;obtain⟨f,rv,p,hz⟩:=I.tuple hq;obtain⟨u,hu,D⟩:=rv.get hx;obtain⟨f0,f1,F,r,t,y⟩:=j it (by simp);refine wpAny_pyNext_tuple_item st (show s.heap.IsTuple a f.toArray from p) (x:=u) (by simpa using hu) λh' g G=> ?_;have J:Inv X A B H {s with heap:=h'}:=I.turned (t':=s.toks) (λb o hb e=>(G.2 b hb).trans e) f0 f1 r t y;obtain⟨o,e,c,d⟩:=id g;exact⟨u,rfl,YZ (s:={s with heap:=h'}) e c d (by decide) ⟨x,H,J,D,⟨rfl,λys hy=>by rw[I.tuple_inj hy hq];exact hx⟩,g,λb hb=>(j b hb).1⟩⟩
 done:=by intro X l hw m hc i A s B H E I j st n;subst l hw m;obtain⟨xs,hq,hx⟩:=n;obtain⟨f,rv,p,hz⟩:=I.tuple hq;obtain⟨f0,f1,F,r,t,y⟩:=j it (by simp);have hl:=rv.length;exact wpAny_pyNext_tuple_end (I.ok.hd hc) st (show s.heap.IsTuple a f.toArray from p) (by simp;omega) λh' L=>⟨rfl,I.turned (t':=s.toks) (λb o hb e=>L b o hb e) f0 f1 r t y⟩
 self:=λ_ _ _ _ _ st h=>wpAny_pyIter_tupleiter st h
def U7 {P:zp}{w:zm}{K:AAB}{x:zr}(it:zu)(lo:Int)(n:Nat):LY P w K x (lH lo n) [it] it (λi h=>IsRangeIter h it (lo+(i:Nat)*1) ((n:Int)-(i:Nat)) 1) where
 mem:=by simp
 obj:=λi h st b hb=>by
  have e:b=it:=by simpa using hb
  subst e;exact⟨_,st,λv z=>by
   have y:Data.fields _=Data.cell v:=z;cases y⟩
 keep:=λi h h' st k=>k it (by simp) _ st
 item:=by intro X d hw f hc i p s r H E I c st g;subst d hw f;obtain⟨f0,f1,A,j,l,m⟩:=c it (by simp);have W:=Walks.range (prog:=X.prog) (w:=X.w) (I.ok.hd hc) it lo 1 n;refine W.item i s _ _ g st λv h' u hv a B=> ?_;obtain⟨t,rfl⟩:=hv;have C:Inv X p r H {s with heap:=h',toks:=u}:=I.turned (λb o hb e=>B b o (by simpa using hb) e) f0 f1 j l m;refine⟨_,rfl,YZ (s:={s with heap:=h',toks:=u}) (n:="range_iterator") a rfl rfl (by decide) ⟨.int (lo+i),H,C,⟨t, ?_⟩,⟨rfl,rfl⟩,a,λb hb=>(c b hb).1⟩⟩;rw[Int.mul_one]
 done:=by intro X d hw f hc i p s r H E I c st g;subst d hw f;obtain⟨f0,f1,A,j,l,m⟩:=c it (by simp);exact wpAny_pyNext_range_end (I.ok.hd hc) st (by have:n<=i:=g;omega) λh' D=>⟨rfl,I.turned (t':=s.toks) (λb o hb e=>D b o hb e) f0 f1 j l m⟩
 self:=λ_ _ _ _ _ st h=>wpAny_pyIter_rangeiter st h
section
variable {X:Cx}{tg:zr}
def ZZ {a:zy (zu×Obj)}{c:St}{H:Hp}{s:zw}{R:It->Hp->Prop}{E:zx->zw->Prop}{lo hi:Int}{t u v:Tok}{d:Nat}(I:Inv X a c H s)(h1: -(2^62)<=lo)(h2:lo<2^62)(g: -(2^62)<=hi)(h:hi<2^62)(q:R (lH lo (hi-lo).toNat) H):wpAny (model X.prog X.w) X.A (pyIter (.ref s.heap.objs.size)) (pU X a c tg R) E {s with heap:=s.heap.push {cls:= .type "range",data:= .fields #[.int lo t, .int hi u, .int 1 v] },toks:=d}:=by
 refine wpAny_pyIter_range (IsRange.new ..) (small_one h1 h2 g h) ?_;have f:Inv X a c H {s with heap:=s.heap.push {cls:= .type "range",data:= .fields #[.int lo t, .int hi u, .int 1 v] },toks:=d}:=I.kept λb o e=>AAH _ e;refine⟨(s.heap.push {cls:= .type "range",data:= .fields #[.int lo t, .int hi u, .int 1 v] }).objs.size, [(s.heap.push {cls:= .type "range",data:= .fields #[.int lo t, .int hi u, .int 1 v] }).objs.size],_,_,H,rfl,
  f.kept (t':=d) λb o e=>AAH _ e,U7 _ lo (hi-lo).toNat, ?_,λb hb=> ?_,q⟩
 .have i:lo+((0:Nat):Int)*1=lo:=by simp
  have j:(((hi-lo).toNat:Nat):Int)-((0:Nat):Int)=Builtin.Range.rangeSize lo hi 1:=by rw[rangeSize_one];split <;> omega
  show IsRangeIter _ _ (lo+((0:Nat):Int)*1) ((((hi-lo).toNat:Nat):Int)-((0:Nat):Int)) 1;rw[i,j];exact AAS _ rfl
 .have e:b=(s.heap.push {cls:= .type "range",data:= .fields #[.int lo t, .int hi u, .int 1 v] }).objs.size:=by simpa using hb
  subst e;exact f.fpOk (AAI _) (f.hok.fresh (AAI _))
def jt (a:TA):TI:=λb H R=>a b H λvs H1=>∃j:Int,vs= [.int j] /\ -(2^62)<=j/\j<2^62/\R (lH 0 j.toNat) H1
def XM {a:zr}{d:TA}{p b:Pos}(f:Gl X "range")(g:X.mg "range" =none)(ha:PA X [a] d)(hs:starEach [a] X.env= [(false,eval a X.env)] :=by rfl):PI X tg (.Call (.Name "range" p) [a] [] b) (jt d):=by
 intro i s k H R I h;refine Call_ (J5 I f g boot_range (AB1 (BY (ha b i s k H _ I h) λus u ⟨vs,H1,l,m,c⟩=> ?_) hs rfl));obtain⟨j,e,c,n,q⟩:=c;subst e;cases m with
 | cons r o=> cases o;obtain⟨t,rfl⟩:=r;exact call_range_1 (ZZ l (by omega) (by omega) c n (by simpa using q))
def iP (e:TI)(g:TG)(f:TS):TS:=λD a H=>e a H λJ H1=>∃W:Nat->Nat->St->Hp->Prop,(∃m,W 0 m a H1)/\∀i m a H,W i m a H->
 (J.stop i H/\D.nx a H)\/(J.go i H/\∃N:St->Hp->Prop,(∀σ' b,N σ' b->∃d,d<m/\W (i+1) d σ' b)/\∀x b,J.yld i H x b->g x a b λc h=>f {D with nx:=N,ct:=N,bk:=D.nx} c h)
def KH (fp:zy zu)(h:zl):zy (zu×Obj):=fp.filterMap λb=>(h.get? b).map λo=>(b,o)
def Dm {fp:zy zu}{h:zl}{b:zu}{o:Obj}(hb:b∈fp)(e:h.get? b=some o):(b,o)∈KH fp h:=List.mem_filterMap.mpr ⟨b,hb,by rw[e];rfl⟩
def XE {fp:zy zu}{h:zl}{p:zu×Obj}(hp:p∈KH fp h):p.1∈fp/\h.get? p.1=some p.2:=by
 obtain⟨b,hb,e⟩:=List.mem_filterMap.mp hp;cases q:h.get? b with
 | none=>rw[q] at e;cases e
 | some o=> rw[q] at e;have a:(b,o)=p:=AAX e;subst a;exact⟨hb,q⟩
def Inv.pinned {a:zy (zu×Obj)}{c:St}{H:Hp}{s:zw}{fp:zy zu}(I:Inv X a c H s)(g:∀b∈fp,FW X a H b)(h:∀b∈fp,∃o,s.heap.get? b=some o/\∀v,o.data≠ .cell v):Inv X (a++KH fp s.heap) c H s:=
 I.pins_of λp hp=>(AAO.mp hp).elim (λz=>I.pin p (AAg _ z)) λz=>by obtain⟨hb,e⟩:=XE z;obtain⟨f0,f1,i,_⟩:=g p.1 hb;obtain⟨o,f,d⟩:=h p.1 hb;rw[e] at f;cases f;exact⟨e,f0,f1,i,d⟩
def Inv.unpinned {a c:zy (zu×Obj)}{b:St}{H:Hp}{s:zw}(I:Inv X (a++c) b H s):Inv X a b H s:=I.pins_of λp hp=>I.pin p (AAg _ (AC5 _ hp))
def UX {iter:zr}{body:zy Stmt}{R:TI}{g:TG}{S:TS}{G:Pos}(hp:PassesOwn (model X.prog X.w) X.A X.env X.xe)(hc:X.calm=true)(hi:PI X tg iter R)(hg:PG X tg g)(hb:Su X body S)(hs:∀x,foldedSetIterable iter X.env x=pure x:=by intro _;rfl):PS X (.For tg iter body [] G) (iP R g S):=by
 intro y s U H D I h;refine wpAny_For (BY (hi y s U H _ I h) λv s1 h1=>BY h1 λitv s2 h2=> ?_) hs;obtain⟨it,fp,tn,J,H2,e,I2,T,K,Y,W,⟨m0,w0⟩,turn⟩:=h2;subst e;have c:∀{p:Hp},(∀b∈fp,p b=none)->∀b∈fp,FW X y p b:=λhn b hb=>⟨hn b hb,(Y b hb).2⟩;refine codeAny_forLoop_any (λn Z=>∃i σ' p,Inv X y σ' p Z/\tn i Z.heap/\(∀b∈fp,p b=none)/\W i n σ' p) ?_ m0 ⟨0,U,H2,I2,K,λb hb=>(Y b hb).1,w0⟩;rintro n s3 ⟨i,j,F,I3,B,C,w3⟩;rcases turn i n j F w3 with⟨stop,qn⟩|⟨go,N,hN,step⟩
 .refine ABa hp (BY (T.done X rfl rfl rfl hc i y s3 j F X.xe I3 (c C) B stop) λr s4 ⟨L,I4⟩=> ?_);subst L;exact ACU ⟨j,F,I4,qn⟩
 .refine ABa hp (BY (T.item X rfl rfl rfl hc i y s3 j F X.xe I3 (c C) B go) λr s4 ⟨u,L,h4⟩=> ?_);subst L;refine ABa hp (BY h4 λ_ s5 ⟨x,H5,I5,r5,y5,z,M⟩=> ?_);have O:=I5.pinned (c M) (T.obj _ _ z);refine ABa hp (BY (hg _ s5 j H5 x u _ O r5 (step x H5 y5)) λ_ s6 ⟨P,H6,I6,q6⟩=> ?_);refine ABa hp (BY (hb _ s6 P H6 _ I6 q6) λf Q t=> ?_);have again:∀{a:St} {k:Hp},Inv X (y++KH fp s5.heap) a k Q->N a k->∃m,m<n/\∃i σ' p,Inv X y σ' p Q/\tn i Q.heap/\(∀b∈fp,p b=none)/\W i m σ' p:=λ{a k} l E=>by obtain⟨m',hm,w7⟩:=hN a k E;refine⟨m',hm,i+1,a,k,l.unpinned,T.keep _ _ _ z λb hb o e=>(l.pin (b,o) (AAg _ (AAg _ (Dm hb e)))).1,λb hb=> ?_,w7⟩;obtain⟨o,e,d⟩:=T.obj _ _ z b hb;exact(l.pin (b,o) (AAg _ (AAg _ (Dm hb e)))).2.1
  cases f with
  | next=>obtain⟨a,k,l,E⟩:=t;exact again l E
  | cont=>obtain⟨a,k,l,E⟩:=t;exact again l E
  | brk=>obtain⟨a,k,l,t⟩:=t;exact⟨a,k,l.unpinned,t⟩
  | ret v=>obtain⟨x7,a,k,l,r7,t⟩:=t;exact⟨x7,a,k,l.unpinned,r7,t⟩
end
abbrev R2:=V->V->Hp->VK->Prop
def EN (X:Cx)(f:zx->zx->Sem zx)(r:R2):Prop:=
 ∀(a:zy (zu×Obj)) (s:zw) (b:St) (H:Hp) (x y:V) (v u:zx) (Q:VK),Inv X a b H s->RelV x v->RelV y u->r x y H Q->
  wpAny (model X.prog X.w) X.A (f v u) (EP X a b Q) X.xe s
def mJ (X:Cx)(f:zx->Sem zx)(r:V->Hp->VK->Prop):Prop:=
 ∀(a:zy (zu×Obj)) (s:zw) (b:St) (H:Hp) (x:V) (v:zx) (Q:VK),Inv X a b H s->RelV x v->r x H Q->
  wpAny (model X.prog X.w) X.A (f v) (EP X a b Q) X.xe s
def CZ (X:Cx)(f:zx)(r:zy V->Hp->VK->Prop):Prop:=
 ∀(a:zy (zu×Obj)) (s:zw) (b:St) (H:Hp) (xs:zy V) (us:zy zx) (Q:VK),Inv X a b H s->Ao xs us->r xs H Q->
  wpAny (model X.prog X.w) X.A (call f us) (EP X a b Q) X.xe s
def mI (X:Cx)(r:V->Hp->(zq->Hp->Prop)->Prop):Prop:=
 ∀(a:zy (zu×Obj)) (s:zw) (b:St) (H:Hp) (x:V) (v:zx) (Q:zq->Hp->Prop),Inv X a b H s->RelV x v->r x H Q->
  wpAny (model X.prog X.w) X.A (truthy v) (TP X a b Q) X.xe s
def XZ (r:R2)(b c:TE):TE:=λa H Q=>b a H λx H1=>c a H1 λy d=>r x y d Q
def ut (r:V->Hp->VK->Prop)(a:TE):TE:=λb H Q=>a b H λx H1=>r x H1 Q
def rI (C:Int->Int->Prop)(g:Int->Int->V):R2:=λx y H Q=>∃i j,x= .int i/\y= .int j/\C i j/\Q (g i j) H
def OL (g:Int->Int->V):R2:=λx y H Q=>∃i j,x= .int i/\y= .int j/\Q (g i j) H
def rU (g:Int->V):V->Hp->VK->Prop:=λx H Q=>∃i,x= .int i/\Q (g i) H
section
variable {X:Cx}{a b c:zr}{ta tb tc:TE}{pos:Pos}
def fG (ha:PE X a ta)(hb:PE X b tb){j:zy (zu×Obj)}{s:zw}{d:St}{H:Hp}{R:V->V->Hp->Prop}(I:Inv X j d H s)(h:ta d H λx H1=>tb d H1 λy e=>R x y e){Q:zx->zw->Prop}{f:zx->zx->Sem zx}(l:∀v u k x y e,Inv X j d e k->RelV x v->RelV y u->R x y e->wpAny (model X.prog X.w) X.A (f v u) Q X.xe k):wpAny (model X.prog X.w) X.A (eval a X.env) (λv g=>wpAny (model X.prog X.w) X.A (eval b X.env) (λu i=>wpAny (model X.prog X.w) X.A (f v u) Q X.xe i) X.xe g) X.xe s:=by refine BY (ha j s d H _ I h) λv m ⟨x,H1,n,o,p⟩=> ?_;refine BY (hb j m d H1 _ n p) λu k ⟨y,e,r,t,z⟩=> ?_;exact l v u k x y e r o t z
def B0 {op:Operator}{r:R2}(d:EN X (binaryOp op) r)(ha:PE X a ta)(hb:PE X b tb):PE X (.BinOp a op b pos) (XZ r ta tb):=by intro e s f H Q I h;exact wpAny_BinOp (fG ha hb I h λv u g x y i j k l q=>d e g f i x y v u Q j k l q)
def kE {op:UnaryOp}{r:V->Hp->VK->Prop}(f:mJ X (unaryOp op) r)(ha:PE X a ta):PE X (.UnaryOp op a pos) (ut r ta):=by intro d s e H Q I h;exact UnaryOp_ (BY (ha d s e H _ I h) λv g ⟨x,H1,i,j,k⟩=>f d g e H1 x v Q i j k)
def gY {f:zx->zx->Sem zx}{C:Int->Int->Prop}{g:Int->Int->Int}(rule:∀(i j:Int) (t u:Tok) (s:zw) (Q:zx->zw->Prop) (E:zx->zw->Prop),C i j->Q (.int (g i j) s.toks) {s with toks:=s.toks+1}->wpAny (model X.prog X.w) X.A (f (.int i t) (.int j u)) Q E s):EN X f (rI C λi j=> .int (g i j)):=by intro k s l H x y v u Q I d e h;obtain⟨i,j,rfl,rfl,hc,q⟩:=h;obtain⟨t,rfl⟩:=d;obtain⟨t',rfl⟩:=e;exact rule i j t t' s _ _ hc ⟨.int (g i j),H,I.tok _,⟨_,rfl⟩,q⟩
def j7 {f:zx->zx->Sem zx}{g:Int->Int->Int}(rule:∀(i j:Int) (t u:Tok) (s:zw) (Q:zx->zw->Prop) (E:zx->zw->Prop),Q (.int (g i j) s.toks) {s with toks:=s.toks+1}->wpAny (model X.prog X.w) X.A (f (.int i t) (.int j u)) Q E s):EN X f (OL λi j=> .int (g i j)):=by intro k s l H x y v u Q I d e h;obtain⟨i,j,rfl,rfl,q⟩:=h;obtain⟨t,rfl⟩:=d;obtain⟨t',rfl⟩:=e;exact rule i j t t' s _ _ ⟨.int (g i j),H,I.tok _,⟨_,rfl⟩,q⟩
def gX {f:zx->zx->Sem zx}{g:Int->Int->zq}(rule:∀(i j:Int) (t u:Tok) (s:zw) (Q:zx->zw->Prop) (E:zx->zw->Prop),Q (.bool (g i j)) s->wpAny (model X.prog X.w) X.A (f (.int i t) (.int j u)) Q E s):EN X f (OL λi j=> .bl (g i j)):=by intro k s l H x y v u Q I d e h;obtain⟨i,j,rfl,rfl,q⟩:=h;obtain⟨t,rfl⟩:=d;obtain⟨t',rfl⟩:=e;exact rule i j t t' s _ _ ⟨.bl (g i j),H,I,rfl,q⟩
def am (i j:Int):Prop:=0<=j/\j<=1000000/\i.natAbs<2^64
def MZ (i j:Int):Prop:=(-(2^64)<i/\i<2^64)\/(-(2^64)<j/\j<2^64)
def MZ.ok {i j:Int}(h:MZ i j):IntMulOk i j:=by
 rcases h with⟨h1,h2⟩|⟨h1,h2⟩
 .exact .of_left (intBits_le_64 h1 h2)
 .exact .of_right (intBits_le_64 h1 h2)
def GW:EN X (binaryOp .Add) (OL λi j=> .int (i+j)):=j7 λ_ _ _ _ _ _ _ q=>add_int q
def UT:EN X (binaryOp .Sub) (OL λi j=> .int (i-j)):=j7 λ_ _ _ _ _ _ _ q=>sub_int q
def Fg:EN X (binaryOp .Mod) (rI (λ_ j=>0<j) λi j=> .int (i % j)):=gY λi j _ _ _ _ _ hc q=>by have h1:(0:Int)<j:=hc;exact mod_int' (by omega) (by rw[AC7 i (by omega)];exact q)
def cQ:EN X (binaryOp .Mod) (rI (λ_ j=>j≠0) λi j=> .int (i.fmod j)):=gY λ_ _ _ _ _ _ _ hc q=>mod_int' hc q
def ZB:EN X (binaryOp .Pow) (rI am λi j=> .int (i^j.toNat)):=gY λ_ _ _ _ _ _ _ hc q=>pow_int_small hc.1 hc.2.1 hc.2.2 q
def uw {f:zx->Sem zx}{g:Int->Int}(rule:∀(i:Int) (t:Tok) (s:zw) (Q:zx->zw->Prop) (E:zx->zw->Prop),Q (.int (g i) s.toks) {s with toks:=s.toks+1}->wpAny (model X.prog X.w) X.A (f (.int i t)) Q E s):mJ X f (rU λi=> .int (g i)):=by intro e s j H x v Q I d h;obtain⟨i,rfl,q⟩:=h;obtain⟨t,rfl⟩:=d;exact rule i t s _ _ ⟨.int (g i),H,I.tok _,⟨_,rfl⟩,q⟩
def iX:mJ X (unaryOp .USub) (rU λi=> .int (-i)):=uw λ_ _ _ _ _ q=>neg_int q
end
def iB:V->V->zq
 | .non, .non=>true | .non, .int _=>true | .int _, .non=>true | .non, .bl _=>true | .bl _, .non=>true | .non, .str _=>true | .str _, .non=>true
 | .int _, .int _=>true | .bl _, .bl _=>true | .str _, .str _=>true | .byt _, .byt _=>true
 | .int _, .str _=>true | .str _, .int _=>true | .bl _, .str _=>true | .str _, .bl _=>true
 | _,_=>false
def qS:R2:=λx y H Q=>iB x y=true/\Q (.bl (decide (x=y))) H
def qT:R2:=λx y H Q=>iB x y=true/\Q (.bl (!decide (x=y))) H
def VT {i j:Int}:decide (V.int i=V.int j)=(i==j):=by rw[AAz];simp
def YH {i j:zq}:decide (V.bl i=V.bl j)=(i==j):=by rw[AAz];simp
def VU {i j:Str}:decide (V.str i=V.str j)=(i==j):=by rw[AAz];simp
def VS {i j:Array UInt8}:decide (V.byt i=V.byt j)=(i.toList==j.toList):=by rw[AAz];cases i;cases j;simp
section
variable {X:Cx}{a b c:zr}{ta tb tc:TE}{pos:Pos}
def A5 {d:zy (zu×Obj)}{f:St}{H:Hp}{s:zw}{Q:VK}{k g:zq}(I:Inv X d f H s)(q:Q (.bl k) H)(e:k=g):EP X d f Q (.bool g) s:=by subst e;exact⟨.bl k,H,I,rfl,q⟩
def j8:EN X (compareOp .Eq) qS:=by
 intro f s g H x y v u Q I e d h;obtain⟨hs,q⟩:=h;cases x with
 | non=>
   cases e;cases y with
   | non=>cases d;exact PySem.EqNone.eq_none_none (A5 I q (by simp))
   | bl j=>cases d;exact PySem.EqNone.eq_none_bool (A5 I q (by simp))
   | int j=>obtain⟨t',rfl⟩:=d;exact PySem.EqNone.eq_none_int (A5 I q (by simp))
   | str j=>obtain⟨t',rfl⟩:=d;exact PySem.EqNone.eq_none_str (A5 I q (by simp))
   | _=>exact absurd (show false=true from hs) AAR
 | bl i=>
   cases e;cases y with
   | non=>cases d;exact PySem.EqNone.eq_bool_none (A5 I q (by simp))
   | bl j=>cases d;exact eq_bool (A5 I q YH)
   | str j=>obtain⟨t',rfl⟩:=d;exact PySem.EqMixed.eq_bool_str (A5 I q (by simp))
   | _=>exact absurd (show false=true from hs) AAR
 | int i=>
   obtain⟨t,rfl⟩:=e;cases y with
   | non=>cases d;exact PySem.EqNone.eq_int_none (A5 I q (by simp))
   | int j=>obtain⟨t',rfl⟩:=d;exact eq_int (A5 I q VT)
   | str j=>obtain⟨t',rfl⟩:=d;exact PySem.EqMixed.eq_int_str (A5 I q (by simp))
   | _=>exact absurd (show false=true from hs) AAR
 | str i=>
   obtain⟨t,rfl⟩:=e;cases y with
   | non=>cases d;exact PySem.EqNone.eq_str_none (A5 I q (by simp))
   | bl j=>cases d;exact PySem.EqMixed.eq_str_bool (A5 I q (by simp))
   | int j=>obtain⟨t',rfl⟩:=d;exact PySem.EqMixed.eq_str_int (A5 I q (by simp))
   | str j=>obtain⟨t',rfl⟩:=d;exact eq_str (A5 I q VU)
   | _=>exact absurd (show false=true from hs) AAR
 | byt i=>
   obtain⟨t,rfl⟩:=e;cases y with
   | byt j=>obtain⟨t',rfl⟩:=d;exact PySem.W.eq_bytes (A5 I q VS)
   | _=>exact absurd (show false=true from hs) AAR
 | _=>cases y <;> exact absurd (show false=true from hs) AAR
def j9:EN X (compareOp .NotEq) qT:=by
 intro f s g H x y v u Q I e d h;obtain⟨hs,q⟩:=h;cases x with
 | non=>
   cases e;cases y with
   | non=>cases d;exact PySem.EqNone.ne_none_none (A5 I q (by simp))
   | bl j=>cases d;exact PySem.EqNone.ne_none_bool (A5 I q (by simp))
   | int j=>obtain⟨t',rfl⟩:=d;exact PySem.EqNone.ne_none_int (A5 I q (by simp))
   | str j=>obtain⟨t',rfl⟩:=d;exact PySem.EqNone.ne_none_str (A5 I q (by simp))
   | _=>exact absurd (show false=true from hs) AAR
 | bl i=>
   cases e;cases y with
   | non=>cases d;exact PySem.EqNone.ne_bool_none (A5 I q (by simp))
   | bl j=>cases d;exact ne_bool (A5 I q (congrArg not YH))
   | str j=>obtain⟨t',rfl⟩:=d;exact PySem.EqMixed.ne_bool_str (A5 I q (by simp))
   | _=>exact absurd (show false=true from hs) AAR
 | int i=>
   obtain⟨t,rfl⟩:=e;cases y with
   | non=>cases d;exact PySem.EqNone.ne_int_none (A5 I q (by simp))
   | int j=>obtain⟨t',rfl⟩:=d;exact ne_int (A5 I q (congrArg not VT))
   | str j=>obtain⟨t',rfl⟩:=d;exact PySem.EqMixed.ne_int_str (A5 I q (by simp))
   | _=>exact absurd (show false=true from hs) AAR
 | str i=>
   obtain⟨t,rfl⟩:=e;cases y with
   | non=>cases d;exact PySem.EqNone.ne_str_none (A5 I q (by simp))
   | bl j=>cases d;exact PySem.EqMixed.ne_str_bool (A5 I q (by simp))
   | int j=>obtain⟨t',rfl⟩:=d;exact PySem.EqMixed.ne_str_int (A5 I q (by simp))
   | str j=>obtain⟨t',rfl⟩:=d;exact ne_str (A5 I q (congrArg not VU))
   | _=>exact absurd (show false=true from hs) AAR
 | byt i=>
   obtain⟨t,rfl⟩:=e;cases y with
   | byt j=>obtain⟨t',rfl⟩:=d;exact PySem.W.ne_bytes (A5 I q (congrArg not VS))
   | _=>exact absurd (show false=true from hs) AAR
 | _=>cases y <;> exact absurd (show false=true from hs) AAR
def d3:EN X (compareOp .Lt) (OL λi j=> .bl (decide (i<j))):=gX λ_ _ _ _ _ _ _ q=>lt_int q
def dz:EN X (compareOp .Gt) (OL λi j=> .bl (decide (j<i))):=gX λ_ _ _ _ _ _ _ q=>gt_int q
def dy:EN X (compareOp .GtE) (OL λi j=> .bl (decide (j<=i))):=gX λ_ _ _ _ _ _ _ q=>ge_int q
def gb:EN X (compareOp .Is) (λx y H Q=>y= .non/\Q (.bl (decide (x= .non))) H):=by
 intro f s g H x y v u Q I d e h;obtain⟨rfl,q⟩:=h;cases e;refine is_none_gen (A5 I q ?_);cases x <;> first
  | (cases d;rfl)
  | (obtain⟨t,rfl⟩:=d;rfl)
def Vr:EN X (compareOp .IsNot) (λx y H Q=>y= .non/\Q (.bl (!decide (x= .non))) H):=by
 intro f s g H x y v u Q I d e h;obtain⟨rfl,q⟩:=h;cases e;refine isnot_none_gen (A5 I q ?_);cases x <;> first
  | (cases d;rfl)
  | (obtain⟨t,rfl⟩:=d;rfl)
def EN.or {f:zx->zx->Sem zx}{r d:R2}(h:EN X f r)(h':EN X f d):EN X f (λx y H Q=>r x y H Q\/d x y H Q):=by
 intro e s g H x y v u Q I i j q;rcases q with q|q
 .exact h e s g H x y v u Q I i j q
 .exact h' e s g H x y v u Q I i j q
def CU (b:zr){op:CmpOp}(h:op≠ .In:=by decide)(h2:op≠ .NotIn:=by decide):behindInMarks op b=false:=by
 have d:(op==CmpOp.In)=false:=by cases op <;> first | rfl|exact absurd rfl h
 have e:(op==CmpOp.NotIn)=false:=by cases op <;> first | rfl|exact absurd rfl h2
 cases b <;> simp[behindInMarks,d,e]
def Vs {op:CmpOp}{r:R2}(d:EN X (compareOp op) r)(ha:PE X a ta)(hb:PE X b tb)(e:behindInMarks op b=false):PE X (.Compare a [op] [b] pos) (XZ r ta tb):=by intro f s g H Q I h;exact wpAny_Compare1 (fG ha hb I h λv u i x y j k l m q=>d f i g j x y v u Q k l m q) e
def aJ (t:TE):TT:=λd H Q=>t d H λx e=>∃k,x= .bl k/\Q k e
def Lx {op:CmpOp}{r:R2}(g:EN X (compareOp op) r)(ha:PE X a ta)(hb:PE X b tb)(i:behindInMarks op b=false):PT X (.Compare a [op] [b] pos) (aJ (XZ r ta tb)):=by
 intro d s f H Q I h;refine wpAny_isTrue_Compare1 (BY (ha d s f H _ I h) λv j ⟨x,H1,l,m,n⟩=>BY (hb d j f H1 _ l n) λu o ⟨y,p,t,w,A⟩=>
  BY (g d o f p x y v u _ t m w A) λc F ⟨z,B,C,D,k,e,E⟩=> ?_) i
 subst e;cases D;exact ABJ ⟨B,C,E⟩
def jS (K:AAB)(x:V)(H:Hp)(k:zq):Prop:=
 match x with
 | .non=>k=false
 | .bl b=>k=b
 | .int i=>k=(i != 0)
 | .str y=>y.length<=sizeLine/\k=((y.length:Int) != 0)
 | .byt y=>y.size<=sizeLine/\k=((y.size:Int) != 0)
 | .ref p=>(∃xs,Ep K H p xs/\k= !xs.isEmpty)\/(∃xs,Kx K H p xs/\k= !xs.isEmpty)\/∃kvs,H p=some (.dK kvs)/\k= !kvs.isEmpty
 | _=>False
def UC {d:Type}{kvs:zy (d×V)}{vs:zy (d×zx)}(r:KV kvs vs):(!vs.isEmpty)= !kvs.isEmpty:=by cases r <;> rfl
def M0 {xs:zy V}{d:zy zx}(r:Ao xs d):(!d.toArray.isEmpty)= !xs.isEmpty:=by cases r <;> simp
def J6:(sizeLine:Nat)<2^63:=by rw[sizeLine_eq];decide
def iT:mI X (λx H Q=>∃k,jS X.K x H k/\Q k H):=by
 intro o s u H x v Q I f h;obtain⟨k,e,q⟩:=h;have hl:=J6;have hs:sizeLine=16777216:=sizeLine_eq;cases x with
 | non=> cases f;have d:k=false:=e;subst d;exact truthy_none ⟨H,I,q⟩
 | bl b=> cases f;have d:k=b:=e;subst d;exact ABJ ⟨H,I,q⟩
 | int i=> obtain⟨t,rfl⟩:=f;have d:k=(i != 0):=e;subst d;exact PySem.P.truthy_int ⟨H,I,q⟩
 | str y=> obtain⟨t,rfl⟩:=f;obtain⟨hy,d⟩:y.length<=sizeLine/\k=((y.length:Int) != 0):=e;subst d;exact PySem.P.truthy_str (by omega) ⟨H,I.tok _,q⟩
 | byt y=> obtain⟨t,rfl⟩:=f;obtain⟨hy,d⟩:y.size<=sizeLine/\k=((y.size:Int) != 0):=e;subst d;exact PySem.W.truthy_bytes (by omega) ⟨H,I.tok _,q⟩
 | ref p=>
   cases f;have d:(∃xs,Ep X.K H p xs/\k= !xs.isEmpty)\/(∃xs,Kx X.K H p xs/\k= !xs.isEmpty)\/∃kvs,H p=some (.dK kvs)/\k= !kvs.isEmpty:=e;rcases d with⟨xs,hx,d⟩|⟨xs,hx,d⟩|⟨kvs,hx,d⟩
   .subst d;obtain⟨g,r,j,hz⟩:=I.list hx;have l:=r.length;exact wpAny_truthy_list j.isList (by simp only[AAP];omega) ⟨H,I.tok _,by rw[M0 r];exact q⟩
   .subst d;obtain⟨g,r,j,hz⟩:=I.tuple hx;have l:=r.length;exact truthy_tuple j (by simp only[AAP];omega) ⟨H,I.tok _,by rw[M0 r];exact q⟩
   .subst d;obtain⟨hz,n,vs,r,m⟩:kvs.length<=sizeLine/\(p==sysModules)=false/\∃vs,KV kvs vs/\s.heap.DictOf (A4 X.prog X.w) p vs:=I.hok p _ hx;have l:kvs.length=vs.length:=ABj r;exact wpAny_truthy_dict n m (by omega) ⟨H,I.tok _,by rw[UC r];exact q⟩
 | _=>exact(show False from e).elim
def ZU (ha:PE X a ta)(he:∀whole,isTrue a X.env whole=(do let v <-whole;standAt a.pos;holding [v] (truthy v))):
 PT X a (λd H Q=>ta d H λx e=>∃k,jS X.K x e k/\Q k e):=by intro f s d H Q I h;exact isTrue_plain (BY (ha f s d H _ I h) λv g ⟨x,H1,i,j,l⟩=>iT f g d H1 x v Q i j l) (he _)
def vals1 {x:V}{us:zy zx}(r:Ao [x] us):∃u,us= [u] /\RelV x u:=by
 cases r with
 | cons d e=>cases e;exact⟨_,rfl,d⟩
def vals2 {x y:V}{us:zy zx}(r:Ao [x,y] us):∃u d,us= [u,d] /\RelV x u/\RelV y d:=by
 cases r with
 | cons e f=>
   cases f with
   | cons g h=>cases h;exact⟨_,_,rfl,e,g⟩
def Mn:CZ X (.builtin "abs") (λxs H Q=>∃i,xs= [.int i] /\Q (.int (if i<0 then -i else i)) H):=by intro d s e H xs us Q I r h;obtain⟨i,rfl,q⟩:=h;obtain⟨u,rfl,t,rfl⟩:=vals1 r;exact call_abs_int λu f=>⟨.int (if i<0 then -i else i),H,I.tok _,⟨_,rfl⟩,q⟩
def Wi (hc:X.calm=true):CZ X (.builtin "max") (λxs H Q=>∃i j,xs= [.int i, .int j] /\Q (.int (if j>i then j else i)) H):=by
 intro d s e H xs us Q I r h;obtain⟨i,j,rfl,q⟩:=h;obtain⟨u,f,rfl,⟨t,rfl⟩,⟨t',rfl⟩⟩:=vals2 r;refine max_two_ints (I.ok.hd hc) λh' g k=>⟨_,H,I.kept k, ?_,q⟩;by_cases hj:j>i
 .rw [AAE hj,AAE hj];exact⟨_,rfl⟩
 .rw [AAC hj,AAC hj];exact⟨_,rfl⟩
def Wj (hc:X.calm=true):CZ X (.builtin "min") (λxs H Q=>∃i j,xs= [.int i, .int j] /\Q (.int (if j<i then j else i)) H):=by
 intro d s e H xs us Q I r h;obtain⟨i,j,rfl,q⟩:=h;obtain⟨u,f,rfl,⟨t,rfl⟩,⟨t',rfl⟩⟩:=vals2 r;refine min_two_ints (I.ok.hd hc) λh' g k=>⟨_,H,I.kept k, ?_,q⟩;by_cases hj:j<i
 .rw [AAE hj,AAE hj];exact⟨_,rfl⟩
 .rw [AAC hj,AAC hj];exact⟨_,rfl⟩
def Of:CZ X (.type "int") (λxs H Q=>(∃i,xs= [.int i] /\Q (.int i) H)\/∃k,xs= [.bl k] /\Q (.int (if k then 1 else 0)) H):=by
 intro e s f H xs us Q I r h;rcases h with⟨i,rfl,q⟩|⟨k,rfl,q⟩
 .obtain ⟨u,rfl,t,rfl⟩:=vals1 r;exact call_int_int ⟨.int i,H,I,⟨_,rfl⟩,q⟩
 .obtain ⟨u,rfl,d⟩:=vals1 r;cases d;exact call_int_bool ⟨.int (if k then 1 else 0),H,I.tok _,⟨_,rfl⟩,q⟩
end
structure tL (h:Heap) (x dx C:Addr) (mA:Str->Option Value):Prop where
 obj:h.get? x=some (PySem.W.instObj C dx)
 ns:h.Ns1 dx mA
 ne:dx≠x
def LX.some_of {v:V}{o:zt zx}(r:LX (some v) o):∃u,o=some u/\RelV v u:=by
 cases o with
 | none=>exact(show False from r).elim
 | some u=>exact⟨u,rfl,r⟩
structure rj (K:AAB) (C:Addr):Prop where
 pg:PySem.W.plainGet K C Str.empty=true
 hd:PySem.W.hasDictIn K C=true
 po:PySem.W.plainOver K C=true
 sa:PySem.W.findIn K (.ref C) "__setattr__" =some (some (.builtin "object.__setattr__"))
structure vM (K:AAB) (C:Addr) (f:Str) (v:V) (u:Value):Prop where
 at_:PySem.W.findIn K (.ref C) f=some (some u)
 rel:RelV v u
 get:PySem.W.specialIn K u "__get__" =some none
 cp:PySem.W.copiedNames.contains f=false
structure tJ (K:AAB) (C:Addr) (m:Str) (f:Addr):Prop where
 at_:PySem.W.findIn K (.ref C) m=some (some (.ref f))
 fn:PySem.W.isFn K (.ref f)=true
 kp:PySem.W.keepIn K (.ref f)=true
section
variable {X:Cx}{zj:zy (zu×Obj)}{σ:St}{H:Hp}{s:zw}{a C dx:zu}{fs:zy (Str×V)}{f:Str}{v:V}{A:zk}{E:zx->zw->Prop}
def Inv.made (I:Inv X zj σ H s):Inv X zj σ (upd (upd H s.heap.objs.size (.own (s.heap.objs.size+1))) (s.heap.objs.size+1) (.ins C s.heap.objs.size [])) {s with heap:=(s.heap.push PySem.W.emptyDict).push (PySem.W.instObj C s.heap.objs.size)}:=by
 have c:(s.heap.push PySem.W.emptyDict).get? s.heap.objs.size=some PySem.W.emptyDict:=AAS s.heap rfl;have g:((s.heap.push PySem.W.emptyDict).push (PySem.W.instObj C s.heap.objs.size)).get? (s.heap.objs.size+1)=some (PySem.W.instObj C s.heap.objs.size):=by
  have:=AAS (s.heap.push PySem.W.emptyDict) (o:=PySem.W.instObj C s.heap.objs.size) rfl
  rwa [ABC] at this
 have h:(s.heap.push PySem.W.emptyDict).Ns s.heap.objs.size (λ_=>none):=⟨PySem.W.emptyDict, #[],_,c,rfl,(λe he=>absurd he (by simp)),λ_=>rfl⟩;have i:=I.laid (a:=s.heap.objs.size) (o:= .own (s.heap.objs.size+1)) (h':=s.heap.push PySem.W.emptyDict) (t':=s.toks) (λb u q=>AAH _ q) (AAI _) ⟨_,c⟩;refine i.laid (a:=s.heap.objs.size+1) (o:= .ins C s.heap.objs.size []) (t':=s.toks) (λb u q=>AAH _ q) (Nat.le_of_eq (ABC _ _)) ?_;have d:s.heap.objs.size≠s.heap.objs.size+1:=AAM (Nat.lt_succ_self _);refine⟨by rw[Ad d,Ab],AAq _,d,g,λ_=>none,(Heap.Ns1.of_empty h).at λo q=>AAH _ q,λ_=>True.intro,λy hy=>absurd rfl hy⟩
end
section
variable {X:Cx}{zj:zy (zu×Obj)}{σ:St}{H:Hp}{s:zw}{A:zk}{E:zx->zw->Prop}{Q:zx->zw->Prop}{c:zx}{b:zq}
inductive Mj (K:AAB) (H:Hp):V->Value->Prop where
 | non:Mj K H .non (.type "NoneType")
 | bl (x:Bool):Mj K H (.bl x) (.type "bool")
 | int (i:Int):Mj K H (.int i) (.type "int")
 | str (x:Str):Mj K H (.str x) (.type "str")
 | flt (x:UInt64):Mj K H (.flt x) (.type "float")
 | lst {a:Addr} {xs:List V} (e:H a=some (.lst xs)):Mj K H (.ref a) (.type "list")
 | frz {a:Addr} {o:Obj} {xs:List V} (e:H a=some (.frz o (.lst xs))):Mj K H (.ref a) (.type "list")
 | tup {a:Addr} {xs:List V} (e:H a=some (.tup xs)):Mj K H (.ref a) (.type "tuple")
 | dK {a:Addr} {kvs:List (Cf×V)} (e:H a=some (.dK kvs)):Mj K H (.ref a) (.type "dict")
 | dT {a:Addr} {kvs:List (List Cf×V)} (e:H a=some (.dT kvs)):Mj K H (.ref a) (.type "dict")
 | ins {a C dx:Addr} {fs:List (Str×V)} (e:H a=some (.ins C dx fs)) (cl:rj K C) (ha:PySem.W.findIn K (.ref C) "__class__" =some (some (.builtin "object.__class__")))
    (hn:PySem.W.specialIn K (.builtin "object.__class__") "__get__" =some (some (.builtin "getset_descriptor.__get__"))) (vZ:PySem.W.takesIn K (.builtin "object.__class__")=some true)
    (hm:PySem.W.mroIn K C (.type "object")=some true):Mj K H (.ref a) (.ref C)
end
structure Room (k:Nat) (A:Around):Prop where
 hd:A.handled=none
 dp:A.depth+3*k+5<recursionLimit
 un:A.units+16*k+200<cLine
 gd:A.guards=some []
def Room.mono {j k:Nat}{A:zk}(r:Room k A)(h:j<=k):Room j A:=⟨r.hd,by have:=r.dp;omega,by have:=r.un;omega,r.gd⟩
def Room.deeper {k:Nat}{A:zk}(r:Room (k+1) A)(env:Env):Room k (A.deeper env):=
 ⟨r.hd,by have:=r.dp;show A.depth+1+3*k+5<_;omega,by have:=r.un;show A.units+3+16*k+200<_;omega,r.gd⟩
def Room.in1 {k:Nat}{A:zk}(r:Room (k+1) A):Room k A.in1:=
 ⟨r.hd,by have:=r.dp;show A.depth+3*k+5<_;omega,by have:=r.un;show A.units+1+16*k+200<_;omega,r.gd⟩
def UI {A:zk}{C:zu}{us:zy zx}{a:zy (Str×zx)}:(A.under (.builtin "type.__call__" ⟨.ref C::us,a⟩)).depth=A.depth+1:=by first | rfl|simp[Around.under,Code.weight,Code.isCreation,Code.isGuard,Code.isCaller,Code.frames,Code.isFrame,guardIds]
def UJ {A:zk}{C:zu}{us:zy zx}{a:zy (Str×zx)}:(A.under (.builtin "type.__call__" ⟨.ref C::us,a⟩)).units=A.units+1:=by first | rfl|simp[Around.under,Code.cUnits,Code.frames,Code.isFrame]
def Room.make {k:Nat}{A:zk}(r:Room (k+1) A)(C:zu)(us:zy zx)(a:zy (Str×zx)):Room k (A.under (.builtin "type.__call__" ⟨.ref C::us,a⟩)):=
 ⟨r.hd,by have:=r.dp;rw[UI];omega,by have:=r.un;rw[UJ];omega,by first | exact r.gd|simpa[Around.under,pushGuards,Code.guards,Code.isGuard,guardIds] using r.gd⟩
def Room.depth {k:Nat}{A:zk}(r:Room k A):A.depth<recursionLimit:=by have:=r.dp;omega
def Room.units {k:Nat}{A:zk}(r:Room k A):A.units+64<cLine:=by have:=r.un;omega
def dM:TA:=λ_ H Q=>Q [] H
def Nd (b:TE)(c:TA):TA:=λa H Q=>b a H λx H1=>c a H1 λxs d=>Q (x::xs) d
section
variable {X:Cx}{e:zr}{es:zy zr}{te:TE}{t:TA}{pos:Pos}
def E4:PA X [] dM:=λ_ _ _ _ H Q I h=>AC8 ⟨[],H,I, .nil,h⟩
def CH (ha:PE X e te)(c:PA X es t)(hs:starEach (e::es) X.env=(false,eval e X.env)::starEach es X.env:=by rfl):PA X (e::es) (Nd te t):=by intro pos a s b H Q I h;rw[hs];show wpAny _ _ (spliced ((false,eval e X.env)::backTo pos (starEach es X.env))) _ _ s;refine AB2 (BY (ha a s b H _ I h) λu d ⟨x,H1,f,g,i⟩=> ?_);exact BY (c pos a d b H1 _ f i) λus n ⟨xs,j,k,l,m⟩=>⟨x::xs,j,k, .cons g l,m⟩
def dP (t:TA):TE:=λa H Q=>t a H λxs H1=>xs.length<=sizeLine/\∀p,H1 p=none->Q (.ref p) (upd H1 p (.tup xs))
def nw (t:TA):TE:=λa H Q=>t a H λxs H1=>xs.length<=sizeLine/\∀p,H1 p=none->Q (.ref p) (upd H1 p (.lst xs))
def NF {x1}(h:PA X es t):PE X (.Tuple es x1 pos) (dP t):=by intro d s f H Q I hq;refine wpAny_Tuple_spliced (BY (h pos d s f H _ I hq) λus a ⟨xs,H1,c,r,z,q⟩=>⟨by rw[<-r.length];exact z, ?_⟩);have g:H1 a.heap.objs.size=none:=c.hok.fresh (AAI _);refine⟨.ref a.heap.objs.size,upd H1 a.heap.objs.size (.tup xs),c.laid (t':=a.toks) (λb u e=>AAH _ e) (AAI _) ?_,rfl,q _ g⟩;exact⟨z,us,r,⟨_,AAS _ rfl,rfl,_,rfl⟩⟩
def ZH (h:PA X es t):PE X (.List es pos) (nw t):=by intro d s f H Q I hq;refine wpAny_List_spliced (BY (h pos d s f H _ I hq) λus a ⟨xs,H1,c,r,z,q⟩=>⟨by rw[<-r.length];exact z, ?_⟩);have g:H1 a.heap.objs.size=none:=c.hok.fresh (AAI _);refine⟨.ref a.heap.objs.size,upd H1 a.heap.objs.size (.lst xs),c.laid (t':=a.toks) (λb u e=>AAH _ e) (AAI _) ?_,rfl,q _ g⟩;exact⟨z,us,0,r,AAS _ rfl⟩
end
abbrev Sp:=zy V->Hp->VK->XK->Prop
abbrev WO:=zy Env->Hp->zw->XK->zx->zw->Prop
structure N1 (P:Program) (w:World) (K:AAB) (mg:Str->Option Value) (base:Heap) (A:Around) (outer:List Env) (s:Shared) (H:Hp):Prop where
 frames:A.frames=some outer
 mod:Mod K mg base
 bs:∀b o,base.get? b=some o->s.heap.get? b=some o/\H b=none
 bsz:base.objs.size<=s.heap.objs.size
 funs:s.heap.FunFrames base outer
 frf:∀b∈Xh outer,H b=none
 hok:Hs P w H s.heap
 bare:AllBare s.gens
def CE (outer:zy Env)(P:zp)(w:zm)(H:Hp)(s:zw)(Q:VK)(u:zx)(a:zw):Prop:=
 ∃v b,a.os=s.os/\AllBare a.gens/\Un (Xh outer) [] H b s.heap a.heap/\Hs P w b a.heap/\RelV v u/\Q v b
def CR (CX:WO)(outer:zy Env)(P:zp)(w:zm)(H:Hp)(s:zw)(Q:VK)(E:XK)(r:Result)(a:zw):Prop:=
 match r with
 | .ok (.ret u)=>CE outer P w H s Q u a
 | .ok _=>False
 | .error e=>CX outer H s E e a
structure EZ (P:Program) (w:World) (K:AAB) (mg:Str->Option Value) (base:Heap) (CX:WO) (k:Nat) (f:Addr) (fd:FuncData) (ps:List Str) (sp:Sp):Prop where
 len:∀vs H Q E,sp vs H Q E->vs.length=ps.length
 run:∀(A:Around) (outer:List Env) (s:Shared) (H:Hp) (args:Args) (us:List Value) (vs:List V) (Q:VK) (E:XK),Room k A->N1 P w K mg base A outer s H->BindsTo s fd args (ps.zip us)->Ao vs us->sp vs H Q E->
  codeAny (model P w) A (.call (.ref f) args) (CR CX outer P w H s Q E) s
def EZ.mono {P:zp}{w:zm}{K:AAB}{mg:Str->zt zx}{base:zl}{CX:WO}{j k:Nat}{f:zu}{a:FuncData}{b:zy Str}{sp:Sp}(F:EZ P w K mg base CX j f a b sp)(h:j<=k):EZ P w K mg base CX k f a b sp:=⟨F.len,λA outer s H args us vs Q E c=>F.run A outer s H args us vs Q E (c.mono h)⟩
def EZ.imp {P:zp}{w:zm}{K:AAB}{mg:Str->zt zx}{base:zl}{CX:WO}{k:Nat}{f:zu}{b:FuncData}{c:zy Str}{sp a:Sp}(F:EZ P w K mg base CX k f b c sp)(h:∀vs H Q E,a vs H Q E->sp vs H Q E):EZ P w K mg base CX k f b c a:=
 ⟨λvs H Q E q=>F.len vs H Q E (h _ _ _ _ q),λA outer s H args us vs Q E d he hb hv hs=>F.run A outer s H args us vs Q E d he hb hv (h _ _ _ _ hs)⟩
def N1.make {P:zp}{w:zm}{K:AAB}{mg:Str->zt zx}{base:zl}{A:zk}{outer:zy Env}{s:zw}{H:Hp}(e:N1 P w K mg base A outer s H)(C:zu)(us:zy zx)(a:zy (Str×zx)):N1 P w K mg base (A.under (.builtin "type.__call__" ⟨.ref C::us,a⟩)) outer s H:=⟨by first | exact e.frames|(simpa[Around.under,Code.envs,Code.isFrame,pushEnvs] using e.frames),e.mod,e.bs,e.bsz,e.funs,e.frf,e.hok,e.bare⟩
def N1.in1 {P:zp}{w:zm}{K:AAB}{mg:Str->zt zx}{base:zl}{A:zk}{outer:zy Env}{s:zw}{H:Hp}(e:N1 P w K mg base A outer s H):N1 P w K mg base A.in1 outer s H:=⟨e.frames,e.mod,e.bs,e.bsz,e.funs,e.frf,e.hok,e.bare⟩
section
variable {X:Cx}{zj:zy (zu×Obj)}{σ:St}{H:Hp}{s s':zw}
def Inv.env0 (I:Inv X zj σ H s):N1 X.prog X.w X.K X.mg X.base X.A X.stack s H:=
 ⟨I.ok.frames,I.ok.mod,I.bs,AAl I.ok.bsz I.sz,I.stack,I.stkFree,I.hok,I.bare⟩
def Inv.after {Q:VK}{u:zx}(I:Inv X zj σ H s)(h:CE X.stack X.prog X.w H s Q u s'):EP X zj σ Q u s':=by obtain⟨v,c,os,bare,un,hok,r,q⟩:=h;obtain⟨e,g,d,t,a⟩:=s';obtain rfl:a=s.os:=os;exact⟨v,c,I.call (h':=e) (g':=g) (d':=d) (t':=t) (ch:= []) un hok bare (λb z=>absurd z (by simp)),r,q⟩
end
def eB (sp:Sp)(a:zy V)(E:XK)(t:TA):TE:=λb H Q=>t b H λvs H1=>sp (vs++a) H1 Q E
def Binds (K:AAB)(c:FuncData)(a:zy Str)(b:zy zx):Prop:=
 ∀(s:zw) (us:zy zx),K.In s.heap->(us++b).length=a.length->BindsTo s c ⟨us, []⟩ (a.zip (us++b))
def Binds.all {K:AAB}{b:FuncData}{a:zy Str}(h:∀us:zy zx,us.length=a.length->bindArgs b ⟨us, []⟩=pure (a.zip us)):Binds K b a [] :=λs us _ hl=>by rw[AB3] at hl ⊢;exact .of_eq (h us hl)
def Passes (CX:WO)(X:Cx)(E:XK):Prop:=∀(b:zy (zu×Obj)) (c:St) (H:Hp) (s:zw) (e:zx) (a:zw),Inv X b c H s->CX X.stack H s E e a->X.xe e a
section
variable {X:Cx}{CX:WO}{k:Nat}{f C:zu}{fd:FuncData}{ps:zy Str}{sp:Sp}{dvs:zy V}{ds:zy zx}{E:XK}{x m:Str}{p pos apos:Pos}{e o:zr}{es:zy zr}{ta:TE}{t:TA}
theorem hJ {a:zy (zu×Obj)}{b:St}{H:Hp}{s:zw}{Q:VK}{us:zy zx}{vs:zy V}(F:EZ X.prog X.w X.K X.mg X.base CX k f fd ps sp)(d:Room k X.A)(hb:Binds X.K fd ps ds)(hd:Ao dvs ds)(hx:Passes CX X E)(I:Inv X a b H s)(r:Ao vs us)(h:sp (vs++dvs) H Q E):wpAny (model X.prog X.w) X.A (call (.ref f) us) (EP X a b Q) X.xe s:=by
 have c:Ao (vs++dvs) (us++ds):=r.append hd;have hl:(us++ds).length=ps.length:=by rw[<-c.length];exact F.len _ _ _ _ h
 refine wpAny_call (codeAny_mono (F.run X.A X.stack s H ⟨us, []⟩ (us++ds) (vs++dvs) Q E d I.env0 (hb s us I.kIn hl) c h) λr g hq=> ?_);cases r with
 | error e=>exact hx a b H s e g I hq
 | ok i=>
   cases i with
   | ret u=>exact I.after hq
   | next=>exact False.elim hq
   | brk=>exact False.elim hq
   | cont=>exact False.elim hq
theorem cR (F:EZ X.prog X.w X.K X.mg X.base CX k f fd ps sp)(b:Room k X.A)(c:Gl X x)(d:X.mg x=some (.ref f))(hk:PySem.W.keepIn X.K (.ref f)=true)(hb:Binds X.K fd ps ds)(hd:Ao dvs ds)(hx:Passes CX X E)(ha:PA X (e::es) t)(hdb:(x==("__debug__" :Str))=false:=by decide)(he:starEach (e::es) X.env=(false,eval e X.env)::starEach es X.env:=by rfl)(hpl:(backTo pos (starEach es X.env)).any (·.1)=false:=by rfl):PE X (.Call (.Name x p) (e::es) [] pos) (eB sp dvs E t):=by intro g s i H Q I h;refine AC9 (Vm I c d ?_ hdb);refine PySem.W.callWith_K (h₀:=X.base) I.ok.mod.kin hk (BY (ha pos g s i H _ I h) λus j ⟨vs,H1,a,r,q⟩=>⟨a.kIn, ?_⟩) he hpl;exact hJ F b hb hd hx a r q
structure Mk (K:AAB) (C f:Addr):Prop where
 makes:PySem.W.makesIn K C=true
 init:PySem.W.findIn K (.ref C) "__init__" =some (some (.ref f))
 fn:PySem.W.isFn K (.ref f)=true
 kp:PySem.W.keepIn K (.ref C)=true
end
section
variable {X:Cx}{CX:WO}{k:Nat}{f C:zu}{fd:FuncData}{ps ks:zy Str}{sp:Sp}{E:XK}{x m:Str}{p pos apos kpos:Pos}{e o:zr}{es:zy zr}{kws:zy Keyword}{te ta:TE}{t tk:TA}{nm:zt Str}
structure mF (K:AAB) (fd:FuncData) (ps ks:List Str) (g:List Value->List Value->List Value) (gV:List V->List V->List V):Prop where
 to:∀(s:Shared) (us ws:List Value),K.In s.heap->(g us ws).length=ps.length->BindsTo s fd ⟨us,ks.zip ws⟩ (ps.zip (g us ws))
 rel:∀{vs:List V} {us:List Value} {zs:List V} {ws:List Value},Ao vs us->Ao zs ws->Ao (gV vs zs) (g us ws)
variable {g:zy zx->zy zx->zy zx}{gV:zy V->zy V->zy V}
end
structure EC (N P:List Str) (sc:Scope):Prop where
 kind:sc.kind= .function
 co:sc.isCoroutine=false
 gen:sc.isGenerator=false
 nd:N.Nodup
 pre:N.take P.length=P
 par:∀x∈P,sc.names.lookup x=some .local\/sc.names.lookup x=some .cell
 nofree:∀y∈sc.names,y.2≠ .free
theorem Oe {kindOf:Str->zt NameKind}{x:Str}:∀{binds:zy (Str×zx)} {m:Str->zt zx},(∀v,(x,v) ∉ binds)->bindL kindOf binds m x=m x
 | [],_,_=>rfl
 | (n,v)::r,m,h=>by
   unfold bindL;rw[Oe λw hw=>h w (ABA _ hw)];split
   .have:x≠n:=by rintro rfl;exact h v ABZ
    simp[this]
   .rfl
theorem Oc {kindOf:Str->zt NameKind}{x:Str}:∀{binds:zy (Str×zx)} {m:Str->zt zx},(∀v,(x,v) ∉ binds)->bindC kindOf binds m x=m x
 | [],_,_=>rfl
 | (n,v)::r,m,h=>by
   unfold bindC;rw[Oc λw hw=>h w (ABA _ hw)];split
   .rfl
   .have:x≠n:=by rintro rfl;exact h v ABZ
    simp[this]
theorem Od {kindOf:Str->zt NameKind}{x:Str}{v:zx}:∀{P:zy Str} {vs:zy zx} {i:Nat} {m:Str->zt zx},P.Nodup->P[i]? =some x->vs[i]? =some v->kindOf x=some .local-> bindL kindOf (P.zip vs) m x=some v
 | [],_,_,_,_,h,_,_=>by simp at h
 | _::_, [],_,_,_,_,h,_=>by simp at h
 | p::P,w::vs,0,m,nd,h1,h2,hk=>by simp at h1 h2;subst h1;subst h2;show bindL kindOf ((p,w)::P.zip vs) m p=_;unfold bindL;rw[Oe λv hv=>(ACV.mp nd).1 (ABD hv).1,AAE hk];simp
 | p::P,w::vs,i+1,m,nd,h1,h2,hk=>by show bindL kindOf ((p,w)::P.zip vs) m x=_;unfold bindL;exact Od (i:=i) (ACV.mp nd).2 (by simpa using h1) (by simpa using h2) hk
theorem Ob {kindOf:Str->zt NameKind}{x:Str}{v:zx}:∀{P:zy Str} {vs:zy zx} {i:Nat} {m:Str->zt zx},P.Nodup->P[i]? =some x->vs[i]? =some v->kindOf x≠some .local-> bindC kindOf (P.zip vs) m x=some v
 | [],_,_,_,_,h,_,_=>by simp at h
 | _::_, [],_,_,_,_,h,_=>by simp at h
 | p::P,w::vs,0,m,nd,h1,h2,hk=>by simp at h1 h2;subst h1;subst h2;show bindC kindOf ((p,w)::P.zip vs) m p=_;unfold bindC;rw[Oc λv hv=>(ACV.mp nd).1 (ABD hv).1,AAC hk];simp
 | p::P,w::vs,i+1,m,nd,h1,h2,hk=>by show bindC kindOf ((p,w)::P.zip vs) m x=_;unfold bindC;exact Ob (i:=i) (ACV.mp nd).2 (by simpa using h1) (by simpa using h2) hk
def start (N:zy Str)(vs:zy V):St:=vs.map some++List.replicate (N.length-vs.length) none
def RR (CX:WO)(P:zp)(w:zm)(K:AAB)(mg:Str->zt zx)(base:zl)(N:zy Str)(qual:Str)(scope:Scope)(f:zu)(b:zx)(A:zk)(outer:zy Env)(s:zw)(H:Hp)(E:XK):Cx where
 prog:=P
 w:=w
 K:=K
 mg:=mg
 base:=base
 A:=A.deeper (envOfC qual scope s.heap.objs.size f b)
 N:=N
 s₀:=s
 H₀:=H
 env:=envOfC qual scope s.heap.objs.size f b
 outer:=outer
 stack:=envOfC qual scope s.heap.objs.size f b::outer
 ex:= []
 calm:=true
 fn:=λ_=>true
 pn:= []
 xe:=λe c=>wpAny (model P w) (A.deeper (envOfC qual scope s.heap.objs.size f b)) (leaving (envOfC qual scope s.heap.objs.size f b) e) (λ_ a=>CX outer H s E e a) (λd a=>CX outer H s E d a) c
def RO {sc:Scope}{n:Nat}{x:Str}(h:sc.names.lookup x=some .cell):∃c,(cellsFrom n sc.names []).lookup x=some c:=by have q:=ADc sc.names n [] (.inl h);exact Option.isSome_iff_exists.mp q
def W3 {CX:WO}{P:zp}{w:zm}{K:AAB}{mg:Str->zt zx}{base:zl}{N g:zy Str}{qual:Str}{scope:Scope}{f:zu}{m:zx}{A:zk}{outer:zy Env}{s o:zw}{H:Hp}{E:XK}{us:zy zx}{vs:zy V}(S:EC N g scope)(hd:A.handled=none)(d:N1 P w K mg base A outer s H)(hl:vs.length=g.length)(r:Ao vs us)(x:InCallC s s.heap.objs.size (bindL (envOfC qual scope s.heap.objs.size f m).kindOf (g.zip us) λ_=>none) (cellsFrom (s.heap.objs.size+1) scope.names []) (bindC (envOfC qual scope s.heap.objs.size f m).kindOf (g.zip us) λ_=>none) o):Inv (RR CX P w K mg base N qual scope f m A outer s H E) [] (start N vs) H o:=by
 have hpl:g.length<=N.length:=by have:=congrArg List.length S.pre;rw[ADA] at this;omega
 obtain⟨h1,t,rfl,hk⟩:=x.done;have j:∀b:zu,b ∉ (RR CX P w K mg base N qual scope f m A outer s H E).ex:=λb z=>absurd (show b∈([] :zy zu) from z) (by simp);refine⟨⟨d.mod,S.kind,rfl,rfl,AAI _,λy z c h1 h2=> ?_,λy hy=> ?_,λy c _ h=> ?_,λ_=>hd,Around.frames_deeper d.frames, .inr ⟨rfl,rfl⟩,λb z=>absurd z (j b),d.bs,d.bsz,λb _ _=>j b,λb z=>absurd z (j b),d.funs,d.frf⟩,
  rfl,d.bare,Un.kept hk,⟨_,x.toInCall.ns,λi y v h1 h2 B=> ?_⟩,λy c h=>⟨_,x.cell y c h⟩,d.hok.fresh (AAI _),λy c h=> ?_,λp hp=>absurd (show p∈([] :zy (zu×Obj)) from hp) (by simp),d.hok.kept hk, ?_⟩
 .exact name_of_addr x.apart (AB4 h1) (AB4 h2)
 .have hy:scope.names.lookup y=some .cell\/scope.names.lookup y=some .free:=hy;rcases hy with hy|hy
  .exact RO hy
  .exact absurd rfl (S.nofree _ (AB4 hy))
 .exact AB0 (x.above y c (AB4 h))
 .have hi:i<vs.length:=by
   unfold start at h2;by_cases hi:i<vs.length
   .exact hi
   .rw [AA6 (by simpa using hi)] at h2;rw[ABM] at h2;split at h2 <;> cases h2
  have ha:vs[i]? =some v:=by
   unfold start at h2;rw[ABE (by simpa using hi),AAm] at h2;cases e:vs[i]? with
   | none=>rw[e] at h2;cases h2
   | some a=>rw[e] at h2;cases h2;rfl
  obtain⟨u,hu,rv⟩:=r.get ha;have hp:g[i]? =some y:=by rw[<-S.pre,List.getElem?_take_of_lt (by omega)];exact h1
  have l:g.Nodup:=by rw[<-S.pre];exact S.nd.sublist (List.take_sublist _ _)
  refine⟨u,rv, ?_⟩;rcases S.par y (ABb hp) with k|k
  .exact .inl ⟨k,Od l hp hu k⟩
  .obtain ⟨c,e⟩:=RO (n:=s.heap.objs.size+1) k;refine .inr ⟨.inl k,c,e, ?_⟩;have q:=x.cell y c e;rw[Ob l hp hu (by show scope.names.lookup y≠_;rw[k];decide)] at q;exact q
 .exact d.hok.fresh (AB0 (x.above y c (AB4 h)))
 .unfold start;show _=N.length;rw[AAr,AAJ,ABN];omega
def jZ {CX:WO}{P:zp}{w:zm}{K:AAB}{mg:Str->zt zx}{base:zl}{k:Nat}{f:zu}{name qual:Str}{params:Arguments}{body:zy Stmt}{scope:Scope}{z kV d B a ct L:zx}{C M:zt zu}{j:Array (zt zx)}{N i:zy Str}{sp:Sp}(O:K.lookup f=some ⟨L,M, .func (PySem.W.fnOf name qual params body scope z kV d B C a ct),j⟩)(R:PySem.W.codeIn K a qual=true)(S:EC N i scope)(len:∀vs H Q E,sp vs H Q E->vs.length=i.length)(T:∀(A:zk) (outer:zy Env) (s:zw) (H:Hp) (vs:zy V) (Q:VK) (E:XK),Room k (A.deeper (envOfC qual scope s.heap.objs.size f a))->sp vs H Q E-> ∃t,Su (RR CX P w K mg base N qual scope f a A outer s H E) body t/\t {nx:=λ_ c=>Q .non c,rt:=Q} (start N vs) H):EZ P w K mg base CX (k+1) f (PySem.W.fnOf name qual params body scope z kV d B C a ct) i sp:=by
 refine⟨len,λA outer s H args us vs Q E l g hb r D=> ?_⟩;have hl:=len _ _ _ _ D;have F:K.In s.heap:=g.mod.kin.keeps λb o e=>(g.bs b o e).1;have m:s.heap.NoLimit:=g.mod.nolimit.keeps λb o e=>(g.bs b o e).1;have U:∀y∈i.zip us,scope.names.lookup y.1=some .local\/(scope.names.lookup y.1=some .cell/\((cellsFrom (s.heap.objs.size+1) scope.names []).lookup y.1).isSome=true):=λ⟨n,v⟩ hy=>by
  rcases S.par n (ABD hy).1 with q|q
  .exact .inl q
  .exact .inr ⟨q,ADc _ _ _ (.inl q)⟩
 refine codeAny_call_function l.depth (F _ _ O) rfl S.co S.gen rfl (PySem.W.codeRec_of F R) (hb _ _ _ _ ?_);refine wpAny_newFunctionEnv_cells S.kind U λenv he G x=> ?_;subst he;refine⟨m.keeps x.toInCall.keep,codeAny_func ?_⟩;obtain⟨t,X,hq⟩:=T A outer s H vs Q E (l.deeper _) D;have I:Inv (RR CX P w K mg base N qual scope f a A outer s H E) [] (start N vs) H G:=W3 S l.hd g hl r x;refine ABK (X [] G (start N vs) H _ I hq) (λY p hs=> ?_) λe p hs=>hs;have h:∀{σ':St} {c:Hp} {v:V} {u:zx},Inv (RR CX P w K mg base N qual scope f a A outer s H E) [] σ' c p->RelV v u->Q v c->CE outer P w H s Q u p:=
  λ{σ' c v u} J rv q=>⟨v,c,J.os,J.bare,J.base,J.hok,rv,q⟩
 cases Y with
 | ret u=> obtain⟨v,σ',c,J,rv,q⟩:=hs;exact h J rv q
 | next=> obtain⟨σ',c,J,q⟩:=hs;exact h (v:=V.non) (u:=Value.none) J rfl q
 | brk=> obtain⟨_,_,_,q⟩:=hs;exact False.elim q
 | cont=> obtain⟨_,_,_,q⟩:=hs;exact False.elim q
section
variable {X:Cx}{x:Str}{p pos:Pos}{e:zr}{es:zy zr}{t:TA}{id T:String}{r:zy V->Hp->VK->Prop}
def nu (r:zy V->Hp->VK->Prop)(t:TA):TE:=λa H Q=>t a H λvs H1=>r vs H1 Q
def JZ (hc:CZ X (.builtin id) r)(c:Gl X x)(d:X.mg x=none)(hv:bootBuiltins x=some (.builtin id))(ha:PA X (e::es) t)(f:x≠"__name__" :=by decide)(hdb:(x==("__debug__" :Str))=false:=by decide)(he:starEach (e::es) X.env=(false,eval e X.env)::starEach es X.env:=by rfl)(hpl:(backTo pos (starEach es X.env)).any (·.1)=false:=by rfl):PE X (.Call (.Name x p) (e::es) [] pos) (nu r t):=by intro a s b H Q I h;refine AC9 (J5 I c d hv ?_ f hdb);exact PyProof.Rows.callWith_builtin1 (BY (ha pos a s b H _ I h) λus g ⟨vs,H1,i,j,k⟩=>hc a g b H1 vs us Q i j k) he hpl
def G4 (hc:CZ X (.type T) r)(c:Gl X x)(d:X.mg x=none)(hv:bootBuiltins x=some (.type T))(ha:PA X (e::es) t)(f:x≠"__name__" :=by decide)(hdb:(x==("__debug__" :Str))=false:=by decide)(he:starEach (e::es) X.env=(false,eval e X.env)::starEach es X.env:=by rfl)(hpl:(backTo pos (starEach es X.env)).any (·.1)=false:=by rfl):PE X (.Call (.Name x p) (e::es) [] pos) (nu r t):=by intro a s b H Q I h;refine AC9 (J5 I c d hv ?_ f hdb);exact AB1 (BY (ha pos a s b H _ I h) λus g ⟨vs,H1,i,j,k⟩=>hc a g b H1 vs us Q i j k) he hpl
end
end L2
namespace HT
open PySem PyProof.Rows
section
variable {prog:zp}{w:zm}{A:zk}{E:zx->zw->Prop}{s:zw}
def cat_tup {t b:zu}{vs a:zy zx}{Q:zx->zw->Prop}(o:IsTup s.heap t vs.toArray)(hb:IsTup s.heap b a.toArray)(hv:vs≠ [])(h1:a= [] ->Q (.ref t) s)(h2:a≠ [] ->Q (.ref s.heap.objs.size) {s with heap:=s.heap.push {cls:= .type "tuple",data:= .seq (vs++a).toArray}})(hsz:vs.length+a.length<=sizeLine):wpAny (model prog w) A (binaryOp .Add (.ref t) (.ref b)) Q E s:=by
 obtain⟨⟨cls,h,data,i⟩,f,hc,n,hd⟩:=id o;obtain⟨⟨j,c,data2,d⟩,g,k,l,m⟩:=id hb;simp only at hc hd k m;subst hc hd k m;have e:vs.toArray++a.toArray=(vs++a).toArray:=by simp
 by_cases hw:a= []
 .exact concat_meets ⟨_,f,rfl⟩ ⟨_,g,rfl⟩ ADB seq_tuple_add ADC ADD (ADE _ _)
   (tuple_addW1 t b vs.toArray a.toArray n l h c i d (by simpa using hv) (by simp[hw])) ⟨f,g,h1 hw⟩
 .refine concat_meets ⟨_,f,rfl⟩ ⟨_,g,rfl⟩ ADB seq_tuple_add ADC ADD (ADE _ _)
   (tuple_addW2 t b vs.toArray a.toArray n l h c i d (by simpa using hv) (by simpa using hw) (by rw[AAP,AAP];exact hsz)) ⟨f,g, ?_⟩
  rw[e];exact h2 hw
def sIx (n d:Nat):zt Int->Nat
 | none=>d
 | some v=>if v<0 then (v+(n:Int)).toNat else min v.toNat n
def sIx_none (n d:Nat):sIx n d none=d:=rfl
def sIx_nat (n d k:Nat):sIx n d (some (k:Int))=min k n:=by show (if (k:Int)<0 then ((k:Int)+(n:Int)).toNat else min (k:Int).toNat n)=min k n;rw[AAC (by omega),ABm]
def hU (n d:Nat)(hd:d<=n)(o:zt Int):sIx n d o<=n:=by
 cases o with
 | none=>exact hd
 | some v=>
   show (if v<0 then (v+(n:Int)).toNat else min v.toNat n)<=n;by_cases hv:v<0
   .rw [AAE hv];omega
   .rw [AAC hv];exact Nat.min_le_right _ _
def VN (v:Int)(n d:Nat):(if v<0 then max (v+(n:Int)) 0 else min v (n:Int))=((sIx n d (some v):Nat):Int):=by
 show (if v<0 then max (v+(n:Int)) 0 else min v (n:Int))=(((if v<0 then (v+(n:Int)).toNat else min v.toNat n):Nat):Int);by_cases hv:v<0
 .simp only[AAE hv];omega
 .simp only[AAC hv];omega
def TU (lo hi:zt Int)(n:Nat):Builtin.Slice.sliceAdjust lo hi 1 (n:Int)=(((sIx n 0 lo:Nat):Int),((sIx n n hi:Nat):Int)):=by
 have h1:¬((1:Int)<0):=by omega
 unfold Builtin.Slice.sliceAdjust;simp only[h1,AAa];refine AB5 ?_ ?_
 .cases lo with
  | none=>rfl
  | some v=>exact VN v n 0
 .cases hi with
  | none=>rfl
  | some v=>exact VN v n n
def UV (i j:Nat):Builtin.Slice.slicePlaces (i:Int) (j:Int) 1=j-i:=by
 unfold Builtin.Slice.slicePlaces;have h1:(1:Int)>0:=by omega
 simp only[h1,AA5,Int.ediv_one];split <;> omega
def NW {v:zx}{o:zt Int}{Q:zt Int->zw->Prop}(p:IsPart v o)(h:Q o s):wpAny (model prog w) A (Builtin.Slice.slicePartIndex v) Q E s:=by
 cases p with
 | none=>exact slicePart_none h
 | int i t=>exact slicePart_int h
def sliceApplied_gen {e:zu}{a b:zx}{lo hi:zt Int}{n:Nat}{Q:Int×Int×Nat->zw->Prop}(hs:s.heap.IsSliceOf e a b .none)(f:IsPart a lo)(g:IsPart b hi)(h:Q (((sIx n 0 lo:Nat):Int),1,sIx n n hi-sIx n 0 lo) s):wpAny (model prog w) A (Builtin.Slice.sliceApplied (.ref e) (pure (n:Int))) Q E s:=by obtain⟨os,c,i,d⟩:=id hs;unfold Builtin.Slice.sliceApplied Builtin.Slice.sliceFields;refine AAA (AAA (AAn c d (x:=a) rfl (AAA (AAn c d (x:=b) rfl (AAA (AAn c d (x:= .none) rfl (AAD ?_)))))));refine AAA (slicePart_none ?_);show wpAny _ _ (if ((1:Int)==0)=true then _ else _) _ _ s;rw[AAC (by decide)];refine AAA (NW f (AAA (NW g (AAA (AAD ?_)))));show wpAny _ _ (match Builtin.Slice.sliceAdjust lo hi 1 (n:Int) with | (lo,hi)=>pure (lo,(1:Int),Builtin.Slice.slicePlaces lo hi 1)) _ _ s;rw[TU lo hi n];show wpAny _ _ (pure (((sIx n 0 lo:Nat):Int),(1:Int),Builtin.Slice.slicePlaces ((sIx n 0 lo:Nat):Int) ((sIx n n hi:Nat):Int) 1)) _ _ s;rw[UV];exact AAD h
def ZN (xs:Array zx)(i k:Nat):((List.range k).filterMap λ(m:Nat)=>xs[((i:Int)+(m:Int)*1).toNat]?).toArray=((xs.toList.drop i).take k).toArray:=by
 have e:(λ(m:Nat)=>xs[((i:Int)+(m:Int)*1).toNat]?)=λm=>xs[i+m]? :=by
  funext m
  have:((i:Int)+(m:Int)*1).toNat=i+m:=by omega
  rw[this]
 rw[e];have:=pick_run xs i k;rw[List.filterMap_map] at this;have a:((λx=>xs[x]?) ∘ λx=>i+x)=λm=>xs[i+m]? :=rfl;rw[a] at this;rw[this]
def getItem_tuple_cut {t c:zu}{items:Array zx}{d e:zx}{lo hi:zt Int}{Q:zx->zw->Prop}(a:IsTup s.heap t items)(hs:s.heap.IsSliceOf c d e .none)(f:IsPart d lo)(g:IsPart e hi)(hw:¬(sIx items.size 0 lo=0/\sIx items.size items.size hi=items.size))(h:Q (.ref s.heap.objs.size) {s with heap:=s.heap.push {cls:= .type "tuple",data:= .seq ((items.toList.drop (sIx items.size 0 lo)).take (sIx items.size items.size hi-sIx items.size 0 lo)).toArray}})(hsz:items.size<=sizeLine):wpAny (model prog w) A (getItem (.ref t) (.ref c)) Q E s:=by
 have b:sizeOk (.seq ((items.toList.drop (sIx items.size 0 lo)).take (sIx items.size items.size hi-sIx items.size 0 lo)).toArray):=by show ((items.toList.drop (sIx items.size 0 lo)).take (sIx items.size items.size hi-sIx items.size 0 lo)).toArray.size<=sizeLine;rw[AAP,ADA,List.length_drop,ABY];omega
 have hj:sIx items.size items.size hi<=items.size:=hU _ _ (AAI _) hi;obtain⟨os,i,j,n⟩:=id hs;have k:s.TypeIs (.ref c) "slice" :=⟨os,i,j⟩;unfold getItem;try with_reducible refine AAk ?_
 first | refine AAA (AAD ?_)|skip
 refine AAA (wpAny_sequenceKey a.typeIs (by decide) ?_);refine AAA (ABO (name:=Str.ofString "__getitem__") a.typeIs ABn
  (AAw ABn a.typeIs entry_tuple_getitem ?_ (args_tuple_getitem _ _)))
 show wpAny _ _ (Builtin.Tuple.tupleItemsOf (.ref t) >>= _) _ _ s;refine AAA (tupleItemsOf_ a ?_);refine AAA (AB6 k ?_);rw[AAE (by decide)];refine AAA (sliceApplied_gen hs f g ?_);have l:¬((((sIx items.size 0 lo:Nat):Int)==0&&(1:Int)==1&&(sIx items.size items.size hi-sIx items.size 0 lo)==items.size)=true):=by intro q;rw[AAf,AAf] at q;have o:((sIx items.size 0 lo:Nat):Int)=0:=eq_of_beq q.1.1;have p:sIx items.size items.size hi-sIx items.size 0 lo=items.size:=eq_of_beq q.2;exact hw ⟨by omega,by omega⟩
 show wpAny _ _ (if (((sIx items.size 0 lo:Nat):Int)==0&&(1:Int)==1&&(sIx items.size items.size hi-sIx items.size 0 lo)==items.size)=true then _ else _) _ _ s;rw[AAC l,ZN];first
  | exact AAA (m:=Builtin.Tuple.tupleExact _) (AAx (AAD ⟨_,rfl,AAD h⟩) b)
  | exact AAA (m:=Builtin.Tuple.tupleExact _) (AAx (AAA (AAD (AAD ⟨_,rfl,AAD h⟩))) b)
  | exact AAA (AAA (m:=Builtin.Tuple.tupleExact _) (AAx (AAD (AAD ⟨_,rfl,AAD h⟩)) b))
  | exact AAA (AAA (m:=Builtin.Tuple.tupleExact _) (AAx (AAD ⟨_,rfl,AAD h⟩) b))
end
end HT
namespace L2
open PySem PySem.Spec PyProof.Rows
abbrev TO:=St->Hp->(zt Int->Hp->Prop)->Prop
def PO (X:Cx)(e:zt zr)(t:TO):Prop:=
 ∀(b:zy (zu×Obj)) (s:zw) (a:St) (H:Hp) (Q:zt Int->Hp->Prop),Inv X b a H s->t a H Q->
  wpAny (model X.prog X.w) X.A (evalPart e X.env) (λu d=>∃o c,Inv X b a c d/\IsPart u o/\Q o c) X.xe s
def dO:TO:=λ_ H Q=>Q none H
def lB (t:TE):TO:=λa H Q=>t a H λx H1=>∃i,x= .int i/\Q (some i) H1
section
variable {X:Cx}{e:zr}{te:TE}{lo hi:zt zr}{tl th:TO}{pos p2:Pos}
def cY:PO X none dO:=by intro a s b H Q I h;rw[evalPart_none];exact AAD ⟨none,H,I, .none,h⟩
def cZ (h:PE X e te):PO X (some e) (lB te):=by intro a s b H Q I hw;rw[evalPart_some];refine BY (h a s b H _ I hw) λu g ⟨x,H1,c,d,f⟩=> ?_;obtain⟨i,rfl,q⟩:=f;obtain⟨t,rfl⟩:=d;exact⟨some i,H1,c, .int i t,q⟩
def dZ (X:Cx)(r:V->zt Int->zt Int->Hp->VK->Prop):Prop:=
 ∀(a:zy (zu×Obj)) (s:zw) (b:St) (H:Hp) (x:V) (v c d:zx) (lo hi:zt Int) (f:zu) (Q:VK),Inv X a b H s->RelV x v->s.heap.IsSliceOf f c d .none->IsPart c lo->IsPart d hi->r x lo hi H Q->
  ∃T id,typeLookup (.type T) "__getitem__" =pure (some (.builtin id))/\s.TypeIs v T/\wpAny (model X.prog X.w) X.A (getItem v (.ref f)) (EP X a b Q) X.xe s
def dZ.or {r a:V->zt Int->zt Int->Hp->VK->Prop}(h:dZ X r)(h':dZ X a):dZ X (λx lo hi H Q=>r x lo hi H Q\/a x lo hi H Q):=by
 intro b s c H x v d f lo hi g Q I i hs j k q;rcases q with q|q
 .exact h b s c H x v d f lo hi g Q I i hs j k q
 .exact h' b s c H x v d f lo hi g Q I i hs j k q
def ur (r:V->zt Int->zt Int->Hp->VK->Prop)(te:TE)(tl th:TO):TE:=λa H Q=>te a H λx H1=>tl a H1 λl b=>th a b λu c=>r x l u c Q
def ZJ {r:V->zt Int->zt Int->Hp->VK->Prop}(j:dZ X r)(he:PE X e te)(hl:PO X lo tl)(hu:PO X hi th):PE X (.Subscript e (.Slice lo hi none p2) pos) (ur r te tl th):=by intro c s d H Q I h;refine Subscript_ (BY (he c s d H _ I h) λv k ⟨x,H1,m,n,o⟩=> ?_);refine wpAny_Slice (BY (hl c k d H1 _ m o) λf p ⟨l,t,y,z,B⟩=>BY (hu c p d t _ y B) λg a ⟨u,i,C,D,E⟩=> ?_);rw[evalPart_none];refine AAD ?_;have F:Inv X c d i {a with heap:=a.heap.push {cls:= .type "slice",data:= .fields #[f,g, .none] }}:=C.kept (t':=a.toks) λb L q=>AAH _ q;obtain⟨T,id,G,J,K⟩:=j c {a with heap:=a.heap.push {cls:= .type "slice",data:= .fields #[f,g, .none] }} d i x v f g l u a.heap.objs.size Q F n (Heap.IsSliceOf.new ..) z D E;show wpAny (model X.prog X.w) X.A (subscriptTail e (.Slice lo hi none p2) v (.ref a.heap.objs.size)) (EP X c d Q) X.xe {a with heap:=a.heap.push {cls:= .type "slice",data:= .fields #[f,g, .none] }};exact tail_any (ops:= [.ref a.heap.objs.size,v]) J G K (by with_unfolding_all rfl)
def N6 (xs:zy V)(lo hi:zt Int):zy V:=(xs.drop (HT.sIx xs.length 0 lo)).take (HT.sIx xs.length xs.length hi-HT.sIx xs.length 0 lo)
def Kz (xs:zy V)(lo hi:zt Int):(N6 xs lo hi).length<=xs.length:=by unfold N6;rw[ADA,List.length_drop];omega
def nZ (K:AAB):V->zt Int->zt Int->Hp->VK->Prop:=λx lo hi H Q=>∃a xs,x= .ref a/\Kx K H a xs/\
 ¬(HT.sIx xs.length 0 lo=0/\HT.sIx xs.length xs.length hi=xs.length)/\∀p,H p=none->Q (.ref p) (upd H p (.tup (N6 xs lo hi)))
def iI:dZ X (nZ X.K):=by
 intro k s l H x v m n lo hi p Q I g hs i j h;obtain⟨a,xs,rfl,hx,hw,q⟩:=h;cases g;obtain⟨c,r,f,hz⟩:=I.tuple hx;have d:c.toArray.size=xs.length:=by rw[AAP];exact r.length.symm
 refine⟨"tuple",_,ABn.lookup,f.typeIs, ?_⟩;refine HT.getItem_tuple_cut f hs i j (by rw[d];exact hw) ?_ (by rw[d];exact hz);rw[d];refine⟨.ref s.heap.objs.size,_,I.laid (t':=s.toks) (o:= .tup (N6 xs lo hi)) (λb t q=>AAH _ q) (AAI _) ?_,rfl,q _ (I.hok.fresh (AAI _))⟩;exact⟨AAl (Kz xs lo hi) hz,_,(r.drop (HT.sIx xs.length 0 lo)).take (HT.sIx xs.length xs.length hi-HT.sIx xs.length 0 lo),IsTup.new _ _⟩
def d5 (K:AAB):R2:=λx y H Q=>∃a b xs ys,x= .ref a/\y= .ref b/\Kx K H a xs/\Kx K H b ys/\xs≠ [] /\xs.length+ys.length<=sizeLine/\
 (ys= [] ->Q (.ref a) H)/\(ys≠ [] ->∀p,H p=none->Q (.ref p) (upd H p (.tup (xs++ys))))
def Ao.nil_iff {xs:zy V}{us:zy zx}(r:Ao xs us):us= [] ↔xs= [] :=by
 cases r with
 | nil=>simp
 | cons _ _=>simp
def cP:EN X (binaryOp .Add) (d5 X.K):=by intro n s p H x y v u Q I g i h;obtain⟨a,b,xs,ys,rfl,rfl,ha,hb,hx,hz,j,k⟩:=h;cases g;cases i;obtain⟨l,d,m,_⟩:=I.tuple ha;obtain⟨f,c,p2,_⟩:=I.tuple hb;refine HT.cat_tup m p2 (λz=>hx (d.nil_iff.mp z)) (λz=>⟨.ref a,H,I,rfl,j (c.nil_iff.mp z)⟩) (λz=> ?_) (by rw[<-d.length,<-c.length];exact hz);refine⟨.ref s.heap.objs.size,_,I.laid (t':=s.toks) (o:= .tup (xs++ys)) (λb r q=>AAH _ q) (AAI _) ?_,rfl,k (λw=>z (c.nil_iff.mpr w)) _ (I.hok.fresh (AAI _))⟩;exact⟨by rw[AAr];exact hz,_,d.append c,IsTup.new _ _⟩
end
def b6 (n:Nat)(i:Int):zt Nat:=if 0<=i then (if i<n then some i.toNat else none) else if -(n:Int)<=i then some (i+n).toNat else none
def Jp {a:Type}(xs:zy a)(i:Int):zt a:=(b6 xs.length i).bind λj=>xs[j]?
def Vl {n:Nat}{i:Int}{j:Nat}(h:b6 n i=some j):seqIndex? i n=some j/\j<n/\ -(n:Int)<=i/\i<n:=by
 unfold b6 at h;by_cases a:0<=i
 .rw [AAE a] at h;by_cases h1:i<n
  .rw [AAE h1] at h;have e:i.toNat=j:=AAX h;exact⟨by rw[seqIndex_of a h1,e],by omega,by omega,h1⟩
  .rw [AAC h1] at h;cases h
 .rw [AAC a] at h;by_cases h1: -(n:Int)<=i
  .rw [AAE h1] at h;have e:(i+n).toNat=j:=AAX h;exact⟨by rw[seqIndex_neg (by omega) h1,e],by omega,h1,by omega⟩
  .rw [AAC h1] at h;cases h
def VH {a:Type}{xs:zy a}{i:Int}{v:a}(h:Jp xs i=some v):∃j,seqIndex? i xs.length=some j/\xs[j]? =some v/\j<xs.length/\ -(xs.length:Int)<=i/\i<xs.length:=by
 unfold Jp at h;cases e:b6 xs.length i with
 | none=>rw[e] at h;cases h
 | some j=> rw[e] at h;obtain⟨h1,h2,b,c⟩:=Vl e;exact⟨j,h1,h,h2,b,c⟩
def DB {a:Type}{xs:zy a}{j:Nat}{v:a}(h:xs[j]? =some v):Jp xs (j:Int)=some v:=by
 have hj:j<xs.length:=(AAp.mp h).1;have e:b6 xs.length (j:Int)=some j:=by unfold b6;rw[AAE (by omega),AAE (by omega)];simp
 unfold Jp;rw[e];exact h
def PQ (b:zr):Prop:=∀o i,subscripted b false o i=operate [o,i] (getItem o i)
def aw (X:Cx)(r:R2):Prop:=
 ∀(value slice:zr) (a:zy (zu×Obj)) (s:zw) (b:St) (H:Hp) (x y:V) (v u:zx) (Q:VK),Inv X a b H s->RelV x v->RelV y u->r x y H Q->
  subscripted slice false v u=operate [v,u] (getItem v u)->wpAny (model X.prog X.w) X.A (subscriptTail value slice v u) (EP X a b Q) X.xe s
def tK (X:Cx)(id:String)(r:V->zy V->Hp->VK->Prop):Prop:=
 ∀(a:zy (zu×Obj)) (s:zw) (b:St) (H:Hp) (x:V) (xs:zy V) (v:zx) (us:zy zx) (Q:VK),Inv X a b H s->RelV x v->Ao xs us->r x xs H Q->
  wpAny (model X.prog X.w) X.A (call (.builtin id) (v::us)) (EP X a b Q) X.xe s
section
variable {X:Cx}{a b:zr}{ta tb:TE}{pos:Pos}
def aw.or {r c:R2}(h:aw X r)(h':aw X c):aw X (λx y H Q=>r x y H Q\/c x y H Q):=by
 intro value slice d s e H x y v u Q I f g q hs;rcases q with q|q
 .exact h value slice d s e H x y v u Q I f g q hs
 .exact h' value slice d s e H x y v u Q I f g q hs
def K6 {r:R2}(c:aw X r)(ha:PE X a ta)(hb:PE X b tb)(hs:PQ b):PE X (.Subscript a b pos) (XZ r ta tb):=by intro d s e H Q I h;exact Subscript_ (fG ha hb I h λv u f x y g i j k q=>c a b d f e g x y v u Q i j k q (hs _ _))
def kJ (K:AAB):R2:=λx y H Q=>∃p xs i v,x= .ref p/\y= .int i/\Ep K H p xs/\Jp xs i=some v/\Q v H
def kM (K:AAB):R2:=λx y H Q=>∃p xs i v,x= .ref p/\y= .int i/\Kx K H p xs/\Jp xs i=some v/\Q v H
def Et:aw X (kJ X.K):=by
 intro value slice g s k H x y v u Q I m n h hs;obtain⟨p,xs,i,z,rfl,rfl,hq,he,q⟩:=h;cases m;obtain⟨t,rfl⟩:=n;obtain⟨d,r,e,hz⟩:=I.list hq;obtain⟨j,h1,h2,C,o,A⟩:=VH he;obtain⟨w,ew,f⟩:=r.get h2;have hl:=r.length;have D:=J6;have c:EP X g k Q w s:=⟨z,H,I,f,q⟩;by_cases l:0<=i
 .have hj:i.toNat=j:=by rw[seqIndex_of l A] at h1;exact AAX h1
  exact item_listR e.isList l (by omega) (by rw[hj];simpa using ew) c hs
 .have hj:(i+(d.toArray.size:Int)).toNat=j:=by rw[seqIndex_neg (by omega) o] at h1;rw[AAP,<-hl];exact AAX h1
  exact subscriptTail_builtinR (x:=w) e.isList.typeIs slot_list_getitem.lookup
   (wpAny_getItem_list_neg (Q:=λr B=>r=w/\EP X g k Q r B) e.isList (by omega) (by rw[AAP] <;> omega) (by omega) (by rw[hj];simpa using ew) ⟨rfl,c⟩) hs
def gB:aw X (kM X.K):=by
 intro value slice e s f H x y v u Q I k l h hs;obtain⟨p,xs,i,z,rfl,rfl,hq,he,q⟩:=h;cases k;obtain⟨t,rfl⟩:=l;obtain⟨m,r,g,hz⟩:=I.tuple hq;obtain⟨j,h1,h2,o,A,B⟩:=VH he;obtain⟨w,ew,c⟩:=r.get h2;have hl:=r.length;have C:=J6;have d:EP X e f Q w s:=⟨z,H,I,c,q⟩;exact subscriptTail_builtinR (x:=w) g.typeIs slot_tuple_getitem.lookup
  (getItem_tuple (j:=j) (Q:=λr n=>r=w/\EP X e f Q r n) g (by omega) (by omega) (by rw[AAP,<-hl];exact h1) (by simpa using ew) ⟨rfl,d⟩) hs
def UK (c:zy zx)(n j:Nat)(u:zx):Obj.mapSeq (·.setIfInBounds j u) {cls:= .type "list",data:= .seq c.toArray n}={cls:= .type "list",data:= .seq (c.set j u).toArray n}:=by simp[Obj.mapSeq]
def Inv.lst {d:zy (zu×Obj)}{f:St}{H:Hp}{s:zw}{p:zu}{xs:zy V}(I:Inv X d f H s)(h:H p=some (.lst xs)):∃(c:zy zx) (n:Nat),Ao xs c/\s.heap.get? p=some {cls:= .type "list",data:= .seq c.toArray n}/\xs.length<=sizeLine:=by obtain⟨z,c,n,r,e⟩:=I.hok p _ h;exact⟨c,n,r,e,z⟩
def Inv.lstUpd {g:zy (zu×Obj)}{i:St}{H:Hp}{s:zw}{p:zu}{xs ys:zy V}{c its':zy zx}{n d:Nat}{f:Obj->Obj}(I:Inv X g i H s)(h:H p=some (.lst xs))(k:s.heap.get? p=some {cls:= .type "list",data:= .seq c.toArray n})(j:f {cls:= .type "list",data:= .seq c.toArray n}={cls:= .type "list",data:= .seq its'.toArray d})(r:Ao ys its')(hz:ys.length<=sizeLine)(t:Nat):Inv X g i (upd H p (.lst ys)) {s with heap:=s.heap.update p f,toks:=t}:=by
 have e:(s.heap.update p f).get? p=some {cls:= .type "list",data:= .seq its'.toArray d}:=by rw[ABo f k (by rw[j] <;> rfl),j]
 refine I.write (x:=p) (e:=p) (by rw[h];trivial) (.inl rfl) (λb u hb q=>(AB7 _ _ (AAe hb)).trans q) ⟨_,e⟩ ?_;exact⟨hz,its',d,r,e⟩
def kP:V->V->V->Hp->(Hp->Prop)->Prop:=λo i v H Q=>∃p xs k j,o= .ref p/\i= .int k/\H p=some (.lst xs)/\b6 xs.length k=some j/\Q (upd H p (.lst (xs.set j v)))
def Sd:jO X kP:=by
 intro m s w H o i v z A u Q I x y rv h;obtain⟨p,xs,k,j,rfl,rfl,hp,hj,q⟩:=h;cases x;obtain⟨t,rfl⟩:=y;obtain⟨c,n,r,d,hz⟩:=I.lst hp;obtain⟨h1,h2,e,f⟩:=Vl hj;have hl:=r.length;have B:=J6;have g:Inv X m w (upd H p (.lst (xs.set j v))) {s with heap:=s.heap.update p (Obj.mapSeq (·.setIfInBounds j u))}:=
  I.lstUpd hp d (UK c n j u) (r.set rv j) (by rw[List.length_set];exact hz) s.toks
 by_cases l:0<=k
 .have hk:k.toNat=j:=by rw[seqIndex_of l f] at h1;exact AAX h1
  exact PySem.W.ki_setAt d l (by omega) (by rw[AAP,<-hl];exact f) (by rw[hk];exact⟨_,g,q⟩)
 .have hk:(k+(c.toArray.size:Int)).toNat=j:=by rw[seqIndex_neg (by omega) e] at h1;rw[AAP,<-hl];exact AAX h1
  exact PySem.W.ki_setBack d (by omega) (by rw[AAP,<-hl];exact e) (by omega) (by rw[hk];exact⟨_,g,q⟩)
def Ql (lo hi:zt Int)(n:Nat):(sliceBounds lo hi none n).1=((HT.sIx n 0 lo:Nat):Int)/\(sliceBounds lo hi none n).2.1=((HT.sIx n n hi:Nat):Int)/\(sliceBounds lo hi none n).2.2=1:=by
 refine⟨?_, ?_,rfl⟩
 .cases lo with
  | none=>simp[sliceBounds,HT.sIx]
  | some i=>
    simp only[sliceBounds,HT.sIx,Option.getD_none,show (1:Int)>0 by decide,AA5];by_cases h:i<0
    .simp only[h,AA5] <;> omega
    .simp only[h,AAa] <;> omega
 .cases hi with
  | none=>simp[sliceBounds,HT.sIx]
  | some i=>
    simp only[sliceBounds,HT.sIx,Option.getD_none,show (1:Int)>0 by decide,AA5];by_cases h:i<0
    .simp only[h,AA5] <;> omega
    .simp only[h,AAa] <;> omega
def OP (c:zy zx)(lo hi:zt Int):slicePick c.toArray lo hi none=((c.drop (HT.sIx c.length 0 lo)).take (HT.sIx c.length c.length hi-HT.sIx c.length 0 lo)).toArray:=by obtain⟨h1,h2,d⟩:=Ql lo hi c.toArray.size;unfold slicePick;rw[h1,h2,d];simp only[sliceRange_one,pick_run,AAP] <;> rfl
def nY (K:AAB):V->zt Int->zt Int->Hp->VK->Prop:=λx lo hi H Q=>∃a xs,x= .ref a/\Ep K H a xs/\∀p,H p=none->Q (.ref p) (upd H p (.lst (N6 xs lo hi)))
def dB:dZ X (nY X.K):=by intro j s k H x v l m lo hi n Q I d hs e f h;obtain⟨a,xs,rfl,hx,q⟩:=h;cases d;obtain⟨g,r,c,hz⟩:=I.list hx;have i:=r.length;refine⟨"list",_,slot_list_getitem.lookup,c.isList.typeIs, ?_⟩;refine wpAny_getItem_list_slice c.isList hs e f .none (by simp) ?_ (by rw[AAP] <;> omega);rw[OP,<-i];refine⟨.ref s.heap.objs.size,_,I.laid (t':=s.toks) (o:= .lst (N6 xs lo hi)) (λb p q=>AAH _ q) (AAI _) ?_,rfl,q _ (I.hok.fresh (AAI _))⟩;exact⟨AAl (Kz xs lo hi) hz,_,0,(r.drop (HT.sIx xs.length 0 lo)).take (HT.sIx xs.length xs.length hi-HT.sIx xs.length 0 lo),AAS _ rfl⟩
def JK:CZ X (.builtin "len") (λxs H Q=>∃p ys,xs= [.ref p] /\(Ep X.K H p ys\/Kx X.K H p ys)/\Q (.int ys.length) H):=by
 intro i s j H xs us Q I r h;obtain⟨p,ys,rfl,hq,q⟩:=h;obtain⟨u,rfl,g⟩:=vals1 r;cases g;have k:=J6;rcases hq with hq|hq
 .obtain ⟨c,d,e,hz⟩:=I.list hq;have f:=d.length;exact Calls.call_len_list e.isList (by simp only[AAP] <;> omega) ⟨.int ys.length,H,I.tok _,⟨s.toks+1,by rw[AAP,f]⟩,q⟩
 .obtain ⟨c,d,e,hz⟩:=I.tuple hq;have f:=d.length;exact len_tuple e (by simp only[AAP] <;> omega) ⟨.int ys.length,H,I.tok _,⟨s.toks+1,by rw[AAP,f]⟩,q⟩
def PY:CZ X (.type "list") (λxs H Q=>∃p ys,xs= [.ref p] /\(Ep X.K H p ys\/Kx X.K H p ys)/\∀l,H l=none->Q (.ref l) (upd H l (.lst ys))):=by
 intro t s v H xs us Q I r h;obtain⟨p,ys,rfl,hq,q⟩:=h;obtain⟨u,rfl,x⟩:=vals1 r;cases x;have g:∀(c:zy zx),Ao ys c->ys.length<=sizeLine->∀(h':zl) (d:Nat),(∀b m,s.heap.get? b=some m->h'.get? b=some m)->
  h'.get? s.heap.objs.size=some {cls:= .type "list",dict:=none,data:= .seq c.toArray d,slots:= #[] }->EP X t v Q (.ref s.heap.objs.size) {s with heap:=h'}:=λc f hz h' d i e=>
  ⟨.ref s.heap.objs.size,_,I.laid (t':=s.toks) i (AAI _) (show B4 X.prog X.w _ h' _ (.lst ys) from⟨hz,c,d,f,e⟩),rfl,q _ (I.hok.fresh (AAI _))⟩
 rcases hq with hq|hq
 .obtain ⟨c,f,j,hz⟩:=I.list hq;have y:=f.length;obtain⟨o,k,hc,n,hd⟩:=j.isList;exact call_list_seq p (.inl rfl) k hc hd (λh' d i e=>g c f hz h' d i e) (by simp only[AAP] <;> omega)
 .obtain ⟨c,f,j,hz⟩:=I.tuple hq;have y:=f.length;obtain⟨o,k,hc,n,hd⟩:=j;exact call_list_seq p (.inr rfl) k hc hd (λh' d i e=>g c f hz h' d i e) (by simp only[AAP] <;> omega)
def N5:CZ X (.type "tuple") (λxs H Q=>∃p ys,xs= [.ref p] /\((Ep X.K H p ys/\∀l,H l=none->Q (.ref l) (upd H l (.tup ys)))\/(Kx X.K H p ys/\Q (.ref p) H))):=by
 intro g s i H xs us Q I r h;obtain⟨p,ys,rfl,h⟩:=h;obtain⟨u,rfl,k⟩:=vals1 r;cases k;rcases h with⟨hq,q⟩|⟨hq,q⟩
 .obtain ⟨c,d,f,hz⟩:=I.list hq;have t:=d.length;refine call_tuple_list f.isList (λh' m=> ?_) (by simp only[AAP] <;> omega);have j:Inv X g i H {s with heap:=h'}:=I.kept (t':=s.toks) m;have n:Inv X g i (upd H h'.objs.size (.tup ys)) {s with heap:=h'.push {cls:= .type "tuple",data:= .seq c.toArray}}:=
   j.laid (t':=s.toks) (λb o e=>AAH _ e) (AAI _) (show B4 X.prog X.w _ _ _ (.tup ys) from⟨hz,c,d,IsTup.new _ _⟩)
  exact⟨.ref h'.objs.size,_,n,rfl,q _ (j.hok.fresh (AAI _))⟩
 .obtain ⟨c,d,f,hz⟩:=I.tuple hq;exact call_tuple_same f ⟨.ref p,H,I,rfl,q⟩
def qV (K:AAB)(T:String)(x:V)(H:Hp):Prop:=match x with
 | .str _=>T="str"
 | .int _=>T="int"
 | .ref p=>(T="list" /\∃xs,Ep K H p xs)\/(T="tuple" /\∃o,K.lookup p=some o/\o.cls= .type "tuple" /\o.dict=none)\/
     (T="dict" /\((∃kvs,H p=some (.dK kvs))\/∃kvs,H p=some (.dT kvs)))\/(T="set" /\∃S n,H p=some (.set S n))
 | _=>False
def iV {j:zy (zu×Obj)}{k:St}{H:Hp}{s:zw}{T:String}{x:V}{v:zx}(I:Inv X j k H s)(r:RelV x v)(d:qV X.K T x H):s.TypeIs v T/\∀a,v= .ref a->∃g,s.heap.get? a=some g/\g.dict=none:=by
 cases x with
 | str z=> obtain⟨t,rfl⟩:=r;cases (show T="str" from d);exact⟨typeIs_str s z t,λ_ e=>nomatch e⟩
 | int i=> obtain⟨t,rfl⟩:=r;cases (show T="int" from d);exact⟨typeIs_int s i t,λ_ e=>nomatch e⟩
 | ref p=>
   cases r;rcases d with⟨rfl,xs,hq⟩|⟨rfl,o,hk,hc,hd⟩|⟨rfl,hk⟩|⟨rfl,S,n,hk⟩
   .obtain ⟨l,_,h,_⟩:=I.list hq;refine⟨h.isList.typeIs,λa e=> ?_⟩;cases e;obtain⟨o,n,e,c,hd,_⟩:=h;exact⟨o,e,hd⟩
   .refine ⟨⟨o,I.kIn p o hk,hc⟩,λa e=> ?_⟩;cases e;exact⟨o,I.kIn _ o hk,hd⟩
   .have z:∃o,s.heap.get? p=some o/\o.ExactDict:=by
     rcases hk with⟨kvs,hk⟩|⟨kvs,hk⟩
     .obtain ⟨_,_,_,_,o,_,_,e,ex,_⟩:=I.hok p _ hk;exact⟨o,e,ex⟩
     .obtain ⟨_,_,_,_,o,_,_,e,ex,_⟩:=I.hok p _ hk;exact⟨o,e,ex⟩
    obtain⟨o,e,ex⟩:=z;refine⟨⟨o,e,ex.1⟩,λa f=> ?_⟩;cases f;exact⟨o,e,ex.2.1⟩
   .obtain ⟨o,_,_,_,e,ex,_⟩:=I.hok p _ hk;refine⟨⟨o,e,ex.1⟩,λa f=> ?_⟩;cases f;exact⟨o,e,ex.2.1⟩
 | _=>exact False.elim d
def qU (K:AAB)(T:String)(r:V->zy V->Hp->VK->Prop)(d:TE)(t:TA):TE:=λc H Q=>d c H λx H1=>qV K T x H1/\t c H1 λxs e=>r x xs e Q
variable {o e:zr}{es:zy zr}{to:TE}{t:TA}{name:Str}{apos cpos:Pos}{T id:String}{r:V->zy V->Hp->VK->Prop}
def kC (j:PlainAttrs T)(slot:Slot T name id)(k:typeOf (.builtin id)=pure (.type "method_descriptor"))(l:tK X id r)(m:PE X o to)(ha:PA X (e::es) t)(n:attributeBase o name X.env (eval o X.env)=eval o X.env:=by rfl)(p:((backTo cpos (starEach (e::es) X.env)).all (λx=> !x.1)&&(backToKw cpos (keywordEach [] X.env)).all (λx=>x.1.isSome) && decide ((e::es).length+([] :zy Keyword).length+(if ([] :zy Keyword).isEmpty then 0 else 1)<30))=true:=by rfl)(u:(apos.endLine==cpos.line)=true:=by rfl)(hs:starEach (e::es) X.env=(false,eval e X.env)::starEach es X.env:=by rfl)(w:(backTo cpos (starEach es X.env)).any (·.1)=false:=by rfl):PE X (.Call (.Attribute o name apos) (e::es) [] cpos) (qU X.K T r to t):=by intro c s d H Q I h;refine wpAny_Call_method_late n p u rfl (BY (m c s d H _ I h) λv y ⟨x,H1,f,g,z,A⟩=> ?_);obtain⟨h1,h2⟩:=iV f g z;refine⟨T,id,j,slot,k,h1,h2, ?_⟩;have i:=ha cpos c y d H1 _ f A;rw[hs] at i ⊢;refine ACW (by show (false||(backTo cpos (starEach es X.env)).any (·.1))=false;rw[w] <;> rfl) (ADF ?_);exact BY i λus B ⟨vs,C,D,E,F⟩=>l c B d C x vs v us Q D g E F
end
def jM (X:Cx)(id:String)(r:V->zy V->Hp->VK->Prop):Prop:=
 ∀(a:zy (zu×Obj)) (s:zw) (b:St) (H:Hp) (x:V) (xs:zy V) (v:zx) (us:zy zx) (Q:VK),Inv X a b H s->RelV x v->Ao xs us->r x xs H Q->
  wpAny (model X.prog X.w) X.A (call (.builtin id) (v::us)) (EP X a b Q) X.xe s
def Ao.one:∀{x:V} {us:zy zx},Ao [x] us->∃u,us= [u] /\RelV x u
 | _,_, .cons r .nil=>⟨_,rfl,r⟩
def Ao.two:∀{x y:V} {us:zy zx},Ao [x,y] us->∃u v,us= [u,v] /\RelV x u/\RelV y v
 | _,_,_, .cons r (.cons q .nil)=>⟨_,_,rfl,r,q⟩
def Ao.zero:∀{us:zy zx},Ao [] us->us= []
 | _, .nil=>rfl
def Ao.dropLast {xs:zy V}{us:zy zx}(h:Ao xs us):Ao xs.dropLast us.dropLast:=by
 induction h with
 | nil=>exact .nil
 | cons r t ih=>
   cases t with
   | nil=>exact .nil
   | cons q t'=>exact .cons r ih
def Ao.reverse {xs:zy V}{us:zy zx}(h:Ao xs us):Ao xs.reverse us.reverse:=by
 induction h with
 | nil=>exact .nil
 | cons r t ih=>rw[ACX,ACX];exact Ao.append ih (.cons r .nil)
section
variable {X:Cx}{zj:zy (zu×Obj)}{σ:St}{H:Hp}{s:zw}{l b:zu}{xs ys zs:zy V}
def Inv.lset {a its':zy zx}{n:Nat}{f:Array zx->Array zx}{t':Nat}(I:Inv X zj σ H s)(c:H l=some (.lst xs))(e:s.heap.get? l=some {cls:= .type "list",data:= .seq a.toArray n})(d:f a.toArray=its'.toArray)(hv:Ao ys its')(hz:ys.length<=sizeLine):Inv X zj σ (upd H l (.lst ys)) {s with heap:=s.heap.update l (Obj.mapSeq f),toks:=t'}:=by have q:=PySem.IsL.update e f;rw[d] at q;refine I.write (x:=l) (e:=l) (by rw[c];exact trivial) (.inl rfl) (λg u hb hu=>(AB7 s.heap (Obj.mapSeq f) (AAe hb)).trans hu) ⟨_,q⟩ ?_;exact⟨hz,its',_,hv,q⟩
def Inv.lnew {a:zy zx}{t':Nat}(I:Inv X zj σ H s)(hv:Ao ys a)(hz:ys.length<=sizeLine):Inv X zj σ (upd H s.heap.objs.size (.lst ys)) {s with heap:=s.heap.push {cls:= .type "list",data:= .seq a.toArray},toks:=t'}:=
 I.laid (λ_ _ q=>AAH _ q) (AAI _) ⟨hz,a,0,hv,AAS _ rfl⟩
def Inv.fresh (I:Inv X zj σ H s):H s.heap.objs.size=none:=I.hok.fresh (AAI _)
def Inv.lstM (I:Inv X zj σ H s)(c:H l=some (.lst xs)):xs.length<=sizeLine/\∃(a:zy zx) (n:Nat),Ao xs a/\xs.length=a.length/\s.heap.get? l=some {cls:= .type "list",data:= .seq a.toArray n}:=by obtain⟨z,a,n,r,e⟩:=I.hok l _ c;exact⟨z,a,n,r,r.length,e⟩
end
section
variable {X:Cx}
def QI:V->zy V->Hp->VK->Prop:=λx vs H Q=>∃l xs y,x= .ref l/\vs= [y] /\H l=some (.lst xs)/\xs.length<sizeLine/\Q .non (upd H l (.lst (xs ++ [y])))
def Ow:jM X "list.append" QI:=by intro f s g H x vs v us Q I c rv h;obtain⟨l,xs,y,rfl,rfl,b,hz,q⟩:=h;cases c;obtain⟨u,rfl,d⟩:=rv.one;obtain⟨z,a,n,r,hl,e⟩:=I.lstM b;refine call_meets F.slot_list_append ⟨_,e,rfl⟩ F.entry_list_append (F.args_list_append_2 _ _) (PySem.list_append l a.toArray n u (by rw[AAP];omega)) ⟨e, ?_⟩;refine⟨.non,_,I.lset (its':=a ++ [u]) b e (by simp) (r.append (.cons d .nil)) ?_,rfl,q⟩;rw[AAr,List.length_singleton];omega
def kH:R2:=λx y H Q=>∃l b xs a,x= .ref l/\y= .ref b/\H l=some (.lst xs)/\H b=some (.lst a)/\xs.length+a.length<=sizeLine/\∀p,H p=none->Q (.ref p) (upd H p (.lst (xs++a)))
def gZ:EN X (binaryOp .Add) kH:=by
 intro o s p H x y v u Q I d f h;obtain⟨l,b,xs,t,rfl,rfl,g,i,hz,q⟩:=h;cases d;cases f;obtain⟨z,c,n,r,hl,e⟩:=I.lstM g;obtain⟨w,a,A,j,B,k⟩:=I.lstM i;refine PySem.P.add_list e k ?_ (by rw[AAP,AAP];omega);have m:c.toArray++a.toArray=(c++a).toArray:=by simp
 rw[m];exact⟨.ref _,_,I.lnew (t':=s.toks) (r.append j) (by rw[AAr];omega),rfl,q _ I.fresh⟩
end
section
variable {prog:zp}{w:zm}{A:zk}{E:zx->zw->Prop}{s:zw}
set_option maxRecDepth 100000 in
end
end L2
namespace Att
open PySem PySem.W PySem.Calls PyProof.Rows
def Lc {P:Params}{h:zl}:∀(c:zy Int) (vs:zy zx),WellAll P h vs (c.map WData.int)->IntsAre vs c:=by
 intro c;induction c with
 | nil=> intro vs w;rw[ABc] at w;cases w;exact .nil
 | cons n c ih=>
   intro vs w;rw[AAK] at w;cases w with
   | cons a b=> cases a;exact .cons _ _ (ih _ b)
def XV {l:OpenLaw}{n:Nat}(g:l.most=some n){P:Params}{h:zl}{args:zy WData}{vals:zy zx}(f:l.row.toRowW.claim.pre args=true)(i:WellAll P h vals args):∃a vs b,vals= [Value.ref a] /\args= [WData.list (b.map WData.int)] /\h.get? a=some {cls:= .type "list",data:= .seq vs.toArray}/\IntsAre vs b/\b.length<=n:=by
 have j:WShape.hasAll [] args [.list .int] =true:=(pre_splitW f).1;have hc:l.pre.holds [] {args:=args}=true:=(pre_splitW f).2;obtain⟨d,r,rfl,h1,h2⟩:=hasAllW_cons j;obtain rfl:=hasAllW_nil h2;obtain⟨xs,rfl,k⟩:=hasW_list h1;obtain⟨b,rfl⟩:=items_int k;have m:b.length<=n:=by
  unfold OpenLaw.pre at hc;have c:(WTm.not (.lt (.lit (.int (n:Int))) (.len (.arg 0)))).holds [] {args:= [.list (b.map .int)] }=true:=by have c:=(holds_andW hc).1;rw[g] at c;exact c
  have e:=condW_of c (w_not (w_lt w_lit (w_len_list (w_arg rfl))));rw[AAJ] at e;refine Nat.le_of_not_lt λq=> ?_;have o:(n:Int)<((b.length:Nat):Int):=by omega
  first
   | (rw[AA1 o] at e;exact absurd e (by decide))
   | (simp at e;omega)
 cases i with
 | cons p s=>
   cases s;cases p with
   | list t u=>exact⟨_,_,b,rfl,rfl,t,Lc b _ u,m⟩
def XO (l:OpenLaw)(args:zy WData):l.row.toRowW.claim.post args (.bool true) args=true:=
 postW_of (r:=l.row.toRowW) (X:=(true==true))
  (show WShape.has [] (.bool true) .bool=true by first | rfl|decide|simp[WShape.has,WShape.arms,WShape.armsAll])
  (show (WTm.eq .res (.lit (.bool true))).value [] {args:=args,res:=some (.bool true),after:=args}=some (.bool (true==true)) from w_eq_bool (w_res rfl) w_lit) rfl
def attach_call {l:OpenLaw}{n:Nat}{q:zp}{loose:zy Str}{XP:(Str->zt zx)->zl->Prop}{YP:zm->zl->Prop}{d:DefRec}(p:l.most=some n)(s:d.params.defaults= [])(call:∀(w:zm) (s₀ b:zw) (mg j:Str->zt zx) (e:zu) (o:Obj) (k g c:zx) (a:zu) (vs:zy zx) (h:zy Int),Ground q loose [] XP w s₀ mg j b.heap->YP w b.heap-> b.heap.get? e=some o->o.data= .func (docDef d.name d.params d.body d.scope k g c)->b.heap.CodeRec g d.name->mg d.name=some (.ref e)-> b.heap.get? a=some {cls:= .type "list",data:= .seq vs.toArray}->IntsAre vs h->h.length<=n->b.gens= #[] -> codeAny (model l.prog w) callerA (.call (.ref e) ⟨[.ref a], []⟩) (λr i=>r= .ok (.ret (.bool true))/\OldK b.heap i.heap/\i.os=b.os/\AllBare i.gens) b):WalkO q loose XP YP l.row.toRowW d [] (λf vs=>PySem.call f vs):=by intro w s₀ b mg j G Y e o k g c t kV u hd v m x y args vals as z I J A K;obtain rfl:t= .none:=Dflts.none m s;obtain rfl:kV= .none:=Dflts.noKw m;obtain⟨a,vs,h,rfl,rfl,B,C,D⟩:=XV p z A;refine enter_call (codeAny_mono (call w s₀ b mg j e o k g c a vs h G Y u (fd_plain hd) v x B C D y) λr i hq=> ?_);obtain⟨rfl,h2,E,F⟩:=hq;exact⟨.inl ⟨.bool true, .bool true, [],rfl,λ_=>rfl, .bool true,XO l _,λ_=>⟨List.Pairwise.nil,λ_ H=>(nomatch H)⟩⟩,h2,E,F⟩
section
variable {prog:zp}{w:zm}{A:zk}{E:zx->zw->Prop}{s:zw}{K:Frag}
def nQ (h:zl)(L d:zu):zy (zu×Obj):=(List.range h.objs.size).filterMap λa=>if a=L\/a=d then none else (h.get? a).map λo=>(a,o)
end
end Att
namespace L2
open PySem PySem.Spec PyProof.Rows
theorem O6:∀{vs:zy zx} {a:zy Int},IntsAre vs a->Ao (a.map V.int) vs
 | _,_, .nil=> .nil
 | _,_, .cons n t h=> .cons ⟨t,rfl⟩ (O6 h)
def eu (H:Hp):Prop:=∀b,H b=none\/∃o xs,H b=some (.frz o (.lst xs))
def Yu {P:zp}{w:zm}{K:AAB}{mg t:Str->zt zx}{CX:WO}{k:Nat}{y a:zu}{C:FuncData}{x:Str}{sp:Sp}{c:zw}{vs:zy zx}{j:zy Int}(D:K.In c.heap)(E:c.heap.Ns mainGlobals mg)(hb:c.heap.Ns builtinsNs t)(M:∀x:Str,x≠"__name__" ->t x=bootBuiltins x)(N:c.heap.NoLimit)(O:c.gens= #[])(ha:c.heap.get? a=some {cls:= .type "list",data:= .seq vs.toArray})(hi:IntsAre vs j)(hl:j.length<=sizeLine)(Q:Room k callerA)(F:∀base:zl,K.In base->base.Ns mainGlobals mg->EZ P w K mg base CX k y C [x] sp)(R:∀(s:zw) (u:zx),BindsTo s C ⟨[u], []⟩ [(x,u)])(S:∀H:Hp,eu H->Ep K H a (j.map V.int)->sp [.ref a] H (λv _=>v= .bl true) λ_ _ _=>False)(T:∀H e g,CX [] H c (λ_ _ _=>False) e g->False):codeAny (model P w) callerA (.call (.ref y) ⟨[.ref a], []⟩) (λr g=>r= .ok (.ret (.bool true))/\OldK c.heap g.heap/\g.os=c.os/\AllBare g.gens) c:=by
 have rv:=O6 hi;have l:=hi.length;have core:∀H:Hp,eu H->Ep K H a (j.map V.int)->Hs P w H c.heap->(∀b,H b≠none->b=a)->(H a≠none->K.lookup a=none)->
  codeAny (model P w) callerA (.call (.ref y) ⟨[.ref a], []⟩) (λr g=>r= .ok (.ret (.bool true))/\OldK c.heap g.heap/\g.os=c.os/\AllBare g.gens) c:=by
  intro H G U hok I W;have f:∀{b:zu} {o:Obj},c.heap.get? b=some o->H b=none->(Pp c.heap H).get? b=some o:=λe n=>Yh e n;have A:∀{b:zu} {o:Obj} {es:Array DictEntry} {ep:Nat},c.heap.get? b=some o->o.data= .dict es ep->H b=none:=λ{b o es ep} e d=>by
   cases q:H b with
   | none=>rfl
   | some u=> have B:b=a:=I b (by rw[q];simp);subst B;rw[ha] at e;cases e;have d':Data.seq vs.toArray _=Data.dict es ep:=d;cases d'
  have i:∀{b:zu} {m:Str->zt zx},c.heap.Ns b m->(Pp c.heap H).Ns b m:=λ{b m} ⟨o,es,ep,e,d,r⟩=>⟨o,es,ep,f e (A e d),d,r⟩;have J:K.In (Pp c.heap H):=λb o e=>f (D b o e) (by
   cases q:H b with
   | none=>rfl
   | some u=>
     have B:b=a:=I b (by rw[q];simp);subst B;rw[W (by rw[q];simp)] at e;cases e)
  have X:Mod K mg (Pp c.heap H):=⟨J,i E,⟨t,i hb,M⟩,let ⟨Y,h1,h2⟩:=N;⟨Y,i h1,h2⟩⟩;have Z:N1 P w K mg (Pp c.heap H) callerA [] c H:=⟨rfl,X,λb o e=>cI e,Nat.le_of_eq (Wz _ _),trivial,λb hb=>absurd (show b∈([] :zy zu) from hb) (by simp),hok, .of_eq O⟩;refine codeAny_mono ((F _ J (i E)).run callerA [] c H ⟨[.ref a], []⟩ [.ref a] [.ref a] _ _ Q Z (R c (.ref a)) (.cons rfl .nil) (S H G U)) λr g h=> ?_;cases r with
  | error e=>exact(T H e g h).elim
  | ok fl=>
    cases fl with
    | next=>exact False.elim h
    | brk=>exact False.elim h
    | cont=>exact False.elim h
    | ret u=>
      obtain⟨v,H',os,bare,un,m9,r',q⟩:=h;have q':v= .bl true:=q;subst q';obtain rfl:u=Value.bool true:=r';refine⟨rfl,OldK.of_keep λb o e=> ?_,os,bare⟩;cases q:H b with
      | none=>exact un.keep b o e q (by intro z;exact absurd (show b∈([] :zy zu) from z) (by simp)) (by simp)
      | some u=>
        rcases G b with z|⟨ob,xs,z⟩
        .rw [q] at z;cases z
        .have z2:=un.frzs b ob _ z;obtain⟨L,_⟩:=hok b _ z;obtain⟨e2,_⟩:=m9 b _ z2;rw[e] at L;cases L;exact e2
 cases hk:K.lookup a with
 | some o=> have e:=D a o hk;rw[ha] at e;cases e;refine core (λ_=>none) (λ_=> .inl rfl) (.inr ⟨_,vs.toArray,_,hk,rfl,rfl,rfl,by rw[AAP,l];exact hl,by simpa using rv⟩) (λb u z=>by have p:(none:zt HO)=some u:=z;cases p) (λb z=>absurd rfl z) λz=>absurd rfl z
 | none=>
   refine core (λb=>if b=a then some (.frz {cls:= .type "list",data:= .seq vs.toArray} (.lst (j.map V.int))) else none) (λb=> ?_) (.inl (.inr ⟨{cls:= .type "list",data:= .seq vs.toArray},AAE rfl⟩)) (λb u z=> ?_) (λb z=> ?_) λ_=>hk
   .by_cases hb:b=a
    .exact .inr ⟨_,_,AAE hb⟩
    .exact .inl (AAC hb)
   .by_cases hb:b=a
    .have p:=(AAE hb).symm.trans z;cases p;subst hb;exact⟨ha,by rw[AAJ];exact hl,vs,_,rv,ha⟩
    .have p:=(AAC hb).symm.trans z;cases p
   .by_cases hb:b=a
    .exact hb
    .exact absurd (AAC hb) z
abbrev vN {K:AAB}{h:zl}(_:K.In h):AAB:=K
def walk_of {l:PySem.W.OpenLaw}{n k:Nat}{q:zp}{loose:zy Str}{XP:(Str->zt zx)->zl->Prop}{YP:zm->zl->Prop}{d:DefRec}{K:Params->AAB}{CX:zm->WO}{sp:zm->Sp}{x:Str}(y:l.most=some n)(z:n<=sizeLine)(A:d.params.defaults= [])(B:Room k callerA)(C:∀(w:zm) (h:zl),YP w h->(K w.params).In h)(F:∀(w:zm) (mg:Str->zt zx) (i:zu) (h:zl),(K w.params).In h->h.Ns mainGlobals mg->mg d.name=some (.ref i)-> ∃m:FuncData,(∀(s:zw) (u:zx),BindsTo s m ⟨[u], []⟩ [(x,u)])/\ ∀base:zl,(K w.params).In base->base.Ns mainGlobals mg->EZ l.prog w (K w.params) mg base (CX w) k i m [x] (sp w))(D:∀(w:zm) (H:Hp) (a:zu) (j:zy Int),j.length<=n->eu H->Ep (K w.params) H a (j.map V.int)->sp w [.ref a] H (λv _=>v= .bl true) λ_ _ _=>False)(E:∀(w:zm) (H:Hp) (s:zw) (e:zx) (p:zw),CX w [] H s (λ_ _ _=>False) e p->False):PySem.W.WalkO q loose XP YP l.row.toRowW d [] (λf vs=>PySem.call f vs):=by refine Att.attach_call y A λw s₀ c mg Q i o R S I a vs j G Y U hd X J L M r N=> ?_;have t:=C w _ Y;obtain⟨m,hb,hF⟩:=F w mg i _ t G.T.g J;exact Yu t G.T.g G.T.b G.T.builtins G.T.nolimit N L M (AAl r z) B hF hb (λH O P=>D w H a j r O P) λH e p=>E w H c e p
abbrev Q9:WO:=λ_ _ _ _ _ _=>False
abbrev E0:XK:=λ_ _ _=>False
def kA {X:Cx}:Passes Q9 X E0:=λ_ _ _ _ _ _ _ h=>h.elim
structure TC (K:AAB) (x qual:Str) (st:Stmt) (f:Addr) (fd:FuncData):Prop where
 ex:∃(oc:Value) (od:Option Addr) (kV doc pm:Value) (an:Option Addr) (cdv ct:Value) (osl:Array (Option Value)),
  fd=PySem.W.fnOf x qual (Fb st) (Dv st) (BG st) .none kV doc pm an cdv ct/\K.lookup f=some ⟨oc,od, .func fd,osl⟩/\PySem.W.codeIn K cdv qual=true
 kp:PySem.W.keepIn K (.ref f)=true
section
variable {P:zp}{w:zm}{K:AAB}{mg:Str->zt zx}{base:zl}
def TC.ok {x qual:Str}{st:Stmt}{f:zu}{c:FuncData}{N b:zy Str}{k:Nat}{sp:Sp}(F:TC K x qual st f c)(S:EC N b (BG st))(len:∀vs H Q E,sp vs H Q E->vs.length=b.length)(d:∀(a:zx) (A:zk) (outer:zy Env) (s:zw) (H:Hp) (vs:zy V) (Q:VK) (E:XK),Room k (A.deeper (envOfC qual (BG st) s.heap.objs.size f a))->sp vs H Q E-> ∃t,Su (RR Q9 P w K mg base N qual (BG st) f a A outer s H E).nox (Dv st) t/\t {nx:=λ_ e=>Q .non e,rt:=Q} (start N vs) H):EZ P w K mg base Q9 (k+1) f c b sp:=by obtain⟨o,p,kV,g,r,u,a,ct,i,rfl,j,l⟩:=F.ex;refine jZ j l S len λA outer s H vs Q E m n=> ?_;obtain⟨t,h,q⟩:=d a A outer s H vs Q E m n;exact⟨t,h.nox,q⟩
def TC.binds {x qual:Str}{st:Stmt}{f:zu}{g:FuncData}{c:zy Str}(F:TC K x qual st f g)(h:∀(kV a d:zx) (e:zt zu) (b ct:zx) (us:zy zx),us.length=c.length->bindArgs (PySem.W.fnOf x qual (Fb st) (Dv st) (BG st) .none kV a d e b ct) ⟨us, []⟩=pure (c.zip us)):Binds K g c [] :=by obtain⟨j,k,kV,a,d,e,b,ct,i,rfl,l,m⟩:=F.ex;exact .all (h kV a d e b ct)
def YW {x qual:Str}{st:Stmt}{f:zu}{h:zx}{i e:zt zu}{d:Array (zt zx)}{kV b g a ct:zx}(l:K.lookup f=some ⟨h,i, .func (PySem.W.fnOf x qual (Fb st) (Dv st) (BG st) .none kV b g e a ct),d⟩)(c:PySem.W.codeIn K a qual=true)(k:PySem.W.keepIn K (.ref f)=true):TC K x qual st f (PySem.W.fnOf x qual (Fb st) (Dv st) (BG st) .none kV b g e a ct):=⟨⟨h,i,kV,b,g,e,a,ct,d,rfl,l,c⟩,k⟩
end
section
variable {X:Cx}
def pv (i:Nat){x:Str}{a:Pos}(hN:X.N[i]? =some x:=by rfl)(hv:ig X.env.scope x:=by first | exact Or.inl rfl|exact Or.inr (Or.inl rfl)|exact Or.inr (Or.inr rfl))(hd:(x==("__debug__" :Str))=false:=by decide)(b:(x==("__classdict__" :Str))=false:=by decide):PE X (.Name x a) (C8 i):=UU hN hv hd b
end
def jw {c A B:Prop}[Decidable c](h1:c->A)(h2:¬c->B):if c then A else B:=by
 by_cases h:c
 .rw [AAE h];exact h1 h
 .rw [AAC h];exact h2 h
def RH (H a:Hp):Prop:=∀b o,H b=some o->a b=some o
def RH.free {H a:Hp}(e:RH H a){l:zu}(h:a l=Option.none):H l=Option.none:=by
 cases q:H l with
 | none=>rfl
 | some o=> rw[e l o q] at h;cases h
def RH.seq {K:AAB}{H b:Hp}{a:zu}{xs:zy V}(e:RH H b)(h:Ep K H a xs):Ep K b a xs:=by
 rcases h with(h|⟨o,h⟩)|h
 .exact .inl (.inl (e _ _ h))
 .exact .inl (.inr ⟨o,e _ _ h⟩)
 .exact .inr h
theorem J7 {c d:Type}[BEq c][LawfulBEq c]{k:c}{a:d}:∀{l:zy (c×d)},l.lookup k=some a->(k,a)∈l
 | [],h=>by simp at h
 | (n,b)::r,h=>by
   rw[List.lookup_cons] at h;cases e:k==n with
   | true=>
     rw[e] at h;have f:k=n:=by simpa using e
     have hb:b=a:=by simpa using h
     subst f hb;exact ABZ
   | false=> rw[e] at h;exact ABA _ (J7 h)
theorem Ov {c d:Type}[BEq c][LawfulBEq c]{k:c}{a:d}:∀{l:zy (c×d)},(k,a)∈l->∃b,l.lookup k=some b
 | [],h=>nomatch h
 | (n,b)::r,h=>by
   rw[List.lookup_cons];cases e:k==n with
   | true=>exact⟨b,rfl⟩
   | false=>
     rcases AAF.mp h with z|z
     .have:k=n:=congrArg Prod.fst z;rw[this] at e;simp at e
     .exact Ov z
theorem GU {env:Env}{F:Str×NameKind->zy (Str×zu)->Sem (ForInStep (zy (Str×zu)))}(h1:∀n r c,env.cells.lookup n=some c->F (n, .free) r=pure (.yield ((n,c)::r)))(h2:∀n k r,k≠NameKind.free->F (n,k) r=pure (.yield r)):∀(names:zy (Str×NameKind)) (f:zy (Str×zu)),(∀x∈names,x.2= .free->∃c,env.cells.lookup x.1=some c)-> ∃cl,(forIn names f F:Sem _)=pure cl/\(∀p∈cl,p∈f\/env.cells.lookup p.1=some p.2)/\(∀p∈f,p∈cl)/\∀x∈names,x.2= .free->∃c,(x.1,c)∈cl
 | [],f,_=>⟨f,rfl,λp hp=> .inl hp,λp hp=>hp,λx hx=>nomatch hx⟩
 | (n,k)::r,f,h=>by
   by_cases hk:k= .free
   .subst hk;obtain⟨c,hc⟩:=h (n, .free) ABZ rfl;obtain⟨cl,e,a,b,d⟩:=GU h1 h2 r ((n,c)::f) (λx hx=>h x (ABA _ hx));refine⟨cl, ?_,λp hp=> ?_,λp hp=>b p (ABA _ hp),λx hx g=> ?_⟩
    .rw [ACY,h1 n f c hc];exact e
    .rcases a p hp with z|z
     .rcases AAF.mp z with z|z
      .subst z;exact .inr hc
      .exact .inl z
     .exact .inr z
    .rcases AAF.mp hx with z|z
     .subst z;exact⟨c,b _ ABZ⟩
     .exact d x z g
   .obtain ⟨cl,e,a,b,d⟩:=GU h1 h2 r f (λx hx=>h x (ABA _ hx));refine⟨cl, ?_,a,b,λx hx g=> ?_⟩
    .rw [ACY,h2 n k f hk];exact e
    .rcases AAF.mp hx with z|z
     .subst z;exact absurd g hk
     .exact d x z g
def IA {env:Env}{scope:Scope}(h:∀x∈scope.names,x.2= .free->∃c,env.cells.lookup x.1=some c):∃cl,closureFor scope env=pure cl/\(∀y c,cl.lookup y=some c->env.cells.lookup y=some c)/\∀y,(y,NameKind.free)∈scope.names->∃c,cl.lookup y=some c:=by
 obtain⟨cl,e,a,_,d⟩:=GU (env:=env) (F:=λx cs=>match x with | (name,kind)=>if (kind==NameKind.free)=true then do let a <-cellOf env name;pure (ForInStep.yield ((name,a)::cs)) else pure (ForInStep.yield cs))
  (λn r c hc=>by
    show (do let a <-cellOf env n;pure (ForInStep.yield ((n,a)::r)):Sem _)=_;unfold cellOf;rw[hc];rfl)
  (λn k r hk=>by
    have:(k==NameKind.free)=false:=by simpa using hk
    simp[this]) scope.names [] h
 refine⟨cl, ?_,λy c q=> ?_,λy hy=> ?_⟩
 .unfold closureFor;have b:(forIn scope.names ([] :zy (Str×zu)) λx cs=>match x with | (name,kind)=>if (kind==NameKind.free)=true then do let a <-cellOf env name;pure (ForInStep.yield ((name,a)::cs)) else pure (ForInStep.yield cs):Sem _) >>= (λr=>pure r)=pure cl:=by rw[e];rfl
  exact b
 .rcases a _ (J7 q) with z|z
  .exact nomatch z
  .exact z
 .obtain ⟨c,hc⟩:=d (y, .free) hy rfl;exact Ov hc
def Hy (env:Env)(sc:Scope)(cl:zy (Str×zu))(C:zu):Env:=
 {scope:=sc,locals:=C,globals:=env.globals,cells:=cl,qual:=env.qual,func:=none,code:=env.code,frame:=env.frame,builtins:=env.builtins}
def blk (X:Cx)(sc:Scope)(N:zy Str)(cl:zy (Str×zu))(C:zu)(s:zw)(H:Hp)(ex:zy zu)(pn:zy (zu×Obj)):Cx where
 prog:=X.prog
 w:=X.w
 K:=X.K
 mg:=X.mg
 base:=X.base
 A:=X.A
 N:=N
 s₀:=s
 H₀:=H
 env:=Hy X.env sc cl C
 outer:=X.stack
 stack:=X.stack
 ex:=ex
 fn:=λ_=>false
 calm:=X.calm
 pn:=pn
 xe:=λ_ _=>False
section
variable {X:Cx}{zj:zy (zu×Obj)}{σ:St}{H:Hp}{s:zw}{fp:zy zu}{sc:Scope}{N:zy Str}{cl:zy (Str×zu)}
def Inv.notStk (I:Inv X zj σ H s){b:zu}(h1:b≠X.env.locals)(h2:b ∉ X.fs):b ∉ Xh X.stack:=λz=>by
 rcases AAF.mp (I.stkSub b z) with e|e
 .exact h1 e
 .exact h2 e
def Inv.szLt (I:Inv X zj σ H s){x:Str}{c:zu}(e:X.env.cells.lookup x=some c):c<s.heap.objs.size:=by obtain⟨v,q⟩:=I.cell x c e;exact q.lt
def fH (I:Inv X zj σ H s)(d:∀b∈fp,FW X zj H b)(f:∀b∈fp,b<s.heap.objs.size)(hk:sc.kind= .function)(h1:∀y c,cl.lookup y=some c->X.env.cells.lookup y=some c)(h2:∀y,(sc.names.lookup y=some .cell\/sc.names.lookup y=some .free)->∃c,cl.lookup y=some c):(blk X sc N cl s.heap.objs.size s H fp (X.pn++zj)).Ok where
 mod:=I.ok.mod
 kind:=hk
 glob:=I.ok.glob
 blt:=I.ok.blt
 above:=AAI _
 inj:=λx y c a b=>I.ok.inj x y c (h1 x c a) (h1 y c b)
 has:=λx hx=>h2 x hx
 cab:=λx c z=>nomatch z
 hd:=I.ok.hd
 frames:=I.ok.frames
 stk:= .inl rfl
 exf:=λb hb=>⟨AAM (f b hb),λx c e=>(d b hb).2.2.2.2.1 x c (h1 x c e)⟩
 bs:=I.bs
 bsz:=AAl I.ok.bsz I.sz
 noex:=λb o e hb=>by
  rcases (d b hb).2.2.2.1 with z|z
  .exact I.ok.noex b o e z
  .exact absurd (AAV (AAG (I.ok.bs b o e).1) z) (ABB _)
 exfs:=λb hb=>I.notStk (d b hb).2.1 (d b hb).2.2.1
 funs:=I.stack
 frf:=I.stkFree
def Cc (own:Nat)(ix:zy Nat)(σ:St):St:=List.replicate own none++ix.map λi=>(σ[i]?).getD none
def Wd {own:Nat}{ix:zy Nat}{σ:St}:(Cc own ix σ).length=own+ix.length:=by simp[Cc]
def Hz {own:Nat}{ix:zy Nat}{σ:St}{j:Nat}{v:V}(h:(Cc own ix σ)[j]? =some (some v)):own<=j/\∃i,ix[j-own]? =some i/\σ[i]? =some (some v):=by
 unfold Cc at h;by_cases hj:j<own
 .rw [ABE (by simpa using hj),ABM] at h;simp[hj] at h
 .have Xi:own<=j:=by omega
  rw[AA6 (by simpa using Xi),ABN,AAm] at h;refine⟨Xi, ?_⟩;cases e:ix[j-own]? with
  | none=>rw[e] at h;simp at h
  | some i=>
    rw[e] at h;refine⟨i,rfl, ?_⟩;have h':(σ[i]?).getD none=some v:=by simpa using h
    cases a:σ[i]? with
    | none=>rw[a] at h';simp at h'
    | some o=>
      rw[a] at h';have:o=some v:=by simpa using h'
      rw[this]
structure Xw (X:Cx) (sc:Scope) (own:Nat) (ix:List Nat) (N:List Str):Prop where
 len:N.length=own+ix.length
 out:∀j i,ix[j]? =some i->∃x,N[own+j]? =some x/\X.N[i]? =some x/\X.env.scope.names.lookup x=some .cell/\sc.names.lookup x=some .cell
def YA {own:Nat}{ix:zy Nat}{h':zl}{m:Str->zt zx}{t':Nat}(I:Inv X zj σ H s)(B:∀b∈fp,FW X zj H b)(C:∀b∈fp,b<s.heap.objs.size)(hk:sc.kind= .function)(h1:∀y c,cl.lookup y=some c->X.env.cells.lookup y=some c)(h2:∀y,(sc.names.lookup y=some .cell\/sc.names.lookup y=some .free)->∃c,cl.lookup y=some c)(F:Xw X sc own ix N)(D:h'.Ns s.heap.objs.size m)(k:∀b o,s.heap.get? b=some o->h'.get? b=some o):Inv (blk X sc N cl s.heap.objs.size s H fp (X.pn++zj)) [] (Cc own ix σ) H {s with heap:=h',toks:=t'} where
 ok:=fH I B C hk h1 h2
 os:=rfl
 bare:=I.bare
 base:=Un.kept k
 loc:=by
  refine⟨m,D,λi x v E G R=> ?_⟩;obtain⟨Xi,J,K,es⟩:=Hz G;obtain⟨y,n,L,t,w⟩:=F.out _ _ K;have g:x=y:=by have h:N[i]? =some x:=E;rw[show own+(i-own)=i by omega,h] at n;exact AAX n
  subst g;obtain⟨m0,S,M⟩:=I.loc;obtain⟨u,r,l⟩:=M J x v L es (.inr (.inl t));refine⟨u,r, ?_⟩;rcases l with⟨z,_⟩|⟨_,c,O,z⟩
  .have A:X.env.scope.names.lookup x=some .local:=z;rw[t] at A;cases A
  .obtain ⟨P,f⟩:=h2 x (.inl w);have:=h1 x P f;rw[O] at this;cases this;obtain⟨o,j,hd⟩:=z;exact .inr ⟨.inl w,c,f,o,k c o j,hd⟩
 cell:=λx c e=>by obtain⟨v,o,j,hd⟩:=I.cell x c (h1 x c e);exact⟨v,o,k c o j,hd⟩
 free:=I.hok.fresh (AAI _)
 freeC:=λx c e=>I.freeC x c (h1 x c e)
 pin:=λp hp=>by
  have Q:p∈X.pn++zj:=by simpa[blk] using hp
  obtain⟨a,b,c,d,e⟩:=I.pin p Q;exact⟨k _ _ a,b,AAM (AAG a),I.notStk c d,e⟩
 hok:=I.hok.kept k
 len:=by rw[Wd];exact F.len.symm
def VJ {own:Nat}{ix:zy Nat}{σ':St}{d:Hp}{e:zw}{a:zy (zu×Obj)}(I:Inv X zj σ H s)(c:∀b∈fp,FW X zj H b)(f:∀b∈fp,b<s.heap.objs.size)(B:Inv (blk X sc N cl s.heap.objs.size s H fp (X.pn++zj)) a σ' d e):Inv X zj σ d e:=
 I.call' (ch:=fp) B.os B.base B.hok B.bare λb hb=>⟨(c b hb).2.2.2.1,(c b hb).2.1,(c b hb).2.2.2.2.1,(c b hb).2.2.2.2.2⟩
def RN {d:Hp}{σ':St}{a:zw}{C:zu}{h':zl}(I:Inv X zj σ H s)(f:C=s.heap.objs.size)(g:Inv X zj σ' d a)(h:d C=none)(hs:Heap.SameBut C a.heap h'):Inv X zj σ' d {a with heap:=h'}:=by subst f;refine g.turned (t':=a.toks) (it:=s.heap.objs.size) (λb o hb e=>(hs.2 b hb).trans e) h (AAy I.lt) (.inr I.sz) (λx c e=>AAM (I.szLt e)) λp hp=>AAM (AAG (I.pin p hp).1)
end
def e6 (X:Cx)(a:zy zr)(t:TT):Prop:=
 ∀(d:zy (zu×Obj)) (s:zw) (b:St) (H:Hp) (Q:zq->Hp->Prop),Inv X d b H s->t b H Q->
  wpAny (model X.prog X.w) X.A (forIn a true λc r=>if r=true then do let ok <-isTrue c X.env (eval c X.env);pure (ForInStep.yield ok) else pure (ForInStep.yield r)) (TP X d b Q) X.xe s
def dQ:TT:=λ_ H Q=>Q true H
def Vt {X:Cx}:e6 X [] dQ:=λ_ _ _ H _ I h=>wpAny_tests_nil ⟨H,I,h⟩
def Mh (own:Nat)(g:TG):Prop:=∀v b H Q,g v b H Q->g v b H λa c=>Q a c/\a.length=b.length/\∀j,own<=j->a[j]? =b[j]?
def Mi (own:Nat)(g:TL):Prop:=∀vs b H Q,g vs b H Q->g vs b H λa c=>Q a c/\a.length=b.length/\∀j,own<=j->a[j]? =b[j]?
def Pg {own i:Nat}(h:i<own):Mh own (Bc i):=λv a H Q q=>⟨q,by simp,λj hj=>AAY (by omega)⟩
def Vb {own:Nat}:Mi own LZ:=λvs a H Q q=>⟨q.1,q.2,rfl,λ_ _=>rfl⟩
def Mw {own:Nat}{t:TG}{u:TL}(h1:Mh own t)(m1:∀v b H Q d,(∀a c,Q a c->d a c)->t v b H Q->t v b H d)(h2:Mi own u)(m2:∀v b H Q d,(∀a c,Q a c->d a c)->u v b H Q->u v b H d):Mi own (Cw t u):=by intro vs b H Q q;obtain⟨v,r,e,q⟩:=q;refine⟨v,r,e,m1 _ _ _ _ _ (λa c z=> ?_) (h1 _ _ _ _ q)⟩;obtain⟨z,l,g⟩:=z;refine m2 _ _ _ _ _ (λh m f=> ?_) (h2 _ _ _ _ z);obtain⟨f,i,k⟩:=f;exact⟨f,i.trans l,λj hj=>(k j hj).trans (g j hj)⟩
def Ln {i:Nat}:∀v b H Q c,(∀a d,Q a d->c a d)->Bc i v b H Q->Bc i v b H c:=λ_ _ _ _ _ m q=>m _ _ q
def Ph:∀v b H Q c,(∀a d,Q a d->c a d)->LZ v b H Q->LZ v b H c:=λ_ _ _ _ _ m q=>⟨q.1,m _ _ q.2⟩
def RX {t:TG}{u:TL}(m1:∀v b H Q c,(∀a d,Q a d->c a d)->t v b H Q->t v b H c)(m2:∀v b H Q c,(∀a d,Q a d->c a d)->u v b H Q->u v b H c):∀v b H Q c,(∀a d,Q a d->c a d)->Cw t u v b H Q->Cw t u v b H c:=λ_ _ _ _ _ m ⟨v,r,e,q⟩=>⟨v,r,e,m1 _ _ _ _ _ (λ_ _ z=>m2 _ _ _ _ _ m z) q⟩
def TW (J:It)(D:zu)(σ0:St)(g:TG)(f:TT)(h:TE)(Q:Hp->Prop)(W:Nat->Nat->Hp->Prop):Prop:=
 ∀i m H,W i m H->(J.stop i H/\Q H)\/(J.go i H/\∀x c,J.yld i H x c->g x σ0 c λa j=>f a j λok d=>
  if ok=true then h a d λy e=>∃ys,e D=some (.lst ys)/\ys.length<sizeLine/\∃b,b<m/\W (i+1) b (upd e D (.lst (ys ++ [y]))) else ∃b,b<m/\W (i+1) b d)
def aF (b:TI)(own:Nat)(ix:zy Nat)(g:TG)(c:TT)(d:TE):TE:=λa H Q=>b a H λJ H1=>∀D,H1 D=none->
 ∃W:Nat->Nat->Hp->Prop,(∃m,W 0 m (upd H1 D (.lst [])))/\TW J D (Cc own ix a) g c d (Q (.ref D)) W
section
variable {X:Cx}{tg elt iter:zr}{ifs:zy zr}{scope:Scope}{pos:Pos}{wi:TI}{own:Nat}{ix:zy Nat}{N:zy Str}{g:TG}{tt:TT}{te:TE}
structure FU (X:Cx) (tg elt:Expr) (ifs:List Expr) (scope:Scope) (own:Nat) (ix:List Nat) (N:List Str) (g:TG) (tt:TT) (te:TE):Prop where
 kind:scope.kind= .function
 nocell:∀y∈scope.names,y.2≠ .cell
 names:∀y∈scope.names,y.2= .local->scope.names.lookup y.1=some .local
 frees:∀y∈scope.names,y.2= .free->X.env.scope.names.lookup y.1=some .cell
 ins:Xw X (relabel scope X.env) own ix N
 keep:Mh own g
 tgt:∀cl C s H ex pn,PG (blk X (relabel scope X.env) N cl C s H ex pn) tg g
 tst:∀cl C s H ex pn,e6 (blk X (relabel scope X.env) N cl C s H ex pn) ifs tt
 val:∀cl C s H ex pn,PE (blk X (relabel scope X.env) N cl C s H ex pn) elt te
def Ev {env:Env}{y:Str}{k:NameKind}(c:∀y∈scope.names,y.2≠ .cell)(h:(y,k)∈(relabel scope env).names)(hk:k= .cell\/k= .free):(y,NameKind.free)∈scope.names:=by
 obtain⟨⟨n,b⟩,a,e⟩:=AAN.mp (show (y,k)∈scope.names.map _ from h);dsimp only at e;split at e
 .rename_i hc;cases e;have:b= .free:=by cases b <;> simp_all
  subst this;exact a
 .cases e;rcases hk with z|z
  .subst z;exact absurd rfl (c _ a)
  .subst z;exact a
def Wl {B:zy (zu×Obj)}{M:St}{H:Hp}{s:zw}{fp:zy zu}{cl:zy (Str×zu)}{it:zu}{tn:Nat->zl->Prop}{J:It}{D:zu}{R:Result->zw->Prop}{Qh:Hp->Prop}{W:Nat->Nat->Hp->Prop}(hc:X.calm=true)(O:FU X tg elt ifs scope own ix N g tt te)(T:LY X.prog X.w X.K tg J fp it tn)(I:Inv X B M H s)(hf:∀b∈fp,FW X B H b)(FC:∀b∈fp,b<s.heap.objs.size)(hW:TW J D (Cc own ix M) g tt te Qh W)(hR:∀σ' a P,Inv (blk X (relabel scope X.env) N cl s.heap.objs.size s H fp (X.pn++B)) [] σ' a P->Qh a->R (.ok .next) P)(n:Nat)(s0:zw)(h0:∃i a,Inv (blk X (relabel scope X.env) N cl s.heap.objs.size s H fp (X.pn++B)) [] (Cc own ix M) a s0/\tn i s0.heap/\(∀b∈fp,a b=none)/\W i n a):codeAny (model X.prog X.w) X.A (.compLoop (.ListComp elt [⟨tg,iter,ifs,0⟩] scope pos) 0 (.ref it) (.ref D) (Hy X.env (relabel scope X.env) cl s.heap.objs.size)) R s0:=by
 refine codeAny_loop rfl (λn P=>∃i a,Inv (blk X (relabel scope X.env) N cl s.heap.objs.size s H fp (X.pn++B)) [] (Cc own ix M) a P/\tn i P.heap/\(∀b∈fp,a b=none)/\W i n a) (λn s1 h1=> ?_) n h0;obtain⟨i,H1,B1,S,U,w1⟩:=h1;generalize f:blk X (relabel scope X.env) N cl s.heap.objs.size s H fp (X.pn++B)=Y at *;have eA:Y.A=X.A:=by rw[<-f];rfl
 have Z:Y.prog=X.prog:=by rw[<-f];rfl
 have eW:Y.w=X.w:=by rw[<-f];rfl
 have eK:Y.K=X.K:=by rw[<-f];rfl
 have eE:Hy X.env (relabel scope X.env) cl s.heap.objs.size=Y.env:=by rw[<-f];rfl
 have eX:Y.xe=λ_ _=>False:=by rw[<-f];rfl
 have eC:Y.calm=true:=by rw[<-f];exact hc
 have hg:PG Y tg g:=by rw[<-f];exact O.tgt _ _ _ _ _ _
 have ht:e6 Y ifs tt:=by rw[<-f];exact O.tst _ _ _ _ _ _
 have hv:PE Y elt te:=by rw[<-f];exact O.val _ _ _ _ _ _
 have k:∀{a:Hp},(∀b∈fp,a b=none)->∀b∈fp,FW Y [] a b:=λ{a} hn b hb=>by
  obtain⟨_,a1,a2,a3,a4,a5⟩:=hf b hb;refine⟨hn b hb, ?_, ?_, ?_, ?_, ?_⟩
  .rw [<-f];exact AAM (FC b hb)
  .rw [<-f];exact I.notStk a1 a2
  .rw [<-f];exact .inl hb
  .intro x c e;exact(B1.ok.exf b (by rw[<-f];exact hb)).2 x c e
  .intro p hp;have:p∈X.pn++B:=by rw[<-f] at hp;simpa[blk] using hp
   exact a5 p this
 rw[eE,<-eA,<-Z,<-eW];show wpAny _ _ ((compTurn (.ListComp elt [⟨tg,iter,ifs,0⟩] scope pos) 0 (.ref it) (.ref D) Y.env).onRaise (λx=>do noteFrame x Y.env;theTreesLotGoes x)) _ _ s1;refine wpAny_noted ?_;rw[compTurn_list];have ff:∀{α:Type} {t:Sem α} {Q:α->zw->Prop} {E:zx->zw->Prop} {s:zw},wpAny (model Y.prog Y.w) Y.A t Q Y.xe s->wpAny (model Y.prog Y.w) Y.A t Q E s:=λh=>ABK h (λ_ _ q=>q) λ_ _ z=>by rw[eX] at z;exact z.elim
 refine AAA (ABL (AAA ?_));rcases hW i n H1 w1 with⟨stop,qn⟩|⟨go,step⟩
 .have zd:=λE=>T.done Y Z eW eK eC i [] s1 _ H1 E B1 (k U) S stop;rw[<-Z,<-eW] at zd;refine BY (zd _) λr s4 ⟨hr,I4⟩=> ?_;subst hr;exact AAD (hR _ _ _ I4 qn)
 .have zi:=λE=>T.item Y Z eW eK eC i [] s1 _ H1 E B1 (k U) S go;rw[<-Z,<-eW] at zi;refine BY (zi _) λr s4 ⟨u,hr,h4⟩=> ?_;subst hr;refine AAA (BY h4 λ_ s5 ⟨x,H5,I5,r5,y5,C,fr5⟩=> ?_);have I5':=I5.pinned (k fr5) (T.obj _ _ C);refine AAA (BY (ff (hg _ s5 _ H5 x u _ I5' r5 (O.keep _ _ _ _ (step x H5 y5)))) λ_ s6 ⟨l,H6,I6,q6,l6,k6⟩=> ?_);refine AAA (BY (ff (ht _ s6 l H6 _ I6 q6)) λok s7 ⟨H7,I7,q7⟩=> ?_);have back:∀{F:Hp} {G:zw} {L:Nat},Inv Y ([] ++ KH fp s5.heap) l F G->L<n->W (i+1) L F->
   ∃m,m<n/\∃i a,Inv Y [] (Cc own ix M) a G/\tn i G.heap/\(∀b∈fp,a b=none)/\W i m a:=λ{F G L} I8 hm w8=>by
   refine⟨L,hm,i+1,F,I8.unpinned.weak l6.symm (λj v hj=> ?_),T.keep _ _ _ C λb hb o e=>(I8.pin (b,o) (AAg _ (AAg _ (Dm hb e)))).1,λb hb=> ?_,w8⟩
   .rw [k6 j (Hz hj).1];exact hj
   .obtain ⟨o,e,d⟩:=T.obj _ _ C b hb;exact(I8.pin (b,o) (AAg _ (AAg _ (Dm hb e)))).2.1
  cases ok with
  | false=> obtain⟨L,hm,w8⟩:=q7;exact AAD ⟨rfl,back I7 hm w8⟩
  | true=> refine AAA (AAA (BY (ff (hv _ s7 l H7 _ I7 q7)) λyv G ⟨y,F,I8,r8,ys,hD,hz,L,hm,w8⟩=> ?_));refine AAA (BY (ff (Ow _ G l F (.ref D) [y] (.ref D) [yv] (λ_ H9=>H9=upd F D (.lst (ys ++ [y]))) I8 rfl (.cons r8 .nil) ⟨D,ys,y,rfl,rfl,hD,hz,rfl⟩)) λ_ s9 ⟨_,H9,I9,_,e9⟩=> ?_);subst e9;exact AAD (AAD ⟨rfl,back I9 hm w8⟩)
def RQ {f:zy (zu×Obj)}{u:St}{H:Hp}{s:zw}{use:zt (zx->Sem Unit)}{Q:zx->zw->Prop}{it:zu}{fp:zy zu}{cl:zy (Str×zu)}{tn:Nat->zl->Prop}{J:It}{Qd:zu->Hp->Prop}(hc:X.calm=true)(O:FU X tg elt ifs scope own ix N g tt te)(T:LY X.prog X.w X.K tg J fp it tn)(I:Inv X f u H s)(P:∀b∈fp,FW X f H b)(st:tn 0 s.heap)(h1:∀y c,cl.lookup y=some c->X.env.cells.lookup y=some c)(h2:∀y,(y,NameKind.free)∈scope.names->∃c,cl.lookup y=some c)(hq:∀D,H D=none->∃W:Nat->Nat->Hp->Prop,(∃m,W 0 m (upd H D (.lst [])))/\TW J D (Cc own ix u) g tt te (Qd D) W)(R:∀D C j k,(∃m,k.heap.Ns C m)->Inv X f u j k->(∀h v,Inv X f h j v->∀h',Heap.SameBut C v.heap h'->Inv X f h j {v with heap:=h'})->C≠X.env.locals->(∀x c,X.env.cells.lookup x=some c->C≠c)->Qd D j-> compPost (model X.prog X.w) X.A X.xe use Q (.ref D) C (.ok .next) k):wpAny (model X.prog X.w) X.A (newList []) (λl n=>wpAny (model X.prog X.w) X.A (newFunctionEnv scope X.env.globals cl [] X.env.qual none .none (some X.env)) (λd p=> codeAny (model X.prog X.w) X.A (.compStart (.ListComp elt [⟨tg,iter,ifs,0⟩] scope pos) 0 (.ref it) l {d with scope:=relabel scope X.env}) (compPost (model X.prog X.w) X.A X.xe use Q l d.locals) p) X.xe n) X.xe s:=by
 refine AAx ?_ (by simp[sizeOk]);have i:Inv X f u (upd H s.heap.objs.size (.lst [])) {s with heap:=s.heap.push {cls:= .type "list",data:= .seq ([] :zy zx).toArray}}:=I.lnew (t':=s.toks) .nil (AAq _);have S:=I.fresh;obtain⟨W,⟨m0,U⟩,Y⟩:=hq _ S;have Z:∀b∈fp,b<s.heap.objs.size:=λb hb=>by obtain⟨o,e,_⟩:=T.obj _ _ st b hb;exact AAG e
 have E:∀b∈fp,FW X f (upd H s.heap.objs.size (.lst [])) b:=λb hb=>by obtain⟨a0,ar⟩:=P b hb;exact⟨by rw[Ad (AAM (Z b hb))];exact a0,ar⟩
 generalize nC:({s with heap:=s.heap.push {cls:= .type "list",data:= .seq ([] :zy zx).toArray}}:zw)=s3 at i;have r:tn 0 s3.heap:=T.keep _ _ _ st λb hb o e=>by rw[<-nC];exact AAH _ e
 have F:∀b∈fp,b<s3.heap.objs.size:=λb hb=>by obtain⟨o,e,_⟩:=T.obj _ _ r b hb;exact AAG e
 refine wpAny_newFunctionEnv O.nocell (by intro y hy;simp at hy) (λa iu nD=> ?_) O.kind;have M:∀b o,s3.heap.get? b=some o->a.get? b=some o:=λb o e=>nD.extBut b o (AAM (AAG e)) (AAH _ e);have dj:∀y,((relabel scope X.env).names.lookup y=some .cell\/(relabel scope X.env).names.lookup y=some .free)->∃c,cl.lookup y=some c:=λy hy=>by
  rcases hy with z|z
  .exact h2 y (Ev O.nocell (J7 z) (.inl rfl))
  .exact h2 y (Ev O.nocell (J7 z) (.inr rfl))
 have B:=YA (N:=N) (t':=s3.toks+([] :zy (Str×zx)).length) i E F (sc:=relabel scope X.env) O.kind h1 dj O.ins iu M;have t:tn 0 a:=T.keep _ _ _ r λb hb o e=>M b o e;have loop:∀G:zw,G={s3 with heap:=a,toks:=s3.toks+([] :zy (Str×zx)).length}->
  codeAny (model X.prog X.w) X.A (.compLoop (.ListComp elt [⟨tg,iter,ifs,0⟩] scope pos) 0 (.ref it) (.ref s.heap.objs.size) (Hy X.env (relabel scope X.env) cl s3.heap.objs.size)) (compPost (model X.prog X.w) X.A X.xe use Q (.ref s.heap.objs.size) s3.heap.objs.size) G:=by rintro G rfl;refine Wl (cl:=cl) (Qh:=Qd s.heap.objs.size) hc O T i E F Y (λσ' j k L q'=> ?_) m0 _ ⟨0,_,B,t,λb hb=>(E b hb).1,U⟩;refine R _ _ j k (let ⟨m,hm,_⟩:=L.loc;⟨m,hm⟩) (VJ (own:=own) (ix:=ix) i E F L) (λh v I2 h' hs=>RN i rfl I2 L.free hs) (AAy i.lt) (λx c e=>AAy (i.szLt e)) q'
 exact codeAny_compStart_list (loop _ rfl) (T.self _ 0 _ _ _ t (loop _ rfl))
def cS (hc:X.calm=true)(hi:PI X tg iter wi)(O:FU X tg elt ifs scope own ix N g tt te)(hs:∀x,foldedSetIterable iter X.env x=pure x:=by intro _;rfl):PE X (.ListComp elt [⟨tg,iter,ifs,0⟩] scope pos) (aF wi own ix g tt te):=by intro d s c H Q I h;obtain⟨cl,f,h1,h2⟩:=IA (env:=X.env) (scope:=scope) λy hy e=>I.ok.has y.1 (.inl (O.frees y hy e));rw[eval_ListComp];refine ADG (use:=none) rfl hs f O.kind O.names (BY (hi d s c H _ I h) λv u hv=>BY hv λi w j=> ?_);obtain⟨it,fp,tn,J,z,rfl,k,T,a,l,q⟩:=j;exact RQ (Qd:=λD b=>Q (.ref D) b) hc O T k l a h1 h2 q λD C b n o p gone A B r=>by obtain⟨m,t⟩:=o;exact⟨m,t,λh' hs=>⟨.ref D,b,gone c n p h' hs,rfl,r⟩⟩
def Vv {i:Nat}{x:Str}{pos' b:Pos}(hc:X.calm=true)(hN:X.N.Nodup)(n:X.N[i]? =some x)(hx:Loc X.env.scope x)(hi:PI X tg iter wi)(O:FU X tg elt ifs scope own ix N g tt te)(o:swapsWith (.ListComp elt [⟨tg,iter,ifs,0⟩] scope pos) (some (.Name x pos')) b.line X.env=pure true:=by rfl)(hs:∀x,foldedSetIterable iter X.env x=pure x:=by intro _;rfl)(p:X.fn x=true\/X.env.scope.names.lookup x=some .local:=by first | exact .inl rfl|exact .inr rfl|assumption):PS X (.Assign [.Name x pos'] (.ListComp elt [⟨tg,iter,ifs,0⟩] scope pos) b) (OQ (aF wi own ix g tt te) (Bc i)):=by
 intro k s l H D I h;obtain⟨cl,r,h1,h2⟩:=IA (env:=X.env) (scope:=scope) λy hy e=>I.ok.has y.1 (.inl (O.frees y hy e));rw[exec_Assign_Name_used _ _ _ _ o];refine AAA (ABL (AAA ?_));show wpAny _ _ (do let _ <-comprehension (.ListComp elt [⟨tg,iter,ifs,0⟩] scope pos) scope X.env _ (newList []) false (eval iter X.env) (some (assign (.Name x pos') X.env))) _ _ s;refine AAA (BY (ADG (use:=some (assign (.Name x pos') X.env)) (Q:=λ_ c=>SP X k D .next c) rfl hs r O.kind O.names (BY (hi k s l H _ I h) λv U hv=>BY hv λt W u=> ?_)) λ_ c hq=>AAD (AAD hq));obtain⟨it,fp,tn,J,Y,rfl,w,T,f,A,q⟩:=u;refine RQ (Qd:=λd j=>Bc i (.ref d) l j D.nx) hc O T w A f h1 h2 q λd C j c B E gone F G K=> ?_;obtain⟨m,L⟩:=B;show wpAny _ _ (assign (.Name x pos') X.env (.ref d)) _ _ c;refine AC6 (Kb (v:= .ref d) E hN n hx rfl (λM P ⟨a,R,ha⟩=> ?_) p);have S:C≠a:=by
  rcases ha with z|z
  .rw [z];exact F
  .exact G x a z
 exact⟨m,L.sameBut R S,λh' hs=>⟨_,j,gone _ M P h' hs,K⟩⟩
end
def JV {n k:Nat}(h:n<2^k)(hk:0<k):n.log2<k:=by
 by_cases e:n=0
 .subst e;simpa using hk
 .exact (Nat.log2_lt e).mpr h
def Gv {i:Int}{k:Nat}(h:i.natAbs<2^k):Builtin.Int.intBits i<=k:=by
 unfold Builtin.Int.intBits;by_cases e:i=0
 .subst e;simp
 .have a:(i==0)=false:=by simpa using e
  rw[a];simp only[AAi,AAa];have b:i.natAbs≠0:=by omega
  have:=(Nat.log2_lt b).mpr h;omega
section
variable {X:Cx}
def l8 (i j:Int):Prop:=i.natAbs<2^8000/\j.natAbs<2^8000
def jG (i j:Int):Prop:=MZ i j\/l8 i j
def G3:EN X (binaryOp .Mult) (rI jG λi j=> .int (i*j)):=gY λ_ _ _ _ _ _ _ hc q=>mul_int q (by
 rcases hc with z|z
 .exact z.ok
 .exact .of_le (Gv z.1) (Gv z.2) (by decide))
def jF (_ j:Int):Prop:=0<j/\j.natAbs<2^8000
def Y9:EN X (binaryOp .FloorDiv) (rI jF λi j=> .int (i/j)):=gY λi j _ _ _ _ _ hc q=>by have h1:(0:Int)<j:=hc.1;refine floordiv_int (by omega) ?_ (.inl (ADd (ACZ (JV hc.2 (by decide)) (by decide))));rw[ABP _ (Int.le_of_lt h1)];exact q
inductive Kd where
 | int|bl|non|str|lst|tup
 deriving DecidableEq
def W4:Kd->String->zq
 | .int,T=>T == "int"
 | .bl,T=>T == "bool" || T == "int"
 | .non,_=>false
 | .str,_=>false
 | .lst,T=>T == "list"
 | .tup,T=>T == "tuple"
def XQ (bs:zy zq):(List.range bs.length).all (λi=>bs.getD i true)=bs.all id:=by
 rw[AAz,ABp,ABp];constructor
 .intro h b hb;obtain⟨i,hi,e⟩:=List.mem_iff_getElem.mp hb;have:=h i (ABk.mpr hi);rw[AB8,AAU hi] at this;subst e;simpa using this
 .intro h i hi;have a:=ABk.mp hi;rw[AB8,AAU a];simpa using h _ (ABd a)
def XR (bs:zy zq):(List.range bs.length).any (λi=>bs.getD i true)=bs.any id:=by
 rw[AAz,AAh,AAh];constructor
 .rintro ⟨i,hi,h⟩;have a:=ABk.mp hi;rw[AB8,AAU a] at h;exact⟨_,ABd a,by simpa using h⟩
 .rintro ⟨b,hb,h⟩;obtain⟨i,hi,e⟩:=List.mem_iff_getElem.mp hb;refine⟨i,ABk.mpr hi, ?_⟩;rw[AB8,AAU hi];subst e;simpa using h
def Inv.walked {g:zy (zu×Obj)}{h:St}{H:Hp}{s c:zw}{o:Obj}(I:Inv X g h H s)(m:Moved [s.heap.objs.size] (λa b=>b=a) {s with heap:=s.heap.push o} c):Inv X g h H c:=by
 obtain⟨h',g',d',t',i⟩:=c;obtain⟨hk,d,hd,f,_⟩:=m;have j:∀b u,s.heap.get? b=some u->h'.get? b=some u:=λb u e=>hk b u (by
  intro z;have k:b=s.heap.objs.size:=by simpa using z
  exact absurd (AAG e) (by rw[k];exact ABB _)) (AAH _ e)
 have d:g'=s.gens:=d;have hd:d'=s.drawn:=hd;have f:i=s.os:=f;subst d hd f;exact I.kept (t':=t') j
def Sk {bs:zy zq}{a:zy zx}{A:zk}(r:Ao (bs.map V.bl) a):TruthOf X.prog X.w A (λi v=>a.toArray[i]? =some v) (λi=>bs.getD i true):=by
 intro i v s Q E hv hQ;have c:a[i]? =some v:=by simpa using hv
 cases e:(bs.map V.bl)[i]? with
 | none=>rw[r.none_of e] at c;cases c
 | some x=>
   obtain⟨u,hu,f⟩:=r.get e;rw[c] at hu;cases hu;rw[AAm] at e;cases d:bs[i]? with
   | none=>rw[d] at e;cases e
   | some b=>
     rw[d] at e;cases e;cases f
     replace hQ:Q (bs.getD i true) s:=hQ
     rw[AB8,d] at hQ;unfold truthy;exact AAD hQ
def UZ (K:AAB)(f:zy zq->zq):zy V->Hp->VK->Prop:=λxs H Q=>∃p bs,xs= [.ref p] /\Ep K H p (bs.map V.bl)/\Q (.bl (f bs)) H
def Wg (hc:X.calm=true):CZ X (.builtin "all") (UZ X.K λbs=>bs.all id):=by
 intro k s l H xs us Q I r h;obtain⟨p,bs,rfl,hq,q⟩:=h;obtain⟨u,rfl,e⟩:=vals1 r;cases e;obtain⟨a,b,c,hz⟩:=I.list hq;obtain⟨ol,d,f⟩:=id c.isList;have g:p≠s.heap.objs.size:=AAM (AAG d);have j:a.toArray.size=bs.length:=by have:=b.length;simp at this;simp[this]
 refine call_all_walkS (AB9 c.isList ?_);refine⟨_,_,_,_,_,_,_,λi=>bs.getD i true,rfl,(Walks.list (A:=X.A.in1) (show X.A.in1.handled=none from I.ok.hd hc) s.heap.objs.size p g a.toArray).toS,⟨⟨_,AAS _ rfl,rfl,rfl⟩,⟨ol,AAH _ d,f⟩⟩,Sk b,λn m=> ?_⟩;rw[j,XQ];exact⟨.bl (bs.all id),H,I.walked m,rfl,q⟩
def Wh (hc:X.calm=true):CZ X (.builtin "any") (UZ X.K λbs=>bs.any id):=by
 intro k s l H xs us Q I r h;obtain⟨p,bs,rfl,hq,q⟩:=h;obtain⟨u,rfl,e⟩:=vals1 r;cases e;obtain⟨a,b,c,hz⟩:=I.list hq;obtain⟨ol,d,f⟩:=id c.isList;have g:p≠s.heap.objs.size:=AAM (AAG d);have j:a.toArray.size=bs.length:=by have:=b.length;simp at this;simp[this]
 refine call_any_walkS (AB9 c.isList ?_);refine⟨_,_,_,_,_,_,_,λi=>bs.getD i true,rfl,(Walks.list (A:=X.A.in1) (show X.A.in1.handled=none from I.ok.hd hc) s.heap.objs.size p g a.toArray).toS,⟨⟨_,AAS _ rfl,rfl,rfl⟩,⟨ol,AAH _ d,f⟩⟩,Sk b,λn m=> ?_⟩;rw[j,XR];exact⟨.bl (bs.any id),H,I.walked m,rfl,q⟩
def bj (xs:zy V)(k:Nat)(y:V):zy V:=xs.take k++y::xs.drop k
def Ao.ins {xs:zy V}{us:zy zx}{y:V}{u:zx}(r:Ao xs us)(a:RelV y u)(k:Nat):Ao (bj xs k y) (us.take k++u::us.drop k):=Ao.append (r.take k) (.cons a (r.drop k))
def QJ:V->zy V->Hp->VK->Prop:=λx vs H Q=>∃l xs i y,x= .ref l/\vs= [.int i,y] /\H l=some (.lst xs)/\0<=i/\i<=(xs.length:Int)/\xs.length<sizeLine/\Q .non (upd H l (.lst (bj xs i.toNat y)))
def XB:jM X "list.insert" QJ:=by
 intro o s p H x vs v us Q I f rv h;obtain⟨l,xs,i,y,rfl,rfl,c,u,h1,hz,q⟩:=h;cases f;cases rv with
 | cons g b=>
 cases b with
 | cons j b=>
 cases b;rename_i d;obtain⟨t,rfl⟩:=g;obtain⟨z,a,n,r,hl,e⟩:=I.lstM c;have w:=J6;have m:¬(!Builtin.List.listFitsIndex i)=true:=by have:=fitsIndex_both (k:=i) (by omega) (by omega);simp[this]
 refine call_meets F.slot_list_insert ⟨_,e,rfl⟩ F.entry_list_insert (F.args_list_insert_3 _ _ _) (AutoSeq1.list_insert_list_int_val_1 l a.toArray n i t d m (by rw[AAP];omega)) ⟨e, ?_⟩;refine⟨.non,_,I.lset (ys:=bj xs i.toNat y) (its':=a.take i.toNat++d::a.drop i.toNat) c e ?_ (r.ins j _) ?_,rfl,q⟩
 .dsimp only;rw[AAC (by omega),AAP,Nat.min_eq_left (by omega)];apply Array.toList_inj.mp;simp;exact ABq (by simp)
 .unfold bj;simp;omega
end
def N2:zq->zl->zu->zu->Nat->Prop
 | true,h,q,l,k=>h.IsListIter q l k
 | false,h,q,l,k=>h.IsTupleIter q l k
def Lm:zq->zl->zu->Array zx->Prop
 | true,h,l,xs=>h.IsList l xs
 | false,h,l,xs=>h.IsTuple l xs
def N2.mv {b:zq}{h h':zl}{q l:zu}{k:Nat}(x:N2 b h q l k)(e:∀o,h.get? q=some o->h'.get? q=some o):N2 b h' q l k:=by
 cases b with
 | true=>obtain⟨o,a,r⟩:=x;exact⟨o,e o a,r⟩
 | false=>obtain⟨o,a,r⟩:=x;exact⟨o,e o a,r⟩
def N2.obj {b:zq}{h:zl}{q l:zu}{k:Nat}(x:N2 b h q l k):∃o,h.get? q=some o/\∀v,o.data≠ .cell v:=by
 cases b with
 | true=> obtain⟨o,a,_,d⟩:=x;exact⟨o,a,λv z=>by rw[d] at z;cases z⟩
 | false=> obtain⟨o,a,_,d⟩:=x;exact⟨o,a,λv z=>by rw[d] at z;cases z⟩
def Lm.mv {b:zq}{h h':zl}{l:zu}{xs:Array zx}(x:Lm b h l xs)(e:∀o,h.get? l=some o->h'.get? l=some o):Lm b h' l xs:=by
 cases b with
 | true=>obtain⟨o,a,r⟩:=x;exact⟨o,e o a,r⟩
 | false=>obtain⟨o,a,r⟩:=x;exact⟨o,e o a,r⟩
section
variable {prog:zp}{w:zm}{A:zk}{E:zx->zw->Prop}{s:zw}
def JN {b:zq}{q l:zu}{k:Nat}{xs:Array zx}{x:zx}{Q:zx->zw->Prop}(hq:N2 b s.heap q l k)(hl:Lm b s.heap l xs)(hx:xs[k]? =some x)(hQ:∀h',N2 b h' q l (k+1)->Heap.SameBut q s.heap h'->Q x {s with heap:=h'}):wpAny (model prog w) A (Builtin.SmallTypes.nextOf (.ref q)) Q E s:=by
 cases b with
 | true=>exact wpAny_nextOf_list_item hq hl hx hQ
 | false=> have d:s.heap.IsTupleIter q l k:=hq;obtain⟨f,c,e,a⟩:=id d;obtain⟨ol,gl,_,g,dl⟩:=hl;unfold Builtin.SmallTypes.nextOf;refine AAA (ABO (name:=Str.ofString "__next__") d.typeIs ACa (AAw ACa d.typeIs ADe ?_ (ADf _)));show wpAny _ _ (field (.ref q) 0 >>= _) _ _ _;refine AAA (AAn c a (x:= .ref l) rfl ?_);show wpAny _ _ (if (Value.ref l==Value.none)=true then _ else _) _ _ _;rw[AAC (by intro z;cases z)];show wpAny _ _ (field (.ref q) 1 >>= _) _ _ _;refine AAA (AAn c a (x:= .int k 0) rfl ?_);show wpAny _ _ (seqItems? (.ref l) >>= _) _ _ _;refine AAA (AA2 gl dl ?_);simp only[ABm,hx];refine AAA (ACb c a (by simp) (AAD ⟨x,rfl,AAD (hQ _ ?_ (ACc ..))⟩));refine⟨_,ABo _ c (Obj.isFreed_of_fields (ACd a _)),(Obj.cls_mapFields ..).trans e, ?_⟩;rw[ACd a];simp[rawInt]
def Gy {b:zq}{q l:zu}{k:Nat}{xs:Array zx}{Q:zx->zw->Prop}(c:A.handled=none)(hq:N2 b s.heap q l k)(hl:Lm b s.heap l xs)(hx:xs[k]? =none)(h:∀h' e,Heap.ExtBut q s.heap h'->(∃o,h'.get? e=some o/\o.cls= .type "StopIteration")->E (.ref e) {s with heap:=h'}):wpAny (model prog w) A (Builtin.SmallTypes.nextOf (.ref q)) Q E s:=by
 cases b with
 | true=>exact wpAny_nextOf_list_end c hq hl hx h
 | false=>
   have d:s.heap.IsTupleIter q l k:=hq;obtain⟨i,f,j,g⟩:=id d;obtain⟨ol,gl,_,n,dl⟩:=hl;unfold Builtin.SmallTypes.nextOf;refine AAA (ABO (name:=Str.ofString "__next__") d.typeIs ACa (AAw ACa d.typeIs ADe ?_ (ADf _)));show wpAny _ _ (field (.ref q) 0 >>= _) _ _ _;refine AAA (AAn f g (x:= .ref l) rfl ?_);show wpAny _ _ (if (Value.ref l==Value.none)=true then _ else _) _ _ _;rw[AAC (by intro z;cases z)];show wpAny _ _ (field (.ref q) 1 >>= _) _ _ _;refine AAA (AAn f g (x:= .int k 0) rfl ?_);show wpAny _ _ (seqItems? (.ref l) >>= _) _ _ _;refine AAA (AA2 gl dl ?_);simp only[ABm,hx];refine AAA (ABI (AAA (ACb f g (by simp) ?_)));refine AAA (m:=newExc (.type "StopIteration") []) ?_;simp only[newExc,newTuple];refine AAA (AAx ?_ (by size_fits));refine AAA (m:=firstArgMember _ _) (wpAny_of_eq (a:=Value.none) (by first | rfl|(simp only[firstArgMember];rfl)) (AAx ?_ (by size_fits)));simp only[raiseNew];refine AAA (wpAny_handled ?_);first | rw[show A.in1.handled=none from c] | rw[c]
   exact AAA (AAD (wpAny_throw (h _ _ (((ACc ..).extBut.push _).push _) ⟨_,AAS _ rfl,rfl⟩)))
structure fB (b c:Bool) (z TI TO i j l m:Addr) (k:Nat) (f:Value) (h:Heap):Prop where
 zip:IsZip h z TI TO f
 its:IsPair h TI (.ref i) (.ref j)
 own:∃x y,IsPair h TO x y
 one:N2 b h i l k
 two:N2 c h j m k
def fB.mv {b c:zq}{z TI TO i j l m:zu}{k:Nat}{f:zx}{h h':zl}(Z:fB b c z TI TO i j l m k f h)(e:∀p∈ [z,TI,TO,i,j],∀o,h.get? p=some o->h'.get? p=some o):fB b c z TI TO i j l m k f h':=by obtain⟨a,d,⟨x,y,g⟩,n,r⟩:=Z;exact⟨e z (by simp) _ a,e TI (by simp) _ d,⟨x,y,e TO (by simp) _ g⟩,n.mv (e i (by simp)),r.mv (e j (by simp))⟩
variable {b c:zq}{z TI TO i j l m:zu}{k:Nat}{xs ys:Array zx}
def lF {x y:zx}{Q:zx->zw->Prop}(D:ZipApart z TI TO i j l m)(Z:fB b c z TI TO i j l m k .none s.heap)(hl:Lm b s.heap l xs)(hm:Lm c s.heap m ys)(hx:xs[k]? =some x)(hy:ys[k]? =some y)(hQ:∀h',IsZip h' z TI TO (rawInt s.heap.objs.size)->IsPair h' TI (.ref i) (.ref j)->IsPair h' TO x y->N2 b h' i l (k+1)->N2 c h' j m (k+1)->IsPair h' s.heap.objs.size x y-> (∀p o,p≠z->p≠TO->p≠i->p≠j->s.heap.get? p=some o->h'.get? p=some o)->Q (.ref s.heap.objs.size) {s with heap:=h'}):wpAny (model prog w) A (Builtin.«zip.__next__» ⟨[.ref z], []⟩) (λL s'=>∃v,L= .done (.ret v)/\Q v s') E s:=by
 obtain⟨n,T,⟨x0,M,zo⟩,z1,z2⟩:=Z;show wpAny _ _ (field (.ref z) 2 >>= _) _ _ _;refine AAA (AAn n rfl (x:= .bool false) rfl ?_);show wpAny _ _ (field (.ref z) 3 >>= _) _ _ _;refine AAA (AAn n rfl (x:= .ref TI) rfl (AAA (AA2 T rfl ?_)));refine AAA (m:=Builtin.SmallTypes.ownedTupleIsFree (.ref z)) ?_;unfold Builtin.SmallTypes.ownedTupleIsFree;refine AAA (AAn n rfl (x:= .none) rfl (AAD ?_));simp only[AA5];refine AAA (ABI (AAA (AAn n rfl (x:= .ref TO) rfl (AAA (ABr n (by simp) λg1 N g=> ?_)))));have N:IsZip g1 z TI TO .ellipsis:=N;refine AAA ?_;simp only[List.zipIdx_cons,List.zipIdx_nil,ACY,List.forIn_nil];refine AAA (AAA (ACe ?_));refine AAA (m:=Builtin.SmallTypes.nextOf (.ref i)) (JN (z1.mv λo=>g.extBut _ o D.i1z) (hl.mv λo=>g.extBut _ o D.l1z) hx λg2 e2 b2=>AAD ?_);have U:IsPair g2 TO x0 M:=b2.extBut _ _ D.TOi1 (g.extBut _ _ D.TOz zo);refine AAA (AA2 U rfl (AAA (ADH U λg3 O h=>AAA (ACf (AAD ?_)))));have O:IsPair g3 TO x M:=O;refine AAA (AAA (ACe ?_));refine AAA (m:=Builtin.SmallTypes.nextOf (.ref j)) (JN (((z2.mv λo=>g.extBut _ o D.i2z).mv λo=>b2.extBut _ o D.i12.symm).mv λo=>h.extBut _ o D.TOi2.symm)
  (((hm.mv λo=>g.extBut _ o D.l2z).mv λo=>b2.extBut _ o D.l2i1).mv λo=>h.extBut _ o D.l2TO) hy λg4 e4 r=>AAD ?_)
 have W:IsPair g4 TO x M:=r.extBut _ _ D.TOi2 O;refine AAA (AA2 W rfl (AAA (ADH W λa G t=>AAA (ACf (AAD (AAD ?_))))));have G:IsPair a TO x y:=G;refine AAA (AA2 G rfl (AAA (wpAny_newTuple ?_)));have sz:a.objs.size=s.heap.objs.size:=by rw[t.1,r.1,h.1,b2.1,g.1]
 have X:IsZip a z TI TO .ellipsis:=t.extBut _ _ D.TOz.symm (r.extBut _ _ D.i2z.symm (h.extBut _ _ D.TOz.symm (b2.extBut _ _ D.i1z.symm N)));have d:∀p o,p≠z->p≠TO->p≠i->p≠j->s.heap.get? p=some o->a.get? p=some o:=λp o H I P R e=>
  t.extBut _ _ I (r.extBut _ _ R (h.extBut _ _ I (b2.extBut _ _ P (g.extBut _ _ H e))))
 have u:N2 b a i l (k+1):=((e2.mv λo=>h.extBut _ o D.TOi1.symm).mv λo=>r.extBut _ o D.i12).mv λo=>t.extBut _ o D.TOi1.symm;have B:N2 c a j m (k+1):=e4.mv λo=>t.extBut _ o D.TOi2.symm;have C:z<a.objs.size:=AAG X;refine AAA (m:=Builtin.SmallTypes.ownedTupleHandOut (.ref z) (.ref a.objs.size)) ?_;unfold Builtin.SmallTypes.ownedTupleHandOut;have k6:IsZip (a.push {cls:= .type "tuple",data:= .seq #[x,y] }) z TI TO .ellipsis:=AAH _ X;refine AAA (ABr k6 (by simp) λg7 S Y=> ?_);have S:IsZip g7 z TI TO (rawInt a.objs.size):=S;refine ABr S (by simp) λJ K b8=> ?_;have K:IsZip J z TI TO (rawInt a.objs.size):=K;have F:∀p o,p≠z->a.get? p=some o->J.get? p=some o:=λp o q e=>b8.extBut _ _ q (Y.extBut _ _ q (AAH _ e));have f:IsPair J a.objs.size x y:=b8.extBut _ _ (AAy C) (Y.extBut _ _ (AAy C) (AAS _ rfl));rw[sz] at K f;refine AAD ⟨_,rfl, ?_⟩;show Q (.ref a.objs.size) _;rw[sz];exact hQ J K (F _ _ D.TIz (d _ _ D.TIz D.TITO D.TIi1 D.TIi2 T)) (F _ _ D.TOz G) (u.mv λo=>F _ o D.i1z) (B.mv λo=>F _ o D.i2z) f λp o H I P R e=>F p o H (d p o H I P R e)
def pI {Q:Fin->zw->Prop}(B:A.handled=none)(D:ZipApart z TI TO i j l m)(Z:fB b c z TI TO i j l m k .none s.heap)(hl:Lm b s.heap l xs)(M:Lm c s.heap m ys)(N:xs[k]? =none\/ys[k]? =none)(C:∀h' e,(∀p o,p≠z->p≠TO->p≠i->p≠j->s.heap.get? p=some o->h'.get? p=some o)->(∃o,h'.get? e=some o/\o.cls= .type "StopIteration")->E (.ref e) {s with heap:=h'}):wpAny (model prog w) A (Builtin.«zip.__next__» ⟨[.ref z], []⟩) Q E s:=by
 obtain⟨g,O,⟨P,R,S⟩,F,T⟩:=Z;show wpAny _ _ (field (.ref z) 2 >>= _) _ _ _;refine AAA (AAn g rfl (x:= .bool false) rfl ?_);show wpAny _ _ (field (.ref z) 3 >>= _) _ _ _;refine AAA (AAn g rfl (x:= .ref TI) rfl (AAA (AA2 O rfl ?_)));refine AAA (m:=Builtin.SmallTypes.ownedTupleIsFree (.ref z)) ?_;unfold Builtin.SmallTypes.ownedTupleIsFree;refine AAA (AAn g rfl (x:= .none) rfl (AAD ?_));simp only[AA5];refine AAA (ABI (AAA (AAn g rfl (x:= .ref TO) rfl (AAA (ABr g (by simp) λU r a=> ?_)))));have r:IsZip U z TI TO .ellipsis:=r;refine AAA ?_;simp only[List.zipIdx_cons,List.zipIdx_nil,ACY,List.forIn_nil];refine AAA (AAA (ACe ?_));cases hx:xs[k]? with
 | none=>
   refine AAA (m:=Builtin.SmallTypes.nextOf (.ref i)) (Gy B (F.mv λo=>a.extBut _ o D.i1z) (hl.mv λo=>a.extBut _ o D.l1z) hx λt e b2 he=> ?_);obtain⟨u,d,h⟩:=he;have G:IsZip t z TI TO .ellipsis:=b2 _ _ D.i1z.symm r;have v:e≠z:=λq=>by subst q;rw[G] at d;cases d;simp at h
   refine ABr G (by simp) λH _ f=>C H e (λp o n _ y _ q=>f.extBut _ _ n (b2 _ _ y (a.extBut _ _ n q))) ⟨u,f.extBut _ _ v d,h⟩
 | some x=>
   have hy:ys[k]? =none:=by
    rcases N with q|q
    .rw [hx] at q;cases q
    .exact q
   refine AAA (m:=Builtin.SmallTypes.nextOf (.ref i)) (JN (F.mv λo=>a.extBut _ o D.i1z) (hl.mv λo=>a.extBut _ o D.l1z) hx λt e2 b2=>AAD ?_);have I:IsPair t TO P R:=b2.extBut _ _ D.TOi1 (a.extBut _ _ D.TOz S);refine AAA (AA2 I rfl (AAA (ADH I λH o3 f=>AAA (ACf (AAD ?_)))));refine AAA (AAA (ACe ?_));refine AAA (m:=Builtin.SmallTypes.nextOf (.ref j)) (Gy B (((T.mv λo=>a.extBut _ o D.i2z).mv λo=>b2.extBut _ o D.i12.symm).mv λo=>f.extBut _ o D.TOi2.symm)
    (((M.mv λo=>a.extBut _ o D.l2z).mv λo=>b2.extBut _ o D.l2i1).mv λo=>f.extBut _ o D.l2TO) hy λW e J he=> ?_)
   obtain⟨u,d,h⟩:=he;have K:IsZip W z TI TO .ellipsis:=J _ _ D.i2z.symm (f.extBut _ _ D.TOz.symm (b2.extBut _ _ D.i1z.symm r));have v:e≠z:=λq=>by subst q;rw[K] at d;cases d;simp at h
   refine ABr K (by simp) λX _ L=>C X e (λp o n Y y q4 q=>L.extBut _ _ n (J _ _ q4 (f.extBut _ _ Y (b2.extBut _ _ y (a.extBut _ _ n q))))) ⟨u,L.extBut _ _ v d,h⟩
end
def UE (b:zq)(l:zu):Obj:={cls:= .type (match b with | true=>"list_iterator" | false=>"tuple_iterator"),data:= .fields #[.ref l, .int 0 0] }
abbrev zA (b:zq)(h:zl)(l:zu):zl:=h.push (UE b l)
abbrev zB (b c:zq)(h:zl)(l m:zu):zl:=(zA b h l).push (UE c m)
abbrev zC (b c:zq)(h:zl)(l m:zu):zl:=(zB b c h l m).push {cls:= .type "tuple",data:= .seq #[.ref h.objs.size, .ref (zA b h l).objs.size] }
abbrev zD (b c:zq)(h:zl)(l m:zu):zl:=(zC b c h l m).push {cls:= .type "tuple",data:= .seq #[.none, .none] }
abbrev zF (b c:zq)(h:zl)(l m:zu):zl:=(zD b c h l m).push {cls:= .type "zip",data:= .fields #[.none, .bool false, .bool false, .ref (zB b c h l m).objs.size, .ref (zC b c h l m).objs.size] }
def J4 {prog:zp}{w:zm}{A:zk}{E:zx->zw->Prop}{h:zl}{g:Array GenState}{d:Drawn}{a:Nat}{os:OsState}{b:zq}{l:zu}{xs:Array zx}{Q:zx->zw->Prop}(hl:Lm b h l xs)(q:Q (.ref h.objs.size) ⟨h.push (UE b l),g,d,a,os⟩):wpAny (model prog w) A (pyIter (.ref l)) Q E ⟨h,g,d,a,os⟩:=by
 cases b with
 | true=>exact AB9 (s:=⟨h,g,d,a,os⟩) hl q
 | false=>exact wpAny_pyIter_tuple (s:=⟨h,g,d,a,os⟩) hl q
def Xe (b c:zq)(l m:zu)(xs ys:Array zx):Meets (Builtin.«zip.__new__» ⟨[.type "zip", .ref l, .ref m], []⟩) (λ_ R s=>Lm b s.heap l xs/\Lm c s.heap m ys/\R (.ok (.ret (.ref (zD b c s.heap l m).objs.size))) {s with heap:=zF b c s.heap l m}):=
 .of_wp λprog w A R s h=>by
   obtain⟨hp,g,d,j,os⟩:=s;obtain⟨hl,a,h⟩:=h;have k:=sub_zip;have f:Lm b hp l xs:=hl;have i:Lm c (hp.push (UE b l)) m ys:=a.mv λo e=>AAH _ e
   wp_walk using J4 f,J4 i
   exact⟨_,rfl,h⟩
section
variable {prog:zp}{w:zm}{A:zk}{E:zx->zw->Prop}{s:zw}{b c:zq}{l m:zu}{xs ys:Array zx}
def Yr {h:zl}{q:zu}(e:h.get? q=some (UE b l)):N2 b h q l 0:=by
 cases b with
 | true=>exact⟨_,e,rfl,rfl⟩
 | false=>exact⟨_,e,rfl,rfl⟩
def ia (hl:Lm b s.heap l xs)(r:Lm c s.heap m ys){Q:zx->zw->Prop}(h:∀h',fB b c (s.heap.objs.size+4) (s.heap.objs.size+2) (s.heap.objs.size+3) s.heap.objs.size (s.heap.objs.size+1) l m 0 .none h'->(∀p o,s.heap.get? p=some o->h'.get? p=some o)->Q (.ref (s.heap.objs.size+4)) {s with heap:=h'}):wpAny (model prog w) A (call (.type "zip") [.ref l, .ref m]) Q E s:=by
 refine callType_new F.called_zip (by decide) (F.typeCall_zip_2 _ _) (F.newCall_zip_2 _ _) (λobj=>F.args_object_init_3 obj _ _) F.entry_zip_new (Xe b c l m xs ys) ⟨hl,r, ?_⟩;have a:(zA b s.heap l).objs.size=s.heap.objs.size+1:=ABC ..;have d:(zB b c s.heap l m).objs.size=s.heap.objs.size+2:=by rw[ABC,a]
 have f:(zC b c s.heap l m).objs.size=s.heap.objs.size+3:=by rw[ABC,d]
 have i:(zD b c s.heap l m).objs.size=s.heap.objs.size+4:=by rw[ABC,f]
 have g:(zF b c s.heap l m).get? (zD b c s.heap l m).objs.size=some _:=AAS _ rfl;have j:(zF b c s.heap l m).get? (zC b c s.heap l m).objs.size=some _:=AAH _ (AAS _ rfl);have k:(zF b c s.heap l m).get? (zB b c s.heap l m).objs.size=some _:=AAH _ (AAH _ (AAS _ rfl));have n:(zF b c s.heap l m).get? (zA b s.heap l).objs.size=some (UE c m):=AAH _ (AAH _ (AAH _ (AAS _ rfl)));have t:(zF b c s.heap l m).get? s.heap.objs.size=some (UE b l):=AAH _ (AAH _ (AAH _ (AAH _ (AAS _ rfl))));rw[d,f,i] at g;rw[a,d] at k;rw[f] at j;rw[a] at n;show _/\_;rw[i];exact⟨⟨_,g,rfl⟩,h _ ⟨g,k,⟨_,_,j⟩,Yr t,Yr n⟩ λp o e=>AAH _ (AAH _ (AAH _ (AAH _ (AAH _ e))))⟩
end
def Sq (K:AAB):zq->Hp->zu->zy V->Prop
 | true,H,a,xs=>Ep K H a xs
 | false,H,a,xs=>Kx K H a xs
section
variable {X:Cx}{zj:zy (zu×Obj)}{σ:St}{H:Hp}{s:zw}{a:zu}{ys xs:zy V}{b:zq}{h':zl}
def Inv.sq (I:Inv X zj σ H s)(h:Sq X.K b H a xs):∃c:zy zx,Ao xs c/\Lm b s.heap a c.toArray/\xs.length<=sizeLine:=by
 cases b with
 | true=> obtain⟨c,r,p,z⟩:=I.list h;exact⟨c,r,p.isList,z⟩
 | false=> obtain⟨c,r,p,z⟩:=I.tuple h;exact⟨c,r,p,z⟩
def Inv.sq_inj (I:Inv X zj σ H s)(h:Sq X.K b H a xs)(h2:Sq X.K b H a ys):xs=ys:=by
 cases b with
 | true=>exact I.list_inj h h2
 | false=>exact I.tuple_inj h h2
def Inv.turnedL {ch:zy zu}{t':Nat}(I:Inv X zj σ H s)(c:∀p∈ch,FW X zj H p)(k:∀p o,p ∉ ch->s.heap.get? p=some o->h'.get? p=some o):Inv X zj σ H {s with heap:=h',toks:=t'}:=by
 have d:∀p u,H p=some u->p ∉ ch:=λp u e z=>by rw[(c p z).1] at e;cases e
 refine I.step (g':=s.gens) (d':=s.drawn) (ch:=ch) (λp hp=>⟨(c p hp).2.2.2.1,(c p hp).2.1,(c p hp).2.2.2.2.1,(c p hp).2.2.2.2.2⟩) (λp o _ _ hc e _=>k p o hc e) (λp o _ _ hc e _=>⟨o.slots,k p o hc e⟩)
  (λ_ _ _ _ n=>n) (λp o hc e=>⟨o,k p o hc e⟩) (λ_ _ e=>e) (λ_ _ _ e=>e) (λp i e=>⟨#[],by rw[e];simp⟩) (λm f=> ?_) (λp u e=> ?_) I.bare
 .obtain ⟨o,es,ep,g,r⟩:=f;exact⟨o,es,ep,k _ o (λz=>(c _ z).2.1 rfl) g,r⟩
 .refine (I.hok p u e).stay (λq v hq h=>k q v ?_ h) (λ_ q=>q) λ_ _ q=>q;rcases hq with z|z
  .rw [z];exact d p u e
  .exact d q _ z
def Inv.turnedN {ch:zy zu}{t':Nat}{n:zu}{o:HO}(I:Inv X zj σ H s)(c:∀p∈ch,FW X zj H p)(j:∀p∈ch,p<s.heap.objs.size)(k:∀p o,p ∉ ch->s.heap.get? p=some o->h'.get? p=some o)(f:s.heap.objs.size<=n)(new:B4 X.prog X.w (upd H n o) h' n o):Inv X zj σ (upd H n o) {s with heap:=h',toks:=t'}:=by
 have g:Inv X zj σ H {s with heap:=h',toks:=t'}:=I.turnedL c k;have d:H n=none:=I.hok.fresh f;have hx:∀p u,s.heap.get? p=some u->p≠n:=λp u e=>AAM (AAV (AAG e) f);refine I.step (g':=s.gens) (d':=s.drawn) (ch:=ch) (λp hp=>⟨(c p hp).2.2.2.1,(c p hp).2.1,(c p hp).2.2.2.2.1,(c p hp).2.2.2.2.2⟩) (λp o _ _ hc e _=>k p o hc e) (λp o _ _ hc e _=>⟨o.slots,k p o hc e⟩)
  (λp u _ e z=>by rw[Ad (hx p u e)];exact z) (λp o hc e=>⟨o,k p o hc e⟩) (λp xs e=>by rw[Ad (Ah e d)];exact e) (λp o xs e=>by rw[Ad (Ah e d)];exact e)
  (λp l e=>⟨#[],by rw[Ad (Ah e d),e];simp⟩) (λm h=> ?_) (λp u e=> ?_) I.bare
 .obtain ⟨o,es,ep,i,r⟩:=h;exact⟨o,es,ep,k _ o (λz=>(c _ z).2.1 rfl) i,r⟩
 .by_cases hp:p=n
  .subst hp;rw[Ab] at e;cases e;exact new
  .rw [Ad hp] at e;exact(g.hok p u e).stay (λ_ _ _ q=>q) (λq hq=>by rw[Ad (Ah hq d)];exact hq) λq xs hq=>by rw[Ad (Ah hq d)];exact hq
end
def mE (K:AAB)(b c:zq)(l m:zu):It:=
 ⟨λi H=>∃xs ys x y,Sq K b H l xs/\Sq K c H m ys/\xs[i]? =some x/\ys[i]? =some y,
  λi H v a=>∃T x y,v= .ref T/\H T=none/\a=upd H T (.tup [x,y])/\(∀xs,Sq K b H l xs->xs[i]? =some x)/\∀ys,Sq K c H m ys->ys[i]? =some y,
  λi H=>∃xs ys,Sq K b H l xs/\Sq K c H m ys/\(xs.length<=i\/ys.length<=i)⟩
def aQ {P:zp}{w:zm}{K:AAB}{es:zy zr}{N:Nat}{r:Pos}{b c:zq}{z TI TO i j l m:zu}(D:ZipApart z TI TO i j l m):LY P w K (.Tuple es N r) (mE K b c l m) [z,TI,TO,i,j] z (λk h=>fB b c z TI TO i j l m k .none h) where
 mem:=by simp
 obj:=λk h Z p hp=>by
  have a:p=z\/p=TI\/p=TO\/p=i\/p=j:=by simpa using hp
  rcases a with e|e|e|e|e
  .subst e;exact⟨_,Z.zip,λv q=>nomatch q⟩
  .subst e;exact⟨_,Z.its,λv q=>nomatch q⟩
  .subst e;obtain⟨x,y,q⟩:=Z.own;exact⟨_,q,λv q=>nomatch q⟩
  .subst e;exact Z.one.obj
  .subst e;exact Z.two.obj
 keep:=λk h h' Z e=>Z.mv e
 item:=by
  intro X t hw A hc k L s M H E I g Z B;subst t hw A;obtain⟨xs,ys,x,y,hl,n,hx,hy⟩:=B;obtain⟨us,C,G,_⟩:=I.sq hl;obtain⟨vs,rv,sv,_⟩:=I.sq n;obtain⟨u,hu,O⟩:=C.get hx;obtain⟨v,hv,Q⟩:=rv.get hy;have f:s.TypeIs (.ref z) "zip" :=⟨_,Z.zip,rfl⟩;unfold pyNext;refine AAA (ACg (ABO (name:=Str.ofString "__next__") f ACh (AAw ACh f F.entry_zip_next
   (lF D Z G sv (x:=u) (y:=v) (by simpa using hu) (by simpa using hv) λh1 R S U W Y a6 a7=>AAD ?_) (F.args_zip_next_1 _))))
  refine⟨_,rfl,wpAny_letOwnedTupleGo_zip (s:={s with heap:=h1}) R λh2 c1 c2=> ?_⟩;have J:∀p∈ [z,TI,TO,i,j],p<s.heap.objs.size:=λp hp=>by
   have a:p=z\/p=TI\/p=TO\/p=i\/p=j:=by simpa using hp
   rcases a with e|e|e|e|e
   .subst e;exact AAG Z.zip
   .subst e;exact AAG Z.its
   .subst e;obtain⟨x,y,q⟩:=Z.own;exact AAG q
   .subst e;obtain⟨o,q,_⟩:=Z.one.obj;exact AAG q
   .subst e;obtain⟨o,q,_⟩:=Z.two.obj;exact AAG q
  have d:∀p o,p≠z->h1.get? p=some o->h2.get? p=some o:=λp o q e=>c2.extBut _ _ q e;have kp:∀p o,p ∉ [z,TI,TO,i,j] ->s.heap.get? p=some o->h2.get? p=some o:=λp o hp e=>by
   have a:p≠z/\p≠TI/\p≠TO/\p≠i/\p≠j:=by simpa using hp
   exact d p o a.1 (a7 p o a.1 a.2.2.1 a.2.2.2.1 a.2.2.2.2 e)
  have ue:s.heap.objs.size≠z:=AAy (J z (by simp));have I2:Inv X L M (upd H s.heap.objs.size (.tup [x,y])) {s with heap:=h2,toks:=s.toks}:=I.turnedN g J kp (AAI _)
   ⟨(by show 2<=sizeLine;decide), [u,v], .cons O (.cons Q .nil),⟨_,d _ _ ue a6,rfl,_,rfl⟩⟩
  have T7:H s.heap.objs.size=none:=I.fresh;refine⟨.ref s.heap.objs.size,upd H s.heap.objs.size (.tup [x,y]),I2,rfl,⟨_,x,y,rfl,T7,rfl,λxs' h'=> ?_,λys' h'=> ?_⟩, ?_,λp hp=> ?_⟩
  .rw [I.sq_inj h' hl];exact hx
  .rw [I.sq_inj h' n];exact hy
  .exact ⟨c1,d _ _ D.TIz S,⟨_,_,d _ _ D.TOz U⟩,W.mv λo=>d _ o D.i1z,Y.mv λo=>d _ o D.i2z⟩
  .rw [Ad (AAM (J p hp))];exact(g p hp).1
 done:=by
  intro X t hw A hc k L s M H E I g Z B;subst t hw A;obtain⟨xs,ys,hl,n,he⟩:=B;obtain⟨us,C,G,_⟩:=I.sq hl;obtain⟨vs,rv,sv,_⟩:=I.sq n;have e1:=C.length;have e2:=rv.length;have fi:us.toArray[k]? =none\/vs.toArray[k]? =none:=by
   rcases he with q|q
   .exact .inl (by simp;omega)
   .exact .inr (by simp;omega)
  have f:s.TypeIs (.ref z) "zip" :=⟨_,Z.zip,rfl⟩;unfold pyNext;refine AAA (ACg (ABO (name:=Str.ofString "__next__") f ACh (AAw ACh f F.entry_zip_next
   (pI (I.ok.hd hc) D Z G sv fi λh1 e hk he=> ?_) (F.args_zip_next_1 _))))
  obtain⟨o,ho,t0⟩:=he;refine AAA (ABi (T:="StopIteration") (b:=true) ⟨o,ho,t0⟩ isSubtype_stop (AAD ⟨rfl, ?_⟩));exact I.turnedL (t':=s.toks) g λp o hp e=>by
   have a:p≠z/\p≠TI/\p≠TO/\p≠i/\p≠j:=by simpa using hp
   exact hk p o a.1 a.2.2.1 a.2.2.2.1 a.2.2.2.2 e
 self:=λ_ _ _ _ _ Z h=>wpAny_pyIter_zip Z.zip h
structure Has (P:Program) (w:World) (K:AAB) (mg:Str->Option Value) (base:Heap) (k:Nat) (x:Str) (ps:List Str) (sp:Sp):Prop where
 ex:∃f fd,mg x=some (.ref f)/\PySem.W.keepIn K (.ref f)=true/\Binds K fd ps [] /\EZ P w K mg base Q9 k f fd ps sp
def Has.mono {P:zp}{w:zm}{K:AAB}{mg:Str->zt zx}{base:zl}{j k:Nat}{x:Str}{e:zy Str}{sp:Sp}(h:Has P w K mg base j x e sp)(hk:j<=k):Has P w K mg base k x e sp:=by obtain⟨f,g,a,b,c,d⟩:=h.ex;exact⟨f,g,a,b,c,d.mono hk⟩
section
variable {X:Cx}{x:Str}{p pos:Pos}{e:zr}{es:zy zr}{t:TA}{k:Nat}{ps:zy Str}{sp:Sp}
def gh (D:Has X.prog X.w X.K X.mg X.base k x ps sp)(a:Room k X.A)(b:Gl X x)(ha:PA X (e::es) t)(hs:starEach (e::es) X.env=(false,eval e X.env)::starEach es X.env:=by rfl)(hpl:(backTo pos (starEach es X.env)).any (·.1)=false:=by rfl)(hd:(x==("__debug__" :Str))=false:=by decide):PE X (.Call (.Name x p) (e::es) [] pos) (eB sp [] E0 t):=by obtain⟨f,h,c,d,g,G⟩:=D.ex;exact cR G a b c d g .nil kA ha (hdb:=hd) (he:=hs) (hpl:=hpl)
end
section
variable {X:Cx}{tg elt:zr}{ifs:zy zr}{scope:Scope}{own:Nat}{ix:zy Nat}{N:zy Str}{g:TG}{tt:TT}{te:TE}
def Tj (X:Cx)(sc:Scope)(own:Nat)(ix:zy Nat)(N:zy Str):zq:=
 (List.range ix.length).all λj=>match ix[j]? with
   | none=>false
   | some i=>match N[own+j]?,X.N[i]? with
     | some x,some y=>decide (x=y)&&decide (X.env.scope.names.lookup x=some .cell)&&decide (sc.names.lookup x=some .cell)
     | _,_=>false
def YV {sc:Scope}(h1:N.length=own+ix.length)(h2:Tj X sc own ix N=true):Xw X sc own ix N:=by
 refine⟨h1,λj i hj=> ?_⟩;have c:j<ix.length:=(AAp.mp hj).1;have h:=ABp.mp h2 j (ABk.mpr c);rw[hj] at h;dsimp only at h;cases a:N[own+j]? with
 | none=>rw[a] at h;simp at h
 | some x=>
   cases b:X.N[i]? with
   | none=>rw[a,b] at h;simp at h
   | some y=> rw[a,b] at h;simp only[AAf,ABe] at h;obtain⟨⟨d,e⟩,f⟩:=h;subst d;exact⟨x,rfl,rfl,e,f⟩
def VQ (h1:scope.kind= .function)(h2:(scope.names.all λy=> !decide (y.2= .cell))=true)(c:(scope.names.all λy=> !decide (y.2= .local)||decide (scope.names.lookup y.1=some .local))=true)(d:(scope.names.all λy=> !decide (y.2= .free)||decide (X.env.scope.names.lookup y.1=some .cell))=true)(f:N.length=own+ix.length)(h:Tj X (relabel scope X.env) own ix N=true)(hk:Mh own g)(a:∀cl C s H ex pn,PG (blk X (relabel scope X.env) N cl C s H ex pn) tg g)(b:∀cl C s H ex pn,e6 (blk X (relabel scope X.env) N cl C s H ex pn) ifs tt)(val:∀cl C s H ex pn,PE (blk X (relabel scope X.env) N cl C s H ex pn) elt te):FU X tg elt ifs scope own ix N g tt te:=by
 refine⟨h1,λy hy e=> ?_,λy hy e=> ?_,λy hy e=> ?_,YV f h,hk,a,b,val⟩
 .have:=ABp.mp h2 y hy;simp[e] at this
 .have:=ABp.mp c y hy;simpa[e] using this
 .have:=ABp.mp d y hy;simpa[e] using this
end
def RH.new {H:Hp}{p:zu}{o:HO}(h:H p=none):RH H (upd H p o):=λb u q=>by rw[Ad (Ah q h)];exact q
def l7 (p:zu)(H a:Hp):Prop:=∀b o,b≠p->H b=some o->a b=some o
def RH.but {p:zu}{H H1:Hp}(a:RH H H1):l7 p H H1:=λc o _ h=>a c o h
def l7.upd {p:zu}{H:Hp}{o:HO}:l7 p H (upd H p o):=λb u n q=>by rw[Ad n];exact q
end L2
namespace PL
open PySem PySem.Spec PyProof.Rows L2
inductive PV where
 | non|bl (b:Bool)|int (i:Int)|str (x:Str)|ty (n:String)
 | tup (xs:List PV)|lst (xs:List PV)|tape|scr (ns:List Int)|dct (kvs:List (FK×Int))|dk (kvs:List (Int×Int))
def E2 (H:Hp)(p:zu):Prop:=∃d x:Int,H p=some (.lst [.int d, .int x])/\0<=d/\0<=x/\x<2147483647
def LW (o:HO):Prop:=(∀vs,o≠ .tup vs)/\∀q u,o≠ .frz q u
def LW.lst {xs:zy V}:LW (.lst xs):=⟨(λ_ e=>nomatch e),(λ_ _ e=>nomatch e)⟩
def E2.mut {H:Hp}{p:zu}(h:E2 H p):∃o,H p=some o/\LW o:=by obtain⟨d,x,e,_⟩:=h;exact⟨_,e,LW.lst⟩
def lO (K:AAB)(H:Hp)(a:zu)(xs:zy V):Prop:=H a=some (.tup xs)\/∃(o:Obj) (b:Array zx) (n:Nat),K.lookup a=some o/\o.cls= .type "tuple" /\o.data= .seq b n/\b.size<=sizeLine/\Ao xs b.toList
def lO.sq {K:AAB}{H:Hp}{a:zu}{xs:zy V}(h:lO K H a xs):Kx K H a xs:=h.elim (λz=> .inl (.inl z)) .inr
def B5 (kvs:zy (FK×Int)):zy (FK×V):=kvs.map λp=>(p.1,V.int p.2)
def IF (kvs:zy (Int×Int)):zy (Cf×V):=kvs.map λp=>(.inl p.1,V.int p.2)
mutual
inductive CC (K:AAB) (T M:Addr->Prop) (H:Hp):V->PV->Prop where
 | non:CC K T M H .non .non
 | bl (b:Bool):CC K T M H (.bl b) (.bl b)
 | int (i:Int):CC K T M H (.int i) (.int i)
 | str (x:Str):CC K T M H (.str x) (.str x)
 | ty (n:String):CC K T M H (.ty n) (.ty n)
 | tup {a:Addr} {vs:List V} {xs:List PV} (h:lO K H a vs) (r:Az K T M H vs xs):CC K T M H (.ref a) (.tup xs)
 | lst {a:Addr} {vs:List V} {xs:List PV} (h:H a=some (.lst vs)) (t:¬T a) (m:¬M a) (r:Az K T M H vs xs):CC K T M H (.ref a) (.lst xs)
 | tape {a:Addr} (t:T a):CC K T M H (.ref a) .tape
 | dct {a:Addr} {kvs:List (FK×Int)} (h:H a=some (.dN K (B5 kvs))) (t:¬T a) (m:¬M a):CC K T M H (.ref a) (.dct kvs)
 | dk {a:Addr} {o:Obj} {es:Array DictEntry} {ep:Nat} {kvs:List (Int×Int)} (h:H a=some (.frz o (.dK (IF kvs)))) (e:o.data= .dict es ep):CC K T M H (.ref a) (.dk kvs)
 | scr {a:Addr} {ns:List Int} (h:(Rd H a (.lst (ns.map V.int))/\¬T a/\¬M a)\/∀H,Ep K H a (ns.map V.int)):CC K T M H (.ref a) (.scr ns)
inductive Az (K:AAB) (T M:Addr->Prop) (H:Hp):List V->List PV->Prop where
 | nil:Az K T M H [] []
 | cons {v:V} {x:PV} {vs:List V} {xs:List PV} (h:CC K T M H v x) (t:Az K T M H vs xs):Az K T M H (v::vs) (x::xs)
end
structure Hu (T M:Addr->Prop) (H:Hp):Prop where
 tp:∀a,T a->E2 H a
 mu:∀a,M a->∃o,H a=some o/\LW o
def Hu.noFrz {T M:zu->Prop}{H:Hp}(v:Hu T M H){a:zu}{q:Obj}{u:HO}(r:H a=some (.frz q u)):¬T a/\¬M a:=by
 refine⟨λz=> ?_,λz=> ?_⟩
 .obtain ⟨o,e,_,n⟩:=(v.tp a z).mut;rw[r] at e;cases e;exact n _ _ rfl
 .obtain ⟨o,e,_,n⟩:=v.mu a z;rw[r] at e;cases e;exact n _ _ rfl
def Hu.noTup {T M:zu->Prop}{H:Hp}(v:Hu T M H){a:zu}{vs:zy V}(r:Rd H a (.tup vs)):¬T a/\¬M a:=by
 have go:∀o,H a=some o->LW o->False:=λo e m=>by
  rcases r with r|⟨q,r⟩
  .rw [e] at r;cases r;exact m.1 _ rfl
  .rw [e] at r;cases r;exact m.2 _ _ rfl
 exact⟨λt=>let ⟨o,e,m⟩:=(v.tp a t).mut;go o e m,λt=>let ⟨o,e,m⟩:=v.mu a t;go o e m⟩
structure Mv (K:AAB) (T M:Addr->Prop) (H:Hp) (T' M':Addr->Prop) (H':Hp):Prop where
 va:Hu T M H
 keep:∀b o,¬T b->¬M b->H b=some o->H' b=some o
 sub:∀b,T b->T' b
 tn:∀b,H b≠none->T' b->T b
 mn:∀b,H b≠none->M' b->M b
def Vz {H:Hp}{a:zu}{u:HO}(r:Rd H a u):H a≠none:=by rcases r with r|⟨o,r⟩ <;> rw[r] <;> exact λe=>nomatch e
def kQ {H b:Hp}{a:zu}{u:HO}(r:Rd H a u)(k:∀o,H a=some o->b a=some o):Rd b a u:=by
 rcases r with r|⟨o,r⟩
 .exact .inl (k _ r)
 .exact .inr ⟨o,k _ r⟩
section
variable {K:AAB}{T M T' M':zu->Prop}{H H':Hp}
mutual
theorem CC.mv (m:Mv K T M H T' M' H'):∀{v:V} {x:PV},CC K T M H v x->CC K T' M' H' v x
 | _,_, .non=> .non
 | _,_, .bl b=> .bl b
 | _,_, .int i=> .int i
 | _,_, .str x=> .str x
 | _,_, .ty n=> .ty n
 | _,_, .tup (a:=a) (vs:=vs) h r=>by
   refine .tup (vs:=vs) ?_ (Az.mv m r);rcases h with h|h
   .obtain ⟨t,u⟩:=m.va.noTup (.inl h);exact .inl (m.keep _ _ t u h)
   .exact .inr h
 | _,_, .lst (a:=a) h t u r=> .lst (m.keep _ _ t u h) (λz=>t (m.tn a (by rw[h];exact λe=>nomatch e) z)) (λz=>u (m.mn a (by rw[h];exact λe=>nomatch e) z)) (Az.mv m r)
 | _,_, .tape t=> .tape (m.sub _ t)
 | _,_, .dct (a:=a) h t u=> .dct (m.keep _ _ t u h) (λz=>t (m.tn a (by rw[h];exact λe=>nomatch e) z)) (λz=>u (m.mn a (by rw[h];exact λe=>nomatch e) z))
 | _,_, .dk h e=>by obtain⟨t,u⟩:=m.va.noFrz h;exact .dk (m.keep _ _ t u h) e
 | _,_, .scr (a:=a) (.inl ⟨h,t,u⟩)=> .scr (.inl ⟨kQ h λo e=>m.keep _ o t u e,λz=>t (m.tn a (Vz h) z),λz=>u (m.mn a (Vz h) z)⟩)
 | _,_, .scr (.inr h)=> .scr (.inr h)
theorem Az.mv (m:Mv K T M H T' M' H'):∀{vs:zy V} {xs:zy PV},Az K T M H vs xs->Az K T' M' H' vs xs
 | _,_, .nil=> .nil
 | _,_, .cons h t=> .cons (CC.mv m h) (Az.mv m t)
end
end
def Az.length {K:AAB}{T M:zu->Prop}{H:Hp}:∀{vs:zy V} {xs:zy PV},Az K T M H vs xs->vs.length=xs.length
 | _,_, .nil=>rfl
 | _,_, .cons _ t=>by simp[t.length]
theorem Az.get {K:AAB}{T M:zu->Prop}{H:Hp}:∀{vs:zy V} {xs:zy PV} {i:Nat} {x:PV},Az K T M H vs xs->xs[i]? =some x->∃v,vs[i]? =some v/\CC K T M H v x
 | _,_,_,_, .nil,e=>by simp at e
 | _,_,0,_, .cons h _,e=>by simp at e;subst e;exact⟨_,rfl,h⟩
 | _,_,i+1,x, .cons _ t,e=>by obtain⟨u,h1,h2⟩:=Az.get (i:=i) (x:=x) t (by simpa using e);exact⟨u,by simpa using h1,h2⟩
def Az.get' {K:AAB}{T M:zu->Prop}{H:Hp}{vs:zy V}{xs:zy PV}{i:Nat}{v:V}(h:Az K T M H vs xs)(e:vs[i]? =some v):∃x,xs[i]? =some x/\CC K T M H v x:=by have hl:=h.length;have hi:i<vs.length:=(AAp.mp e).1;obtain⟨w,a,r⟩:=h.get (i:=i) (x:=xs[i]'(by omega)) (AAU (by omega));rw[e] at a;cases a;exact⟨_,AAU (by omega),r⟩
def Az.append {K:AAB}{T M:zu->Prop}{H:Hp}:∀{vs a:zy V} {xs ys:zy PV},Az K T M H vs xs->Az K T M H a ys->Az K T M H (vs++a) (xs++ys)
 | _,_,_,_, .nil,s=>s
 | _,_,_,_, .cons h t,s=> .cons h (t.append s)
def Az.take {K:AAB}{T M:zu->Prop}{H:Hp}:∀{vs:zy V} {xs:zy PV} (n:Nat),Az K T M H vs xs->Az K T M H (vs.take n) (xs.take n)
 | _,_,0,_=> .nil
 | _,_,_+1, .nil=> .nil
 | _,_,n+1, .cons r t=> .cons r (t.take n)
def Az.drop {K:AAB}{T M:zu->Prop}{H:Hp}:∀{vs:zy V} {xs:zy PV} (n:Nat),Az K T M H vs xs->Az K T M H (vs.drop n) (xs.drop n)
 | _,_,0,r=>r
 | _,_,_+1, .nil=> .nil
 | _,_,n+1, .cons _ t=>t.drop n
def Az.reverse {K:AAB}{T M:zu->Prop}{H:Hp}{vs:zy V}{xs:zy PV}(h:Az K T M H vs xs):Az K T M H vs.reverse xs.reverse:=by
 induction vs generalizing xs with
 | nil=>cases h;exact .nil
 | cons v vs ih=>
   cases h with
   | cons h t=>rw[ACX,ACX];exact(ih t).append (.cons h .nil)
structure DM (T:Addr->Prop) (H:Hp) (T':Addr->Prop) (H':Hp):Prop where
 keep:∀b o,¬T b->H b=some o->H' b=some o
 sub:∀b,T b->T' b
 new:∀b,T' b->T b\/H b=none
 tp:∀a,T' a->E2 H' a
def DM.refl {T:zu->Prop}{H:Hp}(h:∀a,T a->E2 H a):DM T H T H:=⟨λ_ _ _ e=>e,λ_ e=>e,λ_ e=> .inl e,h⟩
def DM.some {T c:zu->Prop}{H a:Hp}(s:DM T H c a){b:zu}(h:H b≠none):a b≠none:=by
 by_cases t:T b
 .obtain ⟨o,e,_⟩:=(s.tp b (s.sub b t)).mut;rw[e];exact λe=>nomatch e
 .cases e:H b with
  | none=>exact absurd e h
  | some o=>rw[s.keep b o t e];exact λe=>nomatch e
def DM.none {T c:zu->Prop}{H a:Hp}(s:DM T H c a){b:zu}(h:a b=none):H b=none:=by
 cases e:H b with
 | none=>rfl
 | some o=>exact absurd h (s.some (by rw[e];exact λe=>nomatch e))
def DM.trans {T d f:zu->Prop}{H H1 g:Hp}(a:DM T H d H1)(b:DM d H1 f g):DM T H f g where
 keep:=λc o t e=>b.keep c o (λz=>(a.new c z).elim t λn=>by rw[n] at e;cases e) (a.keep c o t e)
 sub:=λc t=>b.sub c (a.sub c t)
 new:=λc t=>(b.new c t).elim (λz=>a.new c z) λz=> .inr (a.none z)
 tp:=b.tp
def DM.lay {T:zu->Prop}{H:Hp}{p:zu}{o:HO}(h:∀a,T a->E2 H a)(hp:H p=Option.none):DM T H T (upd H p o) where
 keep:=λb u _ e=>by rw[Ad (Ah e hp)];exact e
 sub:=λ_ t=>t
 new:=λ_ t=> .inl t
 tp:=λa t=>by obtain⟨d,x,e,z⟩:=h a t;exact⟨d,x,by rw[Ad (Ah e hp)];exact e,z⟩
def DM.mv {K:AAB}{T a M:zu->Prop}{H c:Hp}(s:DM T H a c)(v:Hu T M H):Mv K T M H a M c where
 va:=v
 keep:=λb o t _ e=>s.keep b o t e
 sub:=s.sub
 tn:=λb n t=>(s.new b t).elim id λz=>absurd z n
 mn:=λ_ _ z=>z
def CC.stp {K:AAB}{T a M:zu->Prop}{H b:Hp}{v:V}{x:PV}(r:CC K T M H v x)(s:DM T H a b)(va:Hu T M H):CC K a M b v x:=r.mv (s.mv va)
def Az.stp {K:AAB}{T a M:zu->Prop}{H b:Hp}{v:zy V}{x:zy PV}(r:Az K T M H v x)(s:DM T H a b)(va:Hu T M H):Az K a M b v x:=r.mv (s.mv va)
def Mv.anti {K:AAB}{T M c:zu->Prop}{H:Hp}(v:Hu T M H)(h:∀a,c a->M a):Mv K T M H T c H:=⟨v,λ_ _ _ _ e=>e,λ_ t=>t,λ_ _ t=>t,λb _ t=>h b t⟩
inductive AV where
 | val (x:PV)
 | own (xs:List PV)
abbrev A7:=zy (zt AV)
structure C0 where
 T:Addr->Prop
 H:Hp
 M:Addr->Prop
def C0.add (B:C0)(p:zu):C0:=⟨B.T,B.H,λa=>B.M a\/a=p⟩
def Cv (a:L2.St)(τ:A7)(p:zu):Prop:=∃(i:Nat) (xs:zy PV),τ[i]? =some (some (.own xs))/\a[i]? =some (some (.ref p))
def mt (B:C0)(a:L2.St)(τ:A7)(p:zu):Prop:=B.M p\/Cv a τ p
structure SR (K:AAB) (B:C0) (T:Addr->Prop) (H:Hp) (σ:L2.St) (τ:A7):Prop where
 len:σ.length=τ.length
 val:∀(i:Nat) (x:PV),τ[i]? =some (some (.val x))->∃v,σ[i]? =some (some v)/\CC K T (mt B σ τ) H v x
 own:∀(i:Nat) (xs:List PV),τ[i]? =some (some (.own xs))->∃p vs,σ[i]? =some (some (.ref p))/\H p=some (.lst vs)/\Az K T (mt B σ τ) H vs xs/\B.H p=none/\¬T p/\¬B.M p
 dist:∀(i j:Nat) (xs ys:List PV) (p:Addr),τ[i]? =some (some (.own xs))->τ[j]? =some (some (.own ys))->σ[i]? =some (some (.ref p))->σ[j]? =some (some (.ref p))->i=j
 tp:∀a,T a->E2 H a
 bm:∀a,B.M a->∃o,H a=some o/\LW o
 bt:∀a,B.M a->¬T a
 st:DM B.T B.H T H
section
variable {K:AAB}{B:C0}{T T':zu->Prop}{H H':Hp}{σ:L2.St}{τ:A7}
def SR.ownH (s:SR K B T H σ τ){p:zu}(o:Cv σ τ p):∃vs,H p=some (.lst vs)/\B.H p=none/\¬T p/\¬B.M p:=by obtain⟨i,xs,h1,h2⟩:=o;obtain⟨q,vs,e,h,_,b,t,m⟩:=s.own i xs h1;rw[h2] at e;cases e;exact⟨vs,h,b,t,m⟩
def SR.va (s:SR K B T H σ τ):Hu T (mt B σ τ) H:=⟨s.tp,λa m=>m.elim (s.bm a) λo=>let ⟨vs,h,_⟩:=s.ownH o;⟨_,h,LW.lst⟩⟩
def SR.nt (s:SR K B T H σ τ){a:zu}(m:mt B σ τ a):¬T a:=m.elim (s.bt a) λo=>let ⟨_,_,_,t,_⟩:=s.ownH o;t
def SR.stp (s:SR K B T H σ τ)(p:DM T H T' H'):SR K B T' H' σ τ where
 len:=s.len
 val:=λi x e=>let ⟨v,h,r⟩:=s.val i x e;⟨v,h,r.stp p s.va⟩
 own:=λi xs e=>by obtain⟨q,vs,c,h,r,b,t,m⟩:=s.own i xs e;exact⟨q,vs,c,p.keep _ _ t h,r.stp p s.va,b,(λz=>(p.new q z).elim t λn=>by rw[n] at h;cases h),m⟩
 dist:=s.dist
 tp:=p.tp
 bm:=λa m=>let ⟨o,e,q⟩:=s.bm a m;⟨o,p.keep a o (s.bt a m) e,q⟩
 bt:=λa m z=>by obtain⟨o,e,_⟩:=s.bm a m;exact(p.new a z).elim (s.bt a m) λn=>by rw[n] at e;cases e
 st:=s.st.trans p
def SR.add {p:zu}{o:HO}(s:SR K B T H σ τ)(q:DM T H T' H')(f:H p=none)(k:H' p=some o)(l:LW o)(u:¬T' p):SR K (B.add p) T' H' σ τ:=by
 have c:=s.stp q;have g:Mv K T (mt B σ τ) H T' (mt (B.add p) σ τ) H':=⟨s.va,λb o t _ e=>q.keep b o t e,q.sub,λb n t=>(q.new b t).elim id λz=>absurd z n,λb n z=>by
  rcases z with(z|z)|z
  .exact .inl z
  .subst z;exact absurd f n
  .exact .inr z⟩
 refine⟨s.len,λi x e=> ?_,λi xs e=> ?_,s.dist,c.tp,λa m=> ?_,λa m=> ?_,c.st⟩
 .obtain ⟨v,h,r⟩:=s.val i x e;exact⟨v,h,r.mv g⟩
 .obtain ⟨a,vs,j,h,r,b,t,m⟩:=s.own i xs e;obtain⟨y,w,d,h',_,A,t',C⟩:=c.own i xs e;rw[j] at d;cases d;rw[q.keep _ _ t h] at h';cases h';refine⟨a,vs,j,q.keep _ _ t h,r.mv g,b,t',λz=> ?_⟩;rcases z with z|z
  .exact m z
  .subst z;rw[f] at h;cases h
 .rcases m with m|m
  .exact c.bm a m
  .subst m;exact⟨o,k,l⟩
 .rcases m with m|m
  .exact c.bt a m
  .subst m;exact u
end
def bL:zt AV->zt AV
 | some (.own xs)=>some (.val (.lst xs))
 | o=>o
def frz (τ:A7):A7:=τ.map bL
def Va {τ:A7}{i:Nat}:(frz τ)[i]? =(τ[i]?).map bL:=by simp[frz]
def bM {τ:A7}{i:Nat}{x:PV}(h:(frz τ)[i]? =some (some (.val x))):τ[i]? =some (some (.val x))\/∃xs,x= .lst xs/\τ[i]? =some (some (.own xs)):=by
 rw[Va] at h;cases e:τ[i]? with
 | none=>rw[e] at h;cases h
 | some o=>
   rw[e] at h;cases o with
   | none=>cases h
   | some a=>
     cases a with
     | val y=>cases h;exact .inl rfl
     | own xs=>cases h;exact .inr ⟨xs,rfl,rfl⟩
def Pe {τ:A7}{i:Nat}{xs:zy PV}:(frz τ)[i]? ≠some (some (.own xs)):=by
 rw[Va];cases e:τ[i]? with
 | none=>exact λz=>nomatch z
 | some o=>
   cases o with
   | none=>exact λz=>nomatch z
   | some a=>cases a <;> exact λz=>nomatch z
def SL {a:L2.St}{τ:A7}{p:zu}:¬Cv a (frz τ) p:=λ⟨_,_,h,_⟩=>Pe h
section
variable {K:AAB}{B:C0}{T T':zu->Prop}{H H':Hp}{σ:L2.St}{τ:A7}
def SR.frz (s:SR K B T H σ τ):SR K B T H σ (frz τ):=by
 have d:Mv K T (mt B σ τ) H T (mt B σ (PL.frz τ)) H:= .anti s.va λa m=>m.elim .inl λz=>absurd z SL;refine⟨by simp[PL.frz,s.len],λi x e=> ?_,λi xs e=>absurd e Pe,λi j xs ys p e=>absurd e Pe,s.tp,s.bm,s.bt,s.st⟩;rcases bM e with c|⟨xs,f,c⟩
 .obtain ⟨v,h,r⟩:=s.val i x c;exact⟨v,h,r.mv d⟩
 .subst f;obtain⟨p,vs,g,h,r,b,t,m⟩:=s.own i xs c;exact⟨.ref p,g, .lst h t (λz=>z.elim m SL) (r.mv d)⟩
end
mutual
def ab:PV->zq
 | .lst _=>false
 | .tape=>false
 | .scr _=>false
 | .dct _=>false
 | .tup xs=>cH xs
 | _=>true
def cH:zy PV->zq
 | [] =>true
 | x::xs=>ab x&&cH xs
end
section
variable {K:AAB}{T M M':zu->Prop}{H:Hp}
mutual
theorem CC.free:∀{v:V} {x:PV},ab x=true->CC K T M H v x->CC K T M' H v x
 | _,_,_, .non=> .non
 | _,_,_, .bl b=> .bl b
 | _,_,_, .int i=> .int i
 | _,_,_, .str x=> .str x
 | _,_,_, .ty n=> .ty n
 | _,_,n, .tup h r=> .tup h (Az.free (by rw[ab] at n;exact n) r)
 | _,_,n, .lst _ _ _ _=>by rw[ab] at n;cases n
 | _,_,n, .tape _=>by rw[ab] at n;cases n
 | _,_,n, .scr _=>by rw[ab] at n;cases n
 | _,_,n, .dct _ _ _=>by rw[ab] at n;cases n
 | _,_,_, .dk h e=> .dk h e
theorem Az.free:∀{vs:zy V} {xs:zy PV},cH xs=true->Az K T M H vs xs->Az K T M' H vs xs
 | _,_,_, .nil=> .nil
 | _,_,n, .cons h t=>by rw[cH,AAf] at n;exact .cons (CC.free n.1 h) (Az.free n.2 t)
end
end
abbrev AE:=A7->(PV->Prop)->Prop
abbrev AT:=A7->(zq->Prop)->Prop
abbrev AA:=A7->(zy PV->Prop)->Prop
abbrev AF:=zy PV->(PV->Prop)->Prop
def Qt:A7->Nat->zt AV
 | [],_=>none
 | x::_,0=>x
 | _::r,n+1=>Qt r n
theorem M6:∀{τ:A7} {i:Nat} {a:AV},Qt τ i=some a->τ[i]? =some (some a)
 | [],_,_,h=>by simp[Qt] at h
 | x::_,0,_,h=>by simpa[Qt] using h
 | _::r,n+1,a,h=>by have:=M6 (τ:=r) (i:=n) (a:=a) (by simpa[Qt] using h);simpa using this
def Xk (x:PV)(R:Int->Prop):Prop:=match x with | .int i=>R i|_=>False
def gT (x y:PV)(R:Int->Int->Prop):Prop:=match x,y with | .int i, .int j=>R i j|_,_=>False
def ae (x:PV)(R:zq->Prop):Prop:=match x with | .bl b=>R b|_=>False
def cN (o:zt PV)(R:PV->Prop):Prop:=match o with | some z=>R z|none=>False
def gU {o:zt PV}{R:PV->Prop}(h:cN o R):∃z,o=some z/\R z:=by cases o <;> first | exact⟨_,rfl,h⟩|exact h.elim
def Ni (x:PV)(R:zy PV->Prop):Prop:=match x with | .tup xs=>R xs | .lst xs=>R xs|_=>False
def US {x:PV}{R:Int->Prop}(h:Xk x R):∃i,x= .int i/\R i:=by cases x <;> first | exact⟨_,rfl,h⟩|exact h.elim
def Lv {x y:PV}{R:Int->Int->Prop}(h:gT x y R):∃i j,x= .int i/\y= .int j/\R i j:=by cases x <;> cases y <;> first | exact⟨_,_,rfl,rfl,h⟩|exact h.elim
def QE {x:PV}{R:zq->Prop}(h:ae x R):∃b,x= .bl b/\R b:=by cases x <;> first | exact⟨_,rfl,h⟩|exact h.elim
def IK {x:PV}{R:zy PV->Prop}(h:Ni x R):∃xs,(x= .tup xs\/x= .lst xs)/\R xs:=by cases x <;> first | exact⟨_, .inl rfl,h⟩|exact⟨_, .inr rfl,h⟩|exact h.elim
def CC.toI {K:AAB}{T M:zu->Prop}{H:Hp}{v:V}{i:Int}(r:CC K T M H v (.int i)):v= .int i:=by cases r;rfl
def CC.toB {K:AAB}{T M:zu->Prop}{H:Hp}{v:V}{i:zq}(r:CC K T M H v (.bl i)):v= .bl i:=by cases r;rfl
def HM (K:AAB)(t:TE)(a:AE):Prop:=∀(B:C0) (T:zu->Prop) (b:L2.St) (τ:A7) (H:Hp) (Q:VK) (d:PV->Prop),SR K B T H b τ->a τ d->
 (∀v x e c,DM T H e c->CC K e (mt B b τ) c v x->d x->Q v c)->t b H Q
def TH (K:AAB)(t:TT)(a:AT):Prop:=∀(B:C0) (T:zu->Prop) (c:L2.St) (τ:A7) (H:Hp) (Q:zq->Hp->Prop) (d:zq->Prop),SR K B T H c τ->a τ d->
 (∀b f e,DM T H f e->d b->Q b e)->t c H Q
def e7 (K:AAB)(t:TA)(a:AA):Prop:=∀(B:C0) (T:zu->Prop) (b:L2.St) (τ:A7) (H:Hp) (Q:zy V->Hp->Prop) (d:zy PV->Prop),SR K B T H b τ->a τ d->
 (∀vs xs e c,DM T H e c->Az K e (mt B b τ) c vs xs->d xs->Q vs c)->t b H Q
def az (K:AAB)(t:TE)(a:AA):Prop:=∀(B:C0) (T:zu->Prop) (c:L2.St) (τ:A7) (H:Hp) (Q:VK) (e:zy PV->Prop),SR K B T H c τ->a τ e->
 (∀p vs xs d b,DM T H d b->SR K (B.add p) d b c τ->H p=none->b p=some (.lst vs)->¬d p->Az K d (mt (B.add p) c τ) b vs xs->e xs->Q (.ref p) b)->t c H Q
def SE (X:Cx)(e:zr)(a:AE):Prop:=∃t,PE X e t/\HM X.K t a
def RG (X:Cx)(e:zr)(a:AT):Prop:=∃t,PT X e t/\TH X.K t a
def SW (X:Cx)(e:zr)(a:AT):Prop:=∃t,PW X e t/\TH X.K t a
def SA (X:Cx)(es:zy zr)(a:AA):Prop:=∃t,PA X es t/\e7 X.K t a
def SF (X:Cx)(e:zr)(a:AA):Prop:=∃t,PE X e t/\az X.K t a
abbrev Iq:=PV->PV->(PV->Prop)->Prop
def CQ (K:AAB)(r:R2)(f:Iq):Prop:=∀(T M:zu->Prop) (H:Hp) (u v:V) (x y:PV) (Q:VK) (b:PV->Prop),Hu T M H->CC K T M H u x->CC K T M H v y->f x y b->
 (∀w z c a,DM T H c a->CC K c M a w z->b z->Q w a)->r u v H Q
def Eo (K:AAB)(r:zy V->Hp->VK->Prop)(f:AF):Prop:=∀(T M:zu->Prop) (H:Hp) (us:zy V) (xs:zy PV) (Q:VK) (b:PV->Prop),Hu T M H->Az K T M H us xs->f xs b->
 (∀w z c a,DM T H c a->CC K c M a w z->b z->Q w a)->r us H Q
section
variable {X:Cx}{a b c:zr}{es:zy zr}{pos:Pos}{ta tb:AE}{tA tB':AT}
def aV (i:Nat):AE:=λτ Q=>match Qt τ i with | some (.val x)=>Q x|_=>False
def jT {i:Nat}{τ:A7}{Q:PV->Prop}(h:aV i τ Q):∃x,τ[i]? =some (some (.val x))/\Q x:=by
 unfold aV at h;cases e:Qt τ i with
 | none=>rw[e] at h;exact h.elim
 | some z=>
   rw[e] at h;cases z with
   | own xs=>exact h.elim
   | val x=>exact⟨x,M6 e,h⟩
def AJ (i:Nat){x:Str}{pos:Pos}(hN:X.N[i]? =some x:=by rfl)(hv:ig X.env.scope x:=by first | exact Or.inl rfl|exact Or.inr (Or.inl rfl)|exact Or.inr (Or.inr rfl))(hd:(x==("__debug__" :Str))=false:=by decide)(d:(x==("__classdict__" :Str))=false:=by decide):SE X (.Name x pos) (aV i):=by refine⟨_,UU hN hv hd d,λB T g τ H Q j s h k=> ?_⟩;obtain⟨x,e,q⟩:=jT h;obtain⟨v,f,r⟩:=s.val i x e;exact⟨v,f,k v x T H (.refl s.tp) r q⟩
def aC (x:PV):AE:=λ_ Q=>Q x
def Se {v:V}{x:PV}(h:∀T M H,CC X.K T M H v x):HM X.K (tC v) (aC x):=λB T d τ H Q e s h' k=>k v x T H (.refl s.tp) (h _ _ _) h'
def AH {i:Int}{j pos}:SE X (.Constant (.int i) j pos) (aC (.int i)):=⟨_,A0,Se λ_ _ _=> .int i⟩
def Ha {i:zq}{j pos}:SE X (.Constant (.bool i) j pos) (aC (.bl i)):=⟨_,kB,Se λ_ _ _=> .bl i⟩
def Bh {j pos}:SE X (.Constant .none j pos) (aC .non):=⟨_,ZI,Se λ_ _ _=> .non⟩
def Uk {i:Str}{j pos}:SE X (.Constant (.str i) j pos) (aC (.str i)):=⟨_,gk,Se λ_ _ _=> .str i⟩
def AW (f:Iq)(ta tb:AE):AE:=λτ Q=>ta τ λx=>tb τ λy=>f x y Q
def Qj {r:R2}{f:Iq}{t u:TE}(i:CQ X.K r f)(ha:HM X.K t ta)(hb:HM X.K u tb):HM X.K (XZ r t u) (AW f ta tb):=by intro B T g τ H Q j s h k;refine ha B T g τ H _ _ s h λv x l H1 d m h1=> ?_;refine hb B l g τ H1 _ _ (s.stp d) h1 λw y n o e p h2=> ?_;have A:=(s.stp d).stp e;exact i n _ o v w x y Q j A.va (m.stp e (s.stp d).va) p h2 λw z T3 C D E q=>k w z T3 C ((d.trans e).trans D) E q
def Ag {op:Operator}{r:R2}{f:Iq}(d:EN X (binaryOp op) r/\CQ X.K r f)(ha:SE X a ta)(hb:SE X b tb):SE X (.BinOp a op b pos) (AW f ta tb):=
 let ⟨_,p,s⟩:=ha;let ⟨_,e,g⟩:=hb;⟨_,B0 d.1 p e,Qj d.2 s g⟩
def Ds {op:CmpOp}{r:R2}{f:Iq}(d:EN X (compareOp op) r/\CQ X.K r f)(ha:SE X a ta)(hb:SE X b tb)(e:behindInMarks op b=false):SE X (.Compare a [op] [b] pos) (AW f ta tb):=
 let ⟨_,p,s⟩:=ha;let ⟨_,g,h⟩:=hb;⟨_,Vs d.1 p g e,Qj d.2 s h⟩
def ka {r:R2}{f:Iq}(d:aw X r/\CQ X.K r f)(ha:SE X a ta)(hb:SE X b tb)(hs:PQ b):SE X (.Subscript a b pos) (AW f ta tb):=
 let ⟨_,p,s⟩:=ha;let ⟨_,e,g⟩:=hb;⟨_,K6 d.1 p e hs,Qj d.2 s g⟩
def fI (g:Int->Int->PV):Iq:=λx y Q=>gT x y λi j=>Q (g i j)
def ij (C:Int->Int->Prop)(g:Int->Int->PV):Iq:=λx y Q=>gT x y λi j=>C i j/\Q (g i j)
def WA {g:Int->Int->V}{g':Int->Int->PV}(d:∀i j T M H,CC X.K T M H (g i j) (g' i j)):CQ X.K (OL g) (fI g'):=by intro T M H u v x y Q f va e rv h k;obtain⟨i,j,rfl,rfl,q⟩:=Lv h;exact⟨i,j,e.toI,rv.toI,k _ _ T H (.refl va.tp) (d i j T M H) q⟩
def Qf {C:Int->Int->Prop}{g:Int->Int->V}{g':Int->Int->PV}(d:∀i j T M H,CC X.K T M H (g i j) (g' i j)):CQ X.K (rI C g) (ij C g'):=by intro T M H u v x y Q f va e rv h k;obtain⟨i,j,rfl,rfl,c,q⟩:=Lv h;exact⟨i,j,e.toI,rv.toI,c,k _ _ T H (.refl va.tp) (d i j T M H) q⟩
abbrev jX:Iq:=fI λi j=> .int (i+j)
abbrev HP:Iq:=fI λi j=> .int (i-j)
abbrev YR:Iq:=fI λi j=> .bl (decide (i<j))
abbrev aZ:Iq:=fI λi j=> .bl (decide (j<i))
abbrev pX:Iq:=fI λi j=> .bl (decide (j<=i))
def DF:EN X (binaryOp .Sub) (OL λi j=> .int (i-j))/\CQ X.K (OL λi j=> .int (i-j)) HP:=⟨UT,WA λi j _ _ _=> .int _⟩
def Gj:EN X (compareOp .Lt) (OL λi j=> .bl (decide (i<j)))/\CQ X.K (OL λi j=> .bl (decide (i<j))) YR:=⟨d3,WA λi j _ _ _=> .bl _⟩
def K9:EN X (compareOp .Gt) (OL λi j=> .bl (decide (j<i)))/\CQ X.K (OL λi j=> .bl (decide (j<i))) aZ:=⟨dz,WA λi j _ _ _=> .bl _⟩
def ko:EN X (compareOp .GtE) (OL λi j=> .bl (decide (j<=i)))/\CQ X.K (OL λi j=> .bl (decide (j<=i))) pX:=⟨dy,WA λi j _ _ _=> .bl _⟩
structure MulOk (i j:Int):Prop where
 l:i.natAbs<2^1000000
 r:j.natAbs<2^1000000
def QF:EN X (binaryOp .Mult) (rI MulOk λi j=> .int (i*j)):=gY λ_ _ _ _ _ _ _ hc q=>mul_int q (.of_le (Gv hc.l) (Gv hc.r) (by decide))
abbrev C6:Iq:=ij MulOk λi j=> .int (i*j)
def A8:EN X (binaryOp .Mult) (rI MulOk λi j=> .int (i*j))/\CQ X.K (rI MulOk λi j=> .int (i*j)) C6:=⟨QF,Qf λi j _ _ _=> .int _⟩
structure VD (i j:Int):Prop where
 ne:j≠0
 lt:j.natAbs<2^8900
def ZA:EN X (binaryOp .FloorDiv) (rI VD λi j=> .int (i.fdiv j)):=gY λi j _ _ _ _ _ hc q=>
 floordiv_int hc.ne q (.inl (ADd (ACZ (JV hc.lt (by decide)) (by decide))))
abbrev Pb:Iq:=ij VD λi j=> .int (i.fdiv j)
def Ey:EN X (binaryOp .FloorDiv) (rI VD λi j=> .int (i.fdiv j))/\CQ X.K (rI VD λi j=> .int (i.fdiv j)) Pb:=⟨ZA,Qf λi j _ _ _=> .int _⟩
abbrev RT:Iq:=ij (λ_ j=>j≠0) λi j=> .int (i.fmod j)
def NY:EN X (binaryOp .Mod) (rI (λ_ j=>j≠0) λi j=> .int (i.fmod j))/\CQ X.K (rI (λ_ j=>j≠0) λi j=> .int (i.fmod j)) RT:=⟨cQ,Qf λi j _ _ _=> .int _⟩
abbrev jY:Iq:=ij am λi j=> .int (i^j.toNat)
def iJ:EN X (binaryOp .Pow) (rI am λi j=> .int (i^j.toNat))/\CQ X.K (rI am λi j=> .int (i^j.toNat)) jY:=⟨ZB,Qf λi j _ _ _=> .int _⟩
def lV:PV->zq | .non=>true|_=>false
def HN:Iq:=λx y Q=>match y with | .non=>Q (.bl (lV x))|_=>False
def On:Iq:=λx y Q=>match y with | .non=>Q (.bl (!lV x))|_=>False
def Vk {K:AAB}{T M:zu->Prop}{H:Hp}{v:V}{x:PV}(r:CC K T M H v x):decide (v= .non)=lV x:=by cases r <;> simp[lV]
def Ft:EN X (compareOp .Is) (λx y H Q=>y= .non/\Q (.bl (decide (x= .non))) H)/\CQ X.K (λx y H Q=>y= .non/\Q (.bl (decide (x= .non))) H) HN:=by
 refine⟨gb,λT M H u v x y Q e va d rv h k=> ?_⟩;cases y <;> first | exact h.elim|skip
 cases rv;refine⟨rfl, ?_⟩;rw[Vk d];exact k _ _ T H (.refl va.tp) (.bl _) h
def Qm:EN X (compareOp .IsNot) (λx y H Q=>y= .non/\Q (.bl (!decide (x= .non))) H)/\CQ X.K (λx y H Q=>y= .non/\Q (.bl (!decide (x= .non))) H) On:=by
 refine⟨Vr,λT M H u v x y Q e va d rv h k=> ?_⟩;cases y <;> first | exact h.elim|skip
 cases rv;refine⟨rfl, ?_⟩;rw[Vk d];exact k _ _ T H (.refl va.tp) (.bl _) h
def Ai:Iq:=λx y Q=>Ni x λxs=>Xk y λi=>cN (Jp xs i) Q
def VI {K:AAB}{T M:zu->Prop}{H:Hp}{vs:zy V}{xs:zy PV}{i:Int}{z:PV}(r:Az K T M H vs xs)(h:Jp xs i=some z):∃v,Jp vs i=some v/\CC K T M H v z:=by
 unfold Jp at h ⊢;rw[r.length];cases e:b6 xs.length i with
 | none=>rw[e] at h;cases h
 | some j=> rw[e] at h;exact r.get h
def kK (K:AAB):R2:=λx y H Q=>kJ K x y H Q\/kM K x y H Q
def kq:aw X (kK X.K)/\CQ X.K (kK X.K) Ai:=by
 refine⟨Et.or gB,λT M H u v x y Q g va f rv h k=> ?_⟩;obtain⟨xs,hx,h1⟩:=IK h;obtain⟨i,rfl,h2⟩:=US h1;cases rv.toI;obtain⟨z,e,q⟩:=gU h2;rcases hx with rfl|rfl
 .cases f with
  | tup hq r=> obtain⟨w,ew,d⟩:=VI r e;exact .inr ⟨_,_,i,w,rfl,rfl,hq.sq,ew,k w z T H (.refl va.tp) d q⟩
 .cases f with
  | lst hq t m r=> obtain⟨w,ew,d⟩:=VI r e;exact .inl ⟨_,_,i,w,rfl,rfl, .inl (.inl hq),ew,k w z T H (.refl va.tp) d q⟩
def TR (f:PV->(PV->Prop)->Prop)(ta:AE):AE:=λτ Q=>ta τ λx=>f x Q
def J0 (x:PV)(Q:PV->Prop):Prop:=Xk x λi=>Q (.int (-i))
def Eg (ha:SE X a ta):SE X (.UnaryOp .USub a pos) (TR J0 ta):=by obtain⟨t,p,s⟩:=ha;refine⟨_,kE iX p,λB T d τ H Q l e h k=>s B T d τ H _ _ e h λv x f H1 g j h1=> ?_⟩;obtain⟨i,rfl,q⟩:=US h1;exact⟨i,j.toI,k _ _ f H1 g (.int _) q⟩
def fR (x:PV)(Q:PV->Prop):Prop:=ae x λi=>Q (.bl (!i))
def iE (ha:SE X a ta):SE X (.UnaryOp .Not a pos) (TR fR ta):=by obtain⟨t,p,s⟩:=ha;refine⟨_,gi p,λB T d τ H Q l e h k=>s B T d τ H _ _ e h λv x f H1 g j h1=> ?_⟩;obtain⟨i,rfl,q⟩:=QE h1;exact⟨i,j.toB,k _ _ f H1 g (.bl _) q⟩
def RK (ta tb:AE):AE:=λτ Q=>ta τ λx=>ae x λc=>if c=true then tb τ Q else Q (.bl false)
def lP (ta tb:AE):AE:=λτ Q=>ta τ λx=>ae x λc=>if c=true then Q (.bl true) else tb τ Q
def Ij {op}(h:SE X a ta):SE X (.BoolOp op [a] pos) ta:=let ⟨_,p,s⟩:=h;⟨_,gj p,s⟩
def KU {rest:zy zr}(ha:SE X a ta)(hb:SE X (.BoolOp .And (b::rest) pos) tb):SE X (.BoolOp .And (a::b::rest) pos) (RK ta tb):=by
 obtain⟨t,p,s⟩:=ha;obtain⟨t',j,l⟩:=hb;refine⟨_,gg p j,λB T e τ H Q z f h k=>s B T e τ H _ _ f h λv x g H1 d m h1=> ?_⟩;obtain⟨i,rfl,q⟩:=QE h1;refine⟨i,m.toB, ?_⟩;cases i with
 | true=>rw[AAE rfl] at q ⊢;exact l B g e τ H1 _ _ (f.stp d) q λw y n o r u h2=>k w y n o (d.trans r) u h2
 | false=>rw[AAC AAR] at q ⊢;exact k _ _ g H1 d (.bl _) q
def d9 {rest:zy zr}(ha:SE X a ta)(hb:SE X (.BoolOp .Or (b::rest) pos) tb):SE X (.BoolOp .Or (a::b::rest) pos) (lP ta tb):=by
 obtain⟨t,p,s⟩:=ha;obtain⟨t',j,l⟩:=hb;refine⟨_,kD p j,λB T e τ H Q z f h k=>s B T e τ H _ _ f h λv x g H1 d m h1=> ?_⟩;obtain⟨i,rfl,q⟩:=QE h1;refine⟨i,m.toB, ?_⟩;cases i with
 | false=>rw[AAC AAR] at q ⊢;exact l B g e τ H1 _ _ (f.stp d) q λw y n o r u h2=>k w y n o (d.trans r) u h2
 | true=>rw[AAE rfl] at q ⊢;exact k _ _ g H1 d (.bl _) q
def Ax (ta:AE):AT:=λτ Q=>ta τ λx=>ae x Q
def Qk {t:TE}(s:HM X.K t ta):TH X.K (aJ t) (Ax ta):=λB T d τ H Q l e h k=>s B T d τ H _ _ e h λv x f H1 g j h1=>by obtain⟨i,rfl,q⟩:=QE h1;exact⟨i,j.toB,k _ f H1 g q⟩
def iK {op:CmpOp}{r:R2}{f:Iq}(d:EN X (compareOp op) r/\CQ X.K r f)(ha:SE X a ta)(hb:SE X b tb)(e:behindInMarks op b=false):RG X (.Compare a [op] [b] pos) (Ax (AW f ta tb)):=
 let ⟨_,p,s⟩:=ha;let ⟨_,g,h⟩:=hb;⟨_,Lx d.1 p g e,Qk (Qj d.2 s h)⟩
def B3 {e:zr}(h:SE X e ta)(he:∀whole,isTrue e X.env whole=(do let v <-whole;standAt e.pos;holding [v] (truthy v)):=by intro _;rfl):RG X e (Ax ta):=
 let ⟨_,p,s⟩:=h;⟨_,gx p he,Qk s⟩
def Ky (t:AT):AT:=λτ Q=>t τ λc=>Q (!c)
def Er (t u:AT):AT:=λτ Q=>t τ λc=>if c=true then u τ Q else Q false
def RM (t u:AT):AT:=λτ Q=>t τ λc=>if c=true then Q true else u τ Q
def KZ (ha:RG X a tA):RG X (.UnaryOp .Not a pos) (Ky tA):=by obtain⟨t,p,s⟩:=ha;exact⟨_,gw p,λB T d τ H Q i e h k=>s B T d τ H _ _ e h λv f H1 g h1=>k _ f H1 g h1⟩
def DD (ha:RG X a tA):SW X (.BoolOp .And [a] pos) tA:=let ⟨_,p,s⟩:=ha;⟨_,ck p,s⟩
def Kg (ha:RG X a tA):SW X (.BoolOp .Or [a] pos) tA:=let ⟨_,p,s⟩:=ha;⟨_,gz p,s⟩
def D9 {rest:zy zr}(ha:RG X a tA)(hb:SW X (.BoolOp .And (b::rest) pos) tB'):SW X (.BoolOp .And (a::b::rest) pos) (Er tA tB'):=by
 obtain⟨t,p,s⟩:=ha;obtain⟨t',j,l⟩:=hb;refine⟨_,gy p j,λB T e τ H Q r f h k=>s B T e τ H _ _ f h λi g H1 d q=> ?_⟩;cases i with
 | true=>rw[AAE rfl] at q ⊢;exact l B g e τ H1 _ _ (f.stp d) q λb m n o h2=>k b m n (d.trans o) h2
 | false=>rw[AAC AAR] at q ⊢;exact k _ g H1 d q
def O4 {rest:zy zr}(ha:RG X a tA)(hb:SW X (.BoolOp .Or (b::rest) pos) tB'):SW X (.BoolOp .Or (a::b::rest) pos) (RM tA tB'):=by
 obtain⟨t,p,s⟩:=ha;obtain⟨t',j,l⟩:=hb;refine⟨_,kF p j,λB T e τ H Q r f h k=>s B T e τ H _ _ f h λi g H1 d q=> ?_⟩;cases i with
 | false=>rw[AAC AAR] at q ⊢;exact l B g e τ H1 _ _ (f.stp d) q λb m n o h2=>k b m n (d.trans o) h2
 | true=>rw[AAE rfl] at q ⊢;exact k _ g H1 d q
def GA (h:SW X a tA):RG X a tA:=let ⟨_,p,s⟩:=h;⟨_,p.pt,s⟩
def ii (t:AT)(ta tb:AE):AE:=λτ Q=>t τ λc=>if c=true then ta τ Q else tb τ Q
def V8 (hc:RG X c tA)(ha:SE X a ta)(hb:SE X b tb):SE X (.IfExp c a b pos) (ii tA ta tb):=by
 obtain⟨t,p,s⟩:=hc;obtain⟨x,u,e⟩:=ha;obtain⟨z,v,f⟩:=hb;refine⟨_,ZG p u v,λB T g τ H Q A j h k=>s B T g τ H _ _ j h λi r H1 d q=> ?_⟩;cases i with
 | true=>rw[AAE rfl] at q ⊢;exact e B r g τ H1 _ _ (j.stp d) q λw y l m n o h2=>k w y l m (d.trans n) o h2
 | false=>rw[AAC AAR] at q ⊢;exact f B r g τ H1 _ _ (j.stp d) q λw y l m n o h2=>k w y l m (d.trans n) o h2
def AM:AA:=λ_ Q=>Q []
def AB (ta:AE)(r:AA):AA:=λτ Q=>ta τ λx=>r τ λxs=>Q (x::xs)
def D4:SA X [] AM:=⟨_,E4,λB T e τ H Q f d h k=>k [] [] T H (.refl d.tp) .nil h⟩
def B7 {e:zr}{r:AA}(ha:SE X e ta)(j:SA X es r)(hs:starEach (e::es) X.env=(false,eval e X.env)::starEach es X.env:=by rfl):SA X (e::es) (AB ta r):=by obtain⟨t,p,s⟩:=ha;obtain⟨t',l,m⟩:=j;refine⟨_,CH p l hs,λB T g τ H Q z d h k=>s B T g τ H _ _ d h λv x n H1 f o h1=> ?_⟩;exact m B n g τ H1 _ _ (d.stp f) h1 λvs xs u w i y h2=>k _ _ u w (f.trans i) (.cons (o.stp i (d.stp f).va) y) h2
def A2 (r:AA):AE:=λτ Q=>r τ λxs=>xs.length<=sizeLine/\Q (.tup xs)
def Ae {x1}{r:AA}(h:SA X es r):SE X (.Tuple es x1 pos) (A2 r):=by obtain⟨t,p,s⟩:=h;refine⟨_,NF p,λB T g τ H Q j d h k=>s B T g τ H _ _ d h λvs xs i H1 e f h1=>⟨by rw[f.length];exact h1.1,λq hq=> ?_⟩⟩;have l:=DM.lay (o:= .tup vs) (d.stp e).tp hq;exact k _ _ i _ (e.trans l) (.tup (.inl Ab) (f.stp l (d.stp e).va)) h1.2
def DS (r:AA):AA:=λτ Q=>r τ λxs=>xs.length<=sizeLine/\Q xs
def Pu {K:AAB}{B:C0}{T:zu->Prop}{H:Hp}{d:L2.St}{τ:A7}{p:zu}{vs:zy V}{xs:zy PV}(f:SR K B T H d τ)(hq:H p=none)(r:Az K T (mt B d τ) H vs xs):DM T H T (upd H p (.lst vs))/\SR K (B.add p) T (upd H p (.lst vs)) d τ/\¬T p/\Az K T (mt (B.add p) d τ) (upd H p (.lst vs)) vs xs:=by
 have l:=DM.lay (o:= .lst vs) f.tp hq;have g:¬T p:=λz=>by obtain⟨o,e,_⟩:=(f.tp p z).mut;rw[hq] at e;cases e
 refine⟨l,f.add l hq Ab LW.lst g,g,r.mv ⟨f.va,λb o t _ e=>l.keep b o t e,l.sub,λb n t=>t,λb n z=> ?_⟩⟩;rcases z with(z|z)|z
 .exact .inl z
 .subst z;exact absurd hq n
 .exact .inr z
def BU {r:AA}(h:SA X es r):SF X (.List es pos) (DS r):=by obtain⟨t,p,s⟩:=h;refine⟨_,ZH p,λB T i τ H Q o f h k=>s B T i τ H _ _ f h λvs xs j H1 d g h1=>⟨by rw[g.length];exact h1.1,λq hq=> ?_⟩⟩;obtain⟨l,e,m,n⟩:=Pu (f.stp d) hq g;exact k q vs xs j _ (d.trans l) e (d.none hq) Ab m n h1.2
def Ej (r:AA):AE:=λτ Q=>r τ λxs=>Q (.lst xs)
def Zx {t:TE}{r:AA}(s:az X.K t r):HM X.K t (Ej r):=λB T g τ H Q w d h k=>s B T g τ H _ _ d h λp vs xs j H1 l f i hp n u h1=>by
 have v:¬Cv g τ p:=λo=>by obtain⟨_,e,_⟩:=d.ownH o;rw[i] at e;cases e
 have hb:¬B.M p:=λo=>by obtain⟨_,e,_⟩:=d.bm p o;rw[i] at e;cases e
 exact k _ _ j H1 l (.lst hp n (λz=>z.elim hb v) (u.mv (.anti f.va λa m=>m.elim (λz=> .inl (.inl z)) .inr))) h1
def CJ {r:AA}(h:SF X a r):SE X a (Ej r):=let ⟨_,p,s⟩:=h;⟨_,p,Zx s⟩
def Cq (K:AAB)(n:Nat)(F:AF):Sp:=λvs H Q _=>∃(T M:zu->Prop) (xs:zy PV) (e:PV->Prop),Hu T M H/\(∀a,M a->¬T a)/\Az K T M H vs xs/\xs.length=n/\F xs e/\
 ∀v x f d,DM T H f d->CC K f M d v x->e x->Q v d
def AN (n:Nat)(F:AF)(r:AA):AE:=λτ Q=>r τ λxs=>xs.length=n/\F xs Q
def AK {x:Str}{p:Pos}{e:zr}{k n:Nat}{g:zy Str}{F:AF}{r:AA}(D:Has X.prog X.w X.K X.mg X.base k x g (Cq X.K n F))(i:Room k X.A)(j:Gl X x)(ha:SA X (e::es) r)(hs:starEach (e::es) X.env=(false,eval e X.env)::starEach es X.env:=by rfl)(hpl:(backTo pos (starEach es X.env)).any (·.1)=false:=by rfl)(hd:(x==("__debug__" :Str))=false:=by decide):SE X (.Call (.Name x p) (e::es) [] pos) (AN n F r):=by obtain⟨t,l,s⟩:=ha;refine⟨_,gh D i j l hs hpl hd,λB T o τ H Q u d h k=>s B T o τ H _ _ d h λvs xs y H1 f z h1=> ?_⟩;rw[AB3];exact⟨y,_,xs,u,(d.stp f).va,λa m=>(d.stp f).nt m,z,h1.1,h1.2,λv x C E G I q=>k v x C E (f.trans G) I q⟩
def FR (f:AF)(r:AA):AE:=λτ Q=>r τ λxs=>f xs Q
def Zw {d:zy V->Hp->VK->Prop}{f:AF}{t:TA}{r:AA}(i:Eo X.K d f)(s:e7 X.K t r):HM X.K (nu d t) (FR f r):=λB T j τ H Q l e h k=>s B T j τ H _ _ e h λvs xs m H1 g n h1=>
 i m _ H1 vs xs Q l (e.stp g).va n h1 λw z o p u v q=>k w z o p (g.trans u) v q
def BM {id:String}{x:Str}{p:Pos}{e:zr}{d:zy V->Hp->VK->Prop}{f:AF}{r:AA}(hc:CZ X (.builtin id) d/\Eo X.K d f)(g:Gl X x)(h:X.mg x=none)(hv:bootBuiltins x=some (.builtin id))(ha:SA X (e::es) r)(i:x≠"__name__" :=by decide)(hdb:(x==("__debug__" :Str))=false:=by decide)(he:starEach (e::es) X.env=(false,eval e X.env)::starEach es X.env:=by rfl)(hpl:(backTo pos (starEach es X.env)).any (·.1)=false:=by rfl):SE X (.Call (.Name x p) (e::es) [] pos) (FR f r):=by obtain⟨t,j,s⟩:=ha;exact⟨_,JZ hc.1 g h hv j i hdb he hpl,Zw hc.2 s⟩
def BL {T:String}{x:Str}{p:Pos}{e:zr}{d:zy V->Hp->VK->Prop}{f:AF}{r:AA}(hc:CZ X (.type T) d/\Eo X.K d f)(g:Gl X x)(h:X.mg x=none)(hv:bootBuiltins x=some (.type T))(ha:SA X (e::es) r)(i:x≠"__name__" :=by decide)(hdb:(x==("__debug__" :Str))=false:=by decide)(he:starEach (e::es) X.env=(false,eval e X.env)::starEach es X.env:=by rfl)(hpl:(backTo pos (starEach es X.env)).any (·.1)=false:=by rfl):SE X (.Call (.Name x p) (e::es) [] pos) (FR f r):=by obtain⟨t,j,s⟩:=ha;exact⟨_,G4 hc.1 g h hv j i hdb he hpl,Zw hc.2 s⟩
end
section
variable {X:Cx}
def D7 {K:AAB}{T M:zu->Prop}{H:Hp}{v:V}{xs:zy PV}(r:CC K T M H v (.tup xs)):∃a vs,v= .ref a/\Kx K H a vs/\Az K T M H vs xs:=by
 cases r with
 | tup h r=>exact⟨_,_,rfl,h.sq,r⟩
def Z0 {K:AAB}{T M:zu->Prop}{H:Hp}{v:V}{xs:zy PV}(r:CC K T M H v (.tup xs)):∃a vs,v= .ref a/\lO K H a vs/\Az K T M H vs xs:=by
 cases r with
 | tup h r=>exact⟨_,_,rfl,h,r⟩
def Cz {K:AAB}{T M:zu->Prop}{H:Hp}{v:V}{xs:zy PV}(r:CC K T M H v (.lst xs)):∃a vs,v= .ref a/\H a=some (.lst vs)/\¬T a/\¬M a/\Az K T M H vs xs:=by
 cases r with
 | lst h t m r=>exact⟨_,_,rfl,h,t,m,r⟩
def Zo {K:AAB}{T M:zu->Prop}{H:Hp}{v:V}{b:zy Int}(r:CC K T M H v (.scr b)):∃a,v= .ref a/\Ep K H a (b.map V.int):=by
 cases r with
 | scr h=>
   rcases h with⟨h,_,_⟩|h
   .exact ⟨_,rfl, .inl h⟩
   .exact ⟨_,rfl,h H⟩
def IE:AF:=λxs Q=>match xs with | [.tup ys] =>Q (.int ys.length) | [.lst ys] =>Q (.int ys.length) | [.scr ns] =>Q (.int ns.length)|_=>False
def kN (K:AAB):zy V->Hp->VK->Prop:=λxs H Q=>∃p ys,xs= [.ref p] /\(Ep K H p ys\/Kx K H p ys)/\Q (.int ys.length) H
def Fq:CZ X (.builtin "len") (kN X.K)/\Eo X.K (kN X.K) IE:=by
 refine⟨JK,λT M H us xs Q b va r h k=> ?_⟩;unfold IE at h;split at h <;> first | exact h.elim|skip
 .rename_i ys;cases r with | cons r t=>cases t;obtain⟨a,vs,rfl,hq,r⟩:=D7 r;refine⟨a,vs,rfl, .inr hq, ?_⟩;rw[r.length];exact k _ _ T H (.refl va.tp) (.int _) h
 .rename_i ys;cases r with | cons r t=>cases t;obtain⟨a,vs,rfl,hq,_,_,r⟩:=Cz r;refine⟨a,vs,rfl, .inl (.inl (.inl hq)), ?_⟩;rw[r.length];exact k _ _ T H (.refl va.tp) (.int _) h
 .rename_i c;cases r with | cons r t=>cases t;obtain⟨a,rfl,hq⟩:=Zo r;refine⟨a,_,rfl, .inl hq, ?_⟩;rw[AAJ];exact k _ _ T H (.refl va.tp) (.int _) h
def Wv:AF:=λxs Q=>match xs with | [.int i] =>Q (.int i.natAbs)|_=>False
def Qb:CZ X (.builtin "abs") (λxs H Q=>∃i,xs= [.int i] /\Q (.int (if i<0 then -i else i)) H)/\Eo X.K (λxs H Q=>∃i,xs= [.int i] /\Q (.int (if i<0 then -i else i)) H) Wv:=by
 refine⟨Mn,λT M H us xs Q a va r h k=> ?_⟩;unfold Wv at h;split at h <;> first | exact h.elim|skip
 rename_i i;cases r with
 | cons r t=> cases t;cases r;refine⟨i,rfl, ?_⟩;rw[show (if i<0 then -i else i)=(i.natAbs:Int) by split <;> omega];exact k _ _ T H (.refl va.tp) (.int _) h
def fV (g:Int->Int->Int):AF:=λxs Q=>match xs with | [.int i, .int j] =>Q (.int (g i j))|_=>False
def Zv {g g':Int->Int->Int}(a:∀i j,g i j=g' i j):Eo X.K (λxs H Q=>∃i j,xs= [.int i, .int j] /\Q (.int (g i j)) H) (fV g'):=by
 intro T M H us xs Q c va r h k;unfold fV at h;split at h <;> first | exact h.elim|skip
 rename_i i j;cases r with
 | cons r t=>
   cases t with
   | cons b t=> cases t;cases r;cases b;refine⟨i,j,rfl, ?_⟩;rw[a];exact k _ _ T H (.refl va.tp) (.int _) h
def iA (hc:X.calm=true):CZ X (.builtin "min") (λxs H Q=>∃i j,xs= [.int i, .int j] /\Q (.int (if j<i then j else i)) H)/\Eo X.K (λxs H Q=>∃i j,xs= [.int i, .int j] /\Q (.int (if j<i then j else i)) H) (fV min):=
 ⟨Wj hc,Zv λi j=>by split <;> omega⟩
def h9 (hc:X.calm=true):CZ X (.builtin "max") (λxs H Q=>∃i j,xs= [.int i, .int j] /\Q (.int (if j>i then j else i)) H)/\Eo X.K (λxs H Q=>∃i j,xs= [.int i, .int j] /\Q (.int (if j>i then j else i)) H) (fV max):=
 ⟨Wi hc,Zv λi j=>by split <;> omega⟩
def fW:AF:=λxs Q=>match xs with | [.int i] =>Q (.int i) | [.bl k] =>Q (.int (if k then 1 else 0))|_=>False
def hZ:CZ X (.type "int") (λxs H Q=>(∃i,xs= [.int i] /\Q (.int i) H)\/∃k,xs= [.bl k] /\Q (.int (if k then 1 else 0)) H)/\Eo X.K (λxs H Q=>(∃i,xs= [.int i] /\Q (.int i) H)\/∃k,xs= [.bl k] /\Q (.int (if k then 1 else 0)) H) fW:=by
 refine⟨Of,λT M H us xs Q a va r h k=> ?_⟩;unfold fW at h;split at h <;> first | exact h.elim|skip
 .cases r with | cons r t=>cases t;cases r;exact .inl ⟨_,rfl,k _ _ T H (.refl va.tp) (.int _) h⟩
 .cases r with | cons r t=>cases t;cases r;exact .inr ⟨_,rfl,k _ _ T H (.refl va.tp) (.int _) h⟩
def DV:AF:=λxs Q=>match xs with | [.tup ys] =>Q (.tup ys) | [.lst ys] =>Q (.tup ys)|_=>False
def ZY (K:AAB):zy V->Hp->VK->Prop:=λxs H Q=>∃p ys,xs= [.ref p] /\((Ep K H p ys/\∀l,H l=none->Q (.ref l) (upd H l (.tup ys)))\/(Kx K H p ys/\Q (.ref p) H))
def Co:CZ X (.type "tuple") (ZY X.K)/\Eo X.K (ZY X.K) DV:=by
 refine⟨N5,λT M H us xs Q c va r h k=> ?_⟩;unfold DV at h;split at h <;> first | exact h.elim|skip
 .cases r with | cons r t=>cases t;obtain⟨a,vs,rfl,hq,b⟩:=Z0 r;exact⟨a,vs,rfl, .inr ⟨hq.sq,k _ _ T H (.refl va.tp) (.tup hq b) h⟩⟩
 .cases r with
  | cons r t=> cases t;obtain⟨a,vs,rfl,hq,_,_,b⟩:=Cz r;refine⟨a,vs,rfl, .inl ⟨.inl (.inl hq),λl hl=> ?_⟩⟩;have s:=DM.lay (o:= .tup vs) va.tp hl;exact k _ _ T _ s (.tup (.inl Ab) (b.stp s va)) h
def RV (xs:zy PV)(Q:zy PV->Prop):Prop:=match xs with | [.tup ys] =>Q ys | [.lst ys] =>Q ys|_=>False
def Oa (r:AA):AA:=λτ Q=>r τ λxs=>RV xs Q
def L0 {x:Str}{p c:Pos}{e:zr}{es:zy zr}{r:AA}(o:Gl X x)(u:X.mg x=none)(hv:bootBuiltins x=some (.type "list"))(ha:SA X (e::es) r)(v:x≠"__name__" :=by decide)(hdb:(x==("__debug__" :Str))=false:=by decide)(he:starEach (e::es) X.env=(false,eval e X.env)::starEach es X.env:=by rfl)(hpl:(backTo c (starEach es X.env)).any (·.1)=false:=by rfl):SF X (.Call (.Name x p) (e::es) [] c) (Oa r):=by
 obtain⟨t,w,s⟩:=ha;refine⟨_,G4 PY o u hv w v hdb he hpl,λB T i τ H Q y j h k=>s B T i τ H _ _ j h λvs xs m H1 d n h1=> ?_⟩;have go:∀(b:zy V) (ys:zy PV),Az X.K m (mt B i τ) H1 b ys->y ys->∀l,H1 l=none->Q (.ref l) (upd H1 l (.lst b)):=λb ys z q l hl=>by obtain⟨A,f,C,D⟩:=Pu (j.stp d) hl z;exact k l b ys m _ (d.trans A) f (d.none hl) Ab C D q
 unfold RV at h1;split at h1 <;> first | exact h1.elim|skip
 .cases n with | cons r t=>cases t;obtain⟨a,b,rfl,hq,g⟩:=D7 r;exact⟨a,b,rfl, .inr hq,go b _ g h1⟩
 .cases n with | cons r t=>cases t;obtain⟨a,b,rfl,hq,_,_,g⟩:=Cz r;exact⟨a,b,rfl, .inl (.inl (.inl hq)),go b _ g h1⟩
def JI:zy PV->zt (zy zq)
 | [] =>some []
 | .bl b::r=>(JI r).map (b :: ·)
 | _=>none
theorem VM {K:AAB}{T M:zu->Prop}{H:Hp}:∀{vs:zy V} {xs:zy PV} {bs:zy zq},Az K T M H vs xs->JI xs=some bs->vs=bs.map V.bl
 | _,_,_, .nil,e=>by simp[JI] at e;subst e;rfl
 | _,_,bs, .cons h t,e=>by cases h <;> simp[JI] at e;obtain⟨c,a,b⟩:=e;subst b;simp[VM t a]
def RU (g:zy zq->zq):AF:=λxs Q=>match xs with | [.lst ys] =>(match JI ys with | some bs=>Q (.bl (g bs))|none=>False)|_=>False
def WB {g:zy zq->zq}:Eo X.K (UZ X.K g) (RU g):=by
 intro T M H us xs Q c va r h k;unfold RU at h;split at h <;> first | exact h.elim|skip
 split at h <;> first | exact h.elim|skip
 rename_i bs e;cases r with
 | cons r t=> cases t;obtain⟨a,d,rfl,hq,_,_,b⟩:=Cz r;have:=VM b e;subst this;exact⟨a,bs,rfl, .inl (.inl hq),k _ _ T H (.refl va.tp) (.bl _) h⟩
def Zk (hc:X.calm=true):CZ X (.builtin "all") (UZ X.K λbs=>bs.all id)/\Eo X.K (UZ X.K λbs=>bs.all id) (RU λbs=>bs.all id):=⟨Wg hc,WB⟩
def hX (hc:X.calm=true):CZ X (.builtin "any") (UZ X.K λbs=>bs.any id)/\Eo X.K (UZ X.K λbs=>bs.any id) (RU λbs=>bs.any id):=⟨Wh hc,WB⟩
def Zl:PV->PV->zt zq
 | .non, .non=>some true | .non, .int _=>some false | .int _, .non=>some false | .non, .bl _=>some false | .bl _, .non=>some false | .non, .str _=>some false | .str _, .non=>some false
 | .int i, .int j=>some (decide (i=j)) | .bl i, .bl j=>some (decide (i=j)) | .str i, .str j=>some (decide (i=j))
 | .int _, .str _=>some false | .str _, .int _=>some false | .bl _, .str _=>some false | .str _, .bl _=>some false
 | _,_=>none
def Sa {K:AAB}{T M:zu->Prop}{H:Hp}{u v:V}{x y:PV}{b:zq}(r:CC K T M H u x)(a:CC K T M H v y)(e:Zl x y=some b):iB u v=true/\decide (u=v)=b:=by cases r <;> cases a <;> first | (cases e;done)|(cases e;exact⟨rfl,rfl⟩)|(cases e;exact⟨rfl,by simp⟩)
def dU:PV->zt zq
 | .non=>some false | .bl b=>some b | .int i=>some (i != 0) | .tup xs=>some (!xs.isEmpty) | .lst xs=>some (!xs.isEmpty)|_=>none
def fC (a:AE):AT:=λτ Q=>a τ λx=>match dU x with | some b=>Q b|none=>False
def JS {K:AAB}{T M:zu->Prop}{H:Hp}{vs:zy V}{xs:zy PV}(r:Az K T M H vs xs):vs.isEmpty=xs.isEmpty:=by cases r <;> rfl
def iM {a:zr}{d:AE}(ha:SE X a d)(he:∀whole,isTrue a X.env whole=(do let v <-whole;standAt a.pos;holding [v] (truthy v)):=by intro _;rfl):RG X a (fC d):=by
 obtain⟨t,p,s⟩:=ha;refine⟨_,ZU p he,λB T f τ H Q m g h k=>s B T f τ H _ _ g h λv x i H1 j l h1=> ?_⟩;cases e:dU x with
 | none=>rw[e] at h1;exact h1.elim
 | some b=>
   rw[e] at h1;refine⟨b, ?_,k b i H1 j h1⟩;cases l <;> simp[dU] at e
   .exact e
   .exact e.symm
   .exact e.symm
   .rename_i hq c;exact .inr (.inl ⟨_,hq.sq,by rw[JS c,e];simp⟩)
   .rename_i hq _ _ c;exact .inl ⟨_, .inl (.inl hq),by rw[JS c,e];simp⟩
end
structure GB where
 nx:A7->Prop
 rt:PV->Prop
 bk:A7->Prop
 ct:A7->Prop
abbrev AS:=GB->A7->Prop
structure E1 (T:Addr->Prop) (H:Hp) (σ:L2.St) (τ:A7) (T':Addr->Prop) (H':Hp) (σ':L2.St) (τ':A7):Prop where
 keep:∀b o,¬T b->¬Cv σ τ b->H b=some o->H' b=some o
 sub:∀b,T b->T' b
 new:∀b,T' b->T b\/H b=none
 own:∀b,Cv σ' τ' b->Cv σ τ b\/H b=none
 some:∀b,H b≠none->H' b≠none
section
variable {K:AAB}{B:C0}{T T' T1 T2:zu->Prop}{H H' H1 H2:Hp}{σ σ' σ1 σ2:L2.St}{τ τ' τ1 τ2:A7}
def E1.refl:E1 T H σ τ T H σ τ:=⟨λ_ _ _ _ e=>e,λ_ t=>t,λ_ t=> .inl t,λ_ o=> .inl o,λ_ h=>h⟩
def E1.trans (a:E1 T H σ τ T1 H1 σ1 τ1)(b:E1 T1 H1 σ1 τ1 T2 H2 σ2 τ2):E1 T H σ τ T2 H2 σ2 τ2 where
 keep:=λc o t w e=>b.keep c o (λz=>(a.new c z).elim t λn=>by rw[n] at e;cases e) (λz=>(a.own c z).elim w λn=>by rw[n] at e;cases e) (a.keep c o t w e)
 sub:=λc t=>b.sub c (a.sub c t)
 new:=λc t=>(b.new c t).elim (λz=>a.new c z) λz=> .inr (by
  cases e:H c with
  | none=>rfl
  | some o=>exact absurd z (a.some c (by rw[e];exact λe=>nomatch e)))
 own:=λc t=>(b.own c t).elim (λz=>a.own c z) λz=> .inr (by
  cases e:H c with
  | none=>rfl
  | some o=>exact absurd z (a.some c (by rw[e];exact λe=>nomatch e)))
 some:=λc h=>b.some c (a.some c h)
def DM.prog (s:DM T H T' H'):E1 T H σ τ T' H' σ τ:=⟨λb o t _ e=>s.keep b o t e,s.sub,s.new,λ_ o=> .inl o,λ_ h=>s.some h⟩
def E1.less (h:∀b,Cv σ' τ' b->Cv σ τ b):E1 T H σ τ T H σ' τ':=⟨λ_ _ _ _ e=>e,λ_ t=>t,λ_ t=> .inl t,λb o=> .inl (h b o),λ_ h=>h⟩
structure ER (K:AAB) (B:C0) (T:Addr->Prop) (H:Hp) (σ:L2.St) (τ:A7) (D:LV) (AD:GB):Prop where
 nx:∀T' H' σ' τ',E1 T H σ τ T' H' σ' τ'->SR K B T' H' σ' τ'->AD.nx τ'->D.nx σ' H'
 bk:∀T' H' σ' τ',E1 T H σ τ T' H' σ' τ'->SR K B T' H' σ' τ'->AD.bk τ'->D.bk σ' H'
 ct:∀T' H' σ' τ',E1 T H σ τ T' H' σ' τ'->SR K B T' H' σ' τ'->AD.ct τ'->D.ct σ' H'
 rt:∀v x T' H',DM B.T B.H T' H'->CC K T' B.M H' v x->AD.rt x->D.rt v H'
def ER.shift {D:LV}{a:GB}(e:ER K B T H σ τ D a)(p:E1 T H σ τ T1 H1 σ1 τ1):ER K B T1 H1 σ1 τ1 D a:=
 ⟨λ_ _ _ _ q=>e.nx _ _ _ _ (p.trans q),λ_ _ _ _ q=>e.bk _ _ _ _ (p.trans q),λ_ _ _ _ q=>e.ct _ _ _ _ (p.trans q),e.rt⟩
end
def X1 (K:AAB)(t:TS)(a:AS):Prop:=∀(B:C0) (T:zu->Prop) (b:L2.St) (τ:A7) (H:Hp) (D:LV) (c:GB),SR K B T H b τ->a c τ->ER K B T H b τ D c->t D b H
def SS (X:Cx)(st:Stmt)(a:AS):Prop:=∃t,PS X st t/\X1 X.K t a
def Xg (X:Cx)(st:zy Stmt)(a:AS):Prop:=∃t,Su X st t/\X1 X.K t a
def BH {a:Type}{l:zy a}{i j:Nat}{x y:a}(h:(l.set i x)[j]? =some y):(j=i/\y=x/\i<l.length)\/(j≠i/\l[j]? =some y):=by
 by_cases e:j=i
 .subst e;rw[ACi] at h;simp at h;obtain⟨h1,h2⟩:=h;exact .inl ⟨rfl,h2.symm,h1⟩
 .rw [AAY (λz=>e z.symm)] at h;exact .inr ⟨e,h⟩
section
variable {K:AAB}{B:C0}{T:zu->Prop}{H:Hp}{σ:L2.St}{τ:A7}
def Cn {i:Nat}{v:V}{x:PV}{b:zu}(h:Cv (σ.set i (some v)) (τ.set i (some (.val x))) b):Cv σ τ b:=by
 obtain⟨j,xs,h1,h2⟩:=h;rcases BH h1 with⟨_,e,_⟩|⟨n,a⟩
 .cases e
 .rw [AAY (λz=>n z.symm)] at h2;exact⟨j,xs,a,h2⟩
def SR.set {i:Nat}{v:V}{x:PV}(s:SR K B T H σ τ)(r:CC K T (mt B σ τ) H v x):SR K B T H (σ.set i (some v)) (τ.set i (some (.val x))):=by
 have c:Mv K T (mt B σ τ) H T (mt B (σ.set i (some v)) (τ.set i (some (.val x)))) H:= .anti s.va λa m=>m.elim .inl λz=> .inr (Cn z);refine⟨by simp[s.len],λj y e=> ?_,λj ys e=> ?_,λj k ys o p t u h l=> ?_,s.tp,s.bm,s.bt,s.st⟩
 .rcases BH e with⟨rfl,b,hl⟩|⟨n,b⟩
  .cases b;refine⟨v,by rw[ACi];simp[s.len,hl],r.mv c⟩
  .obtain ⟨w,hw,d⟩:=s.val j y b;exact⟨w,by rw[AAY (λz=>n z.symm)];exact hw,d.mv c⟩
 .rcases BH e with⟨_,b,_⟩|⟨n,b⟩
  .cases b
  .obtain ⟨p,vs,h1,h2,A,C⟩:=s.own j ys b;exact⟨p,vs,by rw[AAY (λz=>n z.symm)];exact h1,h2,A.mv c,C⟩
 .rcases BH t with⟨_,b,_⟩|⟨n,f⟩
  .cases b
  .rcases BH u with⟨_,b,_⟩|⟨D,g⟩
   .cases b
   .rw [AAY (λz=>n z.symm)] at h;rw[AAY (λz=>D z.symm)] at l;exact s.dist j k ys o p f g h l
def K5 {i:Nat}{p:zu}{xs:zy PV}{b:zu}(h:Cv (σ.set i (some (.ref p))) (τ.set i (some (.own xs))) b):Cv σ τ b\/b=p:=by
 obtain⟨j,ys,h1,h2⟩:=h;rcases BH h1 with⟨rfl,e,_⟩|⟨n,a⟩
 .rcases BH h2 with⟨_,c,_⟩|⟨n,_⟩
  .cases c;exact .inr rfl
  .exact absurd rfl n
 .rw [AAY (λz=>n z.symm)] at h2;exact .inl ⟨j,ys,a,h2⟩
def SR.take {i:Nat}{p:zu}{vs:zy V}{xs:zy PV}(s:SR K (B.add p) T H σ τ)(hp:H p=some (.lst vs))(C:¬T p)(u:¬Cv σ τ p)(D:¬B.M p)(E:B.H p=none)(r:Az K T (mt (B.add p) σ τ) H vs xs):SR K B T H (σ.set i (some (.ref p))) (τ.set i (some (.own xs))):=by
 have h:Mv K T (mt (B.add p) σ τ) H T (mt B (σ.set i (some (.ref p))) (τ.set i (some (.own xs)))) H:= .anti s.va λa m=>by
  rcases m with m|m
  .exact .inl (.inl m)
  .rcases K5 m with z|z
   .exact .inr z
   .exact .inl (.inr z)
 refine⟨by simp[s.len],λj y e=> ?_,λj ys e=> ?_,λj k ys v q F x g d=> ?_,s.tp,λa m=>s.bm a (.inl m),λa m=>s.bt a (.inl m),s.st⟩
 .rcases BH e with⟨_,b,_⟩|⟨n,b⟩
  .cases b
  .obtain ⟨w,hw,l⟩:=s.val j y b;exact⟨w,by rw[AAY (λz=>n z.symm)];exact hw,l.mv h⟩
 .rcases BH e with⟨rfl,b,hl⟩|⟨n,b⟩
  .cases b;exact⟨p,vs,by rw[ACi];simp[s.len,hl],hp,r.mv h,E,C,D⟩
  .obtain ⟨q,G,h1,h2,I,J,L,N⟩:=s.own j ys b;exact⟨q,G,by rw[AAY (λz=>n z.symm)];exact h1,h2,I.mv h,J,L,λz=>N (.inl z)⟩
 .rcases BH F with⟨A,_,_⟩|⟨n,f⟩
  .rcases BH x with⟨o,_,_⟩|⟨t,c⟩
   .rw [A,o]
   .subst A;rw[AAY (λz=>t z.symm)] at d;rcases BH g with⟨_,b,_⟩|⟨n,_⟩
    .cases b;exact absurd ⟨k,v,c,d⟩ u
    .exact absurd rfl n
  .rw [AAY (λz=>n z.symm)] at g;rcases BH x with⟨o,_,_⟩|⟨t,c⟩
   .subst o;rcases BH d with⟨_,b,_⟩|⟨n,_⟩
    .cases b;exact absurd ⟨j,ys,f,g⟩ u
    .exact absurd rfl n
   .rw [AAY (λz=>t z.symm)] at d;exact s.dist j k ys v q f c g d
def SR.write {i:Nat}{p:zu}{M vs:zy V}{xs ys:zy PV}(s:SR K B T H σ τ)(g:τ[i]? =some (some (.own xs)))(hs:σ[i]? =some (some (.ref p)))(hp:H p=some (.lst M))(r:Az K T (mt B σ τ) H vs ys):SR K B T (upd H p (.lst vs)) σ (τ.set i (some (.own ys)))/\E1 T H σ τ T (upd H p (.lst vs)) σ (τ.set i (some (.own ys))):=by
 obtain⟨Q,N,G,R,S,I,D,J⟩:=s.own i xs g;rw[hs] at G;cases G;have U:σ.set i (some (.ref p))=σ:=by
  apply List.ext_getElem?;intro k;by_cases hk:i=k
  .subst hk;rw[ACi,hs];simp[(AAp.mp hs).1]
  .rw [AAY hk]
 have l:Cv σ τ p:=⟨i,xs,g,hs⟩;have L:∀b,Cv σ (τ.set i (some (.own ys))) b->Cv σ τ b:=λb h=>by
  obtain⟨j,f,h1,h2⟩:=h;rcases BH h1 with⟨rfl,e,_⟩|⟨n,C⟩
  .exact ⟨j,xs,g,h2⟩
  .exact ⟨j,f,C,h2⟩
 have E:Mv K T (mt B σ τ) H T (mt B σ (τ.set i (some (.own ys)))) (upd H p (.lst vs)):=⟨s.va,λb o _ m e=>by
  rw[Ad (λz=>m (by subst z;exact .inr l))];exact e,λ_ t=>t,λ_ _ t=>t,λb _ m=>m.elim .inl λz=> .inr (L b z)⟩
 refine⟨⟨by simp[s.len],λj y e=> ?_,λj f e=> ?_,λj k f us q h1 h2 u A=> ?_,λa t=> ?_,λa m=> ?_,s.bt, ?_⟩,⟨λb o t w e=>by rw[Ad (λz=>w (by subst z;exact l))];exact e,λ_ t=>t,λ_ t=> .inl t,λb o=> .inl (L b o),λb h=> ?_⟩⟩
 .rcases BH e with⟨_,c,_⟩|⟨n,c⟩
  .cases c
  .obtain ⟨v,h,O⟩:=s.val j y c;exact⟨v,h,O.mv E⟩
 .rcases BH e with⟨rfl,c,_⟩|⟨n,c⟩
  .cases c;exact⟨p,vs,hs,Ab,r.mv E,I,D,J⟩
  .obtain ⟨q,us,h1,h2,u,A⟩:=s.own j f c;have hq:q≠p:=λz=>by subst z;exact n (s.dist j i f xs q c g h1 hs)
   exact⟨q,us,h1,by rw[Ad hq];exact h2,u.mv E,A⟩
 .rcases BH h1 with⟨rfl,_,_⟩|⟨n,C⟩
  .rcases BH h2 with⟨rfl,_,_⟩|⟨P,F⟩
   .rfl
   .exact s.dist _ k xs us q g F u A
  .rcases BH h2 with⟨rfl,_,_⟩|⟨P,F⟩
   .exact s.dist j _ f xs q C g u A
   .exact s.dist j k f us q C F u A
 .obtain ⟨d,x,e,z⟩:=s.tp a t;exact⟨d,x,by rw[Ad (λw=>by subst w;exact D t)];exact e,z⟩
 .obtain ⟨o,e,z⟩:=s.bm a m;exact⟨o,by rw[Ad (λw=>by subst w;exact J m)];exact e,z⟩
 .refine ⟨λb o t e=> ?_,s.st.sub,s.st.new,λa t=> ?_⟩
  .rw [Ad (λw=>by subst w;rw[I] at e;cases e)];exact s.st.keep b o t e
  .obtain ⟨d,x,e,z⟩:=s.tp a t;exact⟨d,x,by rw[Ad (λw=>by subst w;exact D t)];exact e,z⟩
 .by_cases z:b=p
  .subst z;rw[Ab];exact λe=>nomatch e
  .rw [Ad z];exact h
end
section
variable {X:Cx}{st:Stmt}{rest:zy Stmt}{e:zr}{pos:Pos}{a b:AS}{ta:AE}
def TN (ta:AE):AE:=λτ Q=>ta (frz τ) λx=>ab x=true/\Q x
def Qe (h:SE X e ta):SE X e (TN ta):=by obtain⟨t,p,s⟩:=h;refine⟨t,p,λB T c τ H Q j d h k=>s B T c (frz τ) H _ _ d.frz h λv x f H1 g i h1=> ?_⟩;exact k v x f H1 g (i.free h1.1) h1.2
def RL (c:AT):AT:=λτ Q=>c (frz τ) Q
def Z8 {c:AT}(h:RG X e c):RG X e (RL c):=by obtain⟨t,p,s⟩:=h;exact⟨t,p,λB T d τ H Q j f h k=>s B T d (frz τ) H _ _ f.frz h λb g H1 i h1=>k b g H1 i h1⟩
def BV:AS:=λD τ=>D.nx τ
def AY (a b:AS):AS:=λD τ=>a {D with nx:=b D} τ
def A1:Xg X [] BV:=⟨_,Lw,λB T c τ H D g d h f=>f.nx T H c τ .refl d h⟩
def AL (h1:SS X st a)(h2:Xg X rest b):Xg X (st::rest) (AY a b):=by obtain⟨t,p,s⟩:=h1;obtain⟨t',f,g⟩:=h2;exact⟨_,Be p f,λB T i τ H D j k h c=>s B T i τ H _ _ k h ⟨λl m σ' τ' q d h'=>g B l σ' τ' m D j d h' (c.shift q),c.bk,c.ct,c.rt⟩⟩
def AR (h1:SS X st a):Xg X [st] a:=let ⟨_,p,s⟩:=h1;⟨_,EG p,s⟩
def Aq (ta:AE):AS:=λD τ=>ta (frz τ) D.rt
def AX (h:SE X e ta):SS X (.Return (some e) pos) (Aq ta):=by obtain⟨t,p,s⟩:=h;refine⟨_,NI p,λB T f τ H D k c h g=>s B T f (frz τ) H _ _ c.frz h λv x i H1 d j h1=> ?_⟩;exact g.rt v x i H1 (c.st.trans d) (j.mv (.anti (c.frz.stp d).va λa m=> .inl m)) h1
def CF (c:AT)(a b:AS):AS:=λD τ=>c τ λk=>if k=true then a D τ else b D τ
def BN {c:zr}{x y:zy Stmt}{l:AT}(hc:RG X c l)(ha:Xg X x a)(hb:Xg X y b):SS X (.If c x y pos) (CF l a b):=by
 obtain⟨t,p,s⟩:=hc;obtain⟨v,r,f⟩:=ha;obtain⟨w,u,g⟩:=hb;refine⟨_,Vw p r u,λB T i τ H D m j h n=>s B T i τ H _ _ j h λk o H1 d h1=> ?_⟩;cases k with
 | true=>rw[AAE rfl] at h1 ⊢;exact f B o i τ H1 D m (j.stp d) h1 (n.shift d.prog)
 | false=>rw[AAC AAR] at h1 ⊢;exact g B o i τ H1 D m (j.stp d) h1 (n.shift d.prog)
abbrev AG:=PV->A7->(A7->Prop)->Prop
abbrev Sw:=zy PV->A7->(A7->Prop)->Prop
def PU (K:AAB)(g:TG)(f:AG):Prop:=∀(B:C0) (T:zu->Prop) (c:L2.St) (τ:A7) (H:Hp) (v:V) (x:PV) (Q:L2.St->Hp->Prop) (d:A7->Prop),SR K B T H c τ->CC K T (mt B c τ) H v x->f x τ d->
 (∀σ' τ',SR K B T H σ' τ'->(∀b,Cv σ' τ' b->Cv c τ b)->d τ'->Q σ' H)->g v c H Q
def OZ (K:AAB)(g:TL)(f:Sw):Prop:=∀(B:C0) (T:zu->Prop) (c:L2.St) (τ:A7) (H:Hp) (vs:zy V) (xs:zy PV) (Q:L2.St->Hp->Prop) (d:A7->Prop),SR K B T H c τ->Az K T (mt B c τ) H vs xs->f xs τ d->
 (∀σ' τ',SR K B T H σ' τ'->(∀b,Cv σ' τ' b->Cv c τ b)->d τ'->Q σ' H)->g vs c H Q
def SG (X:Cx)(c:zr)(d:AG):Prop:=∃g,PG X c g/\PU X.K g d
def lK (X:Cx)(c:zy zr)(d:Sw):Prop:=∃g,ic X c g/\OZ X.K g d
def Ak (i:Nat):AG:=λx τ Q=>Q (τ.set i (some (.val x)))
def Qi {K:AAB}{i:Nat}:PU K (Bc i) (Ak i):=λB T d τ H v x Q f c r h k=>k _ _ (c.set r) (λb o=>Cn o) h
def L1 {i:Nat}{x:Str}(hN:X.N.Nodup)(hi:X.N[i]? =some x)(hx:Loc X.env.scope x)(c:X.fn x=true\/X.env.scope.names.lookup x=some .local:=by first | exact .inl rfl|exact .inr rfl|assumption):SG X (.Name x pos) (Ak i):=
 ⟨_,EF hN hi hx c,Qi⟩
def Bq:Sw:=λxs τ Q=>match xs with | [] =>Q τ|_=>False
def AZ (g:AG)(r:Sw):Sw:=λxs τ Q=>match xs with | x::t=>g x τ λτ'=>r t τ' Q | [] =>False
def Sf {K:AAB}:OZ K LZ Bq:=λB T c τ H vs xs Q f d r h k=>by
 cases r with
 | nil=>exact⟨rfl,k c τ d (λ_ o=>o) h⟩
 | cons _ _=>exact h.elim
def Oz {K:AAB}{g:TG}{gs:TL}{p:AG}{c:Sw}(h1:PU K g p)(h2:OZ K gs c):OZ K (Cw g gs) (AZ p c):=λB T v τ H vs xs Q w s r h k=>by
 cases r with
 | nil=>exact h.elim
 | cons r t=> refine⟨_,_,rfl,h1 B T v τ H _ _ _ _ s r h λd f i u x=> ?_⟩;exact h2 B T d f H _ _ Q w i (t.mv (.anti s.va λa m=>m.elim .inl λz=> .inr (u a z))) x λj l n y A=>k j l n (λb o=>u b (y b o)) A
def Bj:lK X [] Bq:=⟨_,Ja,Sf⟩
def Aa {es:zy zr}{d:AG}{c:Sw}(h1:SG X e d)(h2:lK X es c)(hs:(assignEach (e::es) X.env).map (·.2)=assign e X.env::(assignEach es X.env).map (·.2):=by rfl):lK X (e::es) (AZ d c):=
 let ⟨_,p,s⟩:=h1;let ⟨_,f,g⟩:=h2;⟨_,DY p f hs,Oz s g⟩
def Aj (ta:AE)(g:AG):AS:=λD τ=>ta τ λx=>g x τ D.nx
def Qg {K:AAB}{t:TE}{g:TG}{i:AG}(s:HM K t ta)(n:PU K g i):X1 K (OQ t g) (Aj ta i):=λB T j τ H D w k h o=>s B T j τ H _ _ k h λv x l H1 m p h1=>
 n B l j τ H1 v x _ _ (k.stp m) p h1 λc d f r u=>o.nx l H1 c d (m.prog.trans (.less r)) f u
def KY {c:zr}{d:AG}(he:SE X e ta)(f:SG X c d)(hs:swapsWithSole [c] e pos.line X.env=pure false:=by rfl)(hw:swappedStores [c] e X.env=pure none:=by rfl)(h1:(assignEach [c] X.env).map (·.2)= [assign c X.env] :=by rfl):SS X (.Assign [c] e pos) (Aj ta d):=
 let ⟨_,p,s⟩:=he;let ⟨_,g,h⟩:=f;⟨_,UW p g hs hw h1,Qg s h⟩
def Ei {i:Nat}{x:Str}{pos':Pos}(hN:X.N.Nodup)(hi:X.N[i]? =some x)(hx:Loc X.env.scope x)(he:SE X e ta)(hs:swapsWith e (some (.Name x pos')) pos.line X.env=pure false:=by rfl)(c:X.fn x=true\/X.env.scope.names.lookup x=some .local:=by first | exact .inl rfl|exact .inr rfl|assumption):SS X (.Assign [.Name x pos'] e pos) (Aj ta (Ak i)):=let ⟨_,p,s⟩:=he;⟨_,E5 hN hi hx p hs c,Qg s Qi⟩
def GR (r:AA)(i:Nat):AS:=λD τ=>r τ λxs=>D.nx (τ.set i (some (.own xs)))
def WC {K:AAB}{t:TE}{r:AA}{i:Nat}(s:az K t r):X1 K (OQ t (Bc i)) (GR r i):=λB T j τ H D w c h k=>s B T j τ H _ _ c h λp vs xs l H1 d g f hp m n h1=>by
 have u:¬Cv j τ p:=λo=>by obtain⟨_,e,_⟩:=c.ownH o;rw[f] at e;cases e
 have v:¬B.M p:=λo=>by obtain⟨_,e,_⟩:=c.bm p o;rw[f] at e;cases e
 refine k.nx l H1 _ _ ⟨λb o t _ e=>d.keep b o t e,d.sub,d.new,λb o=> ?_,λb h=>d.some h⟩ (g.take hp m u v (c.st.none f) n) h1;rcases K5 o with z|z
 .exact .inl z
 .subst z;exact .inr f
def D8 {i:Nat}{x:Str}{pos':Pos}{r:AA}(hN:X.N.Nodup)(hi:X.N[i]? =some x)(hx:Loc X.env.scope x)(he:SF X e r)(hs:swapsWith e (some (.Name x pos')) pos.line X.env=pure false:=by rfl)(c:X.fn x=true\/X.env.scope.names.lookup x=some .local:=by first | exact .inl rfl|exact .inr rfl|assumption):SS X (.Assign [.Name x pos'] e pos) (GR r i):=let ⟨_,p,s⟩:=he;⟨_,E5 hN hi hx p hs c,WC s⟩
def Wa (i j:Nat)(r:AA):AS:=λD τ=>r τ λxs=>match xs with | [x,y] =>D.nx ((τ.set i (some (.val x))).set j (some (.val y)))|_=>False
def Us {i j:Nat}{x y:Str}{c d:zr}{r:AA}{g k l:Pos}{kt k2 pt2}(hc:X.calm=true)(hN:X.N.Nodup)(hi:X.N[i]? =some x)(hj:X.N[j]? =some y)(v:i≠j)(hx:X.env.scope.names.lookup x=some .local)(hy:X.env.scope.names.lookup y=some .local)(ha:SA X [c,d] r)(hw:swappedStores [.Tuple [.Name x g, .Name y k] kt l] (.Tuple [c,d] k2 pt2) X.env=pure (some [x,y]))(hs:swapsWithSole [.Tuple [.Name x g, .Name y k] kt l] (.Tuple [c,d] k2 pt2) pos.line X.env=pure false:=by rfl):SS X (.Assign [.Tuple [.Name x g, .Name y k] kt l] (.Tuple [c,d] k2 pt2) pos) (Wa i j r):=by
 obtain⟨t,p,s⟩:=ha;refine⟨_,gu hc hN hi hj v hx hy p hw hs,λB T w τ H D I n h A=>s B T w τ H _ _ n h λvs xs C H1 u E h1=> ?_⟩;cases E with
 | nil=>exact h1.elim
 | cons ra ta=>
   cases ta with
   | nil=>exact h1.elim
   | cons F G=>
     cases G with
     | cons _ _=>exact h1.elim
     | nil=> have f:=n.stp u;refine⟨_,_,rfl,A.nx C H1 _ _ ?_ ((f.set (i:=i) ra).set (i:=j) (F.mv (.anti f.va λa m=>m.elim .inl λz=> .inr (Cn z)))) h1⟩;exact u.prog.trans (.less λb o=>Cn (Cn o))
def TM (i:Nat)(f:Iq)(ta:AE):AS:=λD τ=>match Qt τ i with | some (.val x)=>ta τ λy=>f x y λz=>D.nx (τ.set i (some (.val z)))|_=>False
def Z4 {i:Nat}{x:Str}{op:Operator}{g:jR}{f:Iq}{pos':Pos}(hN:X.N.Nodup)(hi:X.N[i]? =some x)(hx:Loc X.env.scope x)(he:SE X e ta)(j:ie X op g/\CQ X.K g f)(l:X.fn x=true\/X.env.scope.names.lookup x=some .local:=by first | exact .inl rfl|exact .inr rfl|assumption):SS X (.AugAssign (.Name x pos') op e pos) (TM i f ta):=by
 obtain⟨t,p,s⟩:=he;refine⟨_,gt hN hi hx p j.1 l,λB T m τ H D I c h n=> ?_⟩;unfold TM at h;split at h <;> first | exact h.elim|skip
 rename_i y r;obtain⟨v,ev,rv⟩:=c.val i y (M6 r);refine⟨v,ev,s B T m τ H _ _ c h λw z A H1 d C h1=> ?_⟩;refine j.2 A _ H1 v w y z _ _ (c.stp d).va (rv.stp d c.va) C h1 λu q E F k G h2=> ?_;exact n.nx E F _ _ ((d.trans k).prog.trans (.less λb o=>Cn o)) (((c.stp d).stp k).set G) h2
def iG:ie X .Add (nJ λi j=>i+j)/\CQ X.K (nJ λi j=>i+j) jX:=⟨fy,λT M H u v x y Q d va c rv h k=>by
 obtain⟨i,j,rfl,rfl,q⟩:=Lv h;exact⟨i,j,c.toI,rv.toI,k _ _ T H (.refl va.tp) (.int _) q⟩⟩
def PX (i:Nat)(τ:A7)(R:zy PV->Prop):Prop:=match Qt τ i with | some (.own xs)=>R xs|_=>False
def bD {i:Nat}{τ:A7}{R:zy PV->Prop}(h:PX i τ R):∃xs,τ[i]? =some (some (.own xs))/\R xs:=by
 unfold PX at h;cases e:Qt τ i with
 | none=>rw[e] at h;exact h.elim
 | some z=>
   rw[e] at h;cases z with
   | val x=>exact h.elim
   | own xs=>exact⟨xs,M6 e,h⟩
abbrev e5:=zy PV->zy PV->(zy PV->Prop)->Prop
def bA (K:AAB)(r:V->zy V->Hp->VK->Prop)(f:e5):Prop:=∀(T M:zu->Prop) (H:Hp) (l:zu) (g vs:zy V) (xs ys:zy PV) (Q:VK) (h:zy PV->Prop),H l=some (.lst g)->Az K T M H g xs->Az K T M H vs ys->f xs ys h->
 (∀c d,Az K T M H c d->h d->Q .non (upd H l (.lst c)))->r (.ref l) vs H Q
def DT (i:Nat)(f:e5)(r:AA):AS:=λD τ=>PX i τ λxs=>r τ λys=>f xs ys λc=>D.nx (τ.set i (some (.own c)))
def Zz {K:AAB}{i:Nat}{l:V->zy V->Hp->VK->Prop}{f:e5}{t:TA}{r:AA}(v:bA K l f)(s:e7 K t r):X1 K (eF (qU K "list" l (C8 i) t)) (DT i f r):=λB T m τ H D E d h w=>by obtain⟨xs,e,h⟩:=bD h;obtain⟨p,vs,n,hp,x,F,o,G⟩:=d.own i xs e;refine⟨.ref p,n, .inl ⟨rfl,vs, .inl (.inl hp)⟩,s B T m τ H _ _ d h λus ys u H1 c y h2=> ?_⟩;have g:=d.stp c;refine v u (mt B m τ) H1 p vs us xs ys _ _ (c.keep _ _ o hp) (x.stp c d.va) y h2 λz I A C=> ?_;obtain⟨j,k⟩:=g.write (i:=i) (xs:=xs) e n (c.keep _ _ o hp) A;exact w.nx u _ _ _ (c.prog.trans k) j C
def CL {i:Nat}{x name:Str}{es:zy zr}{id:String}{d:V->zy V->Hp->VK->Prop}{f:e5}{r:AA}{p apos c:Pos}(slot:Slot "list" name id)(h:typeOf (.builtin id)=pure (.type "method_descriptor"))(g:jM X id d/\bA X.K d f)(ha:SA X (e::es) r)(hN:X.N[i]? =some x:=by rfl)(hv:ig X.env.scope x:=by first | exact Or.inl rfl|exact Or.inr (Or.inl rfl)|exact Or.inr (Or.inr rfl))(hd:(x==("__debug__" :Str))=false:=by decide)(j:(x==("__classdict__" :Str))=false:=by decide)(k:attributeBase (.Name x p) name X.env (eval (.Name x p) X.env)=eval (.Name x p) X.env:=by rfl)(l:((backTo c (starEach (e::es) X.env)).all (λx=> !x.1)&&(backToKw c (keywordEach [] X.env)).all (λx=>x.1.isSome) && decide ((e::es).length+([] :zy Keyword).length+(if ([] :zy Keyword).isEmpty then 0 else 1)<30))=true:=by rfl)(m:(apos.endLine==c.line)=true:=by rfl)(hs:starEach (e::es) X.env=(false,eval e X.env)::starEach es X.env:=by rfl)(n:(backTo c (starEach es X.env)).any (·.1)=false:=by rfl)(o:swapsWith (.Call (.Attribute (.Name x p) name apos) (e::es) [] c) none pos.line X.env=pure false:=by rfl):SS X (.Expr (.Call (.Attribute (.Name x p) name apos) (e::es) [] c) pos) (DT i f r):=by obtain⟨t,u,s⟩:=ha;exact⟨_,ci (kC PySem.F.plainAttrs_list slot h g.1 (UU hN hv hd j) u k l m hs n) o,Zz g.2 s⟩
def GV:e5:=λxs ys Q=>match ys with | [y] =>xs.length<sizeLine/\Q (xs ++ [y])|_=>False
def Bo:jM X "list.append" QI/\bA X.K QI GV:=by
 refine⟨Ow,λT M H l d vs xs ys Q i hl c f h k=> ?_⟩;unfold GV at h;split at h <;> first | exact h.elim|skip
 cases f with
 | cons g t=> cases t;exact⟨l,d,_,rfl,rfl,hl,by rw[c.length];exact h.1,k _ _ (c.append (.cons g .nil)) h.2⟩
def Y0:e5:=λxs ys Q=>match ys with | [.int i,y] =>(0<=i/\i<=(xs.length:Int)/\xs.length<sizeLine)/\Q (xs.take i.toNat++y::xs.drop i.toNat)|_=>False
def O0:jM X "list.insert" QJ/\bA X.K QJ Y0:=by
 refine⟨XB,λT M H l d vs xs ys Q n hl c f h k=> ?_⟩;unfold Y0 at h;split at h <;> first | exact h.elim|skip
 cases f with
 | cons g t=>
   cases t with
   | cons i t=> cases t;cases g;obtain⟨⟨h1,h2,j⟩,m⟩:=h;exact⟨l,d,_,_,rfl,rfl,hl,h1,by rw[c.length];exact h2,by rw[c.length];exact j,k _ _ ((c.take _).append (.cons i (c.drop _))) m⟩
end
section
variable {X:Cx}{st:Stmt}{e:zr}{pos:Pos}{a b:AS}{ta:AE}
def So (c:AT)(b:AS)(D:GB):Nat->A7->Prop
 | 0,_=>False
 | n+1,τ=>c (frz τ) λk=>if k=true then b {D with nx:=So c b D n,ct:=So c b D n,bk:=D.nx} τ else D.nx τ
def Hv (c:AT)(b:AS):AS:=λD τ=>∃n,So c b D n τ
def Gk {c:zr}{body:zy Stmt}{v:AT}(hp:PassesOwn (model X.prog X.w) X.A X.env X.xe)(hc:RG X c v)(hb:Xg X body b):SS X (.While c body [] pos) (Hv v b):=by
 obtain⟨t,p,s⟩:=hc;obtain⟨t',I,J⟩:=hb;refine⟨_,ZT hp p I,λB T z τ H D C L h E=> ?_⟩;obtain⟨n,h⟩:=h;refine⟨λm f H1=>∃x d,SR X.K B x H1 f d/\E1 T H z τ x H1 f d/\So v b C m d,⟨n,T,τ,L, .refl,h⟩, ?_⟩;rintro m f H1 ⟨x,d,l,g,h1⟩;cases m with
 | zero=>exact h1.elim
 | succ m=>
   refine s B x f (frz d) H1 _ _ l.frz h1 λk F G y h2=> ?_;have o:=l.stp y;have r:=(E.shift g).shift y.prog;cases k with
   | false=>rw[AAC AAR] at h2 ⊢;exact r.nx F G f d .refl o h2
   | true=> rw[AAE rfl] at h2 ⊢;refine⟨λσ' u=>∃j τ',SR X.K B j u σ' τ'/\E1 T H z τ j u σ' τ'/\So v b C m τ',λσ' u q=>⟨m,Nat.lt_succ_self m,q⟩, ?_⟩;exact J B F f d G _ _ o h2 ⟨λj u σ' τ' q i h'=>⟨j,τ',i,(g.trans y.prog).trans q,h'⟩,r.nx,λj u σ' τ' q i h'=>⟨j,τ',i,(g.trans y.prog).trans q,h'⟩,E.rt⟩
abbrev AI:=A7->(zy PV->Prop)->Prop
structure TD (K:AAB) (M:Addr->Prop) (J:It) (xs:List PV) (T:Addr->Prop) (H:Hp):Prop where
 go:∀i y,xs[i]? =some y->J.go i H
 yld:∀i y v H',xs[i]? =some y->J.yld i H v H'->DM T H T H'/\CC K T M H' v y
 stop:∀i,xs.length<=i->J.stop i H
def ax (T:zu->Prop)(H c:Hp):Prop:=∀b o,¬T b->H b=some o->c b=some o
def jP (K:AAB)(s:zq)(j:TI)(k:AI):Prop:=∀(B:C0) (T:zu->Prop) (f:L2.St) (τ:A7) (H:Hp) (R:It->Hp->Prop) (i:zy PV->Prop),SR K B T H f τ->k τ i->
 (∀J xs g c,DM T H g c->(∀M2 h d,Mv K g (mt B f τ) c h M2 d->Hu h M2 d->(s=true\/ax g c d)->TD K M2 J xs h d)->i xs->R J c)->j f H R
def SI (X:Cx)(d iter:zr)(s:zq)(f:AI):Prop:=∃c,PI X d iter c/\jP X.K s c f
def ju (K:AAB)(c:TE):TI:=λd H R=>c d H λx H1=>∃a,x= .ref a/\(((∃xs,Ep K H1 a xs)/\R (mC K a) H1)\/((∃xs,Kx K H1 a xs)/\R (mD K a) H1))
def ZM {i l:zr}{g:TE}(hl:PE X l g):PI X i l (ju X.K g):=by
 intro j s k H R I h;refine BY (hl j s k H _ I h) λv c ⟨x,H1,d,m,n⟩=> ?_;obtain⟨a,e,q⟩:=n;subst e;cases m;rcases q with⟨⟨xs,hq⟩,q⟩|⟨⟨xs,hq⟩,q⟩
 .obtain ⟨f,rv,p,hz⟩:=d.list hq;refine AB9 p.isList ?_;refine⟨c.heap.objs.size, [c.heap.objs.size],_,_,H1,rfl,d.kept (t':=c.toks) λb o e=>AAH _ e,Xc a _,⟨_,AAS _ rfl,rfl,rfl⟩,λb hb=> ?_,q⟩;have e:b=c.heap.objs.size:=by simpa using hb
  subst e;exact d.fpOk (AAI _) (d.hok.fresh (AAI _))
 .obtain ⟨f,rv,p,hz⟩:=d.tuple hq;refine wpAny_pyIter_tuple (show c.heap.IsTuple a f.toArray from p) ?_;refine⟨c.heap.objs.size, [c.heap.objs.size],_,_,H1,rfl,d.kept (t':=c.toks) λb o e=>AAH _ e,U8 a _,⟨_,AAS _ rfl,rfl,rfl⟩,λb hb=> ?_,q⟩;have e:b=c.heap.objs.size:=by simpa using hb
  subst e;exact d.fpOk (AAI _) (d.hok.fresh (AAI _))
def Jy (ta:AE):AI:=λτ Q=>ta τ λx=>Ni x Q
def Yp {K:AAB}{T M:zu->Prop}{H:Hp}{a:zu}{xs:zy PV}(va:Hu T M H)(r:CC K T M H (.ref a) (.tup xs)):TD K M (mD K a) xs T H:=by
 obtain⟨g,vs,e,hq,c⟩:=D7 r;cases e;refine⟨λi y h=> ?_,λi y v j h d=> ?_,λi h=>⟨vs,hq,by rw[c.length];exact h⟩⟩
 .obtain ⟨v,hv,_⟩:=c.get h;exact⟨vs,v,hq,hv⟩
 .obtain ⟨rfl,d⟩:=d;obtain⟨z,hz,f⟩:=c.get' (d vs hq);rw[h] at hz;cases hz;exact⟨.refl va.tp,f⟩
def Yn {K:AAB}{T M:zu->Prop}{H:Hp}{a:zu}{vs:zy V}{xs:zy PV}(va:Hu T M H)(hq:H a=some (.lst vs))(c:Az K T M H vs xs):TD K M (mC K a) xs T H:=by
 have d:Ep K H a vs:= .inl (.inl hq);refine⟨λi y h=> ?_,λi y v j h f=> ?_,λi h=>⟨vs,d,by rw[c.length];exact h⟩⟩
 .obtain ⟨v,hv,_⟩:=c.get h;exact⟨vs,v,d,hv⟩
 .obtain ⟨rfl,f⟩:=f;obtain⟨z,hz,g⟩:=c.get' (f vs d);rw[h] at hz;cases hz;exact⟨.refl va.tp,g⟩
def D6 {j:zr}(h:SE X e ta):SI X j e true (Jy ta):=by
 obtain⟨t,p,s⟩:=h;refine⟨_,ZM p,λB T l τ H R z m h k=>s B T l τ H _ _ m h λv x g H1 i c h1=> ?_⟩;obtain⟨xs,hx,q⟩:=IK h1;rcases hx with rfl|rfl
 .obtain ⟨a,vs,rfl,hq,n⟩:=D7 c;refine⟨a,rfl, .inr ⟨⟨vs,hq⟩,k _ xs g H1 i (λM2 o r d va _=>Yp va (c.mv d)) q⟩⟩
 .obtain ⟨a,vs,rfl,hq,A,C,n⟩:=Cz c;refine⟨a,rfl, .inl ⟨⟨vs, .inl (.inl hq)⟩,k _ xs g H1 i (λM2 o r d va _=> ?_) q⟩⟩;obtain⟨D,u,w,y,_,_,f⟩:=Cz (c.mv d);cases w;exact Yn va y f
def rng (lo:Int)(n:Nat):zy PV:=(List.range n).map λ(k:Nat)=> .int (lo+(k:Int))
def Yo {K:AAB}{T M:zu->Prop}{H:Hp}{lo:Int}{n:Nat}(va:Hu T M H):TD K M (lH lo n) (rng lo n) T H:=by
 have hl:(rng lo n).length=n:=by simp[rng]
 refine⟨λi y h=> ?_,λi y v d h c=> ?_,λi h=>by rw[hl] at h;exact h⟩
 .have:=(AAp.mp h).1;rw[hl] at this;exact this
 .obtain ⟨rfl,rfl⟩:=c;have hi:=(AAp.mp h).1;rw[hl] at hi;have:y= .int (lo+(i:Int)):=by simp[rng,List.getElem?_range hi] at h;exact h.symm
  subst this;exact⟨.refl va.tp, .int _⟩
def JF (r:AA):AI:=λτ Q=>r τ λxs=>match xs with | [.int j] =>(-(2^62)<=j/\j<2^62)/\Q (rng 0 j.toNat)|_=>False
def F7 {d c:zr}{r:AA}{p:Pos}(f:Gl X "range")(g:X.mg "range" =none)(ha:SA X [c] r)(hs:starEach [c] X.env= [(false,eval c X.env)] :=by rfl):SI X d (.Call (.Name "range" p) [c] [] pos) true (JF r):=by
 obtain⟨t,i,s⟩:=ha;refine⟨_,XM f g i hs,λB T j τ H R u l h k=>s B T j τ H _ _ l h λvs xs m H1 n o h1=> ?_⟩;split at h1 <;> first | exact h1.elim|skip
 cases o with
 | cons r t=> cases t;cases r;exact⟨_,rfl,h1.1.1,h1.1.2,k _ _ m H1 n (λM2 v w x va _=>Yo va) h1.2⟩
def HS (xs ys:zy PV):zy PV:=List.zipWith (λx y=> .tup [x,y]) xs ys
def jv (K:AAB)(ta:TA):TI:=λd H R=>ta d H λvs H1=>∃b c l m,vs= [.ref l, .ref m] /\(∃xs,Sq K b H1 l xs)/\(∃ys,Sq K c H1 m ys)/\R (mE K b c l m) H1
def cX {e f:zr}{ta:TA}{p pos g:Pos}{es:zy zr}{w:Nat}(x:Gl X "zip")(y:X.mg "zip" =none)(ha:PA X [e,f] ta)(hs:starEach [e,f] X.env= [(false,eval e X.env),(false,eval f X.env)] :=by rfl)(t:starEach [f] X.env= [(false,eval f X.env)] :=by rfl):PI X (.Tuple es w g) (.Call (.Name "zip" p) [e,f] [] pos) (jv X.K ta):=by
 intro z s A H R I h;refine Call_ (J5 I x y boot_zip (AB1 (BY (ha pos z s A H _ I h) λus d ⟨vs,H1,i,B,C⟩=> ?_) (by rw[hs,t]) (by rw[t];rfl)));obtain⟨b,c,l,m,rfl,⟨xs,hl⟩,⟨ys,D⟩,q⟩:=C;cases B with
 | cons r j=>
 cases j with
 | cons E j=>
 cases j;cases r;cases E;obtain⟨us,J,u,_⟩:=i.sq hl;obtain⟨vs,rv,sv,_⟩:=i.sq D;have k:l<d.heap.objs.size:=by cases b <;> (obtain⟨o,e,_⟩:=u;exact AAG e)
 have n:m<d.heap.objs.size:=by cases c <;> (obtain⟨o,e,_⟩:=sv;exact AAG e)
 refine ia u sv λh1 Z F=>wpAny_pyIter_zip Z.zip ?_;refine⟨_,_,_,_,H1,rfl,i.kept (t':=d.toks) F,aQ (zipApart_new k n),Z,λp hp=> ?_,q⟩;have v:d.heap.objs.size<=p:=by
  have G:p=d.heap.objs.size+4\/p=d.heap.objs.size+2\/p=d.heap.objs.size+3\/p=d.heap.objs.size\/p=d.heap.objs.size+1:=by simpa using hp
  rcases G with e|e|e|e|e <;> (rw[e];omega)
 exact i.fpOk v (i.hok.fresh v)
def fE:PV->zq | .lst _=>true|_=>false
def O2 {K:AAB}{T M:zu->Prop}{H:Hp}{v:V}{x:PV}{xs:zy PV}(hx:x= .tup xs\/x= .lst xs)(r:CC K T M H v x):∃a vs,v= .ref a/\Sq K (fE x) H a vs/\Az K T M H vs xs:=by
 rcases hx with rfl|rfl
 .obtain ⟨a,vs,rfl,hq,c⟩:=D7 r;exact⟨a,vs,rfl,hq,c⟩
 .obtain ⟨a,vs,rfl,hq,_,_,c⟩:=Cz r;exact⟨a,vs,rfl, .inl (.inl hq),c⟩
def Yq {K:AAB}{T M:zu->Prop}{H:Hp}{l m:zu}{x y:PV}{xs ys:zy PV}(va:Hu T M H)(hx:x= .tup xs\/x= .lst xs)(hy:y= .tup ys\/y= .lst ys)(r:CC K T M H (.ref l) x)(t:CC K T M H (.ref m) y):TD K M (mE K (fE x) (fE y) l m) (HS xs ys) T H:=by
 obtain⟨_,vs,e,hq,f⟩:=O2 hx r;cases e;obtain⟨_,g,e,j,c⟩:=O2 hy t;cases e;have hz:∀i z,(HS xs ys)[i]? =some z->∃a b,xs[i]? =some a/\ys[i]? =some b/\z=PV.tup [a,b] :=λi z h=>by
  unfold HS at h;rw[List.getElem?_zipWith] at h;cases d:xs[i]? with
  | none=>rw[d] at h;cases h
  | some a=>
    cases k:ys[i]? with
    | none=>rw[d,k] at h;cases h
    | some b=>rw[d,k] at h;cases h;exact⟨a,b,by first | rfl|exact d,by first | rfl|exact k,rfl⟩
 refine⟨λi z h=> ?_,λi z v D h A=> ?_,λi h=>⟨vs,g,hq,j, ?_⟩⟩
 .obtain ⟨a,b,ha,hb,_⟩:=hz i z h;obtain⟨u,hu,_⟩:=f.get ha;obtain⟨w,hw,_⟩:=c.get hb;exact⟨vs,g,u,w,hq,j,hu,hw⟩
 .obtain ⟨a,b,ha,hb,rfl⟩:=hz i z h;obtain⟨p,u,w,rfl,B,rfl,hu,hw⟩:=A;obtain⟨E,n,ra⟩:=f.get' (hu vs hq);obtain⟨F,s,C⟩:=c.get' (hw g j);rw[ha] at n;cases n;rw[hb] at s;cases s;have st:=DM.lay (o:= .tup [u,w]) va.tp B;exact⟨st, .tup (.inl Ab) (.cons (ra.stp st va) (.cons (C.stp st va) .nil))⟩
 .rw [f.length,c.length];have:(HS xs ys).length=min xs.length ys.length:=by simp[HS]
  omega
def db (r:AA):AI:=λτ Q=>r τ λc=>match c with | [x,y] =>Ni x λxs=>Ni y λys=>Q (HS xs ys)|_=>False
def XW {e f:zr}{r:AA}{p pos c:Pos}{es:zy zr}{i:Nat}(j:Gl X "zip")(n:X.mg "zip" =none)(ha:SA X [e,f] r)(hs:starEach [e,f] X.env= [(false,eval e X.env),(false,eval f X.env)] :=by rfl)(o:starEach [f] X.env= [(false,eval f X.env)] :=by rfl):SI X (.Tuple es i c) (.Call (.Name "zip" p) [e,f] [] pos) true (db r):=by
 obtain⟨t,u,s⟩:=ha;refine⟨_,cX j n u hs o,λB T v τ H R I w h k=>s B T v τ H _ _ w h λvs xs z H1 A C h1=> ?_⟩;split at h1 <;> first | exact h1.elim|skip
 rename_i x y;obtain⟨xs,hx,h2⟩:=IK h1;obtain⟨ys,hy,D⟩:=IK h2;cases C with
 | cons ra t=>
   cases t with
   | cons d t=> cases t;obtain⟨l,us,rfl,hq,J⟩:=O2 hx ra;obtain⟨m,E,rfl,F,G⟩:=O2 hy d;exact⟨fE x,fE y,l,m,rfl,⟨us,hq⟩,⟨E,F⟩,k _ _ z H1 A (λM2 K L g va _=>Yq va hx hy (ra.mv g) (d.mv g)) D⟩
def C7 (g:AG)(b:AS)(D:GB):zy PV->A7->Prop
 | [],τ=>D.nx τ
 | x::r,τ=>g x τ λc=>b {D with nx:=C7 g b D r,ct:=C7 g b D r,bk:=D.nx} c
def ED (c:AI)(g:AG)(b:AS):AS:=λD τ=>c τ λxs=>C7 g b D xs τ
def E1.mvv {K:AAB}{B:C0}{T d:zu->Prop}{H f:Hp}{c σ':L2.St}{τ τ':A7}(s:SR K B T H c τ)(p:E1 T H c τ d f σ' τ'):Mv K T (mt B c τ) H d (mt B σ' τ') f:=
 ⟨s.va,λb o t m e=>p.keep b o t (λz=>m (.inr z)) e,p.sub,λb n t=>(p.new b t).elim id λz=>absurd z n,λb n m=>m.elim .inl λz=>(p.own b z).elim .inr λz=>absurd z n⟩
def Bu {E iter:zr}{body:zy Stmt}{O:AI}{g:AG}(hp:PassesOwn (model X.prog X.w) X.A X.env X.xe)(hc:X.calm=true)(hi:SI X E iter true O)(W:SG X E g)(hb:Xg X body b)(hs:∀x,foldedSetIterable iter X.env x=pure x:=by intro _;rfl):SS X (.For E iter body [] pos) (ED O g b):=by
 obtain⟨wi,Y,Z⟩:=hi;obtain⟨tg',pg,sg⟩:=W;obtain⟨tb,pb,sb⟩:=hb;refine⟨_,UX hp hc Y pg pb hs,λB T y τ H D P Q h F=>Z B T y τ H _ _ Q h λJ xs z H1 G walk h1=> ?_⟩;have p:=Q.stp G;refine⟨λi m d r=>m=xs.length-i/\∃f c,SR X.K B f r d c/\E1 z H1 y τ f r d c/\C7 g b P (xs.drop i) c,⟨_,rfl,z,τ,p, .refl,h1⟩, ?_⟩;rintro i m d r ⟨rfl,f,c,k,l,h2⟩;have w:=walk _ f r (l.mvv p) k.va (.inl rfl);have I:=(F.shift G.prog).shift l;by_cases R:i<xs.length
 .have S:xs[i]? =some xs[i] :=AAU R;rw[ACA R] at h2;refine .inr ⟨w.go i _ S,λσ' s=>∃j τ',SR X.K B j s σ' τ'/\E1 z H1 y τ j s σ' τ'/\C7 g b P (xs.drop (i+1)) τ',λσ' s ⟨j,τ',q1,q2,q3⟩=>⟨_,by omega,rfl,j,τ',q1,q2,q3⟩,λv C yl=> ?_⟩;obtain⟨U,r3⟩:=w.yld i _ v C S yl;have L:=k.stp U;refine sg B f d c C v _ _ _ L r3 h2 λt u M o4 h4=> ?_;have n:E1 z H1 y τ f C t u:=(l.trans U.prog).trans (.less o4);have N:=(F.shift G.prog).shift n;exact sb B f t u C _ _ M h4 ⟨λj s σ' τ' q o h'=>⟨j,τ',o,n.trans q,h'⟩,N.nx,λj s σ' τ' q o h'=>⟨j,τ',o,n.trans q,h'⟩,F.rt⟩
 .rw [ADI (by omega)] at h2;exact .inl ⟨w.stop i (by omega),I.nx f r d c .refl k h2⟩
def We:zt AV->zt AV|some (.val x)=>some (.val x)|_=>none
def N3 (own:Nat)(ix:zy Nat)(τ:A7):A7:=List.replicate own none++ix.map λi=>We (Qt τ i)
def Cj (g:AG)(t:AT)(f:AE)(c:A7)(Q:zy PV->Prop):zy PV->zy PV->Prop
 | [],acc=>Q acc
 | x::r,acc=>g x c λd=>t d λok=>if ok=true then f d λy=>Cj g t f c Q r (acc ++ [y]) else Cj g t f c Q r acc
def Bz (c:AI)(own:Nat)(ix:zy Nat)(g:AG)(t:AT)(d:AE):AA:=λτ Q=>c τ λxs=>xs.length<sizeLine/\Cj g t d (N3 own ix τ) Q xs []
def X9 {own:Nat}{ix:zy Nat}{τ:A7}{j:Nat}{x:PV}(h:(N3 own ix τ)[j]? =some (some (.val x))):own<=j/\∃i,ix[j-own]? =some i/\τ[i]? =some (some (.val x)):=by
 unfold N3 at h;by_cases hj:j<own
 .rw [ABE (by simpa using hj),ABM,AAE hj] at h;cases h
 .rw [AA6 (by simpa using hj),ABN,AAm] at h;cases e:ix[j-own]? with
  | none=>rw[e] at h;cases h
  | some i=>
    rw[e] at h;refine⟨by omega,i,rfl,M6 ?_⟩;cases c:Qt τ i with
    | none=>simp[c,We] at h
    | some z=>cases z <;> simp[c,We] at h;subst h;rfl
def JH {own:Nat}{ix:zy Nat}{τ:A7}{j:Nat}{xs:zy PV}:(N3 own ix τ)[j]? ≠some (some (.own xs)):=λh=>by
 unfold N3 at h;by_cases hj:j<own
 .rw [ABE (by simpa using hj),ABM,AAE hj] at h;cases h
 .rw [AA6 (by simpa using hj),ABN,AAm] at h;cases e:ix[j-own]? with
  | none=>rw[e] at h;cases h
  | some i=>
    rw[e] at h;cases c:Qt τ i with
    | none=>simp[c,We] at h
    | some z=>cases z <;> simp[c,We] at h
def C0.blk (B:C0)(c:L2.St)(τ:A7)(D:zu):C0:=⟨B.T,B.H,λa=>mt B c τ a\/a=D⟩
def SR.blk {K:AAB}{B:C0}{T d:zu->Prop}{H f:Hp}{c:L2.St}{τ:A7}{D:zu}{h:zy V}{own:Nat}{ix:zy Nat}(s:SR K B T H c τ)(q:DM T H d f)(l:H D=none)(hd:f D=some (.lst h))(u:¬d D):SR K (B.blk c τ D) d f (Cc own ix c) (N3 own ix τ):=by
 have g:=s.stp q;have w:Mv K T (mt B c τ) H d (mt (B.blk c τ D) (Cc own ix c) (N3 own ix τ)) f:=⟨s.va,λb o t _ e=>q.keep b o t e,q.sub,λb n t=>(q.new b t).elim id λz=>absurd z n,λb n z=>by
  rcases z with(z|z)|⟨_,_,z,_⟩
  .exact z
  .subst z;exact absurd l n
  .exact absurd z JH⟩
 refine⟨by simp[Cc,N3],λj x e=> ?_,λj xs e=>absurd e JH,λj k xs ys p e=>absurd e JH,g.tp,λa m=> ?_,λa m=> ?_,g.st⟩
 .obtain ⟨hj,i,hi,y⟩:=X9 e;obtain⟨v,hv,r⟩:=s.val i x y;refine⟨v, ?_,r.mv w⟩;unfold Cc;rw[AA6 (by simpa using hj),ABN,AAm,hi];simp[hv]
 .rcases m with m|m
  .exact g.va.mu a m
  .subst m;exact⟨_,hd,LW.lst⟩
 .rcases m with m|m
  .exact g.nt m
  .subst m;exact u
def lM (X:Cx)(c:zy zr)(t:AT):Prop:=∃d,e6 X c d/\TH X.K d t
def Dd:AT:=λ_ Q=>Q true
def BK:lM X [] Dd:=⟨_,Vt,λB T d τ H Q f c h k=>k true T H (.refl c.tp) h⟩
def NU {K:AAB}{s:zq}{wi:TI}{ai:AI}{own:Nat}{ix:zy Nat}{g:TG}{ag:AG}{tt:TT}{C:AT}{te:TE}(hi:jP K s wi ai)(hg:PU K g ag)(ht:TH K tt C)(he:HM K te ta):az K (aF wi own ix g tt te) (Bz ai own ix ag C ta):=by
 intro B T E τ H Q AQ sr h k;refine hi B T E τ H _ _ sr h λJ xs T1 H1 s1 walk h1 D F=> ?_;obtain⟨hl,h1⟩:=h1;have j:=sr.stp s1;have nt1:¬T1 D:=λz=>by obtain⟨o,e,_⟩:=(j.tp D z).mut;rw[F] at e;cases e
 have lay:=DM.lay (o:= .lst []) j.tp F;refine⟨λi m G=>m=xs.length-i/\∃p vs c,DM T1 H1 p G/\G D=some (.lst vs)/\¬p D/\Az K p (λa=>mt B E τ a\/a=D) G vs c/\c.length<=i/\Cj ag C ta (N3 own ix τ) AQ (xs.drop i) c,
  ⟨_,rfl,T1, [], [],lay,Ab,nt1, .nil,AAI _,h1⟩, ?_⟩
 rintro i m G ⟨rfl,p,vs,c,r,Z,f,r2,bR,h2⟩;have I:=j.blk (own:=own) (ix:=ix) r F Z f;have L:Hu p (λa=>mt B E τ a\/a=D) G:=⟨I.tp,I.bm⟩;have w:=walk (λa=>mt B E τ a\/a=D) p G ⟨j.va,λb o t _ e=>r.keep b o t e,r.sub,λb n t=>(r.new b t).elim id λz=>absurd z n,λb n z=>z.elim id λz=>by subst z;exact absurd F n⟩ L (.inr r.keep);by_cases FC:i<xs.length
 .have Yg:xs[i]? =some xs[i] :=AAU FC;rw[ACA FC] at h2;refine .inr ⟨w.go i _ Yg,λv H3 yl=> ?_⟩;obtain⟨P,r3⟩:=w.yld i _ v H3 Yg yl;have l:=I.stp P;refine hg _ p _ _ H3 v _ _ _ l (r3.mv (.anti ⟨l.tp,l.bm⟩ λa z=>z.elim id λ⟨_,_,z,_⟩=>absurd z JH)) h2 λR S U o4 h4=> ?_;refine ht _ p R S H3 _ _ U h4 λok T5 H5 N h5=> ?_;have u:=U.stp N;have ik:=P.keep D _ f Z;have lR:=N.keep D _ f ik;have M:¬T5 D:=λz=>(N.new D z).elim f λn=>by rw[n] at ik;cases ik
  have r5:=(r2.stp P L).stp N ⟨l.tp,l.bm⟩;cases ok with
  | false=> rw[AAC AAR] at h5 ⊢;exact⟨_,by omega,rfl,T5,vs,c,(r.trans P).trans N,lR,M,r5,by omega,h5⟩
  | true=>
    rw[AAE rfl] at h5 ⊢;refine he _ T5 R S H5 _ _ u h5 λvy y O H6 W r6 h6=> ?_;have A:=u.stp W;have tj:=W.keep D _ M lR;have Y:¬O D:=λz=>(W.new D z).elim M λn=>by rw[n] at lR;cases lR
    have va6:Hu O (λa=>mt B E τ a\/a=D) H6:=⟨A.tp,A.bm⟩;have r7:=r5.stp W ⟨u.tp,u.bm⟩;have s7:=((r.trans P).trans N).trans W;have tp8:∀a,O a->E2 (upd H6 D (.lst (vs ++ [vy]))) a:=λa t=>by obtain⟨d,x,e,z⟩:=A.tp a t;exact⟨d,x,by rw[Ad (λw=>by subst w;exact Y t)];exact e,z⟩
    have mv8:Mv K O (λa=>mt B E τ a\/a=D) H6 O (λa=>mt B E τ a\/a=D) (upd H6 D (.lst (vs ++ [vy]))):=⟨va6,λb o _ m e=>by rw[Ad (λw=>m (.inr w))];exact e,λ_ t=>t,λ_ _ t=>t,λ_ _ z=>z⟩;refine⟨vs,tj,by rw[r2.length];omega,_,(by omega:xs.length-(i+1)<xs.length-i),rfl,O,vs ++ [vy],c ++ [y],⟨λb o t e=> ?_,s7.sub,s7.new,tp8⟩,Ab,Y,(r7.append (.cons (r6.mv (.anti A.va λa z=> .inl z)) .nil)).mv mv8,by simp;omega,h6⟩;rw[Ad (Ah e F)];exact s7.keep b o t e
 .rw [ADI (by omega)] at h2;refine .inl ⟨w.stop i (by omega), ?_⟩;exact k D vs c p G (s1.trans r) (j.add r F Z LW.lst f) (s1.none F) Z f (r2.mv (.anti L λa z=>by
   rcases z with(z|z)|z
   .exact .inl (.inl z)
   .exact .inr z
   .exact .inl (.inr z))) h2
structure VC (X:Cx) (tg elt:Expr) (ifs:List Expr) (scope:Scope) (own:Nat) (ix:List Nat) (N:List Str) (g:AG) (t:AT) (te:AE):Prop where
 ex:∃g' t' te',FU X tg elt ifs scope own ix N g' t' te'/\PU X.K g' g/\TH X.K t' t/\HM X.K te' te
def Bi {f c iter:zr}{d:zy zr}{scope:Scope}{own:Nat}{ix:zy Nat}{N:zy Str}{g:AG}{t:AT}{s:zq}{h:AI}(hc:X.calm=true)(hi:SI X f iter s h)(O:VC X f c d scope own ix N g t ta)(hs:∀x,foldedSetIterable iter X.env x=pure x:=by intro _;rfl):SF X (.ListComp c [⟨f,iter,d,0⟩] scope pos) (Bz h own ix g t ta):=by obtain⟨n,i,j⟩:=hi;obtain⟨g',t',k,O,l,st,m⟩:=O.ex;exact⟨_,cS hc i O hs,NU j l st m⟩
def Z5 {i:Nat}{x:Str}{pos' c:Pos}{h d iter:zr}{f:zy zr}{scope:Scope}{own:Nat}{ix:zy Nat}{N:zy Str}{g:AG}{t:AT}{s:zq}{j:AI}(hc:X.calm=true)(hN:X.N.Nodup)(k:X.N[i]? =some x)(hx:Loc X.env.scope x)(hi:SI X h iter s j)(O:VC X h d f scope own ix N g t ta)(l:swapsWith (.ListComp d [⟨h,iter,f,0⟩] scope pos) (some (.Name x pos')) c.line X.env=pure true:=by rfl)(hs:∀x,foldedSetIterable iter X.env x=pure x:=by intro _;rfl)(m:X.fn x=true\/X.env.scope.names.lookup x=some .local:=by first | exact .inl rfl|exact .inr rfl|assumption):SS X (.Assign [.Name x pos'] (.ListComp d [⟨h,iter,f,0⟩] scope pos) c) (GR (Bz j own ix g t ta) i):=by obtain⟨v,n,o⟩:=hi;obtain⟨g',t',p,O,r,st,u⟩:=O.ex;exact⟨_,Vv hc hN k hx n O l hs m,WC (NU o r st u)⟩
def Nb {i:Nat}{x:Str}{pos' c:Pos}{h d iter:zr}{f:zy zr}{scope:Scope}{own:Nat}{ix:zy Nat}{N:zy Str}{g:AG}{t:AT}{s:zq}{j:AI}(hc:X.calm=true)(hN:X.N.Nodup)(k:X.N[i]? =some x)(hx:Loc X.env.scope x)(hi:SI X h iter s j)(O:VC X h d f scope own ix N g t ta)(l:swapsWith (.ListComp d [⟨h,iter,f,0⟩] scope pos) (some (.Name x pos')) c.line X.env=pure true:=by rfl)(hs:∀x,foldedSetIterable iter X.env x=pure x:=by intro _;rfl)(m:X.fn x=true\/X.env.scope.names.lookup x=some .local:=by first | exact .inl rfl|exact .inr rfl|assumption):SS X (.Assign [.Name x pos'] (.ListComp d [⟨h,iter,f,0⟩] scope pos) c) (Aj (Ej (Bz j own ix g t ta)) (Ak i)):=by obtain⟨v,n,o⟩:=hi;obtain⟨g',t',p,O,r,st,u⟩:=O.ex;exact⟨_,Vv hc hN k hx n O l hs m,Qg (Zx (NU o r st u)) Qi⟩
end
def Ka (N:Nat)(xs:zy PV):A7:=xs.map (λx=>some (.val x))++List.replicate (N-xs.length) none
def Am (N:Nat)(b:AS):AF:=λxs Q=>b {nx:=λ_=>Q .non,rt:=Q,bk:=λ_=>False,ct:=λ_=>False} (Ka N xs)
def Z9 {K:AAB}{T M:zu->Prop}{H:Hp}{N:zy Str}{vs:zy V}{xs:zy PV}(va:Hu T M H)(b:∀a,M a->¬T a)(r:Az K T M H vs xs):SR K ⟨T,H,M⟩ T H (start N vs) (Ka N.length xs):=by
 have c:∀(j:Nat) (ys:zy PV),(Ka N.length xs)[j]? ≠some (some (.own ys)):=λj ys h=>by
  unfold Ka at h;by_cases hj:j<xs.length
  .rw [ABE (by simpa using hj),AAm,AAU hj] at h;cases h
  .rw [AA6 (by simpa using hj),ABM] at h;split at h <;> cases h
 refine⟨by simp[L2.start,Ka,r.length],λj x h=> ?_,λj ys h=>absurd h (c j ys),λj k ys d p h=>absurd h (c j ys),va.tp,va.mu,b, .refl va.tp⟩;unfold Ka at h;by_cases hj:j<xs.length
 .rw [ABE (by simpa using hj),AAm,AAU hj] at h;cases h;obtain⟨v,hv,rv⟩:=r.get (AAU hj);refine⟨v, ?_,rv.mv (.anti va λa m=>m.elim id λ⟨_,_,z,_⟩=>absurd z (c _ _))⟩;unfold L2.start;rw[ABE (by rw[AAJ,r.length];exact hj),AAm,hv];rfl
 .rw [AA6 (by simpa using hj),ABM] at h;split at h <;> cases h
section
variable {P:zp}{w:zm}{K:AAB}{mg:Str->zt zx}{base:zl}
def bK {x qual:Str}{st:Stmt}{f:zu}{i:FuncData}{N c:zy Str}{k n:Nat}{b:AS}(F:TC K x qual st f i)(S:EC N c (BG st))(j:n=c.length)(l:∀(a:zx) (A:zk) (outer:zy Env) (s:zw) (H:Hp) (E:XK),Room k (A.deeper (envOfC qual (BG st) s.heap.objs.size f a))-> Xg (RR Q9 P w K mg base N qual (BG st) f a A outer s H E).nox (Dv st) b):EZ P w K mg base Q9 (k+1) f i c (Cq K n (Am N.length b)):=by
 refine F.ok S (λvs H Q E h=> ?_) (λa A outer s H vs Q E m h=> ?_)
 .obtain ⟨T,M,xs,o,_,_,r,hl,_⟩:=h;rw[r.length,hl,j]
 .obtain ⟨T,M,xs,o,va,d,r,hl,hF,hQ⟩:=h;obtain⟨t,p,u⟩:=l a A outer s H E m;refine⟨t,p,u ⟨T,H,M⟩ T _ _ H _ _ (Z9 va d r) hF ⟨λe g σ' τ' _ y q=> ?_,λ_ _ _ _ _ _ q=>q.elim,λ_ _ _ _ _ _ q=>q.elim,λv x e g z B q=>hQ v x e g z B q⟩⟩;exact hQ _ _ e g y.st .non q
end
section
variable {X:Cx}
def YD {prog:zp}{w:zm}{A:zk}{E:zx->zw->Prop}{s:zw}{t b:zu}{d:zy zx}{Q:zx->zw->Prop}(j:IsTup s.heap t #[])(hb:IsTup s.heap b d.toArray)(k:Q (.ref b) s):wpAny (model prog w) A (binaryOp .Add (.ref t) (.ref b)) Q E s:=by
 obtain⟨⟨cls,l,data,m⟩,e,hc,n,hd⟩:=id j;obtain⟨⟨f,a,data2,c⟩,g,h,o,i⟩:=id hb;simp only at hc hd h i;subst hc hd h i;exact concat_meets ⟨_,e,rfl⟩ ⟨_,g,rfl⟩ ADB seq_tuple_add ADC ADD (ADE _ _)
  (tuple_addW0 t b #[] d.toArray n o l a m c (by simp)) ⟨e,g,k⟩
def ZW (K:AAB):R2:=λx y H Q=>∃a b ys,x= .ref a/\y= .ref b/\Kx K H a [] /\Kx K H b ys/\Q (.ref b) H
def Y8:EN X (binaryOp .Add) (ZW X.K):=by intro k s l H x y v u Q I d e h;obtain⟨a,b,ys,rfl,rfl,ha,hb,q⟩:=h;cases d;cases e;obtain⟨f,g,i,_⟩:=I.tuple ha;obtain⟨c,m,j,_⟩:=I.tuple hb;cases g;exact YD i j ⟨.ref b,H,I,rfl,q⟩
def d4 (K:AAB):R2:=λx y H Q=>((OL (λi j=>V.int (i+j)) x y H Q\/kH x y H Q)\/d5 K x y H Q)\/ZW K x y H Q
def Bl:Iq:=λx y Q=>match x,y with
 | .int i, .int j=>Q (.int (i+j))
 | .lst xs, .lst ys=>xs.length+ys.length<=sizeLine/\Q (.lst (xs++ys))
 | .tup xs, .tup ys=>xs.length+ys.length<=sizeLine/\Q (.tup (xs++ys))
 | _,_=>False
def BA:EN X (binaryOp .Add) (d4 X.K)/\CQ X.K (d4 X.K) Bl:=by
 refine⟨((GW.or gZ).or cP).or Y8,λT M H u v x y Q r va g rv h k=> ?_⟩;unfold Bl at h;split at h <;> first | exact h.elim|skip
 .exact .inl (.inl (.inl ⟨_,_,g.toI,rv.toI,k _ _ T H (.refl va.tp) (.int _) h⟩))
 .obtain ⟨a,vs,rfl,hq,s,t,d⟩:=Cz g;obtain⟨b,f,rfl,i,j,l,c⟩:=Cz rv;refine .inl (.inl (.inr ⟨a,b,vs,f,rfl,rfl,hq,i,by rw[d.length,c.length];exact h.1,λp hp=> ?_⟩));have st:=DM.lay (o:= .lst (vs++f)) va.tp hp;have m:¬T p:=λz=>by obtain⟨o,e,_⟩:=(va.tp p z).mut;rw[hp] at e;cases e
  have n:¬M p:=λz=>by obtain⟨o,e,_⟩:=va.mu p z;rw[hp] at e;cases e
  exact k _ _ T _ st (.lst Ab m n ((d.append c).stp st va)) h.2
 .obtain ⟨a,vs,rfl,hq,d⟩:=D7 g;obtain⟨b,f,rfl,i,c⟩:=D7 rv;by_cases e:vs= []
  .subst e;cases d;exact .inr ⟨a,b,f,rfl,rfl,hq,i,k _ _ T H (.refl va.tp) rv (by simpa using h.2)⟩
  .refine .inl (.inr ⟨a,b,vs,f,rfl,rfl,hq,i,e,by rw[d.length,c.length];exact h.1,λz=> ?_,λz p hp=> ?_⟩)
   .subst z;cases c;exact k _ _ T H (.refl va.tp) g (by simpa using h.2)
   .have st:=DM.lay (o:= .tup (vs++f)) va.tp hp;exact k _ _ T _ st (.tup (.inl Ab) ((d.append c).stp st va)) h.2
def HQ {prog:zp}{w:zm}{A:zk}{E:zx->zw->Prop}{s:zw}{t b:zu}{items:Array zx}{c d:zx}{lo hi:zt Int}{Q:zx->zw->Prop}(a:IsTup s.heap t items)(hs:s.heap.IsSliceOf b c d .none)(e:IsPart c lo)(f:IsPart d hi)(hw:HT.sIx items.size 0 lo=0/\HT.sIx items.size items.size hi=items.size)(h:Q (.ref t) s):wpAny (model prog w) A (getItem (.ref t) (.ref b)) Q E s:=by
 obtain⟨os,g,i,l⟩:=id hs;have j:s.TypeIs (.ref b) "slice" :=⟨os,g,i⟩;obtain⟨m,n,o,p,r⟩:=id a;unfold getItem;try with_reducible refine AAk ?_
 first | refine AAA (AAD ?_)|skip
 refine AAA (wpAny_sequenceKey a.typeIs (by decide) ?_);refine AAA (ABO (name:=Str.ofString "__getitem__") a.typeIs ABn
  (AAw ABn a.typeIs entry_tuple_getitem ?_ (args_tuple_getitem _ _)))
 show wpAny _ _ (Builtin.Tuple.tupleItemsOf (.ref t) >>= _) _ _ s;refine AAA (tupleItemsOf_ a ?_);refine AAA (AB6 j ?_);rw[AAE (by decide)];refine AAA (HT.sliceApplied_gen hs e f ?_);have k:((((HT.sIx items.size 0 lo:Nat):Int)==0&&(1:Int)==1&&(HT.sIx items.size items.size hi-HT.sIx items.size 0 lo)==items.size)=true):=by rw[hw.1,hw.2];simp
 show wpAny _ _ (if (((HT.sIx items.size 0 lo:Nat):Int)==0&&(1:Int)==1&&(HT.sIx items.size items.size hi-HT.sIx items.size 0 lo)==items.size)=true then _ else _) _ _ s;rw[AAE k];unfold Builtin.Tuple.tupleIsExact;simp only[bind_assoc,pure_bind];refine AAA (AB6 a.typeIs ?_);rw[AAE (by decide)];exact AAA (ABI (AAD ⟨_,rfl,AAD h⟩))
def ng (K:AAB):V->zt Int->zt Int->Hp->VK->Prop:=λx lo hi H Q=>∃a xs,x= .ref a/\Kx K H a xs/\
 (HT.sIx xs.length 0 lo=0/\HT.sIx xs.length xs.length hi=xs.length)/\Q (.ref a) H
def dC:dZ X (ng X.K):=by
 intro i s j H x v k l lo hi m Q I d hs e f h;obtain⟨a,xs,rfl,hx,hw,q⟩:=h;cases d;obtain⟨b,r,c,hz⟩:=I.tuple hx;have g:b.toArray.size=xs.length:=by rw[AAP];exact r.length.symm
 refine⟨"tuple",_,ABn.lookup,c.typeIs, ?_⟩;exact HQ c hs e f (by rw[g];exact hw) ⟨.ref a,H,I,rfl,q⟩
def IB (xs:zy PV)(lo hi:zt Int):zy PV:=(xs.drop (HT.sIx xs.length 0 lo)).take (HT.sIx xs.length xs.length hi-HT.sIx xs.length 0 lo)
def VR {K:AAB}{T M:zu->Prop}{H:Hp}{vs:zy V}{xs:zy PV}(r:Az K T M H vs xs)(lo hi:zt Int):Az K T M H (N6 vs lo hi) (IB xs lo hi):=by unfold N6 IB;rw[r.length];exact(r.drop _).take _
abbrev AO:=A7->(zt Int->Prop)->Prop
def mH (K:AAB)(t:TO)(a:AO):Prop:=∀(B:C0) (T:zu->Prop) (b:L2.St) (τ:A7) (H:Hp) (Q:zt Int->Hp->Prop) (c:zt Int->Prop),SR K B T H b τ->a τ c->
 (∀o e d,DM T H e d->c o->Q o d)->t b H Q
def SO (X:Cx)(e:zt zr)(a:AO):Prop:=∃t,PO X e t/\mH X.K t a
def X7:AO:=λ_ Q=>Q none
def X8 (a:AE):AO:=λτ Q=>a τ λx=>Xk x λi=>Q (some i)
def dD:SO X none X7:=⟨_,cY,λB T b τ H Q c a h k=>k _ T H (.refl a.tp) h⟩
def dE {e:zr}{a:AE}(h:SE X e a):SO X (some e) (X8 a):=by obtain⟨t,p,s⟩:=h;refine⟨_,cZ p,λB T b τ H Q j c h k=>s B T b τ H _ _ c h λv x d H1 f g h1=> ?_⟩;obtain⟨i,rfl,q⟩:=US h1;exact⟨i,g.toI,k _ d H1 f q⟩
@[irreducible] def Wt (x:PV)(lo hi:zt Int)(Q:PV->Prop):Prop:=match x with | .tup xs=>Q (.tup (IB xs lo hi)) | .lst xs=>Q (.lst (IB xs lo hi))|_=>False
def WE {xs:zy PV}{lo hi:zt Int}{Q:PV->Prop}(h:Q (.tup (IB xs lo hi))):Wt (.tup xs) lo hi Q:=by unfold Wt;exact h
def EH {xs:zy PV}{lo hi:zt Int}{Q:PV->Prop}(h:Q (.lst (IB xs lo hi))):Wt (.lst xs) lo hi Q:=by unfold Wt;exact h
def X6 (a:AE)(l h:AO):AE:=λτ Q=>a τ λx=>l τ λlo=>h τ λhi=>Wt x lo hi Q
def Jk {e:zr}{lo hi:zt zr}{E r:Pos}{D:AE}{l h:AO}(he:SE X e D)(hl:SO X lo l)(F:SO X hi h):SE X (.Subscript e (.Slice lo hi none E) r) (X6 D l h):=by
 obtain⟨t,p,s⟩:=he;obtain⟨P,G,u⟩:=hl;obtain⟨R,w,y⟩:=F;refine⟨_,ZJ ((dB.or iI).or dC) p G w,λB T n τ H Q S f h k=>s B T n τ H _ _ f h λv x I H1 g J h1=> ?_⟩;refine u B I n τ H1 _ _ (f.stp g) h1 λlo K L i h2=> ?_;refine y B K n τ L _ _ ((f.stp g).stp i) h2 λhi T3 M A d=> ?_;have b:=((f.stp g).stp i).stp A;have C:=(J.stp i (f.stp g).va).stp A ((f.stp g).stp i).va;have c:=(g.trans i).trans A;unfold Wt at d;split at d <;> first | exact d.elim|skip
 .obtain ⟨a,vs,rfl,hq,j⟩:=D7 C;by_cases hw:HT.sIx vs.length 0 lo=0/\HT.sIx vs.length vs.length hi=vs.length
  .refine .inr ⟨a,vs,rfl,hq,hw,k _ _ T3 M c C ?_⟩;rename_i xs;have:IB xs lo hi=xs:=by unfold IB;rw[<-j.length,hw.1,hw.2,j.length];simp
   rw[this] at d;exact d
  .refine .inl (.inr ⟨a,vs,rfl,hq,hw,λq m=> ?_⟩);have st:=DM.lay (o:= .tup (N6 vs lo hi)) b.tp m;exact k _ _ T3 _ (c.trans st) (.tup (.inl Ab) ((VR j lo hi).stp st b.va)) d
 .obtain ⟨a,vs,rfl,hq,U,W,j⟩:=Cz C;refine .inl (.inl ⟨a,vs,rfl, .inl (.inl hq),λq m=> ?_⟩);have st:=DM.lay (o:= .lst (N6 vs lo hi)) b.tp m;have N:¬T3 q:=λz=>by obtain⟨o,e,_⟩:=(b.tp q z).mut;rw[m] at e;cases e
  have O:¬mt B n τ q:=λz=>by obtain⟨o,e,_⟩:=b.va.mu q z;rw[m] at e;cases e
  exact k _ _ T3 _ (c.trans st) (.lst Ab N O ((VR j lo hi).stp st b.va)) d
end
def BB:AF:=λxs Q=>match xs with | [.tape, .int m] =>(0<m/\m<4611686018427387904)/\∀r,0<=r->r<m->Q (.int r)|_=>False
def Mf:AF:=λxs Q=>match xs with | [.scr ns, .int k] =>(0<=k/\k<=1000)/\Q .tape|_=>False
def jI (g:TG):Prop:=∀v b H Q c,(∀a d,Q a d->c a d)->g v b H Q->g v b H c
def eY (g:TL):Prop:=∀v b H Q c,(∀a d,Q a d->c a d)->g v b H Q->g v b H c
def SK (own:Nat)(X:Cx)(a:zr)(b:AG):Prop:=∃g,PG X a g/\PU X.K g b/\Mh own g/\jI g
def lN (own:Nat)(X:Cx)(a:zy zr)(b:Sw):Prop:=∃g,ic X a g/\OZ X.K g b/\Mi own g/\eY g
section
variable {X:Cx}{pos:Pos}{own:Nat}
def dA {i:Nat}{x:Str}(hN:X.N.Nodup)(hi:X.N[i]? =some x)(hx:Loc X.env.scope x)(hk:i<own)(a:X.fn x=true\/X.env.scope.names.lookup x=some .local:=by first | exact .inl rfl|exact .inr rfl|assumption):SK own X (.Name x pos) (Ak i):=
 ⟨_,EF hN hi hx a,Qi,Pg hk,Ln⟩
def Jm:lN own X [] Bq:=⟨_,Ja,Sf,Vb,Ph⟩
def Cp {e:zr}{es:zy zr}{b:AG}{a:Sw}(h1:SK own X e b)(h2:lN own X es a)(hs:(assignEach (e::es) X.env).map (·.2)=assign e X.env::(assignEach es X.env).map (·.2):=by rfl):lN own X (e::es) (AZ b a):=
 let ⟨_,p,s,k,m⟩:=h1;let ⟨_,d,f,g,c⟩:=h2;⟨_,DY p d hs,Oz s f,Mw k m g c,RX m c⟩
end
def lQ (K:AAB)(own:Nat)(d:AG):TG:=λv a H Q=>∃(B:C0) (T:zu->Prop) (τ:A7) (x:PV) (c:A7->Prop),SR K B T H a τ/\CC K T (mt B a τ) H v x/\d x τ c/\
 ∀σ' τ',SR K B T H σ' τ'->(∀b,Cv σ' τ' b->Cv a τ b)->c τ'->(σ'.length=a.length/\∀j,own<=j->σ'[j]? =a[j]?)->Q σ' H
def n8 (K:AAB)(a:AT):TT:=λe H Q=>∃(B:C0) (T:zu->Prop) (τ:A7) (c:zq->Prop),SR K B T H e τ/\a τ c/\∀b f d,DM T H f d->c b->Q b d
def mQ (K:AAB)(a:AE):TE:=λc H Q=>∃(B:C0) (T:zu->Prop) (τ:A7) (d:PV->Prop),SR K B T H c τ/\a τ d/\∀v x e b,DM T H e b->CC K e (mt B c τ) b v x->d x->Q v b
def c5 {K:AAB}{own:Nat}{a:AG}:PU K (lQ K own a) a:=λB T d τ H v x Q b c r h k=>⟨B,T,τ,x,b,c,r,h,λσ' τ' s o q _=>k σ' τ' s o q⟩
def Yt {K:AAB}{own:Nat}{a:AG}:Mh own (lQ K own a):=λv d H Q ⟨B,T,τ,x,b,c,r,h,k⟩=>⟨B,T,τ,x,b,c,r,h,λσ' τ' s o q z=>⟨k σ' τ' s o q z,z⟩⟩
def c7 {K:AAB}{a:AT}:TH K (n8 K a) a:=λB T d τ H Q b c h k=>⟨B,T,τ,b,c,h,k⟩
def c4 {K:AAB}{a:AE}:HM K (mQ K a) a:=λB T d τ H Q b c h k=>⟨B,T,τ,b,c,h,k⟩
section
variable {X:Cx}
def SK.of {own:Nat}{e:zr}{f:AG}(h:SK own X e f):PG X e (lQ X.K own f):=by obtain⟨g,p,s,k,m⟩:=h;intro j l a H v u Q I r hw;obtain⟨B,T,τ,x,i,n,t,h,c⟩:=hw;have h1:g v a H λσ' w=>w=H/\∃τ',SR X.K B T H σ' τ'/\(∀b,Cv σ' τ' b->Cv a τ b)/\i τ':=s B T a τ H v x _ i n t h λσ' τ' s o q=>⟨rfl,τ',s,o,q⟩;have h2:=k v a H _ h1;refine p j l a H v u Q I r (m v a H _ _ (λd D q=> ?_) h2);obtain⟨⟨rfl,τ',y,A,C⟩,z⟩:=q;exact c d τ' y A C z
def lM.of {b:zy zr}{a:AT}(h:lM X b a):e6 X b (n8 X.K a):=by obtain⟨t,p,s⟩:=h;intro e f d H Q I hw;obtain⟨B,T,τ,g,i,h,c⟩:=hw;exact p e f d H Q I (s B T d τ H Q g i h c)
def SE.of {e:zr}{a:AE}(h:SE X e a):PE X e (mQ X.K a):=by obtain⟨t,p,s⟩:=h;intro d f b H Q I hw;obtain⟨B,T,τ,g,i,h,c⟩:=hw;exact p d f b H Q I (s B T b τ H Q g i h c)
def Br {f a:zr}{b:zy zr}{scope:Scope}{own:Nat}{ix:zy Nat}{N:zy Str}{g:AG}{t:AT}{c:AE}(h1:scope.kind= .function)(h2:(scope.names.all λy=> !decide (y.2= .cell))=true)(h:(scope.names.all λy=> !decide (y.2= .local)||decide (scope.names.lookup y.1=some .local))=true)(i:(scope.names.all λy=> !decide (y.2= .free)||decide (X.env.scope.names.lookup y.1=some .cell))=true)(j:N.length=own+ix.length)(k:Tj X (relabel scope X.env) own ix N=true)(d:∀cl C s H ex pn,SK own (blk X (relabel scope X.env) N cl C s H ex pn) f g)(e:∀cl C s H ex pn,lM (blk X (relabel scope X.env) N cl C s H ex pn) b t)(val:∀cl C s H ex pn,SE (blk X (relabel scope X.env) N cl C s H ex pn) a c):VC X f a b scope own ix N g t c:=
 ⟨lQ X.K own g,n8 X.K t,mQ X.K c,VQ h1 h2 h i j k Yt (λcl C s H ex pn=>(d cl C s H ex pn).of) (λcl C s H ex pn=>(e cl C s H ex pn).of) (λcl C s H ex pn=>(val cl C s H ex pn).of),c5,c7,c4⟩
end
mutual
def pd:PV->PyData
 | .bl b=> .bool b
 | .int i=> .int i
 | .str x=> .str x
 | .tup xs=> .tuple (QH xs)
 | .lst xs=> .list (QH xs)
 | _=> .none
def QH:zy PV->zy PyData
 | [] => []
 | x::xs=>pd x::QH xs
end
mutual
def EA:Nat->PV->zq
 | _, .non=>true
 | _, .bl _=>true
 | _, .int _=>true
 | _, .str x=>PyData.strOk x
 | n+1, .tup xs=>KC n xs
 | n+1, .lst xs=>KC n xs
 | _,_=>false
def KC:Nat->zy PV->zq
 | _, [] =>true
 | n,x::xs=>EA n x&&KC n xs
end
mutual
theorem Ff:∀(n:Nat) (x:PV),EA n x=true->(pd x).canLay0=true/\(pd x).depth<=n/\(pd x).hasDict=false
 | n, .non,_=>⟨rfl,AAq _,rfl⟩
 | n, .bl _,_=>⟨rfl,AAq _,rfl⟩
 | n, .int _,_=>⟨rfl,AAq _,rfl⟩
 | n, .str x,h=>⟨by simpa[pd,PyData.canLay0,EA] using h,AAq _,rfl⟩
 | 0, .tup xs,h=>by simp[EA] at h
 | 0, .lst xs,h=>by simp[EA] at h
 | n+1, .tup xs,h=>by obtain⟨a,b,c⟩:=M9 n xs (by simpa[EA] using h);exact⟨by simpa[pd,PyData.canLay0] using a,by simpa[pd,PyData.depth] using b,by simpa[pd,PyData.hasDict] using c⟩
 | n+1, .lst xs,h=>by obtain⟨a,b,c⟩:=M9 n xs (by simpa[EA] using h);exact⟨by simpa[pd,PyData.canLay0] using a,by simpa[pd,PyData.depth] using b,by simpa[pd,PyData.hasDict] using c⟩
 | n, .tape,h=>by simp[EA] at h
 | n, .scr _,h=>by simp[EA] at h
 | n, .ty _,h=>by simp[EA] at h
 | n, .dct _,h=>by simp[EA] at h
 | n, .dk _,h=>by simp[EA] at h
theorem M9:∀(n:Nat) (xs:zy PV),KC n xs=true->PyData.canLayAll0 (QH xs)=true/\PyData.depthAll (QH xs)<=n/\PyData.hasDictAll (QH xs)=false
 | n, [],_=>⟨rfl,AAq _,rfl⟩
 | n,x::xs,h=>by simp only[KC,AAf] at h;obtain⟨a,b,c⟩:=Ff n x h.1;obtain⟨d,f,e⟩:=M9 n xs h.2;exact⟨by simp[QH,PyData.canLayAll0,a,d],by simp only[QH,PyData.depthAll];omega,by simp[QH,PyData.hasDictAll,c,e]⟩
end
section
variable {X:Cx}{zj:zy (zu×Obj)}{σ:L2.St}{H:Hp}{s:zw}
mutual
theorem FP (I:Inv X zj σ H s){T M:zu->Prop}:∀(n:Nat) {x:PV} {v:V} {u:zx},CC X.K T M H v x->EA n x=true->RelV v u->∃as,Reads s.heap u (pd x) as
 | _,_,_,_, .non,_,r=>by cases r;exact⟨_, .none⟩
 | _,_,_,_, .bl b,_,r=>by cases r;exact⟨_, .bool b⟩
 | _,_,_,_, .int i,_,r=>by obtain⟨t,rfl⟩:=r;exact⟨_, .int i t⟩
 | _,_,_,_, .str x,_,r=>by obtain⟨t,rfl⟩:=r;exact⟨_, .str x t⟩
 | _,_,_,_, .ty n,h,r=>by simp[EA] at h
 | 0,_,_,_, .tup hq rs,h,r=>by simp[EA] at h
 | 0,_,_,_, .lst hq t m rs,h,r=>by simp[EA] at h
 | n+1,_,_,_, .tup hq rs,h,r=>by cases r;obtain⟨a,rv,⟨o,c,hc,k,hd⟩,_⟩:=I.tuple hq.sq;obtain⟨as,ra⟩:=GX I n rs (by simpa[EA] using h) rv;exact⟨_, .tuple c hc hd (by simpa using ra)⟩
 | n+1,_,_,_, .lst hq t m rs,h,r=>by cases r;obtain⟨a,rv,⟨o,k,c,hc,_,hd⟩,_⟩:=I.list (Ep.of hq);obtain⟨as,ra⟩:=GX I n rs (by simpa[EA] using h) rv;exact⟨_, .list c hc hd (by simpa using ra)⟩
 | _,_,_,_, .tape _,h,r=>by simp[EA] at h
 | _,_,_,_, .scr _,h,r=>by simp[EA] at h
 | _,_,_,_, .dct _ _ _,h,r=>by simp[EA] at h
 | _,_,_,_, .dk _ _,h,r=>by simp[EA] at h
theorem GX (I:Inv X zj σ H s){T M:zu->Prop}:∀(n:Nat) {xs:zy PV} {vs:zy V} {us:zy zx},Az X.K T M H vs xs->KC n xs=true->Ao vs us->∃as,ReadsAll s.heap us (QH xs) as
 | _,_,_,_, .nil,_,r=>by cases r;exact⟨_, .nil⟩
 | n,_,_,_, .cons h t,hk,r=>by
   simp only[KC,AAf] at hk;cases r with
   | cons r a=> obtain⟨as,ra⟩:=FP I n h hk.1 r;obtain⟨bs,b⟩:=GX I n t hk.2 a;exact⟨_, .cons ra b⟩
end
end
section
variable {X:Cx}
def fQ (x y:PV):zq:=PyData.eqv (pd x) (pd y)
def cm (K:AAB)(neg:zq):R2:=λu v H Q=>∃(T M:zu->Prop) (x y:PV),CC K T M H u x/\CC K T M H v y/\EA 30 x=true/\EA 30 y=true/\Q (.bl (if neg then !fQ x y else fQ x y)) H
def ga {k:Nat}(c:Room k X.A):EN X (compareOp .Eq) (cm X.K false):=by intro l s m H u v n o Q I d rv h;obtain⟨T,M,x,y,e,f,a,b,q⟩:=h;obtain⟨as,ra⟩:=FP I 30 e a d;obtain⟨bs,g⟩:=FP I 30 f b rv;obtain⟨i,p,_⟩:=Ff 30 x a;obtain⟨j,b2,_⟩:=Ff 30 y b;exact SeqAt.compareEq_reads ra g i j (by have:=c.un;omega) ⟨.bl _,H,I,rfl,q⟩
def gc {k:Nat}(c:Room k X.A):EN X (compareOp .NotEq) (cm X.K true):=by intro l s m H u v n o Q I d rv h;obtain⟨T,M,x,y,e,f,a,b,q⟩:=h;obtain⟨as,ra⟩:=FP I 30 e a d;obtain⟨bs,g⟩:=FP I 30 f b rv;obtain⟨i,p,_⟩:=Ff 30 x a;obtain⟨j,b2,_⟩:=Ff 30 y b;exact SeqAt.compareNe_reads ra g i j (by have:=c.un;omega) ⟨.bl _,H,I,rfl,q⟩
def Nh:Iq:=λx y Q=>match Zl x y with | some b=>Q (.bl b)|none=>(EA 30 x=true/\EA 30 y=true)/\Q (.bl (fQ x y))
def Ws:Iq:=λx y Q=>match Zl x y with | some b=>Q (.bl (!b))|none=>(EA 30 x=true/\EA 30 y=true)/\Q (.bl (!fQ x y))
def kI (K:AAB):R2:=λx y H Q=>qS x y H Q\/cm K false x y H Q
def kO (K:AAB):R2:=λx y H Q=>qT x y H Q\/cm K true x y H Q
def EB {k:Nat}(c:Room k X.A):EN X (compareOp .Eq) (kI X.K)/\CQ X.K (kI X.K) Nh:=by
 refine⟨j8.or (ga c),λT M H u v x y Q d va a rv h k=> ?_⟩;unfold Nh at h;split at h
 .rename_i b e;obtain⟨h1,h2⟩:=Sa a rv e;refine .inl ⟨h1, ?_⟩;rw[h2];exact k _ _ T H (.refl va.tp) (.bl _) h
 .exact .inr ⟨T,M,x,y,a,rv,h.1.1,h.1.2,k _ _ T H (.refl va.tp) (.bl _) h.2⟩
def O1 {k:Nat}(c:Room k X.A):EN X (compareOp .NotEq) (kO X.K)/\CQ X.K (kO X.K) Ws:=by
 refine⟨j9.or (gc c),λT M H u v x y Q d va a rv h k=> ?_⟩;unfold Ws at h;split at h
 .rename_i b e;obtain⟨h1,h2⟩:=Sa a rv e;refine .inl ⟨h1, ?_⟩;rw[h2];exact k _ _ T H (.refl va.tp) (.bl _) h
 .exact .inr ⟨T,M,x,y,a,rv,h.1.1,h.1.2,k _ _ T H (.refl va.tp) (.bl _) h.2⟩
def K3:PV->zq | .tup _=>true | .lst _=>true|_=>false
@[irreducible] def kb (x:PV):Str:=(pd x).shown
structure PR (x:PV):Prop where
 ok:EA 30 x=true
 sh:(pd x).showable=true
 sz:(pd x).shown.length<=sizeLine
@[irreducible] def Mt:AF:=λxs Q=>match xs with | [.non] =>Q (.str "None") | [x] =>K3 x=true/\PR x/\Q (.str (kb x))|_=>False
def g9 (K:AAB):zy V->Hp->VK->Prop:=λus H Q=>(us= [.non] /\Q (.str "None") H)\/∃(T M:zu->Prop) (u:V) (x:PV),us= [u] /\CC K T M H u x/\K3 x=true/\PR x/\Q (.str (kb x)) H
def Wk {k:Nat}(c:Room k X.A):CZ X (.type "str") (g9 X.K):=by
 intro j s l H us vs Q I r h;rcases h with⟨rfl,q⟩|⟨T,M,u,x,rfl,d,hq,ok,q⟩
 .cases r with
  | cons r t=> cases t;cases r;exact P.str_of_none ⟨.str _,H,I.tok _,⟨_,rfl⟩,q⟩
 .cases r with
  | cons r t=>
    cases t;obtain⟨as,ra⟩:=FP I 30 d ok.ok r;obtain⟨m,n,f⟩:=Ff 30 x ok.ok;have hv:∃a,u= .ref a:=by cases d <;> first | exact⟨_,rfl⟩|(simp[K3] at hq)
    obtain⟨a,rfl⟩:=hv;cases r;have g:Q (.str (pd x).shown) H:=by unfold kb at q;exact q
    refine str_of_reads ra ok.sh (λz=>by rw[f] at z;cases z) c.gd (by have:=c.un;omega) (λb o e=>e) (λh' t i hk=> ?_) ok.sz;exact⟨.str _,H,I.kept (t':=i) hk,⟨_,rfl⟩,g⟩
def Qc {k:Nat}(a:Room k X.A):CZ X (.type "str") (g9 X.K)/\Eo X.K (g9 X.K) Mt:=by
 refine⟨Wk a,λT M H us xs Q b va r h k=> ?_⟩;unfold Mt at h;split at h <;> first | exact h.elim|skip
 .cases r with | cons r t=>cases t;cases r;exact .inl ⟨rfl,k _ _ T H (.refl va.tp) (.str _) h⟩
 .cases r with | cons r t=>cases t;exact .inr ⟨T,M,_,_,rfl,r,h.1,h.2.1,k _ _ T H (.refl va.tp) (.str _) h.2.2⟩
end
section
variable {prog:zp}{w:zm}{A:zk}{E:zx->zw->Prop}{s:zw}
def K2 {h:zl}{l:zu}{items:Array zx}(hl:h.IsList l items)(o:Obj):(h.push o).IsList l items:=by obtain⟨a,e,r⟩:=hl;exact⟨a,AAH _ e,r⟩
theorem Oj {it t:zu}{items:Array zx}(f:t≠it):∀(n i:Nat) (s:zw) (Q:zy zx->zw->Prop),s.heap.IsListIter it t i->s.heap.IsList t items->i+n<=items.size-> (∀h',h'.IsListIter it t (i+n)->Heap.SameBut it s.heap h'->Q ((items.toList.drop i).take n) {s with heap:=h'})->wpAny (model prog w) A (draw (.ref it) n) Q E s
 | 0,i,s,Q,hit,_,_,hQ=>by show wpAny _ _ (pure []) Q E s;exact AAD (by simpa using hQ s.heap hit (Heap.SameBut.refl ..))
 | n+1,i,s,Q,hit,ht,Xi,hQ=>by
   have g:i<items.size:=by omega
   show wpAny _ _ (pyNext (.ref it) >>= _) Q E s;refine AAA (wpAny_pyNext_list_item hit ht (x:=items[i]) (by simp[g]) λh b a=> ?_);refine AAA (AAk (Oj f n (i+1) _ _ b (ht.extBut a.extBut f) (by omega) λe c d=>AAD ?_));have hd:items.toList.drop i=items[i] :: items.toList.drop (i+1):=by simp[ACA,g]
   have:=hQ e (by rw[show i+(n+1)=i+1+n by omega];exact c) (a.trans d);rw[hd,ADJ] at this;exact this
def Kh {t:zu}{items:Array zx}{Q:zy zx->zw->Prop}(k:A.handled=none)(g:s.heap.IsList t items)(hQ:∀h',Heap.ExtBut s.heap.objs.size s.heap h'->Q items.toList {s with heap:=h'}):wpAny (model prog w) A (unpackItems (.ref t) items.size none) Q E s:=by
 have j:t≠s.heap.objs.size:=by obtain⟨o,l,_⟩:=g;exact AAM (AAG l)
 unfold unpackItems;refine AAA ?_
 .unfold notIterableAtAll;refine AAA (ABX g.typeIs slot_list_iter.lookup ?_);refine AAD ?_;simp only[AAi,AAa];refine AAA (AAk (AB9 g ?_));refine AAA (AAk (Oj j items.size 0 _ _ ⟨_,AAS _ rfl,rfl,rfl⟩ (K2 g _) (by omega) λh c a=> ?_));have m:List.take items.size (List.drop 0 items.toList)=items.toList:=by rw[List.drop_zero];exact ABq (by simp)
  rw[m];rw[AAC (by simp)];have d:h.IsList t items:=(K2 g _).extBut a.extBut j;refine AAA (AAk (wpAny_pyNext_list_end k c d (by simp) λi f=> ?_));simp only[Option.isSome_none,AAi,AAa];refine AAD (hQ i λb o hb e=>f b o hb (a.extBut b o hb (AAH _ e)))
def JG {env:Env}{elts:zy zr}{x1}{a:Pos}{t:zu}{items:Array zx}{Q:Unit->zw->Prop}(b:A.handled=none)(c:s.heap.IsList t items)(d:(assignEach elts env).length=items.size)(e:(assignEach elts env).findIdx? (·.1)=none)(h:∀h',Heap.ExtBut s.heap.objs.size s.heap h'->wpAny (model prog w) A (assignInOrder ((assignEach elts env).map (·.2)) items.toList) Q E {s with heap:=h'}):wpAny (model prog w) A (assign (.Tuple elts x1 a) env (.ref t)) Q E s:=by rw[assign_Tuple];refine AAA (ABL ?_);unfold unpack;rw[d,e];exact AAA (AAk (Kh b c h))
end
section
variable {X:Cx}{pos:Pos}
def N8 (K:AAB)(n:Nat)(t:TL):TG:=λv b H Q=>∃a xs,v= .ref a/\(Kx K H a xs\/Ep K H a xs)/\xs.length=n/\t xs b H Q
def NG {es:zy zr}{k:Nat}{t:TL}{n:Nat}(hc:X.calm=true)(h:ic X es t)(j:(assignEach es X.env).length=n:=by rfl)(l:(assignEach es X.env).findIdx? (·.1)=none:=by rfl):PG X (.Tuple es k pos) (N8 X.K n t):=by
 intro c s d H v u Q I r hw;obtain⟨a,xs,m,hq,hl,hw⟩:=hw;subst m;cases r;rcases hq with hq|hq
 .obtain ⟨f,rv,g,hz⟩:=I.tuple hq;refine assign_Tuple_tuple (I.ok.hd hc) g (by simp[j,<-hl,rv.length]) l λh' hx=> ?_;have i:Inv X c d H {s with heap:=h'}:=I.kept (t':=s.toks) λb o e=>hx b o (AAM (AAG e)) e;exact h c _ d H xs _ Q i (by simpa using rv) hw
 .obtain ⟨f,rv,g,hz⟩:=I.list hq;refine JG (I.ok.hd hc) g.isList (by simp[j,<-hl,rv.length]) l λh' hx=> ?_;have i:Inv X c d H {s with heap:=h'}:=I.kept (t':=s.toks) λb o e=>hx b o (AAM (AAG e)) e;exact h c _ d H xs _ Q i (by simpa using rv) hw
def Hx (n:Nat)(r:Sw):AG:=λx τ Q=>Ni x λxs=>xs.length=n/\r xs τ Q
def Zy {K:AAB}{n:Nat}{gs:TL}{a:Sw}(s:OZ K gs a):PU K (N8 K n gs) (Hx n a):=λB T c τ H v x Q d e r h k=>by
 obtain⟨xs,hx,h⟩:=IK h;rcases hx with rfl|rfl
 .obtain ⟨p,vs,rfl,hq,b⟩:=D7 r;exact⟨p,vs,rfl, .inl hq,by rw[b.length];exact h.1,s B T c τ H vs _ Q d e b h.2 k⟩
 .obtain ⟨p,vs,rfl,hq,f,g,b⟩:=Cz r;exact⟨p,vs,rfl, .inr (.inl (.inl hq)),by rw[b.length];exact h.1,s B T c τ H vs _ Q d e b h.2 k⟩
def CK {es:zy zr}{k:Nat}{a:Sw}{n:Nat}(hc:X.calm=true)(h:lK X es a)(b:(assignEach es X.env).length=n:=by rfl)(c:(assignEach es X.env).findIdx? (·.1)=none:=by rfl):SG X (.Tuple es k pos) (Hx n a):=
 let ⟨_,p,s⟩:=h;⟨_,NG hc p b c,Zy s⟩
def YY {own:Nat}{K:AAB}{n:Nat}{t:TL}(h:Mi own t):Mh own (N8 K n t):=λv b H Q ⟨a,xs,e,h1,h2,c⟩=>⟨a,xs,e,h1,h2,h xs b H Q c⟩
def NV {own:Nat}{es:zy zr}{k:Nat}{b:Sw}{n:Nat}(hc:X.calm=true)(h:lN own X es b)(c:(assignEach es X.env).length=n:=by rfl)(d:(assignEach es X.env).findIdx? (·.1)=none:=by rfl):SK own X (.Tuple es k pos) (Hx n b):=
 let ⟨_,p,s,f,m⟩:=h;⟨_,NG hc p c d,Zy s,YY f,λv i H Q j z ⟨a,xs,e,h1,h2,g⟩=>⟨a,xs,e,h1,h2,m _ _ _ _ _ z g⟩⟩
def fz:ie X .Mult (λx y H Q=>∃i j,x= .int i/\y= .int j/\MulOk i j/\Q (.int (i*j)) H):=by intro f s g H x y v u Q I a b h;obtain⟨i,j,d,e,c,q⟩:=h;subst d;subst e;obtain⟨t,rfl⟩:=a;obtain⟨t',rfl⟩:=b;exact AutoIntOps.imul_0 (show (Made.int (i*j)).post _ _ from⟨.int _,H,I.tok _,⟨_,rfl⟩,q⟩) (.of_le (Gv c.l) (Gv c.r) (by decide))
def iH:ie X .Mult (λx y H Q=>∃i j,x= .int i/\y= .int j/\MulOk i j/\Q (.int (i*j)) H)/\CQ X.K (λx y H Q=>∃i j,x= .int i/\y= .int j/\MulOk i j/\Q (.int (i*j)) H) C6:=⟨fz,λT M H u v x y Q b va a rv h k=>by
 obtain⟨i,j,rfl,rfl,c,q⟩:=Lv h;exact⟨i,j,a.toI,rv.toI,c,k _ _ T H (.refl va.tp) (.int _) q⟩⟩
end
def NX {i:Int}(a:0<=i)(b:i<2147483647): -(2^64)<i/\i<2^64:=⟨by omega,by omega⟩
def tN (b:zq):(0:Int)<=(if b=true then 1 else 0):=by cases b <;> decide
def pW (b:zq): -(2^64)<(if b=true then (1:Int) else 0)/\(if b=true then (1:Int) else 0)<2^64:=by cases b <;> decide
def aM {T:zu->Prop}{H:Hp}{p:zu}{d x:Int}(tp:∀a,T a->E2 H a)(t:T p)(c:0<=d)(f:0<=x)(g:x<2147483647):DM T H T (upd H p (.lst [.int d, .int x])) where
 keep:=λb o n e=>by rw[Ad (λz=>n (by subst z;exact t))];exact e
 sub:=λ_ t=>t
 new:=λ_ t=> .inl t
 tp:=λa h=>by
  by_cases z:a=p
  .subst z;exact⟨d,x,Ab,c,f,g⟩
  .obtain ⟨d',i,e,q⟩:=tp a h;exact⟨d',i,by rw[Ad z];exact e,q⟩
def aK {T:zu->Prop}{H:Hp}{p:zu}{d x:Int}(tp:∀a,T a->E2 H a)(hp:H p=none)(f:0<=d)(g:0<=x)(h:x<2147483647):DM T H (λb=>T b\/b=p) (upd H p (.lst [.int d, .int x])) where
 keep:=λb o n e=>by rw[Ad (Ah e hp)];exact e
 sub:=λ_ t=> .inl t
 new:=λb t=>t.elim .inl λz=> .inr (by subst z;exact hp)
 tp:=λa c=>by
  by_cases z:a=p
  .subst z;exact⟨d,x,Ab,f,g,h⟩
  .rcases c with c|c
   .obtain ⟨d',i,e,q⟩:=tp a c;exact⟨d',i,by rw[Ad z];exact e,q⟩
   .exact absurd c z
def law_sp {K:AAB}{H:Hp}{a:zu}{b:zy Int}{F:AF}(c:Ep K H a (b.map V.int))(h:F [.scr b] λx=>x= .bl true):Cq K 1 F [.ref a] H (λv _=>v= .bl true) λ_ _ _=>False:=by
 refine⟨λ_=>False,λ_=>False, [.scr b],_,⟨λ_ z=>z.elim,λ_ z=>z.elim⟩,λ_ z=>z.elim, .cons (.scr ?_) .nil,rfl,h,λv x d f _ r e=> ?_⟩
 .rcases c with h|h
  .exact .inl ⟨h,id,id⟩
  .exact .inr λH=> .inr h
 .subst e;cases r;rfl
theorem G0 {g:AG}{b:AS}{D:GB}(a:zy PV->A7->Prop)(hd:∀τ,a [] τ->D.nx τ)(hs:∀x r τ (R:A7->Prop),(∀τ,a r τ->R τ)->a (x::r) τ->g x τ λc=>b {D with nx:=R,ct:=R,bk:=D.nx} c):∀xs τ,a xs τ->C7 g b D xs τ
 | [],τ,h=>hd τ h
 | x::r,τ,h=>hs x r τ _ (λd h2=>G0 a hd hs r d h2) h
theorem VO {g:AG}{t:AT}{f:AE}{b:A7}{Q:zy PV->Prop}(c:zy PV->zy PV->Prop)(hd:∀a,c [] a->Q a)(hs:∀x r a (R:zy PV->Prop),(∀a,c r a->R a)->c (x::r) a->g x b λd=>t d λok=>if ok=true then f d λy=>R (a ++ [y]) else R a):∀xs a,c xs a->Cj g t f b Q xs a
 | [],a,h=>hd a h
 | x::r,a,h=>hs x r a _ (λe h2=>VO c hd hs r e h2) h
theorem VA {c:AT}{b:AS}{D:GB}(a:Nat->A7->Prop)(e:∀τ,¬a 0 τ)(hs:∀n τ (R:A7->Prop),(∀τ,a n τ->R τ)->a (n+1) τ->c (frz τ) λk=>if k=true then b {D with nx:=R,ct:=R,bk:=D.nx} τ else D.nx τ):∀n τ,a n τ->So c b D n τ
 | 0,τ,h=>absurd h (e τ)
 | n+1,τ,h=>hs n τ _ (λd h2=>VA a e hs n d h2) h
def Jd (lo:Int)(n:Nat):rng lo (n+1)= .int lo::rng (lo+1) n:=by
 unfold rng;rw[List.range_succ_eq_map,AAK,AAc];congr 1
 .simp
 .apply AA7;intro k _;simp only[Function.comp];congr 1;omega
def Ub (lo:Int)(n:Nat):(rng lo n).length=n:=by simp[rng]
end PL
namespace PL
open PySem L2 PyProof.Rows
def fr (r:Rat):PV:= .tup [.int r.num, .int (r.den:Int)]
def IG {b:zq}{A B:Prop}(h1:b=true->A)(h2:b=false->B):if b=true then A else B:=by
 cases b with
 | true=>rw[AAE rfl];exact h1 rfl
 | false=>rw[AAC AAR];exact h2 rfl
structure Bd (n:Nat) (r:Rat):Prop where
 top:r.num.natAbs<2^n
 bot:r.den<2^n
def Bd.botI {n:Nat}{r:Rat}(b:Bd n r):(r.den:Int).natAbs<2^n:=by simpa using b.bot
def NH {m n:Nat}(h:m<=n):2^m<=2^n:=ADK (by decide) h
def Bd.mono {m n:Nat}{r:Rat}(b:Bd m r)(h:m<=n):Bd n r:=⟨AAV b.top (NH h),AAV b.bot (NH h)⟩
def UM {a b m n:Nat}(ha:a<2^m)(hb:b<2^n):a*b<2^(m+n):=by rw[Nat.pow_add];exact Nat.mul_lt_mul_of_lt_of_le ha (AB0 hb) (Nat.pos_of_ne_zero (by intro z;rw[z] at hb;omega)) |> λh=>h
def Bg {a b:Int}{m n:Nat}(ha:a.natAbs<2^m)(hb:b.natAbs<2^n):(a*b).natAbs<2^(m+n):=by rw[ADL];exact UM ha hb
def VG {a b:Int}{n:Nat}(ha:a.natAbs<2^n)(hb:b.natAbs<2^n):(a+b).natAbs<2^(n+1):=by rw[Nat.pow_succ];omega
def WJ {a b:Int}{n:Nat}(ha:a.natAbs<2^n)(hb:b.natAbs<2^n):(a-b).natAbs<2^(n+1):=by rw[Nat.pow_succ];omega
def A9 {a m n:Nat}(h:a<2^m)(b:m<=n):a<2^n:=AAV h (NH b)
def MulOk.of {a b:Int}{m n:Nat}(ha:a.natAbs<2^m)(hb:b.natAbs<2^n)(c:m<=1000000:=by omega)(d:n<=1000000:=by omega):MulOk a b:=⟨A9 ha c,A9 hb d⟩
def Tg (t b:Int):(Rat.divInt t b).num.natAbs<=t.natAbs:=by
 rw[ACj];by_cases h:b=0
 .subst h;simp
 .have e:(b.gcd t:Int) ∣ b.sign*t:=Int.dvd_trans (Int.gcd_dvd_right ..) (Int.dvd_mul_left ..);rw[Int.natAbs_ediv_of_dvd e,ADL];refine AAl (ABf _ _) ?_;rw[Int.natAbs_sign_of_ne_zero h];omega
def Tf (t b:Int)(h:b≠0):(Rat.divInt t b).den<=b.natAbs:=by rw[ADM,AAC h];exact ABf _ _
def Bd.divInt {n:Nat}{t b:Int}(h:b≠0)(a:t.natAbs<2^n)(hb:b.natAbs<2^n):Bd n (Rat.divInt t b):=
 ⟨AAs (Tg t b) a,AAs (Tf t b h) hb⟩
def Ba (a:Rat):(a.den:Int)≠0:=by have:=a.den_pos;omega
def Hw (a b:Rat):a+b=Rat.divInt (a.num*b.den+b.num*a.den) (a.den*b.den):=by have h:=ADg a.num b.num (Ba a) (Ba b);rw[ABF,ABF] at h;exact h
def Im (a b:Rat):a-b=Rat.divInt (a.num*b.den-b.num*a.den) (a.den*b.den):=by have h:=Rat.divInt_sub_divInt a.num b.num (Ba a) (Ba b);rw[ABF,ABF] at h;exact h
def IJ (a b:Rat):a*b=Rat.divInt (a.num*b.num) (a.den*b.den):=by have h:=ADh a.num b.num (d₁:=a.den) (d₂:=b.den);rw[ABF,ABF] at h;exact h
def IC (a b:Rat):a/b=Rat.divInt (a.num*b.den) (a.den*b.num):=by rw[ACk,Rat.inv_def];have h:=ADh a.num b.den (d₁:=a.den) (d₂:=b.num);rw[ABF] at h;exact h
def DX {a b:Int}(ha:a≠0)(hb:b≠0):a*b≠0:=Int.mul_ne_zero ha hb
def UN {b:Rat}(h:b≠0):b.num≠0:=λz=>h (Rat.num_eq_zero.mp z)
def Bd.add {m n:Nat}{a b:Rat}(ha:Bd m a)(hb:Bd n b):Bd (m+n+1) (a+b):=by
 rw[Hw];refine .divInt (DX (Ba a) (Ba b)) (VG (Bg ha.top (by simpa using hb.bot)) ?_) ?_
 .rw [Nat.add_comm m n];exact Bg hb.top (by simpa using ha.bot)
 .exact A9 (Bg (by simpa using ha.bot) (by simpa using hb.bot)) (by omega)
def Bd.sub {m n:Nat}{a b:Rat}(ha:Bd m a)(hb:Bd n b):Bd (m+n+1) (a-b):=by
 rw[Im];refine .divInt (DX (Ba a) (Ba b)) (WJ (Bg ha.top (by simpa using hb.bot)) ?_) ?_
 .rw [Nat.add_comm m n];exact Bg hb.top (by simpa using ha.bot)
 .exact A9 (Bg (by simpa using ha.bot) (by simpa using hb.bot)) (by omega)
def Bd.mul {m n:Nat}{a b:Rat}(ha:Bd m a)(hb:Bd n b):Bd (m+n) (a*b):=by rw[IJ];exact .divInt (DX (Ba a) (Ba b)) (Bg ha.top hb.top) (Bg (by simpa using ha.bot) (by simpa using hb.bot))
def Bd.div {m n:Nat}{a b:Rat}(h:b≠0)(ha:Bd m a)(hb:Bd n b):Bd (m+n) (a/b):=by rw[IC];exact .divInt (DX (Ba a) (UN h)) (Bg ha.top (by simpa using hb.bot)) (Bg (by simpa using ha.bot) hb.top)
def Bd.neg {n:Nat}{a:Rat}(ha:Bd n a):Bd n (-a):=⟨by show (-a.num).natAbs<_;rw[ABs];exact ha.top,ha.bot⟩
def YU (n:Int):fr (n:Rat)= .tup [.int n, .int 1] :=by simp[fr]
def Bd.int {n:Int}{k:Nat}(h:n.natAbs<2^k)(hk:1<=k):Bd k (n:Rat):=⟨by simpa using h,by simp;omega⟩
def Xo:AS:=
 (AY (Hv (Ax (AW Ws (aV 1) (aC (.int 0)))) (Wa 0 1 (AB (aV 1) (AB (AW RT (aV 0) (aV 1)) AM))))
   (Aq (aV 0)))
def GN:AF:=Am 2 Xo
def Ku (x y:Nat)(Q:PV->Prop)(h:Q (.int (Nat.gcd x y:Nat))):GN [.int x, .int y] Q:=by
 have go:∀y x:Nat,∀D:GB,D.nx [some (.val (.int (Nat.gcd x y:Nat))),some (.val (.int 0))] ->∃n,So (Ax (AW Ws (aV 1) (aC (.int 0)))) (Wa 0 1 (AB (aV 1) (AB (AW RT (aV 0) (aV 1)) AM))) D n [some (.val (.int x)),some (.val (.int y))] :=by
  intro y;induction y using Nat.strongRecOn with
  | _ y ih=>
    intro x D c;by_cases hy:y=0
    .subst hy;refine⟨1, ?_⟩;rw[Nat.gcd_zero_right] at c;exact c
    .obtain ⟨n,a⟩:=ih (x % y) (Nat.mod_lt _ (by omega)) y D (by rw[ABt y,<-Nat.gcd_rec,ABt y];exact c);refine⟨n+1, ?_⟩;refine IG (b:= !decide ((y:Int)=0)) (λ_=> ?_) (λz=> ?_)
     .have d:(x:Int).fmod (y:Int)=((x % y:Nat):Int):=by rw[AC7 _ (by omega)];simp
      refine⟨by omega, ?_⟩;rw[<-d] at a;exact a
     .have:(y:Int)=0:=by simpa using z
      omega
 obtain⟨n,a⟩:=go y x {nx:=λτ=>Aq (aV 0) {nx:=λ_=>Q .non,rt:=Q,bk:=λ_=>False,ct:=λ_=>False} τ,rt:=Q,bk:=λ_=>False,ct:=λ_=>False} h;exact⟨n,a⟩
def WN:AS:=
 (AY (CF (Ax (AW YR (aV 1) (aC (.int 0)))) (Aj (TR J0 (aV 2)) (Ak 2)) BV)
   (Aq (A2 (AB (AW Pb (aV 0) (aV 2)) (AB (AW Pb (aV 1) (aV 2)) AM)))))
def eQ:AS:=
 (AY (Aj (AN 2 GN (AB (FR Wv (AB (aV 0) AM)) (AB (FR Wv (AB (aV 1) AM)) AM))) (Ak 2))
   WN)
def FV:AF:=Am 3 eQ
def ZD (t b:Int)(hb:b≠0):∀s:Int,s=(if b<0 then -(Nat.gcd t.natAbs b.natAbs:Int) else (Nat.gcd t.natAbs b.natAbs:Int))->s≠0/\t.fdiv s=(Rat.divInt t b).num/\b.fdiv s=((Rat.divInt t b).den:Int):=by
 intro s hs;have g:0<Nat.gcd t.natAbs b.natAbs:=ABu _ (by omega);have f:b.gcd t=Nat.gcd t.natAbs b.natAbs:=by rw[ADi,ABt]
 have a:(Nat.gcd t.natAbs b.natAbs:Int) ∣ t:=by rw[<-Int.dvd_natAbs];exact Int.ofNat_dvd.mpr (Nat.gcd_dvd_left ..)
 have c:(Nat.gcd t.natAbs b.natAbs:Int) ∣ b:=by rw[<-Int.dvd_natAbs];exact Int.ofNat_dvd.mpr (ACB ..)
 have d:s ∣ t:=by rw[hs];split <;> first | exact Int.neg_dvd.mpr a|exact a
 have e:s ∣ b:=by rw[hs];split <;> first | exact Int.neg_dvd.mpr c|exact c
 refine⟨by rw[hs];split <;> omega, ?_, ?_⟩
 .rw [ADj d,ACj,f,hs];by_cases h:b<0
  .rw [AAE h,ADk h,Int.ediv_neg];have:(-1:Int)*t= -t:=by omega
   rw[this,Int.neg_ediv_of_dvd a]
  .rw [AAC h,ADN (by omega),Int.one_mul]
 .rw [ADj e,ADM,AAC hb,f,hs];by_cases h:b<0
  .rw [AAE h,Int.ediv_neg];have:(b.natAbs:Int)= -b:=by omega
   rw[ABg,this,Int.neg_ediv_of_dvd c]
  .rw [AAC h];have:(b.natAbs:Int)=b:=by omega
   rw[ABg,this]
def EL (t b:Int)(hb:b≠0)(f:b.natAbs<2^8900)(Q:PV->Prop)(h:Q (fr (Rat.divInt t b))):FV [.int t, .int b] Q:=by
 have g:0<Nat.gcd t.natAbs b.natAbs:=ABu _ (by omega);have gl:Nat.gcd t.natAbs b.natAbs<2^8900:=AAs (ACl (by omega) (ACB ..)) f;obtain⟨a,c,d⟩:=ZD t b hb _ rfl;refine⟨rfl,Ku _ _ _ ?_⟩;refine IG (b:=decide (b<0)) (λz=> ?_) (λz=> ?_)
 .have e:b<0:=ABQ z;rw[AAE e] at a c d;refine⟨⟨a,by rw[ABs];exact gl⟩,⟨a,by rw[ABs];exact gl⟩,(show 2<=sizeLine by decide), ?_⟩;unfold fr at h;rw[<-c,<-d] at h;exact h
 .have e:¬b<0:=ABR z;rw[AAC e] at a c d;refine⟨⟨a,gl⟩,⟨a,gl⟩,(show 2<=sizeLine by decide), ?_⟩;unfold fr at h;rw[<-c,<-d] at h;exact h
def Bd.mt {n:Nat}{a b:Rat}(ha:Bd 4000 a)(hb:Bd 4000 b):MulOk a.num b.den/\MulOk b.num a.den/\MulOk a.den b.den/\MulOk a.num b.num/\MulOk a.den b.num:=
 ⟨.of ha.top (by simpa using hb.bot), .of hb.top (by simpa using ha.bot), .of (by simpa using ha.bot) (by simpa using hb.bot), .of ha.top hb.top, .of (by simpa using ha.bot) hb.top⟩
def Oh {a b:Rat}(ha:Bd 4000 a)(hb:Bd 4000 b):((a.den:Int)*(b.den:Int)).natAbs<2^8900:=A9 (Bg (a:=(a.den:Int)) (by simpa using ha.bot) (by simpa using hb.bot)) (by omega)
def eS:AS:=
 (Aq (AN 2 FV (AB (AW Bl (AW C6 (AW Ai (aV 0) (aC (.int 0))) (AW Ai (aV 1) (aC (.int 1)))) (AW C6 (AW Ai (aV 1) (aC (.int 0))) (AW Ai (aV 0) (aC (.int 1))))) (AB (AW C6 (AW Ai (aV 0) (aC (.int 1))) (AW Ai (aV 1) (aC (.int 1)))) AM))))
def Jw:AF:=Am 2 eS
def WZ {a b:Rat}(ha:Bd 4000 a)(hb:Bd 4000 b){Q:PV->Prop}(h:Q (fr (a+b))):Jw [fr a,fr b] Q:=by obtain⟨m1,m2,m3,_⟩:=Bd.mt (n:=0) ha hb;refine⟨m1,m2,m3,rfl,EL _ _ (DX (Ba a) (Ba b)) (Oh ha hb) _ ?_⟩;rw[Hw] at h;exact h
def aj:AS:=
 (Aq (AN 2 FV (AB (AW HP (AW C6 (AW Ai (aV 0) (aC (.int 0))) (AW Ai (aV 1) (aC (.int 1)))) (AW C6 (AW Ai (aV 1) (aC (.int 0))) (AW Ai (aV 0) (aC (.int 1))))) (AB (AW C6 (AW Ai (aV 0) (aC (.int 1))) (AW Ai (aV 1) (aC (.int 1)))) AM))))
def Dt:AF:=Am 2 aj
def S8 {a b:Rat}(ha:Bd 4000 a)(hb:Bd 4000 b){Q:PV->Prop}(h:Q (fr (a-b))):Dt [fr a,fr b] Q:=by obtain⟨m1,m2,m3,_⟩:=Bd.mt (n:=0) ha hb;refine⟨m1,m2,m3,rfl,EL _ _ (DX (Ba a) (Ba b)) (Oh ha hb) _ ?_⟩;rw[Im] at h;exact h
def ak:AS:=
 (Aq (AN 2 FV (AB (AW C6 (AW Ai (aV 0) (aC (.int 0))) (AW Ai (aV 1) (aC (.int 0)))) (AB (AW C6 (AW Ai (aV 0) (aC (.int 1))) (AW Ai (aV 1) (aC (.int 1)))) AM))))
def JE:AF:=Am 2 ak
def TB {a b:Rat}(ha:Bd 4000 a)(hb:Bd 4000 b){Q:PV->Prop}(h:Q (fr (a*b))):JE [fr a,fr b] Q:=by obtain⟨_,_,m3,m4,_⟩:=Bd.mt (n:=0) ha hb;refine⟨m4,m3,rfl,EL _ _ (DX (Ba a) (Ba b)) (Oh ha hb) _ ?_⟩;rw[IJ] at h;exact h
def eO:AS:=
 (Aq (AN 2 FV (AB (AW C6 (AW Ai (aV 0) (aC (.int 0))) (AW Ai (aV 1) (aC (.int 1)))) (AB (AW C6 (AW Ai (aV 0) (aC (.int 1))) (AW Ai (aV 1) (aC (.int 0)))) AM))))
def Me:AF:=Am 2 eO
def WY {a b:Rat}(c:b≠0)(ha:Bd 4000 a)(hb:Bd 4000 b){Q:PV->Prop}(h:Q (fr (a/b))):Me [fr a,fr b] Q:=by obtain⟨m1,_,_,_,m5⟩:=Bd.mt (n:=0) ha hb;refine⟨m1,m5,rfl,EL _ _ (DX (Ba a) (UN c)) (A9 (Bg (a:=(a.den:Int)) (by simpa using ha.bot) hb.top) (by omega)) _ ?_⟩;rw[IC] at h;exact h
def MA:AS:=
 (AY (Aj (AW HP (aC (.int 1)) (AW C6 (aC (.int 2)) (FR fW (AB (AW YR (aV 1) (aC (.int 0))) AM)))) (Ak 2))
   (Aq (A2 (AB (AW Pb (AW C6 (aV 2) (aV 0)) (aV 3)) (AB (AW Pb (AW C6 (aV 2) (aV 1)) (aV 3)) AM)))))
def L9:AS:=
 (AY (Hv (Ax (AW aZ (aV 4) (aC (.int 0)))) (Wa 3 4 (AB (aV 4) (AB (AW RT (aV 3) (aV 4)) AM))))
   MA)
def Qu:AS:=
 (AY (Wa 3 4 (AB (FR Wv (AB (aV 0) AM)) (AB (FR Wv (AB (aV 1) AM)) AM)))
   L9)
def Aw:AF:=Am 5 Qu
def Pt (t b:Int)(hb:b≠0):∀s:Int,s=(if b<0 then -1 else 1)->(s*t).fdiv (Nat.gcd t.natAbs b.natAbs:Int)=(Rat.divInt t b).num/\(s*b).fdiv (Nat.gcd t.natAbs b.natAbs:Int)=((Rat.divInt t b).den:Int):=by
 intro s hs;have c:0<Nat.gcd t.natAbs b.natAbs:=ABu _ (by omega);have a:b.gcd t=Nat.gcd t.natAbs b.natAbs:=by rw[ADi,ABt]
 have es:b.sign=s:=by
  rw[hs];split
  .rename_i h;exact ADk h
  .exact ADN (by omega)
 rw[ACj,ADM,AAC hb,a,es,ABP _ (by omega),ABP _ (by omega)];refine⟨rfl, ?_⟩;rw[ABg];congr 1;rw[hs];split <;> omega
def Cg (t b:Int)(hb:b≠0)(i:t.natAbs<2^900000)(d:b.natAbs<2^8900){Q:PV->Prop}(h:Q (fr (Rat.divInt t b))):Aw [.int t, .int b] Q:=by
 have k:0<Nat.gcd t.natAbs b.natAbs:=ABu _ (by omega);have gl:Nat.gcd t.natAbs b.natAbs<2^8900:=AAs (ACl (by omega) (ACB ..)) d;have e:(1:Int)-2*(if decide (b<0)=true then 1 else 0)=(if b<0 then -1 else 1):=by by_cases z:b<0 <;> simp[z]
 obtain⟨j,a⟩:=Pt t b hb _ e;have go:∀y x:Nat,∀D:GB,∀u v w,D.nx [u,v,w,some (.val (.int (Nat.gcd x y:Nat))),some (.val (.int 0))] ->∃n,So (Ax (AW aZ (aV 4) (aC (.int 0)))) (Wa 3 4 (AB (aV 4) (AB (AW RT (aV 3) (aV 4)) AM))) D n [u,v,w,some (.val (.int x)),some (.val (.int y))] :=by
  intro y;induction y using Nat.strongRecOn with
  | _ y ih=>
    intro x D u v w c;by_cases hy:y=0
    .subst hy;refine⟨1, ?_⟩;rw[Nat.gcd_zero_right] at c;exact c
    .obtain ⟨n,f⟩:=ih (x % y) (Nat.mod_lt _ (by omega)) y D u v w (by rw[ABt y,<-Nat.gcd_rec,ABt y];exact c);refine⟨n+1, ?_⟩;refine IG (b:=decide (0<(y:Int))) (λ_=> ?_) (λz=> ?_)
     .have a:(x:Int).fmod (y:Int)=((x % y:Nat):Int):=by rw[AC7 _ (by omega)];simp
      refine⟨by omega, ?_⟩;rw[<-a] at f;exact f
     .have:¬(0:Int)<y:=ABR z;omega
 refine go b.natAbs t.natAbs _ (some (.val (.int t))) (some (.val (.int b))) none ?_;have one:(1:Int).natAbs<2^1:=by decide
 have g:((1:Int)-2*(if decide (b<0)=true then 1 else 0)).natAbs<2^1:=by rw[e];split <;> decide
 refine⟨.of (m:=2) (n:=1) (by decide) (by split <;> decide), .of g i,⟨by omega,gl⟩, .of g d,⟨by omega,gl⟩,(show 2<=sizeLine by decide), ?_⟩;unfold fr at h;rw[<-j,<-a] at h;exact h
def Ct {m:Int}{Q:PV->Prop}(m0:0<m)(m1:m<4611686018427387904)(h:∀r,0<=r->r<m->Q (.int r)):BB [.tape, .int m] Q:=⟨⟨m0,m1⟩,h⟩
mutual
def uf:Nat->PV->zq
 | 0,_=>false
 | _+1, .non=>true
 | _+1, .bl _=>true
 | _+1, .int _=>true
 | n+1, .tup xs=>j5 n xs&&decide (xs.length<sizeLine)
 | _+1,_=>false
def j5:Nat->zy PV->zq
 | _, [] =>true
 | n,x::xs=>uf n x&&j5 n xs
end
def dL {t:Int}{n:Nat}(h:t.natAbs<2^n)(a:n<=900000:=by omega):t.natAbs<2^900000:=A9 h a
section
variable {a b:Rat}{Q:PV->Prop}
theorem gJ (ha:Bd 4000 a)(hb:Bd 4000 b)(h:Q (fr (a+b))):Aw [.int (a.num*b.den+b.num*a.den), .int (a.den*b.den)] Q:=
 Cg _ _ (DX (Ba a) (Ba b)) (dL (VG (n:=8000) (Bg ha.top hb.botI) (Bg hb.top ha.botI))) (Oh ha hb) (by rw[<-Hw];exact h)
theorem gM (ha:Bd 4000 a)(hb:Bd 4000 b)(h:Q (fr (a-b))):Aw [.int (a.num*b.den-b.num*a.den), .int (a.den*b.den)] Q:=
 Cg _ _ (DX (Ba a) (Ba b)) (dL (WJ (n:=8000) (Bg ha.top hb.botI) (Bg hb.top ha.botI))) (Oh ha hb) (by rw[<-Im];exact h)
theorem gL (ha:Bd 4000 a)(hb:Bd 4000 b)(h:Q (fr (a*b))):Aw [.int (a.num*b.num), .int (a.den*b.den)] Q:=
 Cg _ _ (DX (Ba a) (Ba b)) (dL (Bg ha.top hb.top)) (Oh ha hb) (by rw[<-IJ];exact h)
theorem gK (c:b≠0)(ha:Bd 4000 a)(hb:Bd 4000 b)(h:Q (fr (a/b))):Aw [.int (a.num*b.den), .int (a.den*b.num)] Q:=
 Cg _ _ (DX (Ba a) (UN c)) (dL (Bg ha.top (by simpa using hb.bot))) (A9 (Bg (a:=(a.den:Int)) (by simpa using ha.bot) hb.top) (by omega)) (by rw[<-IC];exact h)
end
def Qr {n:Int}{Q:PV->Prop}(h:Q (fr (n:Rat))):Q (.tup [.int n, .int 1]):=by rw[<-YU];exact h
def Bd.part {t b:Int}{n:Nat}(h:b≠0)(a:t.natAbs<2^n)(hb:b.natAbs<2^n):Bd n (Rat.divInt t b):= .divInt h a hb
def lz {a b:Nat}(h:Nat.ble a b=true:=by rfl):a<=b:=AAo h
structure Sh (d n:Nat) (x:PV):Prop where
 ok:EA d x=true
 sh:(pd x).showable=true
 sz:(pd x).shown.length<=n
mutual
theorem M7:∀{d e:Nat} (x:PV),d<=e->EA d x=true->EA e x=true
 | _,_, .non,_,_=>by simp[EA]
 | _,_, .bl _,_,_=>by simp[EA]
 | _,_, .int _,_,_=>by simp[EA]
 | _,_, .str x,_,h=>by simpa[EA] using h
 | 0,_, .tup xs,_,h=>by simp[EA] at h
 | 0,_, .lst xs,_,h=>by simp[EA] at h
 | d+1,0, .tup xs,h,_=>by omega
 | d+1,0, .lst xs,h,_=>by omega
 | d+1,e+1, .tup xs,h,k=>by simp only[EA] at k ⊢;exact KD xs (by omega) k
 | d+1,e+1, .lst xs,h,k=>by simp only[EA] at k ⊢;exact KD xs (by omega) k
 | _,_, .tape,_,h=>by simp[EA] at h
 | _,_, .scr _,_,h=>by simp[EA] at h
 | _,_, .dct _,_,h=>by simp[EA] at h
 | _,_, .dk _,_,h=>by simp[EA] at h
 | _,_, .ty _,_,h=>by simp[EA] at h
theorem KD:∀{d e:Nat} (xs:zy PV),d<=e->KC d xs=true->KC e xs=true
 | _,_, [],_,_=>by simp[KC]
 | _,_,x::xs,h,k=>by simp only[KC,AAf] at k ⊢;exact⟨M7 x h k.1,KD xs h k.2⟩
end
def Sh.mono {d n e m:Nat}{x:PV}(s:Sh d n x)(h1:d<=e)(h2:n<=m):Sh e m x:=⟨M7 x h1 s.ok,s.sh,AAl s.sz h2⟩
def Sh.go {d n:Nat}{x:PV}(s:Sh d n x)(h1:d<=30:=by omega)(h2:n<=16777216:=by omega):PR x:=⟨M7 x h1 s.ok,s.sh,AAl s.sz h2⟩
def Sh.int {i:Int}(h:i.natAbs<2^1900):Sh 0 1902 (.int i):=by
 refine⟨rfl, ?_, ?_⟩
 .show decide (i.natAbs.log2<1920)=true;exact AA1 (ACZ (JV h (by decide)) (by decide))
 .show (Str.ofString (toString i)).length<=1902;rw[PySem.ofString_length];exact AAl (int_text_length_le (k:=1900) (by decide) (JV h (by decide))) (by decide)
theorem M8 {d:Nat}:∀{xs:zy PV},(∀x∈xs,EA d x=true)->KC d xs=true
 | [],_=>rfl
 | x::xs,h=>by simp only[KC,AAf];exact⟨h x (by simp),M8 λy hy=>h y (by simp[hy])⟩
theorem Um:∀{xs:zy PV},(∀x∈xs,(pd x).showable=true)->PyData.showableAll (QH xs)=true
 | [],_=>rfl
 | x::xs,h=>by simp only[QH,PyData.showableAll,AAf];exact⟨h x (by simp),Um λy hy=>h y (by simp[hy])⟩
theorem Qp {n:Nat}:∀{xs:zy PV},(∀x∈xs,(pd x).shown.length<=n)->((PyData.shownAll (QH xs)).map (·.length)).sum<=xs.length*n
 | [],_=>by simp[QH,PyData.shownAll]
 | x::xs,h=>by simp only[QH,PyData.shownAll,AAK,ACC,AAZ];have h1:=h x (by simp);have h2:=Qp (n:=n) (xs:=xs) λy hy=>h y (by simp[hy]);rw[Nat.succ_mul];omega
theorem Fs:∀(xs:zy PV),(PyData.shownAll (QH xs)).length=xs.length
 | [] =>rfl
 | x::xs=>by simp[QH,PyData.shownAll,Fs xs]
def Sh.tup {d n:Nat}{xs:zy PV}(h:∀x∈xs,Sh d n x):Sh (d+1) (xs.length*(n+2)+3) (.tup xs):=by refine⟨by simp only[EA];exact M8 λx hx=>(h x hx).ok,by simp only[pd,PyData.showable];exact Um λx hx=>(h x hx).sh, ?_⟩;have h1:=Qp (n:=n) (xs:=xs) λx hx=>(h x hx).sz;have h2:=tupleText_len_le (PyData.shownAll (QH xs));rw[Fs] at h2;simp only[pd,PyData.shown];rw[Nat.mul_add];omega
def Sh.lst {d n:Nat}{xs:zy PV}(h:∀x∈xs,Sh d n x):Sh (d+1) (xs.length*(n+2)+3) (.lst xs):=by refine⟨by simp only[EA];exact M8 λx hx=>(h x hx).ok,by simp only[pd,PyData.showable];exact Um λx hx=>(h x hx).sh, ?_⟩;have h1:=Qp (n:=n) (xs:=xs) λx hx=>(h x hx).sz;have h2:=listText_len_le (PyData.shownAll (QH xs));rw[Fs] at h2;simp only[pd,PyData.shown];rw[Nat.mul_add];omega
def Y1 {c:Type}{P:c->Prop}{a b:c}(ha:P a)(hb:P b):∀x∈ [a,b],P x:=λx hx=>by
 simp only[AAF,AAd,AAb] at hx;rcases hx with rfl|rfl
 .exact ha
 .exact hb
def cE {d:Type}{P:d->Prop}{a b c:d}(ha:P a)(hb:P b)(hc:P c):∀x∈ [a,b,c],P x:=λx hx=>by
 simp only[AAF,AAd,AAb] at hx;rcases hx with rfl|rfl|rfl
 .exact ha
 .exact hb
 .exact hc
def cF {e:Type}{P:e->Prop}{a b c d:e}(ha:P a)(hb:P b)(hc:P c)(hd:P d):∀x∈ [a,b,c,d],P x:=λx hx=>by
 simp only[AAF,AAd,AAb] at hx;rcases hx with rfl|rfl|rfl|rfl
 .exact ha
 .exact hb
 .exact hc
 .exact hd
def Sh.fr {r:Rat}(h:Bd 1900 r):Sh 1 4000 (fr r):=(Sh.tup (Y1 (Sh.int h.top) (Sh.int h.botI))).mono (by omega) lz
def YQ {d:Nat}{x:PV}(h:EA d x=true):fQ x x=true:=SeqAt.eqv_refl _ (Ff d x h).1
def YO (a b:Rat):fQ (fr a) (fr b)=decide (a=b):=by
 show (PyData.eqvAll [.int a.num, .int a.den] [.int b.num, .int b.den])=_;simp only[PyData.eqvAll,PyData.eqv];by_cases h:a=b
 .subst h;simp
 .have:¬(a.num=b.num/\(a.den:Int)=b.den):=λz=>h (Rat.ext z.1 (by omega));rw[AAj h];simp only[Bool.and_true,Bool.and_eq_false_iff,ACT];by_cases h1:a.num=b.num
  .exact .inr λz=>this ⟨h1,z⟩
  .exact .inl h1
def Vp (d:Nat)(a:Rat):EA (d+1) (fr a)=true:=rfl
def j4 {a b:Rat}:decide (a.num*(b.den:Int)<b.num*(a.den:Int))=decide (a<b):=by rw[ABS];exact(Rat.lt_iff a b).symm
def Xn:AS:=
 (Aq (AW YR (AW C6 (AW Ai (aV 0) (aC (.int 0))) (AW Ai (aV 1) (aC (.int 1)))) (AW C6 (AW Ai (aV 1) (aC (.int 0))) (AW Ai (aV 0) (aC (.int 1))))))
def Ar:AF:=Am 2 Xn
section
variable {a b:Rat}{Q:PV->Prop}
theorem En (ha:Bd 4000 a)(hb:Bd 4000 b)(h:Q (.bl (decide (a<b)))):Ar [fr a,fr b] Q:=by obtain⟨m1,m2,_⟩:=Bd.mt (n:=0) ha hb;refine⟨m1,m2, ?_⟩;rw[<-j4] at h;exact h
def Sy:AS:=
 (Aq (AN 2 Aw (AB (AW Bl (AW C6 (AW Ai (aV 0) (aC (.int 0))) (AW Ai (aV 1) (aC (.int 1)))) (AW C6 (AW Ai (aV 1) (aC (.int 0))) (AW Ai (aV 0) (aC (.int 1))))) (AB (AW C6 (AW Ai (aV 0) (aC (.int 1))) (AW Ai (aV 1) (aC (.int 1)))) AM))))
def A3:AF:=Am 2 Sy
theorem C3 (ha:Bd 4000 a)(hb:Bd 4000 b)(h:Q (fr (a+b))):A3 [fr a,fr b] Q:=by obtain⟨m1,m2,m3,_⟩:=Bd.mt (n:=0) ha hb;exact⟨m1,m2,m3,rfl,gJ ha hb h⟩
def Sx:AS:=
 (Aq (AN 2 Aw (AB (AW HP (AW C6 (AW Ai (aV 0) (aC (.int 0))) (AW Ai (aV 1) (aC (.int 1)))) (AW C6 (AW Ai (aV 1) (aC (.int 0))) (AW Ai (aV 0) (aC (.int 1))))) (AB (AW C6 (AW Ai (aV 0) (aC (.int 1))) (AW Ai (aV 1) (aC (.int 1)))) AM))))
def BQ:AF:=Am 2 Sx
theorem CS (ha:Bd 4000 a)(hb:Bd 4000 b)(h:Q (fr (a-b))):BQ [fr a,fr b] Q:=by obtain⟨m1,m2,m3,_⟩:=Bd.mt (n:=0) ha hb;exact⟨m1,m2,m3,rfl,gM ha hb h⟩
def MG:AS:=
 (Aq (AN 2 Aw (AB (AW C6 (AW Ai (aV 0) (aC (.int 0))) (AW Ai (aV 1) (aC (.int 0)))) (AB (AW C6 (AW Ai (aV 0) (aC (.int 1))) (AW Ai (aV 1) (aC (.int 1)))) AM))))
def BE:AF:=Am 2 MG
theorem Ca (ha:Bd 4000 a)(hb:Bd 4000 b)(h:Q (fr (a*b))):BE [fr a,fr b] Q:=by obtain⟨m1,m2,m3,m4,_⟩:=Bd.mt (n:=0) ha hb;exact⟨m4,m3,rfl,gL ha hb h⟩
def PB:AS:=
 (Aq (AN 2 Aw (AB (AW C6 (AW Ai (aV 0) (aC (.int 0))) (AW Ai (aV 1) (aC (.int 1)))) (AB (AW C6 (AW Ai (aV 0) (aC (.int 1))) (AW Ai (aV 1) (aC (.int 0)))) AM))))
def Cr:AF:=Am 2 PB
theorem F5 (c:b≠0)(ha:Bd 4000 a)(hb:Bd 4000 b)(h:Q (fr (a/b))):Cr [fr a,fr b] Q:=by obtain⟨m1,m2,m3,m4,m5⟩:=Bd.mt (n:=0) ha hb;exact⟨m1,m5,rfl,gK c ha hb h⟩
end
def mP {t b:Int}(a:0<t)(hb:0<b):0<Rat.divInt t b:=by
 rw[Rat.lt_iff];have h1:=ACj t b;show (0:Int)*_<_*1;rw[Int.zero_mul,Int.mul_one,h1,ADN hb,Int.one_mul];have g:0<(b.gcd t:Int):=by have:=Int.gcd_pos_of_ne_zero_left t (show b≠0 by omega);omega
 exact Int.ediv_pos_of_pos_of_dvd a (by omega) (Int.gcd_dvd_right ..)
def Il {t b:Int}{Q:PV->Prop}(k:Nat)(hb:b≠0)(a:t.natAbs<2^k)(c:b.natAbs<2^k)(hk:k<=2000)(h:Bd k (Rat.divInt t b)->Q (fr (Rat.divInt t b))):Aw [.int t, .int b] Q:=
 Cg t b hb (A9 a (by omega)) (A9 c (by omega)) (h (.part hb a c))
def Mul (D N:Nat)(a:Rat):Prop:=0<D/\∃k:Int,a=Rat.divInt k D/\k.natAbs<=N
def Mul.bd {D N n:Nat}{a:Rat}(h:Mul D N a)(h1:N<2^n)(h2:D<2^n):Bd n a:=by obtain⟨b,k,rfl,hk⟩:=h;exact .divInt (by omega) (by omega) (by simpa using h2)
def Mul.part {t b:Int}{c:Nat}(hb:0<b)(hc:0<c){N:Nat}(h:(t*c).natAbs<=N):Mul (b.toNat*c) N (Rat.divInt t b):=by
 refine⟨Nat.mul_pos (by omega) hc,t*c, ?_,h⟩;have e:((b.toNat*c:Nat):Int)=b*c:=by rw[ACm];congr 1;omega
 rw[e,(ADl (by omega) (DX (by omega) (by omega)))];rw[Int.mul_comm b,Int.mul_assoc]
def Mul.add {D N M:Nat}{a b:Rat}(ha:Mul D N a)(hb:Mul D M b):Mul D (N+M) (a+b):=by obtain⟨c,k,rfl,hk⟩:=ha;obtain⟨_,l,rfl,hl⟩:=hb;refine⟨c,k+l, ?_,by omega⟩;rw[ADg _ _ (by omega) (by omega),ADl (DX (by omega) (by omega)) (by omega)];rw[<-Int.add_mul,Int.mul_assoc]
def Mul.mono {D N M:Nat}{a:Rat}(h:Mul D N a)(b:N<=M):Mul D M a:=⟨h.1,let ⟨k,e,hk⟩:=h.2;⟨k,e,by omega⟩⟩
def Mul.int {n:Int}{D N:Nat}(a:0<D)(h:(n*D).natAbs<=N):Mul D N (n:Rat):=by
 have e:(n:Rat)=Rat.divInt n 1:=by rw[<-ABF (n:Rat)];simp
 rw[e];have:=Mul.part (t:=n) (b:=1) (c:=D) (by decide) a h;simpa using this
def MI:AS:=
 (AY (CF (Ax (AW YR (aV 1) (aC (.int 3)))) (Aq (A2 (AB (AW Bl (aC (.int 1)) (AN 2 BB (AB (aV 0) (AB (aC (.int 5)) AM)))) (AB (aC (.int 1)) AM)))) BV)
   (Aq (AN 2 Aw (AB (AW Bl (aC (.int 1)) (AN 2 BB (AB (aV 0) (AB (aC (.int 8)) AM)))) (AB (AW HP (aV 1) (aC (.int 1))) AM)))))
def Qw:AS:=
 (AY (Aj (AN 2 BB (AB (aV 0) (AB (aC (.int 5)) AM))) (Ak 1))
   MI)
def Ch:AF:=Am 2 Qw
def F6 {Q:PV->Prop}(h:∀a,Bd 8 a->0<a->Mul 6 48 a->Q (fr a)):Ch [.tape] Q:=by
 refine⟨rfl,Ct (by decide) (by decide) λw g i=> ?_⟩;refine IG (b:=decide (w<3)) (λ_=> ?_) (λz=> ?_)
 .refine ⟨rfl,Ct (by decide) (by decide) λr d f=>⟨lz, ?_⟩⟩;exact Qr (h _ (.int (by omega) (by decide)) (by exact_mod_cast (by omega:(0:Int)<1+r)) (.int (by decide) (by omega)))
 .have j:¬w<3:=ABR z;have hw:w-1=2\/w-1=3:=by omega
  refine⟨rfl,Ct (by decide) (by decide) λr d f=>⟨rfl, ?_⟩⟩;refine Il 8 (by omega) (by omega) (by omega) (by decide) λb=>h _ b (mP (by omega) (by omega)) ?_;rcases hw with e|e
  .rw [e];exact Mul.part (t:=1+r) (b:=2) (c:=3) (by decide) (by decide) (by omega)
  .rw [e];exact Mul.part (t:=1+r) (b:=3) (c:=2) (by decide) (by decide) (by omega)
def Md {Q:PV->Prop}(h:∀a,Bd 8 a->0<a->Q (fr a)):Ch [.tape] Q:=F6 λa b p _=>h a b p
def LI:AS:=
 (AY (CF (Ax (AW Nh (aV 1) (aC (.int 6)))) (Aq (AN 2 Aw (AB (AW HP (AN 2 BB (AB (aV 0) (AB (aC (.int 25)) AM))) (aC (.int 6))) (AB (aC (.int 2)) AM)))) BV)
   (Aq (AN 2 Aw (AB (AW HP (AN 2 BB (AB (aV 0) (AB (aC (.int 31)) AM))) (aC (.int 9))) (AB (aC (.int 3)) AM)))))
def LH:AS:=
 (AY (CF (Ax (AW YR (aV 1) (aC (.int 6)))) (Aq (A2 (AB (AW HP (AN 2 BB (AB (aV 0) (AB (aC (.int 10)) AM))) (aC (.int 3))) (AB (aC (.int 1)) AM)))) BV)
   LI)
def O9:AS:=
 (AY (Aj (AN 2 BB (AB (aV 0) (AB (aC (.int 8)) AM))) (Ak 1))
   LH)
def A6:AF:=Am 2 O9
def Ay {Q:PV->Prop}(h:∀a,Mul 6 60 a->Q (fr a)):A6 [.tape] Q:=by
 refine⟨rfl,Ct (by decide) (by decide) λw f g=> ?_⟩;refine IG (b:=decide (w<6)) (λ_=> ?_) (λz=> ?_)
 .refine ⟨rfl,Ct (by decide) (by decide) λr d e=>⟨lz, ?_⟩⟩;exact Qr (h _ (.int (by decide) (by omega)))
 refine IG (b:=decide (w=6)) (λ_=> ?_) (λz=> ?_)
 .exact ⟨rfl,Ct (by decide) (by decide) λr d e=>⟨rfl,Il 8 (by omega) (by omega) (by omega) (by decide) λb=>h _ (Mul.part (t:=r-6) (b:=2) (c:=3) (by decide) (by decide) (by omega))⟩⟩
 .exact ⟨rfl,Ct (by decide) (by decide) λr d e=>⟨rfl,Il 8 (by omega) (by omega) (by omega) (by decide) λb=>h _ (Mul.part (t:=r-9) (b:=3) (c:=2) (by decide) (by decide) (by omega))⟩⟩
abbrev C4:=Rat×Rat×Rat×Rat
def cor (c:C4):PV:= .tup [fr c.1,fr c.2.1,fr c.2.2.1,fr c.2.2.2]
def corL (c:C4):PV:= .lst [fr c.1,fr c.2.1,fr c.2.2.1,fr c.2.2.2]
def BJ (cs:zy C4):PV:= .tup (cs.map cor)
structure FT (B:Nat) (c:C4):Prop where
 m:Bd B c.1
 x:Bd B c.2.1
 y:Bd B c.2.2.1
 z:Bd B c.2.2.2
def FT.mono {B a:Nat}{c:C4}(h:FT B c)(k:B<=a):FT a c:=⟨h.m.mono k,h.x.mono k,h.y.mono k,h.z.mono k⟩
structure MZ (D N:Nat) (c:C4):Prop where
 m:Mul D N c.1
 x:Mul D N c.2.1
 y:Mul D N c.2.2.1
 z:Mul D N c.2.2.2
def MZ.mono {D N M:Nat}{c:C4}(h:MZ D N c)(k:N<=M):MZ D M c:=⟨h.m.mono k,h.x.mono k,h.y.mono k,h.z.mono k⟩
def MZ.bd {D N n:Nat}{c:C4}(h:MZ D N c)(h1:N<2^n)(h2:D<2^n):FT n c:=⟨h.m.bd h1 h2,h.x.bd h1 h2,h.y.bd h1 h2,h.z.bd h1 h2⟩
def Jo (cs:zy C4):Prop:=cs.Pairwise λa b=>a.1<b.1
structure VF (n D N:Nat) (cs:List C4):Prop where
 two:2<=cs.length
 few:cs.length<=n
 mu:∀c∈cs,MZ D N c
 ris:Jo cs
structure FY (n B:Nat) (cs:List C4):Prop where
 two:2<=cs.length
 few:cs.length<=n
 bd:∀c∈cs,FT B c
 ris:Jo cs
def Zg {cs:zy C4}{c d:C4}(h:Jo (cs ++ [c]))(hd:c.1<d.1):Jo (cs ++ [c] ++ [d]):=by
 refine ACD.mpr ⟨h,by simp,λa ha b hb=> ?_⟩;simp at hb;subst hb;rcases AAO.mp ha with ha|ha
 .have:=(ACD.mp h).2.2 a ha c (by simp);grind
 .simp at ha;subst ha;exact hd
def Iv:AS:=
 (AY (CF (Ax (AW aZ (aV 5) (aC (.int 3)))) (Aj (Ej (DS (AB (AN 1 A6 (AB (aV 0) AM)) (AB (AN 1 A6 (AB (aV 0) AM)) (AB (AN 1 A6 (AB (aV 0) AM)) AM))))) (Ak 3)) (CF (Ax (AW aZ (aV 5) (aC (.int 0)))) (Aj (AW Bl (AW Bl (X6 (aV 3) X7 (X8 (AW HP (aV 5) (aC (.int 1))))) (Ej (DS (AB (AN 1 A6 (AB (aV 0) AM)) AM)))) (X6 (aV 3) (X8 (aV 5)) X7)) (Ak 3)) BV))
   (DT 4 GV (AB (A2 (AB (aV 2) (AB (AW Ai (aV 3) (aC (.int 0))) (AB (AW Ai (aV 3) (aC (.int 1))) (AB (AW Ai (aV 3) (aC (.int 2))) AM))))) AM)))
def Iu:AS:=
 (AY (Aj (AN 2 BB (AB (aV 0) (AB (aC (.int 6)) AM))) (Ak 5))
   Iv)
def MB:AS:=
 (AY (Aj (AN 2 A3 (AB (aV 2) (AB (AN 1 Ch (AB (aV 0) AM)) AM))) (Ak 2))
   Iu)
def MF:AS:=
 (AY (Hv (Ax (AW YR (FR IE (AB (aV 4) AM)) (aV 1))) MB)
   (Aq (FR DV (AB (aV 4) AM))))
def ME:AS:=
 (AY (GR (DS (AB (A2 (AB (aV 2) (AB (AW Ai (aV 3) (aC (.int 0))) (AB (AW Ai (aV 3) (aC (.int 1))) (AB (AW Ai (aV 3) (aC (.int 2))) AM))))) AM)) 4)
   MF)
def MD:AS:=
 (AY (Aj (Ej (DS (AB (AN 1 A6 (AB (aV 0) AM)) (AB (AN 1 A6 (AB (aV 0) AM)) (AB (AN 1 A6 (AB (aV 0) AM)) AM))))) (Ak 3))
   ME)
def GD:AS:=
 (AY (Aj (A2 (AB (AN 2 BB (AB (aV 0) (AB (aC (.int 12)) AM))) (AB (aC (.int 1)) AM))) (Ak 2))
   MD)
def MC:AS:=
 (AY (CF (Ax (AW Nh (AN 2 BB (AB (aV 0) (AB (aC (.int 8)) AM))) (aC (.int 0)))) (Aj (AW Bl (aC (.int 7)) (AN 2 BB (AB (aV 0) (AB (aC (.int 3)) AM)))) (Ak 1)) BV)
   GD)
def Qv:AS:=
 (AY (Aj (AW Bl (aC (.int 2)) (AN 2 BB (AB (aV 0) (AB (aC (.int 4)) AM)))) (Ak 1))
   MC)
def Em:AF:=Am 6 Qv
def Vu (many:Int)(B k f:zt AV)(j:zt AV)(I:2<=many)(h1:many<=9){Q:PV->Prop}(h:∀cs,VF 9 6 512 cs->Q (BJ cs)):GD {nx:=λ_=>Q .non,rt:=Q,bk:=λ_=>False,ct:=λ_=>False} [some (.val .tape),some (.val (.int many)),B,k,j,f] :=by
 refine⟨rfl,Ct (by decide) (by decide) λm m0 m1=>⟨lz, ?_⟩⟩;refine⟨rfl,Ay λx hx=>⟨rfl,Ay λy hy=>⟨rfl,Ay λz hz=>⟨lz, ?_⟩⟩⟩⟩;refine⟨lz,lz, ?_⟩;refine⟨(many-1).toNat+1,VA (λn τ=>∃(cs:zy C4) (c:C4) (f:zt AV),n+(cs.length+1)=many.toNat+1/\1<=n/\(∀d∈cs ++ [c],MZ 6 (66+48*cs.length) d)/\(Mul 6 60 c.2.1/\Mul 6 60 c.2.2.1/\Mul 6 60 c.2.2.2)/\Jo (cs ++ [c])/\
  τ= [some (.val .tape),some (.val (.int many)),some (.val (fr c.1)),some (.val (.lst [fr c.2.1,fr c.2.2.1,fr c.2.2.2])),some (.own ((cs ++ [c]).map cor)),f]) ?_ ?_ _ _ ⟨[],((m:Rat),x,y,z),f, ?_, ?_, ?_, ?_, ?_, ?_⟩⟩
 .rintro τ ⟨cs,c,f,_,C,_⟩;omega
 .rintro n τ R D ⟨cs,c,f,C,J,hb,g,r,rfl⟩;have t:(((cs ++ [c]).map cor).length:Int)=(cs.length:Int)+1:=by simp
  refine IG (b:=decide ((((cs ++ [c]).map cor).length:Int)<many)) (λz=> ?_) (λz=> ?_)
  .have l:(((cs ++ [c]).map cor).length:Int)<many:=ABQ z;rw[t] at l;have u:=hb c (by simp);refine⟨rfl,F6 λs E K F=>⟨rfl,C3 ((u.m.bd (n:=12) (by omega) (by decide)).mono (by omega)) (E.mono (by omega)) ?_⟩⟩;refine⟨rfl,Ct (by decide) (by decide) λw L M=> ?_⟩;have a:∀(o:GB) (x y z:Rat) (f:zt AV),o.nx=R->Mul 6 60 x->Mul 6 60 y->Mul 6 60 z->DT 4 GV (AB (A2 (AB (aV 2) (AB (AW Ai (aV 3) (aC (.int 0))) (AB (AW Ai (aV 3) (aC (.int 1))) (AB (AW Ai (aV 3) (aC (.int 2))) AM))))) AM)
    o [some (.val .tape),some (.val (.int many)),some (.val (fr (c.1+s))),some (.val (.lst [fr x,fr y,fr z])),some (.own ((cs ++ [c]).map cor)),f] :=by
    intro o x y z f G v i A;refine⟨lz, ?_, ?_⟩
    .show _<16777216;omega
    .rw [G];have H:Mul 6 (66+48*(cs.length+1)) (c.1+s):=(u.m.add F).mono (by omega);refine D _ ⟨cs ++ [c],(c.1+s,x,y,z),f,by simp;omega,by omega, ?_,⟨v,i,A⟩,Zg r ?_, ?_⟩
     .intro d hd;rcases AAO.mp hd with hd|hd
      .exact (hb d hd).mono (by simp;omega)
      .simp at hd;subst hd;have e:(cs ++ [c]).length=cs.length+1:=by simp
       rw[e];exact⟨H,v.mono (by omega),i.mono (by omega),A.mono (by omega)⟩
     .show c.1<c.1+s;grind
     .rw [AAT (l₁:=cs ++ [c])];rfl
   refine IG (b:=decide (3<w)) (λ_=> ?_) (λk=> ?_)
   .exact ⟨rfl,Ay λx hx=>⟨rfl,Ay λy hy=>⟨rfl,Ay λz hz=>⟨lz,a _ x y z _ rfl hx hy hz⟩⟩⟩⟩
   refine IG (b:=decide (0<w)) (λj=> ?_) (λj=> ?_)
   .have N:¬3<w:=ABR k;have O:0<w:=ABQ j;have hw:w=1\/w=2\/w=3:=by omega
    rcases hw with rfl|rfl|rfl
    .exact EH ⟨rfl,Ay λp hp=>⟨lz,lz,EH ⟨lz,a _ p _ _ _ rfl hp g.2.1 g.2.2⟩⟩⟩
    .exact EH ⟨rfl,Ay λp hp=>⟨lz,lz,EH ⟨lz,a _ _ p _ _ rfl g.1 hp g.2.2⟩⟩⟩
    .exact EH ⟨rfl,Ay λp hp=>⟨lz,lz,EH ⟨lz,a _ _ _ p _ rfl g.1 g.2.1 hp⟩⟩⟩
   .exact a _ _ _ _ _ rfl g.1 g.2.1 g.2.2
  .have l:¬(((cs ++ [c]).map cor).length:Int)<many:=ABR z;rw[t] at l;refine h (cs ++ [c]) ⟨by simp;omega,by simp;omega,λd hd=>(hb d hd).mono (by omega),r⟩
 .simp;omega
 .omega
 .intro d hd;simp at hd;subst hd;exact⟨.int (by decide) (by simp;omega),hx.mono (by decide),hy.mono (by decide),hz.mono (by decide)⟩
 .exact ⟨hx,hy,hz⟩
 .exact List.pairwise_singleton _ _
 .simp only[cor,YU,AA0,AAK,ABc];rfl
def Mc {Q:PV->Prop}(h:∀cs,VF 9 6 512 cs->Q (BJ cs)):Em [.tape] Q:=by
 refine⟨rfl,Ct (by decide) (by decide) λa d e=>⟨rfl,Ct (by decide) (by decide) λb f g=> ?_⟩⟩;refine IG (b:=decide (b=0)) (λ_=> ?_) (λ_=> ?_)
 .exact ⟨rfl,Ct (by decide) (by decide) λc c0 i=>Vu (7+c) _ _ _ _ (by omega) (by omega) h⟩
 .exact Vu (2+a) _ _ _ _ (by omega) (by omega) h
def YG {cs:zy C4}{i:Int}{k:Nat}(hk:i=(k:Int))(h:k<=cs.length):IB (cs.map cor) (some i) none=(cs.drop k).map cor:=by unfold IB;rw[hk,HT.sIx_none,HT.sIx_nat];rw[show min k (cs.map cor).length=k by simp;omega,ACE];exact ABq (by simp)
def WD {cs:zy C4}{i:Int}{k:Nat}{Q:PV->Prop}(hk:i=(k:Int))(h:k<=cs.length)(q:Q (BJ (cs.drop k))):Wt (BJ cs) (some i) none Q:=by refine WE ?_;rw[YG hk h];exact q
def VF.ok {n D N m:Nat}{cs:zy C4}(p:VF n D N cs)(h1:N<2^m)(h2:D<2^m):FY n m cs:=⟨p.two,p.few,λc hc=>(p.mu c hc).bd h1 h2,p.ris⟩
def Kv (cs:zy C4)(v:PV):Prop:=∃f:C4->PV,(f=cor\/f=corL)/\(v= .tup (cs.map f)\/v= .lst (cs.map f))
def Kv.self (cs:zy C4):Kv cs (BJ cs):=⟨cor, .inl rfl, .inl rfl⟩
def Kv.lists (cs:zy C4):Kv cs (.lst (cs.map corL)):=⟨corL, .inr rfl, .inr rfl⟩
def laterC (b:Rat)(cs:zy C4):zy C4:=cs.map λc=>(c.1+b,c.2)
def FT.laterC {B m:Nat}{b:Rat}{cs:zy C4}(h:∀c∈cs,FT B c)(hb:Bd m b):∀c∈laterC b cs,FT (B+m+1) c:=λc hc=>by obtain⟨d,hd,rfl⟩:=AAN.mp hc;have q:=h d hd;exact⟨q.m.add hb,q.x.mono (by omega),q.y.mono (by omega),q.z.mono (by omega)⟩
theorem Cs {i m:Type}{g:AG}{j:AE}{d:A7}{Q:zy PV->Prop}(f:i->PV)(k:m->PV)(e:i->m)(P:i->Prop)(hs:∀a,P a->∀R:PV->Prop,R (k (e a))->g (f a) d λl=>j l R):∀(xs:zy i) (c:zy PV),(∀a∈xs,P a)->Q (c++(xs.map e).map k)->Cj g Dd j d Q (xs.map f) c
 | [],c,_,h=>(by simpa using h:Q c)
 | a::xs,c,hp,h=>by refine hs a (hp a (by simp)) (λy=>Cj g Dd j d Q (xs.map f) (c ++ [y])) (Cs f k e P hs xs _ (λb hb=>hp b (by simp[hb])) ?_);simpa using h
def Sh.cor {c:C4}(h:FT 1900 c):Sh 2 17000 (cor c):=(Sh.tup (cF (Sh.fr h.m) (Sh.fr h.x) (Sh.fr h.y) (Sh.fr h.z))).mono (by decide) lz
def Sh.corL {c:C4}(h:FT 1900 c):Sh 2 17000 (corL c):=(Sh.lst (cF (Sh.fr h.m) (Sh.fr h.x) (Sh.fr h.y) (Sh.fr h.z))).mono (by decide) lz
def Uy {x:PV}{Q:PV->Prop}(a:PR x)(hq:K3 x=true)(h:Q (.str (kb x))):Mt [x] Q:=by unfold Mt;cases x <;> first | exact⟨hq,a,h⟩|(simp[K3] at hq)
abbrev T3:=Rat×Rat×Rat
def inter (a b:C4)(m:Rat):T3:=(a.2.1+(m-a.1)/(b.1-a.1)*(b.2.1-a.2.1),a.2.2.1+(m-a.1)/(b.1-a.1)*(b.2.2.1-a.2.2.1),a.2.2.2+(m-a.1)/(b.1-a.1)*(b.2.2.2-a.2.2.2))
def spotG:C4->zy C4->Rat->zt T3
 | _, [],_=>none
 | a,b::r,m=>if b.1<m then spotG b r m else some (inter a b m)
def spotC:zy C4->Rat->zt T3
 | [],_=>none
 | a::r,m=>if m<a.1 then none else spotG a r m
def CM (t:T3):PV:= .tup [fr t.1,fr t.2.1,fr t.2.2]
def Sg:zt T3->PV
 | none=> .non
 | some t=>CM t
structure Du (B:Nat) (t:T3):Prop where
 x:Bd B t.1
 y:Bd B t.2.1
 z:Bd B t.2.2
section
variable {B M:Nat}{a b:C4}{m:Rat}
theorem aE {x y:Rat}(h:x<y):y-x≠0:=by grind
theorem Bd.share (ha:FT B a)(hb:FT B b)(c:Bd M m)(h:a.1<b.1):Bd (M+B+1+(B+B+1)) ((m-a.1)/(b.1-a.1)):=(c.sub ha.m).div (aE h) (hb.m.sub ha.m)
theorem Du.inter (ha:FT B a)(hb:FT B b)(c:Bd M m)(h:a.1<b.1):Du (M+6*B+10) (inter a b m):=by have s:=Bd.share ha hb c h;exact⟨(ha.x.add (s.mul (hb.x.sub ha.x))).mono (by omega),(ha.y.add (s.mul (hb.y.sub ha.y))).mono (by omega),(ha.z.add (s.mul (hb.z.sub ha.z))).mono (by omega)⟩
end
theorem Du.spotG {B M:Nat}{m:Rat}(d:Bd M m):∀{a:C4} {r:zy C4},Jo (a::r)->(∀c∈a::r,FT B c)->∀t,spotG a r m=some t->Du (M+6*B+10) t
 | a, [],_,_,t,e=>by cases e
 | a,b::r,hr,hb,t,e=>by
   unfold PL.spotG at e;split at e
   .exact Du.spotG d (AAL.mp hr).2 (λc hc=>hb c (by simp[hc])) t e
   .cases e;exact .inter (hb a (by simp)) (hb b (by simp)) d ((AAL.mp hr).1 b (by simp))
def Du.spotC {B M:Nat}{m:Rat}{cs:zy C4}(b:Bd M m)(d:Jo cs)(hb:∀c∈cs,FT B c):∀t,spotC cs m=some t->Du (M+6*B+10) t:=λt e=>by
 cases cs with
 | nil=>cases e
 | cons a r=>
   simp only[PL.spotC] at e;split at e
   .cases e
   .exact Du.spotG b d hb t e
def Pf {f:C4->PV}{cs:zy C4}{i:Int}{k:Nat}{c:C4}{Q:PV->Prop}(hk:i=(k:Int))(e:cs[k]? =some c)(h:Q (f c)):cN (Jp (cs.map f) i) Q:=by have q:Jp (cs.map f) ((k:Nat):Int)=some (f c):=DB (by rw[AAm,e] <;> rfl);rw[hk,q];exact h
def RW {f:C4->PV}{cs:zy C4}{c:C4}{Q:PV->Prop}(e:cs.getLast?=some c)(h:Q (f c)):cN (Jp (cs.map f) (-1)) Q:=by
 have a:cs≠ [] :=by intro z;subst z;cases e
 have hl:0<cs.length:=List.length_pos_iff.mpr a;have q:Jp (cs.map f) (-1)=some (f c):=by
  unfold Jp b6;rw[AAJ,AAC (by decide),AAE (by omega)];have b:(-1+(cs.length:Int)).toNat=cs.length-1:=by omega
  rw[Option.bind_some,b,AAm,<-List.getLast?_eq_getElem?,e];rfl
 rw[q];exact h
def V4 {cs:zy C4}(h:Jo cs){k:Nat}{a b:C4}(c:cs[k]? =some a)(d:cs[k+1]? =some b):a.1<b.1:=by have h1:=(AAp.mp c);have h2:=(AAp.mp d);obtain⟨e,rfl⟩:=h1;obtain⟨f,rfl⟩:=h2;exact List.pairwise_iff_getElem.mp h k (k+1) e f (by omega)
theorem NZ {m:Rat}:∀{a:C4} {r:zy C4},Jo (a::r)->(∀l,(a::r).getLast?=some l->l.1<m)->spotG a r m=none
 | a, [],_,_=>rfl
 | a,b::r,hr,h=>by
   have d:Jo (b::r):=(AAL.mp hr).2;have hb:b.1<m:=by
    cases r with
    | nil=>exact h b rfl
    | cons c r=> obtain⟨l,hl⟩:∃l,(c::r).getLast?=some l:=⟨_,ABv (by simp)⟩;have h1:l.1<m:=h l (by simpa[ABw] using hl);have h2:b.1<l.1:=(AAL.mp d).1 l (ACn hl);grind
   simp only[spotG,AAE hb];exact NZ d λl hl=>h l (by simpa[ABw] using hl)
def Rl {a b:C4}(h:a.1<b.1):inter a b a.1=a.2:=by
 have s:(a.1-a.1)/(b.1-a.1)=0:=by grind
 simp only[inter,s];obtain⟨m,x,y,z⟩:=a;show (x+0*(b.2.1-x),y+0*(b.2.2.1-y),z+0*(b.2.2.2-z))=(x,y,z);rw[show x+0*(b.2.1-x)=x by grind,show y+0*(b.2.2.1-y)=y by grind,show z+0*(b.2.2.2-z)=z by grind]
def UB {a b:C4}(h:a.1<b.1):inter a b b.1=b.2:=by
 have s:(b.1-a.1)/(b.1-a.1)=1:=by grind
 simp only[inter,s];obtain⟨m,x,y,z⟩:=b;show (a.2.1+1*(x-a.2.1),a.2.2.1+1*(y-a.2.2.1),a.2.2.2+1*(z-a.2.2.2))=(x,y,z);rw[show a.2.1+1*(x-a.2.1)=x by grind,show a.2.2.1+1*(y-a.2.2.1)=y by grind,show a.2.2.2+1*(z-a.2.2.2)=z by grind]
def LA {a:C4}{r:zy C4}{m:Rat}(h:m<a.1):spotC (a::r) m=none:=by simp only[spotC,AAE h]
def Qn {a:C4}{r:zy C4}{m:Rat}(b:Jo (a::r))(h:∀l,(a::r).getLast?=some l->l.1<m):spotC (a::r) m=none:=by
 simp only[spotC];split
 .rfl
 .exact NZ b h
def JA:AS:=
 (AY (Aj (Ej (Bz (Jy (A2 (AB (aC (.int 1)) (AB (aC (.int 2)) (AB (aC (.int 3)) AM))))) 1 [4,3,2] (Ak 0) Dd (AN 2 BE (AB (aV 1) (AB (AN 2 BQ (AB (AW Ai (aV 2) (aV 0)) (AB (AW Ai (aV 3) (aV 0)) AM))) AM))))) (Ak 5))
   (Aq (FR DV (AB (Ej (Bz (JF (AB (aC (.int 3)) AM)) 1 [2,5] (Ak 0) Dd (AN 2 A3 (AB (AW Ai (aV 1) (AW Bl (aV 0) (aC (.int 1)))) (AB (AW Ai (aV 2) (aV 0)) AM))))) AM))))
def MJ:AS:=
 (AY (Aj (AN 2 Cr (AB (AN 2 BQ (AB (aV 1) (AB (AW Ai (aV 2) (aC (.int 0))) AM))) (AB (AN 2 BQ (AB (AW Ai (aV 3) (aC (.int 0))) (AB (AW Ai (aV 2) (aC (.int 0))) AM))) AM))) (Ak 4))
   JA)
def MK:AS:=
 (AY (ED (db (AB (aV 0) (AB (X6 (aV 0) (X8 (aC (.int 1))) X7) AM))) (Hx 2 (AZ (Ak 2) (AZ (Ak 3) Bq))) (CF (Ky (Ax (AN 2 Ar (AB (AW Ai (aV 3) (aC (.int 0))) (AB (aV 1) AM))))) MJ BV))
   (Aq (aC .non)))
def Qx:AS:=
 (AY (CF (RM (Ax (AN 2 Ar (AB (aV 1) (AB (AW Ai (AW Ai (aV 0) (aC (.int 0))) (aC (.int 0))) AM)))) (Ax (AN 2 Ar (AB (AW Ai (AW Ai (aV 0) (TR J0 (aC (.int 1)))) (aC (.int 0))) (AB (aV 1) AM))))) (Aq (aC .non)) BV)
   MK)
def Dw:AF:=Am 6 Qx
def GM {cs:zy C4}{B M:Nat}{m:Rat}(hc:∀c∈cs,FT B c)(E:Jo cs)(I:cs≠ [])(hl:cs.length<=1000)(t:Bd M m)(P:M+6*B+10<=3990){Q:PV->Prop}(q:Q (Sg (spotC cs m))):Dw [BJ cs,fr m] Q:=by
 have m1:=t.mono (n:=4000) (by omega);cases cs with
 | nil=>exact absurd rfl I
 | cons a r=>
   have J:=hc a (by simp);have K:=J.m.mono (n:=4000) (by omega);obtain⟨l,u⟩:∃l,(a::r).getLast?=some l:=⟨_,ABv (by simp)⟩;have L:=hc l (ACn u);refine Pf (f:=cor) (k:=0) (c:=a) rfl rfl ⟨rfl,En m1 K ?_⟩;refine IG (b:=decide (m<a.1)) (λz=> ?_) (λz=> ?_)
   .rw [LA (ABQ z)] at q;exact q
   refine RW (f:=cor) u ⟨rfl,En (L.m.mono (by omega)) m1 ?_⟩;refine IG (b:=decide (l.1<m)) (λo=> ?_) (λo=> ?_)
   .rw [Qn E (λS F=>by rw[u] at F;cases F;exact ABQ o)] at q;exact q
   simp only[spotC,AAC (ABR z)] at q;have N:r.length+1<=1000:=hl;refine WD (cs:=a::r) (i:=1) (k:=1) rfl (by simp) ?_;refine G0 (λG τ=>∃(c:C4) (h:zy C4) (o v w A:zt AV),G=HS ((c::h).map cor) (h.map cor)/\Jo (c::h)/\(∀d∈c::h,FT B d)/\spotG c h m=spotG a r m/\τ= [some (.val (BJ (a::r))),some (.val (fr m)),o,v,w,A]) ?_ ?_ _ _ ⟨a,r,none,none,none,none,rfl,E,hc,rfl,rfl⟩
   .rintro τ ⟨c,h,o,v,w,A,p,C,hb,es,rfl⟩;have:h= [] :=by cases h with | nil=>rfl|cons d h=>cases p
    subst this;rw[<-es] at q;exact q
   .rintro x G τ R O ⟨c,h,o,v,w,A,p,C,hb,es,rfl⟩;cases h with
    | nil=>cases p
    | cons d h=>
      cases p;have g:=hb c (by simp);have j:=hb d (by simp);have H:=(AAL.mp C).1 d (by simp);refine⟨rfl,rfl,En (j.m.mono (by omega)) m1 ?_⟩;refine IG (b:= !decide (d.1<m)) (λz=> ?_) (λz=> ?_)
      .have D:¬d.1<m:=by simpa using z
       rw[<-es] at q;simp only[spotG,AAC D,Sg,CM,inter] at q;have s:=Bd.share g j t H;refine⟨rfl,CS m1 (g.m.mono (by omega)) ⟨rfl,CS (j.m.mono (by omega)) (g.m.mono (by omega)) ⟨rfl,F5 (aE H) ((t.sub g.m).mono (by omega)) ((j.m.sub g.m).mono (by omega)) ?_⟩⟩⟩;refine⟨lz,lz, ?_⟩;refine⟨rfl,CS (j.x.mono (by omega)) (g.x.mono (by omega)) ⟨rfl,Ca (s.mono (by omega)) ((j.x.sub g.x).mono (by omega)) ?_⟩⟩;refine⟨rfl,CS (j.y.mono (by omega)) (g.y.mono (by omega)) ⟨rfl,Ca (s.mono (by omega)) ((j.y.sub g.y).mono (by omega)) ?_⟩⟩;refine⟨rfl,CS (j.z.mono (by omega)) (g.z.mono (by omega)) ⟨rfl,Ca (s.mono (by omega)) ((j.z.sub g.z).mono (by omega)) ?_⟩⟩;refine⟨⟨by decide,by decide⟩,lz, ?_⟩;refine⟨rfl,C3 (g.x.mono (by omega)) ((s.mul (j.x.sub g.x)).mono (by omega)) ?_⟩;refine⟨rfl,C3 (g.y.mono (by omega)) ((s.mul (j.y.sub g.y)).mono (by omega)) ?_⟩;exact⟨rfl,C3 (g.z.mono (by omega)) ((s.mul (j.z.sub g.z)).mono (by omega)) q⟩
      .have D:d.1<m:=by simpa using z
       exact O _ ⟨d,h,_,_,_,_,rfl,(AAL.mp C).2,λe he=>hb e (by simp[he]),by rw[<-es];simp only[spotG,AAE D],rfl⟩
def PR.t3 {t:T3}(h:Du 1900 t):PR (CM t):=(Sh.tup (cE (Sh.fr h.x) (Sh.fr h.y) (Sh.fr h.z))).go (by decide) lz
def sp (cs:zy C4)(m:Rat):C4:=(m,(spotC cs m).getD (0,0,0))
def jU (f t:Rat)(c:C4):zq:=decide (f<c.1)&&decide (c.1<t)
theorem Na {m:Rat}:∀{a:C4} {r:zy C4} {l:C4},r≠ [] ->(a::r).getLast?=some l->m<=l.1->∃t,spotG a r m=some t
 | a, [],l,h,_,_=>absurd rfl h
 | a,b::r,l,_,e,hm=>by
   simp only[spotG];split
   .rename_i h;cases r with
    | nil=>
      have:b=l:=by simpa using e
      subst this;grind
    | cons c r=>exact Na (l:=l) (by simp) (by simpa[ABw] using e) hm
   .exact ⟨_,rfl⟩
def Uq {a:C4}{r:zy C4}{l:C4}{m:Rat}(h2:r≠ [])(e:(a::r).getLast?=some l)(b:a.1<=m)(h1:m<=l.1):∃t,spotC (a::r) m=some t:=by simp only[spotC];rw[AAC (by grind)];exact Na h2 e h1
def W8 {a b l:C4}{r:zy C4}(e:(a::b::r).getLast?=some l):(b::r).getLast?=some l:=by simpa[ABw] using e
def mx (b a:Rat):Rat:=if b<a then a else b
def mn (e l:Rat):Rat:=if e<l then e else l
def both {f t:Rat}{c:C4}{b:(zq->Prop)->Prop}{A:Prop}{N:Prop}(h1:jU f t c=true->A)(h2:jU f t c=false->N):if decide (f<c.1)=true then (if decide (c.1<t)=true then A else N) else N:=by unfold jU at h1 h2;refine IG (λz=>IG (λa=>h1 (by rw[z,a];rfl)) (λa=>h2 (by rw[z,a];rfl))) (λz=>h2 (by rw[z];rfl))
def Bd.mx {n:Nat}{a b:Rat}(ha:Bd n a)(hb:Bd n b):Bd n (mx a b):=by unfold PL.mx;split <;> assumption
def Bd.mn {n:Nat}{a b:Rat}(ha:Bd n a)(hb:Bd n b):Bd n (mn a b):=by unfold PL.mn;split <;> assumption
section
variable {a b:AS}{ta tb:AE}{tt tu:AT}{g:AG}{gs:Sw}{nx bk ct:A7->Prop}{rt:PV->Prop}{τ:A7}{Q:PV->Prop}{QB:zq->Prop}{QL:zy PV->Prop}{QT:A7->Prop}{r:AA}{ai:AI}{F:AF}{n i j:Nat}{x y z:PV}{xs ys:zy PV}
def kR {f:Iq}(e:Qt τ i=some (.val x))(h:ta τ λy=>f x y λz=>nx (τ.set i (some (.val z)))):TM i f ta ⟨nx,rt,bk,ct⟩ τ:=by unfold TM;rw[e];exact h
def kZ (e:Qt τ i=some (.own xs))(h:QL xs):PX i τ QL:=by unfold PX;rw[e];exact h
def uh (e:Qt τ i=some (.val x))(h:Q x):aV i τ Q:=by unfold aV;rw[e];exact h
def qJ (x:PV)(i:Int):zt PV:=match x with | .tup xs=>Jp xs i | .lst xs=>Jp xs i|_=>none
def ni {i:Int}(e:qJ x i=some z)(h:Q z):Ai x (.int i) Q:=by cases x <;> first | (cases e;done)|(show cN (Jp _ i) Q;rw[show Jp _ i=some z from e];exact h)
def hV {l:C4}{cs:zy C4}(c:cs.getLast?=some l)(h:Q (cor l)):Ai (BJ cs) (.int (-1)) Q:=RW c h
def kS {a b:Rat}(h:Q (.bl (decide (a=b)))):Nh (fr a) (fr b) Q:=⟨⟨Vp 29 _,Vp 29 _⟩,by rw[YO];exact h⟩
def kY {a b:Rat}(h:Q (.bl (!decide (a=b)))):Ws (fr a) (fr b) Q:=⟨⟨Vp 29 _,Vp 29 _⟩,by rw[YO];exact h⟩
def d8 {g:zy zq->zq}{bs:zy zq}(e:JI xs=some bs)(h:Q (.bl (g bs))):RU g [.lst xs] Q:=by show (match JI xs with | some bs=>Q (.bl (g bs))|none=>False);rw[e];exact h
def kU {c:zq}{A B:Prop}(e:c=true)(h:A):if c=true then A else B:=by rw[AAE e];exact h
def kT {c:zq}{A B:Prop}(e:c=false)(h:B):if c=true then A else B:=by rw[AAC (by rw[e];exact AAR)];exact h
def kW {p:Prop}[Decidable p]{A B:Prop}(h1:p->A)(h2:¬p->B):if decide p=true then A else B:=by
 by_cases h:p
 .rw [AAE (AA1 h)];exact h1 h
 .rw [AAC (by simp[h])];exact h2 h
def kX {p:Prop}[Decidable p]{A B:Prop}(h1:¬p->A)(h2:p->B):if (!decide p)=true then A else B:=by
 by_cases h:p
 .rw [AAC (by simp[h])];exact h2 h
 .rw [AAE (by simp[h])];exact h1 h
end
def tO:Bd 1 (0:Rat):=⟨by decide,by decide⟩
def mN:Bd 1 (1:Rat):=⟨by decide,by decide⟩
section
variable {g:AG}{b:AS}{nx bk ct:A7->Prop}{rt:PV->Prop}
def VZ (P:Nat->A7->Prop){lo:Int}{n:Nat}(hd:∀τ,P n τ->nx τ)(hs:∀i,i<n->∀τ (R:A7->Prop),(∀τ,P (i+1) τ->R τ)->P i τ->g (.int (lo+i)) τ λc=>b ⟨R,rt,nx,R⟩ c){τ:A7}(f:P 0 τ):C7 g b ⟨nx,rt,bk,ct⟩ (rng lo n) τ:=by
 refine G0 (λr τ=>∃i,i<=n/\r=rng (lo+i) (n-i)/\P i τ) ?_ ?_ _ _ ⟨0,AAq _,by simp,f⟩
 .rintro τ ⟨i,hi,a,hp⟩;have:n-i=0:=by
   cases e:n-i with
   | zero=>rfl
   | succ k=>rw[e,Jd] at a;cases a
  have:i=n:=by omega
  subst this;exact hd τ hp
 .rintro x r τ R h ⟨i,hi,a,hp⟩;cases e:n-i with
  | zero=>rw[e] at a;cases a
  | succ k=> rw[e,Jd] at a;cases a;exact hs i (by omega) τ R (λd h2=>h d ⟨i+1,by omega,by rw[show n-(i+1)=k by omega,show lo+((i+1:Nat):Int)=lo+i+1 by omega],h2⟩) hp
def Cu {a:Type}(f:a->PV)(P:zy a->zy a->A7->Prop){cs:zy a}(hd:∀τ,P cs [] τ->nx τ)(hs:∀us c vs,us++c::vs=cs->∀τ (R:A7->Prop),(∀τ,P (us ++ [c]) vs τ->R τ)->P us (c::vs) τ->g (f c) τ λh=>b ⟨R,rt,nx,R⟩ h){τ:A7}(j:P [] cs τ):C7 g b ⟨nx,rt,bk,ct⟩ (cs.map f) τ:=by
 refine G0 (λr τ=>∃us vs,us++vs=cs/\r=vs.map f/\P us vs τ) ?_ ?_ _ _ ⟨[],cs,rfl,rfl,j⟩
 .rintro τ ⟨us,vs,e,d,hp⟩;cases vs with
  | nil=>rw[AB3] at e;subst e;exact hd τ hp
  | cons v vs=>cases d
 .rintro x r τ R k ⟨us,vs,e,d,hp⟩;cases vs with
  | nil=>cases d
  | cons c vs=> cases d;exact hs us c vs e τ R (λi h2=>k i ⟨us ++ [c],vs,by simpa using e,rfl,h2⟩) hp
def eM {c:AT}(P:Nat->A7->Prop)(hs:∀n τ (R:A7->Prop),(∀τ,P n τ->R τ)->P (n+1) τ->c (frz τ) λk=>if k=true then b ⟨R,rt,nx,R⟩ τ else nx τ)(a:∀τ,¬P 0 τ){n:Nat}{τ:A7}(d:P n τ):Hv c b ⟨nx,rt,bk,ct⟩ τ:=
 ⟨n,VA P a (λn τ R e hp=>hs n τ R e hp) n τ d⟩
end
section
variable {g:AG}{tt:AT}{te:AE}{τ0:A7}{Q:zy PV->Prop}
def VP (P:Nat->zy PV->Prop){lo:Int}{n:Nat}(hd:∀a,P n a->Q a)(hs:∀i,i<n->∀a (R:zy PV->Prop),(∀a,P (i+1) a->R a)->P i a->g (.int (lo+i)) τ0 λc=>tt c λok=>if ok=true then te c λy=>R (a ++ [y]) else R a)(f:P 0 []):Cj g tt te τ0 Q (rng lo n) [] :=by
 refine VO (λr a=>∃i,i<=n/\r=rng (lo+i) (n-i)/\P i a) ?_ ?_ _ _ ⟨0,AAq _,by simp,f⟩
 .rintro a ⟨i,hi,b,hp⟩;have:n-i=0:=by
   cases e:n-i with
   | zero=>rfl
   | succ k=>rw[e,Jd] at b;cases b
  have:i=n:=by omega
  subst this;exact hd a hp
 .rintro x r a R h ⟨i,hi,b,hp⟩;cases e:n-i with
  | zero=>rw[e] at b;cases b
  | succ k=> rw[e,Jd] at b;cases b;exact hs i (by omega) a R (λd h2=>h d ⟨i+1,by omega,by rw[show n-(i+1)=k by omega,show lo+((i+1:Nat):Int)=lo+i+1 by omega],h2⟩) hp
end
end PL
namespace PL
open PySem PySem.Spec PyProof.Rows L2
def Kc (K:AAB)(mg:Str->zt zx)(x:Str)(v:PV):Prop:=∃(u:zx) (V:V),mg x=some u/\RelV V u/\∀T M H,CC K T M H V v
section
variable {K:AAB}{T M:zu->Prop}{H:Hp}
def Ly {i:Int}{t:Tok}:∃V,RelV V (.int i t)/\∀T M H,CC K T M H V (.int i):=⟨.int i,⟨t,rfl⟩,λ_ _ _=> .int i⟩
inductive KR (K:AAB):List Value->List PV->Prop where
 | nil:KR K [] []
 | cons {u:Value} {x:PV} {us:List Value} {xs:List PV} (h:∃V,RelV V u/\∀T M H,CC K T M H V x) (t:KR K us xs):KR K (u::us) (x::xs)
theorem KR.reps:∀{us:zy zx} {xs:zy PV},KR K us xs->∃vs,Ao vs us/\∀T M H,Az K T M H vs xs
 | _,_, .nil=>⟨[], .nil,λ_ _ _=> .nil⟩
 | _,_, .cons ⟨V,r,h⟩ t=>by obtain⟨vs,a,h2⟩:=KR.reps t;exact⟨V::vs, .cons r a,λT M H=> .cons (h T M H) (h2 T M H)⟩
def KR.length:∀{us:zy zx} {xs:zy PV},KR K us xs->us.length=xs.length
 | _,_, .nil=>rfl
 | _,_, .cons _ t=>by simp[t.length]
def V1 {a:zu}{us:zy zx}{xs:zy PV}{n:Nat}{b:zt zu}{c:Array (zt zx)}(hl:K.lookup a=some ⟨.type "tuple",b, .seq us.toArray n,c⟩)(h:KR K us xs)(hs:xs.length<=sizeLine:=by decide):∃V,RelV V (.ref a)/\∀T M H,CC K T M H V (.tup xs):=by obtain⟨vs,r,q⟩:=h.reps;refine⟨.ref a,rfl,λT M H=> .tup (vs:=vs) (.inr ⟨_,us.toArray,n,hl,rfl,rfl, ?_,by simpa using r⟩) (q T M H)⟩;rw[AAP,h.length];exact hs
end
def du {K:AAB}{mg:Str->zt zx}{x:Str}{u:zx}{v:PV}(a:mg x=some u)(h:∃V,RelV V u/\∀T M H,CC K T M H V v):Kc K mg x v:=let ⟨V,r,q⟩:=h;⟨u,V,a,r,q⟩
section
variable {X:Cx}
def Sc {x:Str}{v:PV}{a:Pos}(c:Kc X.K X.mg x v)(b:Gl X x)(hd:(x==("__debug__" :Str))=false:=by decide):SE X (.Name x a) (aC v):=by obtain⟨u,V,d,r,h⟩:=c;exact⟨_,cT b d r hd,Se h⟩
end
end PL
namespace PL
open PySem L2 PyProof.Rows
class Wp (P:Prop) (P':outParam Prop):Prop where
 go:P'->P
class RJ (P:Prop) (C P':outParam Prop):Prop where
 go:C->P'->P
class pV (P:Prop) (P':outParam Prop):Prop where
 go:P'->P
class mK (P:Prop) (A B:outParam Prop):Prop where
 go:A->B->P
class dY (τ:A7) (i:Nat) (x:outParam AV):Prop where
 e:Qt τ i=some x
instance{v:AV}{r:A7}:dY (some v::r) 0 v:=⟨rfl⟩
instance{y:zt AV}{r:A7}{i:Nat}{v:AV}[h:dY r i v] :dY (y::r) (i+1) v:=⟨h.e⟩
class X0 (τ:A7) (i:Nat) (v:AV) (τ':outParam A7):Prop where
 e:τ.set i (some v)=τ'
instance{y:zt AV}{r:A7}{v:AV}:X0 (y::r) 0 v (some v::r):=⟨rfl⟩
instance{y:zt AV}{r a:A7}{i:Nat}{v:AV}[h:X0 r i v a] :X0 (y::r) (i+1) v (y::a):=⟨by rw[List.set_cons_succ,h.e]⟩
class Xf (τ:A7) (τ':outParam A7):Prop where
 e:frz τ=τ'
instance:Xf [] [] :=⟨rfl⟩
instance (priority:=low){z:zt AV}{r a:A7}[h:Xf r a] :Xf (z::r) (bL z::a):=⟨by rw[<-h.e];rfl⟩
instance{r a:A7}[h:Xf r a] :Xf (none::r) (none::a):=⟨by rw[<-h.e];rfl⟩
instance{x:PV}{r a:A7}[h:Xf r a] :Xf (some (.val x)::r) (some (.val x)::a):=⟨by rw[<-h.e];rfl⟩
instance{x:zy PV}{r a:A7}[h:Xf r a] :Xf (some (.own x)::r) (some (.val (.lst x))::a):=⟨by rw[<-h.e];rfl⟩
class lG (ix:List Nat) (τ:A7) (τ':outParam A7):Prop where
 e:(ix.map λi=>We (Qt τ i))=τ'
instance{τ:A7}:lG [] τ [] :=⟨rfl⟩
instance{τ r:A7}{i:Nat}{ix:zy Nat}{x:PV}[h:dY τ i (.val x)][h2:lG ix τ r] :lG (i::ix) τ (some (.val x)::r):=⟨by rw[AAK,h.e,h2.e];rfl⟩
class lJ (n:Nat) (τ:outParam A7):Prop where
 e:List.replicate n none=τ
instance:lJ 0 [] :=⟨rfl⟩
instance{n:Nat}{τ:A7}[h:lJ n τ] :lJ (n+1) (none::τ):=⟨by rw[List.replicate_succ,h.e]⟩
class ao (xs ys:A7) (zs:outParam A7):Prop where
 e:xs++ys=zs
instance{ys:A7}:ao [] ys ys:=⟨rfl⟩
instance{x:zt AV}{xs ys a:A7}[h:ao xs ys a] :ao (x::xs) ys (x::a):=⟨by rw[ADO,h.e]⟩
class Xp (xs ys:List PV) (zs:outParam (List PV)):Prop where
 e:xs++ys=zs
instance{ys:zy PV}:Xp [] ys ys:=⟨rfl⟩
instance{x:PV}{xs ys a:zy PV}[h:Xp xs ys a] :Xp (x::xs) ys (x::a):=⟨by rw[ADO,h.e]⟩
class ay (xs:List PV) (n:outParam Nat):Prop where
 e:xs.length=n
instance:ay [] 0:=⟨rfl⟩
instance{x:PV}{xs:zy PV}{n:Nat}[h:ay xs n] :ay (x::xs) (n+1):=⟨by rw[AAZ,h.e]⟩
class Ix (x:PV) (i:Int) (y:outParam PV):Prop where
 e:qJ x i=some y
section
variable {a b:AS}{ta tb:AE}{tt tu:AT}{g:AG}{gs:Sw}{nx bk ct:A7->Prop}{rt:PV->Prop}{τ τ' τ2:A7}{Q:PV->Prop}{QB:zq->Prop}{QL:zy PV->Prop}{QT:A7->Prop}{r:AA}{ai:AI}{F:AF}{n i j:Nat}{x y z:PV}{xs ys zs:zy PV}
instance{c:PV}{q:zy PV}:Ix (.tup (c::q)) 0 c:=⟨DB (j:=0) rfl⟩
instance{c:PV}{q:zy PV}:Ix (.lst (c::q)) 0 c:=⟨DB (j:=0) rfl⟩
instance{d c:PV}{q:zy PV}:Ix (.tup (d::c::q)) 1 c:=⟨DB (j:=1) rfl⟩
instance{d c:PV}{q:zy PV}:Ix (.lst (d::c::q)) 1 c:=⟨DB (j:=1) rfl⟩
instance{d e c:PV}{q:zy PV}:Ix (.tup (d::e::c::q)) 2 c:=⟨DB (j:=2) rfl⟩
instance{d e c:PV}{q:zy PV}:Ix (.lst (d::e::c::q)) 2 c:=⟨DB (j:=2) rfl⟩
instance{q:Rat}:Ix (fr q) 0 (.int q.num):=⟨rfl⟩
instance{q:Rat}:Ix (fr q) 1 (.int q.den):=⟨rfl⟩
instance{c:C4}:Ix (cor c) 0 (fr c.1):=⟨rfl⟩
instance{c:C4}:Ix (corL c) 0 (fr c.1):=⟨rfl⟩
instance{t:T3}:Ix (CM t) 0 (fr t.1):=⟨rfl⟩
instance{t:T3}:Ix (CM t) 1 (fr t.2.1):=⟨rfl⟩
instance{t:T3}:Ix (CM t) 2 (fr t.2.2):=⟨rfl⟩
instance:Wp (AY a b ⟨nx,rt,bk,ct⟩ τ) (a ⟨b ⟨nx,rt,bk,ct⟩,rt,bk,ct⟩ τ):=⟨id⟩
instance:Wp (Aj ta g ⟨nx,rt,bk,ct⟩ τ) (ta τ λx=>g x τ nx):=⟨id⟩
instance[h:Xf τ τ'] :Wp (Aq ta ⟨nx,rt,bk,ct⟩ τ) (ta τ' rt):=⟨λk=>by unfold Aq;rw[h.e];exact k⟩
instance:Wp (BV ⟨nx,rt,bk,ct⟩ τ) (nx τ):=⟨id⟩
instance:Wp (CF tt a b ⟨nx,rt,bk,ct⟩ τ) (tt τ λk=>if k=true then a ⟨nx,rt,bk,ct⟩ τ else b ⟨nx,rt,bk,ct⟩ τ):=⟨id⟩
def Zr (τ:A7)(i:Nat)(v:AV)(QT:A7->Prop):Prop:=QT (τ.set i (some v))
instance{v:AV}[h:X0 τ i v τ'] :Wp (Zr τ i v QT) (QT τ'):=⟨λk=>by unfold Zr;rw[h.e];exact k⟩
instance:Wp (GR r i ⟨nx,rt,bk,ct⟩ τ) (r τ λxs=>Zr τ i (.own xs) nx):=⟨id⟩
instance[h:X0 τ i (.val x) τ'] :Wp (Ak i x τ QT) (QT τ'):=⟨λk=>by unfold Ak;rw[h.e];exact k⟩
instance{f:Iq}[h:dY τ i (.val x)] :Wp (TM i f ta ⟨nx,rt,bk,ct⟩ τ) (ta τ λy=>f x y λz=>Zr τ i (.val z) nx):=⟨λk=>kR h.e k⟩
instance[h:dY τ i (.own xs)] :Wp (PX i τ QL) (QL xs):=⟨λk=>kZ h.e k⟩
instance{f:e5}:Wp (DT i f r ⟨nx,rt,bk,ct⟩ τ) (PX i τ λxs=>r τ λys=>f xs ys λzs=>Zr τ i (.own zs) nx):=⟨id⟩
instance:Wp (GV xs [y] QL) (xs.length<sizeLine/\QL (xs ++ [y])):=⟨id⟩
instance{k:Int}:Wp (Y0 xs [.int k,y] QL) ((0<=k/\k<=(xs.length:Int)/\xs.length<sizeLine)/\QL (xs.take k.toNat++y::xs.drop k.toNat)):=⟨id⟩
instance:Wp (ED ai g b ⟨nx,rt,bk,ct⟩ τ) (ai τ λxs=>C7 g b ⟨nx,rt,bk,ct⟩ xs τ):=⟨id⟩
instance:Wp (C7 g b ⟨nx,rt,bk,ct⟩ [] τ) (nx τ):=⟨id⟩
instance{q:zy PV}:pV (C7 g b ⟨nx,rt,bk,ct⟩ (x::q) τ) (g x τ λc=>b ⟨C7 g b ⟨nx,rt,bk,ct⟩ q,rt,nx,C7 g b ⟨nx,rt,bk,ct⟩ q⟩ c):=⟨id⟩
instance:Wp (Bq [] τ QT) (QT τ):=⟨id⟩
instance{t:zy PV}:Wp (AZ g gs (x::t) τ QT) (g x τ λτ'=>gs t τ' QT):=⟨id⟩
instance:Wp (Hx n gs x τ QT) (Ni x λxs=>xs.length=n/\gs xs τ QT):=⟨id⟩
instance[h:dY τ i (.val x)] :Wp (aV i τ Q) (Q x):=⟨λk=>uh h.e k⟩
instance:Wp (aC x τ Q) (Q x):=⟨id⟩
instance{f:Iq}:Wp (AW f ta tb τ Q) (ta τ λx=>tb τ λy=>f x y Q):=⟨id⟩
instance{f:PV->(PV->Prop)->Prop}:Wp (TR f ta τ Q) (ta τ λx=>f x Q):=⟨id⟩
instance:Wp (RK ta tb τ Q) (ta τ λx=>ae x λc=>if c=true then tb τ Q else Q (.bl false)):=⟨id⟩
instance:Wp (lP ta tb τ Q) (ta τ λx=>ae x λc=>if c=true then Q (.bl true) else tb τ Q):=⟨id⟩
instance:Wp (Ax ta τ QB) (ta τ λx=>ae x QB):=⟨id⟩
def qR (x:PV)(QB:zq->Prop):Prop:=match dU x with | some b=>QB b|none=>False
instance:Wp (fC ta τ QB) (ta τ λx=>qR x QB):=⟨id⟩
instance{c:zq}:Wp (qR (.bl c) QB) (QB c):=⟨id⟩
instance:Wp (Ky tt τ QB) (tt τ λc=>QB (!c)):=⟨id⟩
instance:Wp (Er tt tu τ QB) (tt τ λc=>if c=true then tu τ QB else QB false):=⟨id⟩
instance:Wp (RM tt tu τ QB) (tt τ λc=>if c=true then QB true else tu τ QB):=⟨id⟩
instance:Wp (ii tt ta tb τ Q) (tt τ λc=>if c=true then ta τ Q else tb τ Q):=⟨id⟩
instance:Wp (Dd τ QB) (QB true):=⟨id⟩
instance[h:Xf τ τ'] :Wp (TN ta τ Q) (ta τ' λx=>ab x=true/\Q x):=⟨λk=>by unfold TN;rw[h.e];exact k⟩
instance[h:Xf τ τ'] :Wp (RL tt τ QB) (tt τ' QB):=⟨λk=>by unfold RL;rw[h.e];exact k⟩
instance:Wp (AM τ QL) (QL []):=⟨id⟩
instance:Wp (AB ta r τ QL) (ta τ λx=>r τ λxs=>QL (x::xs)):=⟨id⟩
def aa (xs:zy PV)(Q:PV->Prop):Prop:=xs.length<=sizeLine/\Q (.tup xs)
instance:Wp (A2 r τ Q) (r τ λxs=>aa xs Q):=⟨id⟩
instance:Wp (DS r τ QL) (r τ λxs=>xs.length<=sizeLine/\QL xs):=⟨id⟩
instance:Wp (Ej r τ Q) (r τ λxs=>Q (.lst xs)):=⟨id⟩
instance:Wp (AN n F r τ Q) (r τ λxs=>xs.length=n/\F xs Q):=⟨id⟩
instance:Wp (FR F r τ Q) (r τ λxs=>F xs Q):=⟨id⟩
instance:Wp (Oa r τ QL) (r τ λxs=>RV xs QL):=⟨id⟩
instance{own:Nat}{ix:zy Nat}{f:AE}{c d:A7}[h1:lJ own c][h2:lG ix τ d][h:ao c d τ'] :Wp (Bz ai own ix g tt f τ QL) (ai τ λxs=>xs.length<sizeLine/\Cj g tt f τ' QL xs []):=⟨λk=>by unfold Bz N3;rw[h1.e,h2.e,h.e];exact k⟩
instance{d:AE}{c:zy PV}:Wp (Cj g tt d τ QL [] c) (QL c):=⟨id⟩
instance{e:AE}{c q:zy PV}:Wp (Cj g tt e τ QL (x::q) c) (g x τ λd=>tt d λok=>if ok=true then e d λy=>Cj g tt e τ QL q (c ++ [y]) else Cj g tt e τ QL q c):=⟨id⟩
instance:Wp (Jy ta τ QL) (ta τ λx=>Ni x QL):=⟨id⟩
instance:Wp (JF (AB ta AM) τ QL) (ta τ λx=>Xk x λj=>(-(2^62)<=j/\j<2^62)/\QL (rng 0 j.toNat)):=⟨λh=>by have e:(λx=>Xk x λj=>(-(2^62)<=j/\j<2^62)/\QL (rng 0 j.toNat))=(λx=>match [x] with | [.int j] =>(-(2^62)<=j/\j<2^62)/\QL (rng 0 j.toNat)|_=>False):=(funext λx=>by cases x <;> rfl);rw[e] at h;exact h⟩
instance:Wp (db (AB ta (AB tb AM)) τ QL) (ta τ λx=>tb τ λy=>Ni x λxs=>Ni y λys=>QL (HS xs ys)):=⟨id⟩
instance{R:Int->Prop}{k:Int}:Wp (Xk (.int k) R) (R k):=⟨id⟩
instance{R:zq->Prop}{c:zq}:Wp (ae (.bl c) R) (R c):=⟨id⟩
instance:Wp (Ni (.tup xs) QL) (QL xs):=⟨id⟩
instance:Wp (Ni (.lst xs) QL) (QL xs):=⟨id⟩
instance{q:Rat}:Wp (Ni (fr q) QL) (QL [.int q.num, .int q.den]):=⟨id⟩
instance{cs:zy C4}:Wp (Ni (BJ cs) QL) (QL (cs.map cor)):=⟨id⟩
instance{f:Int->Int->PV}{k l:Int}:Wp (fI f (.int k) (.int l) Q) (Q (f k l)):=⟨id⟩
instance{C:Int->Int->Prop}{f:Int->Int->PV}{k l:Int}:Wp (ij C f (.int k) (.int l) Q) (C k l/\Q (f k l)):=⟨id⟩
instance:Wp (HN .non .non Q) (Q (.bl true)):=⟨id⟩
instance:Wp (On .non .non Q) (Q (.bl false)):=⟨id⟩
instance:Wp (HN (.tup xs) .non Q) (Q (.bl false)):=⟨id⟩
instance:Wp (On (.tup xs) .non Q) (Q (.bl true)):=⟨id⟩
instance{k:T3}:Wp (HN (CM k) .non Q) (Q (.bl false)):=⟨id⟩
instance{k:Int}[h:Ix x k z] :Wp (Ai x (.int k) Q) (Q z):=⟨λq=>ni h.e q⟩
instance{k:Int}:Wp (J0 (.int k) Q) (Q (.int (-k))):=⟨id⟩
instance w_not {c:zq}:Wp (fR (.bl c) Q) (Q (.bl (!c))):=⟨id⟩
instance{k l:Int}:Wp (Bl (.int k) (.int l) Q) (Q (.int (k+l))):=⟨id⟩
instance (priority:=high)[h:Xp xs ys zs]{n:Nat}[h2:ay zs n] :Wp (Bl (.tup xs) (.tup ys) Q) (n<=sizeLine/\Q (.tup zs)):=⟨λk=>⟨by have e:=h2.e;rw[<-h.e,AAr] at e;rw[e];exact k.1,by rw[h.e];exact k.2⟩⟩
instance:Wp (Bl (.lst xs) (.lst ys) Q) (xs.length+ys.length<=sizeLine/\Q (.lst (xs++ys))):=⟨id⟩
instance{k l:Int}:Wp (Nh (.int k) (.int l) Q) (Q (.bl (decide (k=l)))):=⟨id⟩
instance{k l:Int}:Wp (Ws (.int k) (.int l) Q) (Q (.bl (!decide (k=l)))):=⟨id⟩
instance{k l:Str}:Wp (Ws (.str k) (.str l) Q) (Q (.bl (!decide (k=l)))):=⟨id⟩
instance{k l:Rat}:Wp (Nh (fr k) (fr l) Q) (Q (.bl (decide (k=l)))):=⟨kS⟩
instance{k l:Rat}:Wp (Ws (fr k) (fr l) Q) (Q (.bl (!decide (k=l)))):=⟨kY⟩
instance:Wp (IE [.lst xs] Q) (Q (.int xs.length)):=⟨id⟩
instance{c:zy Int}:Wp (IE [.scr c] Q) (Q (.int c.length)):=⟨id⟩
instance (priority:=high){c:Type}{f:c->PV}{cs:zy c}:Wp (IE [.tup (cs.map f)] Q) (Q (.int cs.length)):=⟨λh=>by show Q (.int (cs.map f).length);rw[AAJ];exact h⟩
instance (priority:=high){c:Type}{f:c->PV}{cs:zy c}:Wp (IE [.lst (cs.map f)] Q) (Q (.int cs.length)):=⟨λh=>by show Q (.int (cs.map f).length);rw[AAJ];exact h⟩
instance{f:Int->Int->Int}{k l:Int}:Wp (fV f [.int k, .int l] Q) (Q (.int (f k l))):=⟨id⟩
instance:Wp (DV [.lst xs] Q) (Q (.tup xs)):=⟨id⟩
instance:Wp (RV [.tup xs] QL) (QL xs):=⟨id⟩
instance{c:C4}:Wp (RV [cor c] QL) (QL [fr c.1,fr c.2.1,fr c.2.2.1,fr c.2.2.2]):=⟨id⟩
instance{lo hi:zt Int}:Wp (Wt (.lst xs) lo hi Q) (Q (.lst (IB xs lo hi))):=⟨EH⟩
instance{l h:AO}:Wp (X6 ta l h τ Q) (ta τ λx=>l τ λlo=>h τ λhi=>Wt x lo hi Q):=⟨id⟩
instance{R:zt Int->Prop}:Wp (X7 τ R) (R none):=⟨id⟩
instance{R:zt Int->Prop}:Wp (X8 ta τ R) (ta τ λx=>Xk x λi=>R (some i)):=⟨id⟩
instance{A B:Prop}:Wp (if true=true then A else B) (A):=⟨λh=>by rw[AAE rfl];exact h⟩
instance{A B:Prop}:Wp (if false=true then A else B) (B):=⟨λh=>by rw[AAC AAR];exact h⟩
instance{A B:Prop}:Wp (if (!true)=true then A else B) (B):=⟨λh=>h⟩
instance{A B:Prop}:Wp (if (!false)=true then A else B) (A):=⟨λh=>h⟩
instance{p A B:Prop}[Decidable p] :mK (if decide p=true then A else B) (p->A) (¬p->B):=⟨kW⟩
instance{p A B:Prop}[Decidable p] :mK (if (!decide p)=true then A else B) (¬p->A) (p->B):=⟨kX⟩
instance{A:Prop}:Wp (([] :zy PV).length<=sizeLine/\A) (A):=⟨λh=>⟨lz,h⟩⟩
instance{A:Prop}:Wp (([] :zy PV).length<sizeLine/\A) (A):=⟨λh=>⟨lz,h⟩⟩
instance{c:PV}{A:Prop}:Wp ([c].length=1/\A) (A):=⟨λh=>⟨rfl,h⟩⟩
instance{c:PV}{A:Prop}:Wp ([c].length<=sizeLine/\A) (A):=⟨λh=>⟨lz,h⟩⟩
instance{c d:PV}{A:Prop}:Wp ([c,d].length=2/\A) (A):=⟨λh=>⟨rfl,h⟩⟩
instance{c d:PV}{A:Prop}:Wp ([c,d].length<=sizeLine/\A) (A):=⟨λh=>⟨lz,h⟩⟩
instance{c d:PV}{A:Prop}:Wp ([c,d].length<sizeLine/\A) (A):=⟨λh=>⟨lz,h⟩⟩
instance{c d e:PV}{A:Prop}:Wp ([c,d,e].length=3/\A) (A):=⟨λh=>⟨rfl,h⟩⟩
instance{c d e:PV}{A:Prop}:Wp ([c,d,e].length<=sizeLine/\A) (A):=⟨λh=>⟨lz,h⟩⟩
instance{c d e f:PV}{A:Prop}:Wp ([c,d,e,f].length=4/\A) (A):=⟨λh=>⟨rfl,h⟩⟩
instance{c d e f:PV}{A:Prop}:Wp ([c,d,e,f].length<=sizeLine/\A) (A):=⟨λh=>⟨lz,h⟩⟩
instance{c d e f k l:PV}{A:Prop}:Wp ([c,d,e,f,k,l].length<=sizeLine/\A) (A):=⟨λh=>⟨lz,h⟩⟩
instance{c:PV}:Wp (aa [c] Q) (Q (.tup [c])):=⟨λh=>⟨lz,h⟩⟩
instance{c d:PV}:Wp (aa [c,d] Q) (Q (.tup [c,d])):=⟨λh=>⟨lz,h⟩⟩
instance{c d e:PV}:Wp (aa [c,d,e] Q) (Q (.tup [c,d,e])):=⟨λh=>⟨lz,h⟩⟩
instance{c d e f:PV}:Wp (aa [c,d,e,f] Q) (Q (.tup [c,d,e,f])):=⟨λh=>⟨lz,h⟩⟩
instance (priority:=high+10):Wp (aa [.int 0, .int 1] Q) (Q (fr 0)):=⟨λh=>⟨lz,h⟩⟩
instance (priority:=high+10):Wp (aa [.int 1, .int 1] Q) (Q (fr 1)):=⟨λh=>⟨lz,h⟩⟩
instance (priority:=high){k:Int}:Wp (aa [.int k, .int 1] Q) (Q (fr (k:Rat))):=⟨λh=>⟨lz,Qr h⟩⟩
instance (priority:=high){k:Rat}{p q r:Rat}:Wp (Bl (.tup [fr k]) (.tup [fr p,fr q,fr r]) Q) (Q (cor (k,p,q,r))):=⟨λh=>⟨lz,h⟩⟩
def fT:PV.tup [.int 1, .int 2] =fr (1/2):=by unfold fr;rw[show ((1:Rat)/2).num=1 by decide +kernel,show ((1:Rat)/2).den=2 by decide +kernel];rfl
instance (priority:=high):Wp (aa [.int 1, .int 2] Q) (Q (fr (1/2))):=⟨λh=>⟨lz,by rw[fT];exact h⟩⟩
def fU:PV.tup [.int 1, .int 3] =fr (1/3):=by unfold fr;rw[show ((1:Rat)/3).num=1 by decide +kernel,show ((1:Rat)/3).den=3 by decide +kernel];rfl
instance (priority:=high):Wp (aa [.int 1, .int 3] Q) (Q (fr (1/3))):=⟨λh=>⟨lz,by rw[fU];exact h⟩⟩
instance{k:Int}{A:Prop}:Wp (ab (.int k)=true/\A) (A):=⟨λh=>⟨rfl,h⟩⟩
class Zp (xs ys:List PV) (zs:outParam (List PV)):Prop where
 e:HS xs ys=zs
instance:Zp [] [] [] :=⟨rfl⟩
instance[h:Zp xs ys zs] :Zp (x::xs) (y::ys) (.tup [x,y] :: zs):=⟨by rw[<-h.e];rfl⟩
instance[h:Zp xs ys zs] :Wp (C7 g b ⟨nx,rt,bk,ct⟩ (HS xs ys) τ) (C7 g b ⟨nx,rt,bk,ct⟩ zs τ):=⟨λk=>by rw[h.e];exact k⟩
instance{d:AE}{c:zy PV}[h:Zp xs ys zs] :Wp (Cj g tt d τ QL (HS xs ys) c) (Cj g tt d τ QL zs c):=⟨λk=>by rw[h.e];exact k⟩
instance{A:Prop}[h:Zp xs ys zs] :Wp ((HS xs ys).length<sizeLine/\A) (zs.length<sizeLine/\A):=⟨λk=>by rw[h.e];exact k⟩
instance (priority:=high){d:AE}{c q zs:zy PV}[h:Xp c [y] zs] :Wp (Cj g tt d τ QL q (c ++ [y])) (Cj g tt d τ QL q zs):=⟨λk=>by rw[h.e];exact k⟩
instance{m:Int}:RJ (BB [.tape, .int m] Q) (0<m/\m<4611686018427387904) (∀r,0<=r->r<m->Q (.int r)):=⟨λc h=>Ct c.1 c.2 h⟩
instance{d:zy Int}{k:Int}:RJ (Mf [.scr d, .int k] Q) (0<=k/\k<=1000) (Q .tape):=⟨λc h=>⟨c,h⟩⟩
instance{a b:Rat}:RJ (Jw [fr a,fr b] Q) (Bd 4000 a/\Bd 4000 b) (Q (fr (a+b))):=⟨λc h=>WZ c.1 c.2 h⟩
instance{a b:Rat}:RJ (Dt [fr a,fr b] Q) (Bd 4000 a/\Bd 4000 b) (Q (fr (a-b))):=⟨λc h=>S8 c.1 c.2 h⟩
instance{a b:Rat}:RJ (JE [fr a,fr b] Q) (Bd 4000 a/\Bd 4000 b) (Q (fr (a*b))):=⟨λc h=>TB c.1 c.2 h⟩
instance{a b:Rat}:RJ (A3 [fr a,fr b] Q) (Bd 4000 a/\Bd 4000 b) (Q (fr (a+b))):=⟨λc h=>C3 c.1 c.2 h⟩
instance{a b:Rat}:RJ (BQ [fr a,fr b] Q) (Bd 4000 a/\Bd 4000 b) (Q (fr (a-b))):=⟨λc h=>CS c.1 c.2 h⟩
instance{a b:Rat}:RJ (BE [fr a,fr b] Q) (Bd 4000 a/\Bd 4000 b) (Q (fr (a*b))):=⟨λc h=>Ca c.1 c.2 h⟩
instance{a b:Rat}:RJ (Ar [fr a,fr b] Q) (Bd 4000 a/\Bd 4000 b) (Q (.bl (decide (a<b)))):=⟨λc h=>En c.1 c.2 h⟩
instance{a b:Rat}:RJ (Me [fr a,fr b] Q) (b≠0/\Bd 4000 a/\Bd 4000 b) (Q (fr (a/b))):=⟨λc h=>WY c.1 c.2.1 c.2.2 h⟩
instance{a b:Rat}:RJ (Cr [fr a,fr b] Q) (b≠0/\Bd 4000 a/\Bd 4000 b) (Q (fr (a/b))):=⟨λc h=>F5 c.1 c.2.1 c.2.2 h⟩
instance:RJ (Ch [.tape] Q) (True) (∀a,Bd 8 a->0<a->Q (fr a)):=⟨λ_ h=>Md h⟩
instance:RJ (A6 [.tape] Q) (True) (∀a,Bd 8 a->Q (fr a)):=⟨λ_ h=>Ay λa m=>h a (m.bd (by decide) (by decide))⟩
instance{lo:Int}{A:Prop}:Wp ((rng lo n).length<sizeLine/\A) (n<16777216/\A):=⟨λk=>⟨by rw[Ub];exact k.1,k.2⟩⟩
instance{c:Type}{f:c->PV}{cs:zy c}{A:Prop}:Wp ((cs.map f).length<sizeLine/\A) (cs.length<16777216/\A):=⟨λk=>⟨by rw[AAJ];exact k.1,k.2⟩⟩
instance (priority:=high){c:Type}{k:c}[Decidable (k=k)]{A B:Prop}:Wp (if decide (k=k)=true then A else B) A:=⟨λh=>by rw[AAE (AA1 rfl)];exact h⟩
instance (priority:=high){c:Type}{k:c}[Decidable (k=k)]{A B:Prop}:Wp (if (!decide (k=k))=true then A else B) B:=⟨λh=>by rw[AAC (by simp)];exact h⟩
def fK (xs:zy PV):IB xs none (some (-1))=xs.dropLast:=by
 unfold IB;rw[HT.sIx_none];cases xs with
 | nil=>rfl
 | cons x xs=>
   have e:HT.sIx (x::xs).length (x::xs).length (some (-1))=xs.length:=by simp only[HT.sIx,AAZ];rw[AAE (by decide)];omega
   rw[e,List.dropLast_eq_take];simp
instance{cs:zy C4}{k:Int}:RJ (Wt (BJ cs) (some k) none Q) (0<=k/\k<=cs.length) (Q (BJ (cs.drop k.toNat))):=⟨λc h=>WD (k:=k.toNat) (by omega) (by omega) h⟩
def jx {d:Type}{f:d->PV}{cs:zy d}{k:Int}{R:PV->Prop}(c:0<=k/\k<cs.length)(h:∀c,cs[k.toNat]? =some c->c∈cs->R (f c)):cN (Jp (cs.map f) k) R:=by
 have hk:k.toNat<cs.length:=by omega
 have e:Jp (cs.map f) ((k.toNat:Nat):Int)=some (f cs[k.toNat]):=DB (by rw[AAm,AAU hk] <;> rfl);rw[show k=((k.toNat:Nat):Int) by omega,e];exact h _ (AAU hk) (ABd hk)
instance{d:Type}{f:d->PV}{cs:zy d}{k:Int}:RJ (Ai (.lst (cs.map f)) (.int k) Q) (0<=k/\k<cs.length) (∀c,cs[k.toNat]? =some c->c∈cs->Q (f c)):=⟨λc h=>jx c h⟩
instance{c:C4}:Wp (Wt (cor c) (some 1) none Q) (Q (.tup [fr c.2.1,fr c.2.2.1,fr c.2.2.2])):=⟨λh=>WE h⟩
instance:RJ (Mt [x] Q) (K3 x=true/\PR x) (Q (.str (kb x))):=⟨λc h=>Uy c.2 c.1 h⟩
end
end PL
namespace L2
open PySem PySem.Spec PyProof.Rows
abbrev y1 (b:zq)(h:zl)(l:zu):zl:=h.push (UE b l)
abbrev y2 (b c:zq)(h:zl)(l m:zu):zl:=(y1 b h l).push (UE c m)
abbrev y3 (b c d:zq)(h:zl)(l m n:zu):zl:=(y2 b c h l m).push (UE d n)
abbrev y4 (b c d:zq)(h:zl)(l m n:zu):zl:=(y3 b c d h l m n).push {cls:= .type "tuple",data:= .seq #[.ref h.objs.size, .ref (y1 b h l).objs.size, .ref (y2 b c h l m).objs.size] }
abbrev y5 (b c d:zq)(h:zl)(l m n:zu):zl:=(y4 b c d h l m n).push {cls:= .type "tuple",data:= .seq #[.none, .none, .none] }
end L2
namespace PL
open PySem L2 PyProof.Rows
class Xz (Ts:List String):Prop where
 q:Ts.any (W4 .tup)=true/\Ts.any (W4 .lst)=true/\Ts.any (W4 .int)=false/\Ts.any (W4 .bl)=false/\Ts.any (W4 .non)=false/\Ts.any (W4 .str)=false
instance:Xz ["tuple","list"] :=⟨by decide⟩
instance:Xz ["list","tuple"] :=⟨by decide⟩
end PL
namespace L2
open PySem PySem.Spec PyProof.Rows
section
variable {κ:Type}[DecidableEq κ]
def EI (kvs:zy (κ×V))(k:κ):zt V:=(kvs.find? λa=>decide (a.1=k)).map (·.2)
def Dp (kvs:zy (κ×V))(k:κ)(v:V):zy (κ×V):=
 if (kvs.any λa=>decide (a.1=k))=true then kvs.map (λa=>if a.1=k then (a.1,v) else a) else kvs ++ [(k,v)]
def Gr {p:κ×V}{r:zy (κ×V)}{k:κ}(e:p.1=k):EI (p::r) k=some p.2:=by simp[EI,ABT,e]
def Gq {p:κ×V}{r:zy (κ×V)}{k:κ}(e:¬p.1=k):EI (p::r) k=EI r k:=by simp[EI,ABT,e]
theorem Nf (k:κ):∀kvs:zy (κ×V),(kvs.any λa=>decide (a.1=k))=(EI kvs k).isSome
 | [] =>rfl
 | p::r=>by
   rw[ABG];by_cases e:p.1=k
   .simp only[Gr e,AA1 e,Bool.true_or,Option.isSome_some]
   .rw [Gq e,AAj e,Bool.false_or];exact Nf k r
def D0 (kvs:zy (κ×V))(k:κ)(v:V):(Dp kvs k v).length<=kvs.length+1:=by
 unfold Dp;split
 .rw [AAJ];omega
 .rw [AAr,AAZ,ACo];omega
def LX.isSome_eq {o:zt V}{u:zt zx}(r:LX o u):o.isSome=u.isSome:=by
 cases o with
 | none=>cases u with
   | none=>rfl
   | some _=>exact(show False from r).elim
 | some _=>cases u with
   | none=>exact(show False from r).elim
   | some _=>rfl
def LX.getD {o:zt V}{u:zt zx}{d:V}{d':zx}(r:LX o u)(a:RelV d d'):RelV (o.getD d) (u.getD d'):=by
 cases o with
 | none=>cases u with
   | none=>exact a
   | some _=>exact(show False from r).elim
 | some _=>cases u with
   | none=>exact(show False from r).elim
   | some _=>exact r
def KV.val {kvs:zy (κ×V)}{vs:zy (κ×zx)}(r:KV kvs vs)(k:κ):LX (EI kvs k) (valueAt vs k):=by
 unfold KV at r;induction r with
 | nil=>exact True.intro
 | @cons p q c qs h t ih=>
   obtain⟨h1,h2⟩:=h;by_cases e:p.1=k
   .have a:q.1=k:=h1.symm.trans e;have b:valueAt (q::qs) k=some q.2:=by simp[valueAt,ABT,a]
    rw[Gr e,b];exact h2
   .have a:¬q.1=k:=λz=>e (h1.trans z);have b:valueAt (q::qs) k=valueAt qs k:=by simp[valueAt,ABT,a]
    rw[Gq e,b];exact ih
def KV.any {kvs:zy (κ×V)}{vs:zy (κ×zx)}(r:KV kvs vs)(k:κ):(kvs.any λa=>decide (a.1=k))=vs.any λa=>decide (a.1=k):=by
 unfold KV at r;induction r with
 | nil=>rfl
 | cons h t ih=>rw[ABG,ABG,ih,h.1]
def KV.repl {kvs:zy (κ×V)}{vs:zy (κ×zx)}(r:KV kvs vs)(k:κ){y:V}{u:zx}(b:RelV y u):KV (kvs.map λa=>if a.1=k then (a.1,y) else a) (vs.map λa=>if a.1=k then (a.1,u) else a):=by
 unfold KV at r ⊢;induction r with
 | nil=>exact .nil
 | @cons p q c qs h t ih=>
   rw[AAK,AAK];refine .cons ?_ ih;obtain⟨h1,h2⟩:=h;by_cases e:p.1=k
   .rw [AAE e,AAE (h1.symm.trans e)];exact⟨h1,b⟩
   .rw [AAC e,AAC (λz=>e (h1.trans z))];exact⟨h1,h2⟩
def KV.put {kvs:zy (κ×V)}{vs:zy (κ×zx)}(r:KV kvs vs)(k:κ){y:V}{u:zx}(a:RelV y u):KV (Dp kvs k y) (stored vs k u):=by
 unfold Dp stored;rw[r.any k];by_cases e:(vs.any λb=>decide (b.1=k))=true
 .rw [AAE e,AAE e];exact r.repl k a
 .rw [AAC e,AAC e];exact Paired.snoc r ⟨rfl,a⟩
def KV.keys {kvs:zy (κ×V)}{vs:zy (κ×zx)}(r:KV kvs vs):kvs.map (·.1)=vs.map (·.1):=by
 unfold KV at r;induction r with
 | nil=>rfl
 | cons h t ih=>rw[AAK,AAK,ih,h.1]
def KV.length {kvs:zy (κ×V)}{vs:zy (κ×zx)}(r:KV kvs vs):kvs.length=vs.length:=ABj r
end
def Rn {P:zp}{w:zm}{k:Cf}{u:zx}(r:RelV (kV k) u):(A4 P w).is k u=true:=by
 cases k with
 | inl i=>obtain⟨t,e⟩:=(show ∃t,u=Value.int i t from r);subst e;exact Rs P w i t
 | inr x=>obtain⟨t,e⟩:=(show ∃t,u=Value.str x t from r);subst e;exact Rt P w x t
theorem Ot {P:zp}{w:zm}:∀{a:zy Cf} {us:zy zx},Ao (a.map kV) us->ItemsAre (A4 P w) a us
 | [],_,r=>by rw[ABc] at r;cases r;exact .nil
 | k::a,_,r=>by
   rw[AAK] at r;cases r with
   | cons h t=>exact .cons (Rn h) (Ot t)
abbrev KT (H:Hp):zy (zy Cf×V)->zy (zy Cf×zu×zx)->Prop:=Paired λp q=>p.1=q.1/\H q.2.1=some (.tup (p.1.map kV))/\RelV p.2 q.2.2
def KT.val {H:Hp}{kvs:zy (zy Cf×V)}{xs:zy (zy Cf×zu×zx)}(r:KT H kvs xs)(k:zy Cf):LX (EI kvs k) ((atKey xs k).map (·.2)):=by
 induction r with
 | nil=>exact True.intro
 | @cons p q c qs h t ih=>
   obtain⟨h1,_,h2⟩:=h;by_cases e:p.1=k
   .have a:q.1=k:=h1.symm.trans e;have b:atKey (q::qs) k=some q.2:=by simp[atKey,ABT,a]
    rw[Gr e,b];exact h2
   .have a:¬q.1=k:=λz=>e (h1.trans z);have b:atKey (q::qs) k=atKey qs k:=by simp[atKey,ABT,a]
    rw[Gq e,b];exact ih
def KT.repl {H:Hp}{kvs:zy (zy Cf×V)}{xs:zy (zy Cf×zu×zx)}(r:KT H kvs xs)(k:zy Cf){y:V}{u:zx}(b:RelV y u):KT H (kvs.map λa=>if a.1=k then (a.1,y) else a) (xs.map (putAt k u)):=by
 induction r with
 | nil=>exact .nil
 | @cons p q d qs h t ih=>
   rw[AAK,AAK];refine .cons ?_ ih;obtain⟨h1,h2,c⟩:=h;unfold putAt;by_cases e:p.1=k
   .rw [AAE e,AAE (h1.symm.trans e)];exact⟨h1,h2,b⟩
   .rw [AAC e,AAC (λz=>e (h1.trans z))];exact⟨h1,h2,c⟩
def KT.put {H:Hp}{kvs:zy (zy Cf×V)}{xs:zy (zy Cf×zu×zx)}(r:KT H kvs xs)(k:zy Cf){b:zu}{y:V}{u:zx}(hb:H b=some (.tup (k.map kV)))(a:RelV y u):KT H (Dp kvs k y) (storedH xs k b u):=by
 have e:(kvs.any λc=>decide (c.1=k))=(atKey xs k).isSome:=by rw[Nf,(r.val k).isSome_eq,ACF]
 unfold Dp storedH;rw[e];by_cases q:(atKey xs k).isSome=true
 .rw [AAE q,AAE q];exact r.repl k a
 .rw [AAC q,AAC q];exact Paired.snoc r ⟨rfl,hb,a⟩
def KT.keeps {H a:Hp}{kvs:zy (zy Cf×V)}{xs:zy (zy Cf×zu×zx)}(r:KT H kvs xs)(c:∀b ys,H b=some (.tup ys)->a b=some (.tup ys)):KT a kvs xs:=
 Paired.mapP r λ_ _ z=>⟨z.1,c _ _ z.2.1,z.2.2⟩
section
variable {P:zp}{w:zm}{H:Hp}{h:zl}{a:zu}
def d6 {u:HO}(ok:Hs P w H h)(e:Rd H a u):B4 P w H h a u:=e.ok ok
def YI {kvs:zy (Cf×V)}(ok:Hs P w H h)(e:Rd H a (.dK kvs)):kvs.length<=sizeLine/\(a==sysModules)=false/\∃vs,KV kvs vs/\h.DictOf (A4 P w) a vs:=
 show B4 P w H h a (.dK kvs) from d6 ok e
def VW {kvs:zy (Cf×V)}(ok:Hs P w H h)(e:H a=some (.dK kvs)):kvs.length<=sizeLine/\(a==sysModules)=false/\∃vs,KV kvs vs/\h.DictOf (A4 P w) a vs:=YI ok (.inl e)
def UG {b:zy Cf}(ok:Hs P w H h)(e:H a=some (.tup (b.map kV))):(tupleKind (A4 P w)).is h b a:=by obtain⟨_,c,r,o,h1,h2,n,d⟩:=(show B4 P w H h a (.tup (b.map kV)) from ok a _ e);exact⟨o,c.toArray,n,h1,h2,d,by simpa using Ot r⟩
def YL {kvs:zy (zy Cf×V)}(ok:Hs P w H h)(e:Rd H a (.dT kvs)):kvs.length<=sizeLine/\(a==sysModules)=false/\ ∃xs,KT H kvs xs/\h.DictOfH (tupleKind (A4 P w)) a xs:=by
 obtain⟨z,y,xs,r,o,es,ep,h1,h2,b,c,d⟩:=(show B4 P w H h a (.dT kvs) from d6 ok e);refine⟨z,y,xs,r,o,es,ep,h1,h2,b,c,λx hx=> ?_,d⟩;have all:∀{l:zy (zy Cf×V)} {m:zy (zy Cf×zu×zx)},KT H l m->∀x∈m,(tupleKind (A4 P w)).is h x.1 x.2.1:=by
  intro l m q;induction q with
  | nil=>intro x hx;exact nomatch hx
  | @cons p q f qs hq t ih=>
    intro x hx;rcases AAF.mp hx with e|hx
    .subst e;exact UG ok (by rw[<-hq.1];exact hq.2.1)
    .exact ih x hx
 exact all r x hx
def jV {kvs:zy (zy Cf×V)}(ok:Hs P w H h)(e:H a=some (.dT kvs)):kvs.length<=sizeLine/\(a==sysModules)=false/\ ∃xs,KT H kvs xs/\h.DictOfH (tupleKind (A4 P w)) a xs:=YL ok (.inl e)
end
def Sz (H:Hp)(a:zu)(y:V)(r:zt V):Prop:=
 (∃kvs k,Rd H a (.dK kvs)/\y=kV k/\r=EI kvs k)\/∃kvs k b,Rd H a (.dT kvs)/\y= .ref b/\H b=some (.tup (k.map kV))/\r=EI kvs k
def S0 (H:Hp)(a:zu)(y v:V)(c:Hp):Prop:=
 (∃kvs k,H a=some (.dK kvs)/\y=kV k/\kvs.length<sizeLine/\c=upd H a (.dK (Dp kvs k v)))\/
 ∃kvs k b,H a=some (.dT kvs)/\y= .ref b/\H b=some (.tup (k.map kV))/\kvs.length<sizeLine/\c=upd H a (.dT (Dp kvs k v))
def Sz.k {H:Hp}{a:zu}{kvs:zy (Cf×V)}{k:Cf}(e:H a=some (.dK kvs)):Sz H a (kV k) (EI kvs k):= .inl ⟨kvs,k, .inl e,rfl,rfl⟩
def Sz.t {H:Hp}{a b:zu}{kvs:zy (zy Cf×V)}{k:zy Cf}(e:H a=some (.dT kvs))(c:H b=some (.tup (k.map kV))):Sz H a (.ref b) (EI kvs k):= .inr ⟨kvs,k,b, .inl e,rfl,c,rfl⟩
def S0.k {H:Hp}{a:zu}{kvs:zy (Cf×V)}{k:Cf}{v:V}(e:H a=some (.dK kvs))(hl:kvs.length<sizeLine):S0 H a (kV k) v (upd H a (.dK (Dp kvs k v))):= .inl ⟨kvs,k,e,rfl,hl,rfl⟩
def S0.t {H:Hp}{a b:zu}{kvs:zy (zy Cf×V)}{k:zy Cf}{v:V}(e:H a=some (.dT kvs))(c:H b=some (.tup (k.map kV)))(hl:kvs.length<sizeLine):S0 H a (.ref b) v (upd H a (.dT (Dp kvs k v))):= .inr ⟨kvs,k,b,e,rfl,c,hl,rfl⟩
section
variable {X:Cx}{zj:zy (zu×Obj)}{σ:St}{H:Hp}{s:zw}{a:zu}{y v:V}{u r:zx}{o:zt V}{A:zk}{E:zx->zw->Prop}
def Inv.big (I:Inv X zj σ H s):sysModules<s.heap.objs.size:=by have h:mainGlobals<s.heap.objs.size:=(I.mod.glob.keeps I.bk).lt;exact ACZ (by decide) h
def Gx {h':zl}{t':Nat}{c:HO}(I:Inv X zj σ H s)(d:jN (H a))(hs:Heap.SameBut a s.heap h')(he:∃q,h'.get? a=some q)(new:B4 X.prog X.w (upd H a c) h' a c):Inv X zj σ (upd H a c) {s with heap:=h',toks:=t'}:=
 I.write (x:=a) (e:=a) d (.inl rfl) (λb q hb z=>(hs.2 b hb).trans z) he new
def Pa {P:zp}{w:zm}{c:Hp}{h':zl}{kvs:zy (Cf×V)}{vs:zy (Cf×zx)}(z:kvs.length<=sizeLine)(hd:(a==sysModules)=false)(b:KV kvs vs)(d:h'.DictOf (A4 P w) a vs):B4 P w c h' a (.dK kvs):=⟨z,hd,vs,b,d⟩
def Wo {n:Hp}{Q:Unit->zw->Prop}(hu:A.units+1<cLine)(I:Inv X zj σ H s)(g:S0 H a y v n)(p:RelV y u)(rv:RelV v r)(h:∀t,Inv X zj σ n t->Q () t):wpAny (model X.prog X.w) A (setItem (.ref a) u r) Q E s:=by
 rcases g with⟨kvs,k,e,i,l,j⟩|⟨kvs,k,b,e,i,x,l,j⟩
 .subst i j;obtain⟨z,hd,vs,d,m⟩:=VW I.hok e;have hz:vs.length<=sizeLine:=by rw[<-d.length];exact z
  have hl:(Dp kvs k v).length<=sizeLine:=by have:=D0 kvs k v;omega
  refine wpAny_setItem_pairs (hsz:=hz) (Rn p) m λh' f hs=>h _ ?_;have he:∃q,h'.get? a=some q:=let ⟨q,_,_,hq,_⟩:=f;⟨q,hq⟩;exact Gx I (by rw[e];exact True.intro) hs he (Pa hl hd (d.put k rv) f)
 .subst i j;cases (show u=Value.ref b from p);obtain⟨z,hd,xs,d,m⟩:=jV I.hok e;have hz:xs.length<=sizeLine:=by rw[<-ABj d];exact z
  have hl:(Dp kvs k v).length<=sizeLine:=by have:=D0 kvs k v;omega
  refine wpAny_setItem_heap (hsz:=hz) (tupleKind_room_in1 hu) (UG I.hok x) m λh' f hs=>h _ ?_;obtain⟨q,es,ep,hq,h2,C,D,_,F⟩:=f;refine Gx I (by rw[e];exact True.intro) hs ⟨q,hq⟩ ⟨hl,hd,_,(d.put k x rv).keeps λc ys B=> ?_,q,es,ep,hq,h2,C,D,F⟩;rw[Ad (dw B e (λz=>nomatch z))];exact B
end
def en (i:zr):Prop:=∀a b,subscripted i false a b=operate [a,b] (getItem a b)
def dJ {prog:zp}{w:zm}{A:zk}{E:zx->zw->Prop}{s:zw}{env:Env}{value slice:zr}{j:Pos}{T id:String}{Q:zx->zw->Prop}(hl:typeLookup (.type T) "__getitem__" =pure (some (.builtin id)))(hs:en slice)(h:wpAny (model prog w) A (eval value env) (λo c=>wpAny (model prog w) A (eval slice env) (λi a=>a.TypeIs o T/\wpAny (model prog w) A (getItem o i) Q E a) E c) E s):wpAny (model prog w) A (eval (.Subscript value slice j) env) Q E s:=by
 refine Subscript_ (ABK h (λo c f=>ABK f (λi a b=> ?_) λ_ _ x=>x) λ_ _ x=>x);obtain⟨k,b⟩:=b;unfold subscriptTail;refine AAA ?_;rw[getitemInPython_of_ne k.not_modules];refine AAA (ABX k hl ?_);have e:wpAny (model prog w) A (subscripted slice false o i) (λr d=>wpAny (model prog w) A (letTemporaryGo value o r >>= λ_=>pure r) Q E d) E a:=by rw[hs o i];exact wpAny_operating (ABK b (λr d g=>AAA (wpAny_letTemporaryGo (AAD g))) λ_ _ x=>x)
 first
  | exact AAD (AAA e)
  | exact AAA (AAD (AAA e))
  | exact AAA e
def d7 (d e f:TE):TS:=λD b H=>f b H λv H1=>d b H1 λx g=>e b g λy h=>∃a c,x= .ref a/\S0 h a y v c/\D.nx b c
section
variable {X:Cx}{o i e value:zr}{pos pos' tpos:Pos}{td ty tv:TE}
def cg (hu:X.A.units+1<cLine)(d:PE X o td)(hi:PE X i ty)(hv:PE X value tv)(hs:swapsWith value (some (.Subscript o i pos')) pos.line X.env=pure false):PS X (.Assign [.Subscript o i pos'] value pos) (d7 td ty tv):=by intro c s b H D I h;refine wpAny_Assign_Subscript (BY (hv c s b H _ I h) λr f ⟨v,H1,j,rv,k⟩=>BY (d c f b H1 _ j k) λu l ⟨x,m,n,p,t⟩=>BY (hi c l b m _ n t) λF G ⟨y,J,w,z,a,B,ex,g,C⟩=> ?_) hs;subst ex;obtain rfl:u=Value.ref a:=p;exact Wo hu w g z rv λK E=>⟨b,B,E,C⟩
end
def RS {P:zp}{w:zm}{H:Hp}(h:zl)(hb:sysModules<h.objs.size):B4 P w H (h.push {cls:= .type "dict",data:= .dict #[] }) h.objs.size (.dK []):=
 ⟨AAq _,ACT.mpr (AAe (AAM hb)), [], .nil,Heap.DictOf.new h⟩
def U0:zy (TE×TE)->St->Hp->(zy (V×V)->Hp->Prop)->Prop
 | [],_,H,Q=>Q [] H
 | (tk,tv)::r,σ,H,Q=>tk σ H λx H1=>tv σ H1 λy a=>U0 r σ a λb c=>Q ((x,y)::b) c
abbrev VV:zy (V×V)->zy (zx×zx)->Prop:=Paired λp q=>RelV p.1 q.1/\RelV p.2 q.2
def lI (X:Cx)(a:Pos)(keys:zy (zt zr))(values:zy zr)(b:zy (TE×TE)):Prop:=
 ∀(d:zy (zu×Obj)) (s:zw) (c:St) (H:Hp) (Q:zy (V×V)->Hp->Prop),Inv X d c H s->U0 b c H Q->
  wpAny (model X.prog X.w) X.A (evalPairs (pairTrees keys values X.env a)) (λvs g=>∃e f,Inv X d c f g/\VV e vs/\Q e f) X.xe s
def ca {X:Cx}{a:Pos}:lI X a [] [] [] :=λb s c H Q I h=>pairTrees_nil_walk ⟨[],H,I, .nil,h⟩
def ZQ {X:Cx}{a:Pos}{k v:zr}{f:zy (zt zr)}{vs:zy zr}{g i:TE}{b:zy (TE×TE)}(hk:PE X k g)(hv:PE X v i)(j:lI X a f vs b):lI X a (some k::f) (v::vs) ((g,i)::b):=λc s d H Q I h=>
 pairTrees_cons_walk (BY (hk c s d H _ I h) λu l ⟨x,H1,m,n,o⟩=>BY (hv c l d H1 _ m o) λE p ⟨y,r,t,w,z⟩=>
  BY (j c p d r _ t z) λF G ⟨A,B,C,e,D⟩=>⟨(x,y)::A,B,C, .cons ⟨n,w⟩ e,D⟩)
def M4 (kvs more:zy (Cf×V)):zy (Cf×V):=more.foldl (λa b=>Dp a b.1 b.2) kvs
def KV.merge:∀{more:zy (Cf×V)} {a:zy (Cf×zx)} {kvs:zy (Cf×V)} {vs:zy (Cf×zx)},KV more a->KV kvs vs->KV (M4 kvs more) (merged vs a):=by
 intro more a kvs vs r;unfold KV at r;induction r generalizing kvs vs with
 | nil=>intro q;exact q
 | @cons p q c qs h t ih=>
   intro b;have e:KV (Dp kvs p.1 p.2) (stored vs q.1 q.2):=by have:=b.put p.1 h.2;rw[<-h.1];exact this
   exact ih e
theorem HY:∀(more kvs:zy (Cf×V)),(M4 kvs more).length<=kvs.length+more.length
 | [],kvs=>by show kvs.length<=kvs.length+0;omega
 | p::r,kvs=>by have h1:=HY r (Dp kvs p.1 p.2);have h2:=D0 kvs p.1 p.2;show (M4 (Dp kvs p.1 p.2) r).length<=_;rw[AAZ];omega
theorem Mp {P:zp}{w:zm}:∀{kvs:zy (Cf×V)} {e:zy (zx×zx)},VV (kvs.map λf=>(kV f.1,f.2)) e->∃d,Carries (A4 P w) e d/\KV kvs d
 | [],_,r=>by rw[ABc] at r;cases r;exact⟨[],True.intro, .nil⟩
 | p::kvs,_,r=>by
   rw[AAK] at r;cases r with
   | @cons a b as bs h t=> obtain⟨d,c,q⟩:=Mp (P:=P) (w:=w) t;obtain⟨g,b2⟩:=b;exact⟨(p.1,b2)::d,⟨Rn h.1,rfl,c⟩, .cons ⟨rfl,h.2⟩ q⟩
structure M2 (X:Cx) (o:Expr) (m:Str) (apos:Pos) (e f:Expr) (cpos:Pos):Prop where
 base:attributeBase o m X.env (eval o X.env)=eval o X.env
 few:((backTo cpos (starEach [e,f] X.env)).all (λx=> !x.1)&&(backToKw cpos (keywordEach [] X.env)).all (λx=>x.1.isSome)
  && decide (([e,f] :List Expr).length+([] :List Keyword).length+(if ([] :List Keyword).isEmpty then 0 else 1)<30))=true
 line:(apos.endLine==cpos.line)=true
 trees:backTo cpos (starEach [e,f] X.env)= [(false,eval e X.env),(false,eval f X.env)]
def pT (H:Hp)(a:zu):Prop:=(∃kvs,Rd H a (.dK kvs))\/∃kvs,Rd H a (.dT kvs)
def Ym {X:Cx}{g:zy (zu×Obj)}{h:St}{H:Hp}{s:zw}{a:zu}(I:Inv X g h H s)(d:pT H a):s.TypeIs (.ref a) "dict" /\(∀b,Value.ref a= .ref b->∃c,s.heap.get? b=some c/\c.dict=none)/\(a==sysModules)=false:=by
 rcases d with⟨kvs,e⟩|⟨kvs,e⟩
 .obtain ⟨_,hd,vs,_,f⟩:=YI I.hok e;refine⟨f.typeIs,λb q=> ?_,hd⟩;cases q;obtain⟨c,_,_,h1,h2,_⟩:=f;exact⟨c,h1,h2.2.1⟩
 .obtain ⟨_,hd,xs,_,f⟩:=YL I.hok e;refine⟨f.typeIs,λb q=> ?_,hd⟩;cases q;obtain⟨c,_,_,h1,h2,_⟩:=f;exact⟨c,h1,h2.2.1⟩
section
variable {X:Cx}{zj:zy (zu×Obj)}{σ:St}{H:Hp}{s:zw}{a:zu}{y d:V}{u r:zx}{o:zt V}{A:zk}{E:zx->zw->Prop}
def fL {Q:zx->zw->Prop}(hu:A.units+1<cLine)(I:Inv X zj σ H s)(g:Sz H a y o)(j:RelV y u)(m:RelV d r)(h:∀n p,Inv X zj σ H p->RelV (o.getD d) n->Q n p):wpAny (model X.prog X.w) A (call (.builtin "dict.get") [.ref a,u,r]) Q E s:=by
 rcases g with⟨kvs,k,e,i,l⟩|⟨kvs,k,b,e,i,t,l⟩
 .subst i;obtain⟨z,hd,vs,c,f⟩:=YI I.hok e;refine ACp ACG f.typeIs ADP (ADQ _ _ _) (meets_dict_get_default (A4 X.prog X.w) a (Rn j) hd r) ⟨_,f.mapOf,h _ _ (I.tok _) ?_⟩;rw[l];exact(c.val k).getD m
 .subst i;cases (show u=Value.ref b from j);obtain⟨z,hd,xs,c,f⟩:=YL I.hok e;refine ACp ACG f.typeIs ADP (ADQ _ _ _) (meetsH_dict_get_default (tupleKind (A4 X.prog X.w)) a b hd r) ⟨tupleKind_room_in1 hu,k,xs,UG I.hok t,f,h _ _ (I.tok _) ?_⟩;rw[l];exact(c.val k).getD m
end
def aH (d e f:TE):TE:=λb H Q=>d b H λx H1=>∃a,x= .ref a/\pT H1 a/\e b H1 λy g=>f b g λz c=>∃o,Sz c a y o/\Q (o.getD z) c
section
variable {X:Cx}{o e f:zr}{apos cpos:Pos}{td ty tx:TE}
def ZE (hu:X.A.units+1<cLine)(k:PE X o td)(he:PE X e ty)(l:PE X f tx)(m:M2 X o "get" apos e f cpos):PE X (.Call (.Attribute o "get" apos) [e,f] [] cpos) (aH td ty tx):=by
 intro b s c H Q I h;refine ADR m.base m.few m.line ADS ACG ADm (BY (k b s c H _ I h) λu n ⟨x,H1,j,p,a,ex,d,r⟩=> ?_);subst ex;obtain rfl:u=Value.ref a:=p;obtain⟨t,v,_⟩:=Ym j d;refine⟨t,v, ?_⟩;rw[m.trees];refine ACW rfl (ADF (AB2 (BY (he b n c H1 _ j r) λM w ⟨y,B,C,D,E⟩=>
  AB2 (BY (l b w c B _ C E) λN O ⟨z,F,G,J,P,g,K⟩=>AC8 ?_))))
 exact fL hu G g D J λR S L i=>⟨_,F,L,i,K⟩
end
abbrev KN (K:AAB)(H:Hp):zy (FK×V)->zy (FK×zu×zx)->Prop:=Paired λp q=>p.1=q.1/\FX K H q.2.1 p.1/\RelV p.2 q.2.2
def KN.val {K:AAB}{H:Hp}{kvs:zy (FK×V)}{xs:zy (FK×zu×zx)}(r:KN K H kvs xs)(k:FK):LX (EI kvs k) ((atKey xs k).map (·.2)):=by
 induction r with
 | nil=>exact True.intro
 | @cons p q c qs h t ih=>
   obtain⟨h1,_,h2⟩:=h;by_cases e:p.1=k
   .have a:q.1=k:=h1.symm.trans e;have b:atKey (q::qs) k=some q.2:=by simp[atKey,ABT,a]
    rw[Gr e,b];exact h2
   .have a:¬q.1=k:=λz=>e (h1.trans z);have b:atKey (q::qs) k=atKey qs k:=by simp[atKey,ABT,a]
    rw[Gq e,b];exact ih
def KN.repl {K:AAB}{H:Hp}{kvs:zy (FK×V)}{xs:zy (FK×zu×zx)}(r:KN K H kvs xs)(k:FK){y:V}{u:zx}(b:RelV y u):KN K H (kvs.map λa=>if a.1=k then (a.1,y) else a) (xs.map (putAt k u)):=by
 induction r with
 | nil=>exact .nil
 | @cons p q d qs h t ih=>
   rw[AAK,AAK];refine .cons ?_ ih;obtain⟨h1,h2,c⟩:=h;unfold putAt;by_cases e:p.1=k
   .rw [AAE e,AAE (h1.symm.trans e)];exact⟨h1,h2,b⟩
   .rw [AAC e,AAC (λz=>e (h1.trans z))];exact⟨h1,h2,c⟩
def KN.put {K:AAB}{H:Hp}{kvs:zy (FK×V)}{xs:zy (FK×zu×zx)}(r:KN K H kvs xs)(k:FK){b:zu}{y:V}{u:zx}(hb:FX K H b k)(a:RelV y u):KN K H (Dp kvs k y) (storedH xs k b u):=by
 have e:(kvs.any λc=>decide (c.1=k))=(atKey xs k).isSome:=by rw[Nf,(r.val k).isSome_eq,ACF]
 unfold Dp storedH;rw[e];by_cases q:(atKey xs k).isSome=true
 .rw [AAE q,AAE q];exact r.repl k a
 .rw [AAC q,AAC q];exact Paired.snoc r ⟨rfl,hb,a⟩
def KN.keeps {K:AAB}{H a:Hp}{kvs:zy (FK×V)}{xs:zy (FK×zu×zx)}(r:KN K H kvs xs)(c:∀b ys,H b=some (.tup ys)->a b=some (.tup ys)):KN K a kvs xs:=
 Paired.mapP r λ_ _ z=>⟨z.1,z.2.1.stay c,z.2.2⟩
section
variable {P:zp}{w:zm}{H:Hp}{h:zl}{a:zu}{K:AAB}
def JU {k:FK}(ok:Hs P w H h)(d:K.In h)(e:FX K H a k):(fkKind P w).is h k a:=by
 obtain⟨b,h1,h2⟩:=e;obtain⟨_,j,r,o,l,m,n,p⟩:=(show B4 P w H h a (.tup [.ref b, .int k.2]) from ok a _ h1);cases r with
 | cons s r=>
 cases r with
 | cons f r=>
 cases r;cases s;obtain⟨u,rfl⟩:=f;have two:∀{us:zy zx},Ao [.int k.1.1, .int k.1.2] us->ItemsAre (intKind P w) [k.1.1,k.1.2] us:=λhv=>by
  cases hv with
  | cons t hv=>
  cases hv with
  | cons v hv=> cases hv;obtain⟨E,rfl⟩:=t;obtain⟨F,rfl⟩:=v;exact .cons (by simp[intKind,Value.isInt]) (.cons (by simp[intKind,Value.isInt]) .nil)
 refine⟨o,_,n,b,u,l,m,p,by simp, ?_⟩;rcases h2 with h2|⟨i,c,g,x,y,z,A⟩
 .obtain ⟨_,c,f,B,f1,C,g,D⟩:=(show B4 P w H h b (.tup [.int k.1.1, .int k.1.2]) from ok b _ h2);exact⟨B,c.toArray,g,f1,C,D,by simpa using two f⟩
 .exact ⟨i,c,g,d b i x,y,z,two A⟩
def Oi {kvs:zy (FK×V)}(ok:Hs P w H h)(b:K.In h)(e:H a=some (.dN K kvs)):kvs.length<=sizeLine/\(a==sysModules)=false/\∃xs,KN K H kvs xs/\h.DictOfH (fkKind P w) a xs:=by
 obtain⟨z,y,xs,r,o,es,ep,h1,h2,c,d,f⟩:=(show B4 P w H h a (.dN K kvs) from ok a _ e);refine⟨z,y,xs,r,o,es,ep,h1,h2,c,d,λx hx=> ?_,f⟩;have all:∀{l:zy (FK×V)} {m:zy (FK×zu×zx)},KN K H l m->∀x∈m,(fkKind P w).is h x.1 x.2.1:=by
  intro l m q;induction q with
  | nil=>intro x hx;exact nomatch hx
  | @cons p q g qs hq t ih=>
    intro x hx;rcases AAF.mp hx with e|hx
    .subst e;exact JU ok b (by rw[<-hq.1];exact hq.2.1)
    .exact ih x hx
 exact all r x hx
end
section
variable {X:Cx}{zj:zy (zu×Obj)}{σ:St}{H:Hp}{s:zw}{a b:zu}{v d:V}{r:zx}{kvs:zy (FK×V)}{k:FK}{A:zk}{E:zx->zw->Prop}
def XC {Q:zx->zw->Prop}(hu:A.units+2<cLine)(I:Inv X zj σ H s)(e:H a=some (.dN X.K kvs))(hb:FX X.K H b k)(l:EI kvs k=some v)(h:∀c i,Inv X zj σ H i->RelV v c->Q c i):wpAny (model X.prog X.w) A (getItem (.ref a) (.ref b)) Q E s:=by obtain⟨z,hd,xs,f,j⟩:=Oi I.hok I.kIn e;obtain⟨c,hw,g⟩:=LX.some_of (v:=v) (o:=(atKey xs k).map (·.2)) (by rw[<-l];exact f.val k);obtain⟨p,hp,m⟩:=ABH.mp hw;refine wpAny_getItem_heap (DC hu) (JU I.hok I.kIn hb) j hp ?_;rw[m];exact h c _ (I.tok _) g
def nS {Q:zx->zw->Prop}(hu:A.units+2<cLine)(I:Inv X zj σ H s)(e:H a=some (.dN X.K kvs))(hb:FX X.K H b k)(h:∀f,Inv X zj σ H f->Q (.bool (EI kvs k).isSome) f):wpAny (model X.prog X.w) A (compareOp .In (.ref b) (.ref a)) Q E s:=by obtain⟨z,hd,xs,c,g⟩:=Oi I.hok I.kIn e;refine wpAny_in_heap (DC hu) (JU I.hok I.kIn hb) hd g ?_;have q:=(c.val k).isSome_eq;rw[ACF] at q;rw[<-q];exact h _ (I.tok _)
def XD {Q:Unit->zw->Prop}(hu:A.units+2<cLine)(I:Inv X zj σ H s)(e:H a=some (.dN X.K kvs))(hb:FX X.K H b k)(hl:kvs.length<sizeLine)(rv:RelV v r)(h:∀i,Inv X zj σ (upd H a (.dN X.K (Dp kvs k v))) i->Q () i):wpAny (model X.prog X.w) A (setItem (.ref a) (.ref b) r) Q E s:=by
 obtain⟨z,hd,xs,f,l⟩:=Oi I.hok I.kIn e;have hz:xs.length<=sizeLine:=by rw[<-ABj f];exact z
 have hl:(Dp kvs k v).length<=sizeLine:=by have:=D0 kvs k v;omega
 refine wpAny_setItem_heap (hsz:=hz) (DC hu) (JU I.hok I.kIn hb) l λh' g hs=>h _ ?_;obtain⟨q,es,ep,hq,h2,m,n,_,o⟩:=g;refine Gx I (by rw[e];exact True.intro) hs ⟨q,hq⟩ ⟨hl,hd,_,(f.put k hb rv).keeps λc ys j=> ?_,q,es,ep,hq,h2,m,n,o⟩;rw[Ad (dw j e (λz=>nomatch z))];exact j
def gO {Q:zx->zw->Prop}(hu:A.units+2<cLine)(I:Inv X zj σ H s)(e:H a=some (.dN X.K kvs))(hb:FX X.K H b k)(j:RelV d r)(h:∀f g,Inv X zj σ H g->RelV ((EI kvs k).getD d) f->Q f g):wpAny (model X.prog X.w) A (call (.builtin "dict.get") [.ref a, .ref b,r]) Q E s:=by obtain⟨z,hd,xs,c,i⟩:=Oi I.hok I.kIn e;refine ACp ACG i.typeIs ADP (ADQ _ _ _) (meetsH_dict_get_default (fkKind X.prog X.w) a b hd r) ⟨DC hu,k,xs,JU I.hok I.kIn hb,i,h _ _ (I.tok _) ?_⟩;exact(c.val k).getD j
end
def eG (K:AAB):TE:=λ_ H Q=>∀p,H p=none->Q (.ref p) (upd H p (.dN K []))
def kz (K:AAB)(e f:TE):TE:=λd H Q=>e d H λx H1=>f d H1 λy c=>∃a b kvs k v,x= .ref a/\y= .ref b/\c a=some (.dN K kvs)/\FX K c b k/\EI kvs k=some v/\Q v c
def k9 (K:AAB)(e f:TE):TE:=λd H Q=>e d H λy H1=>f d H1 λx c=>∃a b kvs k,x= .ref a/\y= .ref b/\c a=some (.dN K kvs)/\FX K c b k/\Q (.bl (EI kvs k).isSome) c
def Zi (K:AAB)(e f g:TE):TS:=λD c H=>g c H λv H1=>e c H1 λx h=>f c h λy d=>∃a b kvs k,x= .ref a/\y= .ref b/\d a=some (.dN K kvs)/\FX K d b k/\kvs.length<sizeLine/\D.nx c (upd d a (.dN K (Dp kvs k v)))
def Uz (K:AAB)(e f g:TE):TE:=λc H Q=>e c H λx H1=>∃a kvs,x= .ref a/\H1 a=some (.dN K kvs)/\f c H1 λy h=>g c h λz d=>∃b kvs k,y= .ref b/\d a=some (.dN K kvs)/\FX K d b k/\Q ((EI kvs k).getD z) d
section
variable {X:Cx}{o i e f value:zr}{pos pos' apos cpos:Pos}{td ty tv tx:TE}
def YJ {P:zp}{w:zm}{H:Hp}{K:AAB}(h:zl)(hb:sysModules<h.objs.size):B4 P w H (h.push {cls:= .type "dict",data:= .dict #[] }) h.objs.size (.dN K []):=
 ⟨AAq _,ACT.mpr (AAe (AAM hb)), [], .nil,_, #[],0,AAS _ rfl,⟨rfl,rfl,rfl⟩,rfl,rfl,List.nodup_nil⟩
def cV:PE X (.Dict [] [] pos) (eG X.K):=λb s c H Q I h=>
 wpAny_Dict_empty ⟨.ref s.heap.objs.size,_,I.laid (a:=s.heap.objs.size) (o:= .dN X.K []) (t':=s.toks) (λ_ _ q=>AAH _ q) (AAI _) (YJ s.heap I.big),rfl,h _ (I.hok.fresh (AAI _))⟩
def dc {g:zy (zu×Obj)}{h:St}{H:Hp}{s:zw}{a:zu}{kvs:zy (FK×V)}(I:Inv X g h H s)(e:H a=some (.dN X.K kvs)):s.TypeIs (.ref a) "dict" /\(∀b,Value.ref a= .ref b->∃c,s.heap.get? b=some c/\c.dict=none):=by obtain⟨_,hd,xs,_,d⟩:=Oi I.hok I.kIn e;refine⟨d.typeIs,λb q=> ?_⟩;cases q;obtain⟨c,_,_,h1,h2,_⟩:=d;exact⟨c,h1,h2.2.1⟩
def cU (hu:X.A.units+2<cLine)(m:PE X o td)(hi:PE X i ty)(hs:en i):PE X (.Subscript o i pos) (kz X.K td ty):=by intro d s g H Q I h;refine dJ PySem.F.slot_dict_getitem.lookup hs (BY (m d s g H _ I h) λu n ⟨x,H1,p,r,t⟩=>BY (hi d n g H1 _ p t) λw G ⟨y,z,j,B,a,b,kvs,k,v,ex,C,e,hb,l,D⟩=> ?_);subst ex C;obtain rfl:u=Value.ref a:=r;obtain rfl:w=Value.ref b:=B;exact⟨(dc j e).1,XC hu j e hb l λJ L E c=>⟨v,z,E,c,D⟩⟩
def gf (hu:X.A.units+2<cLine)(hi:PE X i ty)(g:PE X o td):PC X .In i o (k9 X.K ty td):=by intro c s d H Q I h;refine BY (hi c s d H _ I h) λj l ⟨y,H1,m,n,p⟩=>BY (g c l d H1 _ m p) λu C ⟨x,r,t,v,a,b,kvs,k,ex,w,e,hb,z⟩=> ?_;subst ex w;obtain rfl:u=Value.ref a:=v;obtain rfl:j=Value.ref b:=n;exact nS hu t e hb λD B=>⟨.bl _,r,B,rfl,z⟩
def Vx (hu:X.A.units+2<cLine)(g:PE X o td)(hi:PE X i ty)(hv:PE X value tv)(hs:swapsWith value (some (.Subscript o i pos')) pos.line X.env=pure false):PS X (.Assign [.Subscript o i pos'] value pos) (Zi X.K td ty tv):=by intro d s c H D I h;refine wpAny_Assign_Subscript (BY (hv d s c H _ I h) λr j ⟨v,H1,l,rv,m⟩=>BY (g d j c H1 _ l m) λu n ⟨x,p,t,w,z⟩=>BY (hi d n c p _ t z) λB L ⟨y,M,C,E,a,b,kvs,k,ex,F,e,hb,hl,G⟩=> ?_) hs;subst ex F;obtain rfl:u=Value.ref a:=w;obtain rfl:B=Value.ref b:=E;exact XD hu C e hb hl rv λN J=>⟨c,_,J,G⟩
def SM (hu:X.A.units+2<cLine)(n:PE X o td)(he:PE X e ty)(p:PE X f tx)(m:M2 X o "get" apos e f cpos):PE X (.Call (.Attribute o "get" apos) [e,f] [] cpos) (Uz X.K td ty tx):=by
 intro c s d H Q I h;refine ADR m.base m.few m.line ADS ACG ADm (BY (n c s d H _ I h) λu r ⟨x,H1,j,t,a,l,ex,v,w⟩=> ?_);subst ex;obtain rfl:u=Value.ref a:=t;obtain⟨B,C⟩:=dc j v;refine⟨B,C, ?_⟩;rw[m.trees];refine ACW rfl (ADF (AB2 (BY (he c r d H1 _ j w) λD E ⟨y,F,G,J,L⟩=>
  AB2 (BY (p c E d F _ G L) λT U ⟨z,M,N,O,b,kvs,k,P,e,hb,R⟩=>AC8 ?_))))
 subst P;obtain rfl:D=Value.ref b:=J;exact gO hu N e hb O λW Y S g=>⟨_,M,S,g,R⟩
end
end L2
namespace PySem
open Sem (wp)
def Jx (h:zl)(d:zu)(es:Array DictEntry)(ep:Nat):Prop:=∃o,h.get? d=some o/\o.ExactDict/\o.data= .dict es ep
section
variable {prog:zp}{w:zm}{A:zk}{E:zx->zw->Prop}{s:zw}{d it:zu}{es:Array DictEntry}{ep i:Nat}
def Jx.typeIs (x:Jx s.heap d es ep):s.TypeIs (.ref d) "dict" :=let ⟨o,a,hc,_⟩:=x;⟨o,a,hc.1⟩
def Jx.at {h h':zl}(x:Jx h d es ep)(e:∀o,h.get? d=some o->h'.get? d=some o):Jx h' d es ep:=let ⟨o,a,r⟩:=x;⟨o,e _ a,r⟩
def Zc {Q:zx->zw->Prop}(hd:(d==sysModules)=false)(b:Jx s.heap d es ep)(hQ:Q (.ref s.heap.objs.size) {s with heap:=s.heap.push {cls:= .type "dict_keyiterator",data:= .fields #[.ref d, .int 0 0, .int es.size 0, .int ep 0] }}):wpAny (model prog w) A (pyIter (.ref d)) Q E s:=by have a:=b.typeIs;obtain⟨o,c,hc,e⟩:=b;refine wpAny_pyIter_slot a F.slot_dict_iter (AAw F.slot_dict_iter a F.entry_dict_iter ?_ (F.args_dict_iter_1 _));unfold Builtin.«dict.__iter__»;refine AAA ?_;unfold Builtin.Dict.dictSlotNone;refine AAA (wpAny_notOrdered_dict a (AAD ?_));show wpAny _ _ (Builtin.Dict.showsAll d >>= _) _ _ s;unfold Builtin.Dict.showsAll;rw[AAC (by rw[hd];exact AAR)];refine AAA (AAD (AAA (ADT c e (AAA (ADU c e ?_)))));exact AAA (AAx (AAD ⟨_,rfl,"dict_keyiterator",_,⟨_,AAS _ rfl,rfl⟩,ACH.lookup,by simpa[rawInt] using hQ⟩))
def Zd {Q:zt zx->zw->Prop}(a:s.heap.IsKeyIter it d i es.size ep)(h:Jx s.heap d es ep)(j:i<es.size)(hQ:∀h',h'.IsKeyIter it d (i+1) es.size ep->Heap.SameBut it s.heap h'->Q (some es[i].key) {s with heap:=h'}):wpAny (model prog w) A (pyNext (.ref it)) Q E s:=by
 have b:=a.typeIs;obtain⟨o,c,hc,hd⟩:=a;obtain⟨k,e,l,f⟩:=h;unfold pyNext;refine AAA (ACg (ABO (name:=Str.ofString "__next__") b ACH (AAw ACH b ADn ?_ (ADo _))));refine AAA (AAD (AAA (AAA ?_)));refine AAA (ACq b (AAD (AAA (wpAny_fieldsOf c hd ?_))));simp only[show Builtin.Dict_items.ownsTuple "dict_keyiterator" =false by decide,AAi,AAa];show wpAny _ _ (if (Value.ref d==Value.none)=true then _ else _) _ _ s;rw[AAC (show ¬((Value.ref d==Value.none)=true) from AAR)];refine AAA (AAD (AAA (ADT e f ?_)));rw[AAC (by simp)];refine AAA (AAD (AAA (ADU e f ?_)));rw[AAC (by simp)];refine AAD ?_;simp only[show ¬((i:Int)<0) from by omega,AAa,ABm,ADp j];refine AAA ?_;refine AAA (ACq b (AAD (AAA (wpAny_isOneOf_keyiter b ?_))));show wpAny _ _ (setField (.ref it) 1 (rawInt ((i:Int)+1)) >>= _) _ _ s;refine AAA (ACb c hd (by simp) ?_);have g:(s.heap.update it (Obj.mapFields (·.setIfInBounds 1 (rawInt ((i:Int)+1))))).IsKeyIter it d (i+1) es.size ep:=
  ⟨_,ABo _ c (Obj.isFreed_of_fields (ACd hd _)),(Obj.cls_mapFields ..).trans hc,by rw[ACd hd];simp[rawInt]⟩
 refine AAA (AAk (AAA (wpAny_isOneOf_keyiter (s:={s with heap:=s.heap.update it (Obj.mapFields (·.setIfInBounds 1 (rawInt ((i:Int)+1))))}) g.typeIs ?_)));show wpAny _ _ (pure es[i].key) _ _ _;exact AAD (AAD ⟨_,rfl,AAD (hQ _ g (ACc ..))⟩)
def cn {Q:zt zx->zw->Prop}(j:A.handled=none)(c:s.heap.IsKeyIter it d es.size es.size ep)(k:Jx s.heap d es ep)(hQ:∀h',Heap.ExtBut it s.heap h'->Q none {s with heap:=h'}):wpAny (model prog w) A (pyNext (.ref it)) Q E s:=by have e:=c.typeIs;obtain⟨o,f,hc,hd⟩:=c;obtain⟨l,g,n,h⟩:=k;unfold pyNext;refine AAA (ACg (ABO (name:=Str.ofString "__next__") e ACH (AAw ACH e ADn ?_ (ADo _))));refine AAA (AAD (AAA (AAA ?_)));refine AAA (ACq e (AAD (AAA (wpAny_fieldsOf f hd ?_))));simp only[show Builtin.Dict_items.ownsTuple "dict_keyiterator" =false by decide,AAi,AAa];show wpAny _ _ (if (Value.ref d==Value.none)=true then _ else _) _ _ s;rw[AAC (show ¬((Value.ref d==Value.none)=true) from AAR)];refine AAA (AAD (AAA (ADT g h ?_)));rw[AAC (by simp)];refine AAA (AAD (AAA (ADU g h ?_)));rw[AAC (by simp)];refine AAD ?_;simp only[show ¬((es.size:Int)<0) from by omega,AAa,ABm,Array.getElem?_eq_none (AAI es.size)];refine AAA ?_;refine AAA (ACq e (AAD ?_));show wpAny _ _ (setField (.ref it) 0 .none >>= _) _ _ s;refine AAA (ACb f hd (by simp) ?_);show wpAny _ _ (newExc (.type "StopIteration") [] >>= _) _ _ _;refine AAA ?_;simp only[newExc,newTuple];refine AAA (AAx ?_ (by size_fits));refine AAA (m:=firstArgMember _ _) (wpAny_of_eq (a:=Value.none) (by first | rfl|(simp only[firstArgMember];rfl)) (AAx ?_ (by size_fits)));simp only[raiseNew];refine AAA (wpAny_handled ?_);rw[show A.in1.handled=none from j];refine AAA (AAD (wpAny_throw ?_));refine AAA (ABi (T:="StopIteration") (b:=true) ⟨_,AAS _ rfl,rfl⟩ isSubtype_stop ?_);exact AAD (hQ _ (((ACc ..).extBut.push _).push _))
def Xd (c:A.handled=none)(f:d≠it):Walks prog w A it [it,d] [it] es.size (λi v=>∃e,es[i]? =some e/\v=e.key) (λi h=>h.IsKeyIter it d i es.size ep/\Jx h d es ep) where
 sub:=λb hb=>by simp at hb;simp[hb]
 frame:=λ_ _ _ st hk=>⟨st.1.at λo e=>hk it (by simp) o e,st.2.at λo e=>hk d (by simp) o e⟩
 item:=λi s Q E hi st hQ=>Zd st.1 st.2 hi λh' g a=>
  hQ _ h' s.toks ⟨es[i],by simp[hi],rfl⟩ ⟨g,st.2.at λo e=>a.extBut d o f e⟩ λb o hb e=>a.extBut b o (λh=>hb (by simp[h])) e
 done:=λs Q E st hQ=>cn c st.1 st.2 λh' j=>hQ h' s.toks λb o hb e=>j b o (λh=>hb (by simp[h])) e
 self:=λ_ _ _ _ st hQ=>wpAny_pyIter_keyiter st.1 hQ
end
def Zb {prog:zp}{w:zm}{A:zk}{E:zx->zw->Prop}{s:zw}{d:zu}{es:Array DictEntry}{ep:Nat}{Q:zq->zw->Prop}(b:Jx s.heap d es ep)(h:Q false s):wpAny (model prog w) A (Builtin.List.listLengthHint (.ref d)) Q E s:=by
 have a:=b.typeIs;unfold Builtin.List.listLengthHint;refine AAA (ABX a F.slot_dict_len.lookup ?_);have hs:splitId "dict.__len__" =some ("dict","__len__"):=by decide +kernel
 simp only[hs];refine AAA (ABi a (by rw[isSubtype_type];kernel_rfl:isSubtype (.type "dict") (.type "dict")=pure true) ?_);simp only[AA9,AAi,AAa];rw[AAE (by decide +kernel)];refine AAA (AB6 a ?_);exact AAD h
section
variable {prog:zp}{w:zm}{A:zk}{s:zw}{R:Result->zw->Prop}{d:zu}{es:Array DictEntry}{ep:Nat}
def Ua (G:A.handled=none)(S:zu)(res:zx)(h:Nat)(hd:(d==sysModules)=false)(n:Jx s.heap d es ep)(H:es.size<=sizeLine)(p:d≠S)(x:s.heap.get? S=some {cls:= .type "list",data:= .seq #[] h})(I:∀h' J a l,(∀b o,b≠S->s.heap.get? b=some o->h'.get? b=some o)->h'.get? S=some {cls:= .type "list",dict:=none,data:= .seq a l,slots:= #[] }->ItemsOf (λi v=>∃e,es[i]? =some e/\v=e.key) a es.size->R (.ok (.ret res)) {s with heap:=h',toks:=J}):wpAny (model prog w) A.in1 (Builtin.List.listExtendWith (.ref S) (.ref d) res) (λr c=>match r with | .done f=>R (.ok f) c | .again l=>l.quiet=true/\codeAny (model prog w) A l R c) (λe c=>R (.error e) c) s:=by
 have K:=n.typeIs;unfold Builtin.List.listExtendWith;refine AAA (AB6 K ?_);have h1:Builtin.List.listSameRef (.ref S) (.ref d)=false:=by simp[Builtin.List.listSameRef,AAe p]
 have h2:(Value.type "dict" == Value.type "list")=false:=by decide
 have L:(Value.type "dict" == Value.type "tuple")=false:=by decide
 simp only[h1,h2,L,Bool.or_false,AAi,AAa];refine AAA (Zc hd n ?_);have M:d<s.heap.objs.size:=let ⟨o,N,_⟩:=n;AAG N;have O:S<s.heap.objs.size:=AAG x;have t:Jx (s.heap.push {cls:= .type "dict_keyiterator",data:= .fields #[.ref d, .int 0 0, .int es.size 0, .int ep 0] }) d es ep:=n.at λo e=>AAH _ e;refine AAA (AAk (Zb (s:={s with heap:=s.heap.push {cls:= .type "dict_keyiterator",data:= .fields #[.ref d, .int 0 0, .int es.size 0, .int ep 0] }}) t ?_));generalize u:({cls:= .type "dict_keyiterator",data:= .fields #[.ref d, .int 0 0, .int es.size 0, .int ep 0] }:Obj)=io at t ⊢;have y:(s.heap.push io).get? S=some {cls:= .type "list",data:= .seq #[] h}:=AAH _ x;have P:(s.heap.push io).get? s.heap.objs.size=some io:=AAS _ (by rw[<-u];rfl);have z:S≠s.heap.objs.size:=AAM O;rw[AAE (by decide +kernel)];refine AAA (ABI (AAA ?_));show wpAny _ A.in1 (updateSeq S (·.push .none) >>= λ_=>updateSeq S (·.pop)) _ _ _;refine AAA (ADV (s:={s with heap:=s.heap.push io}) y rfl ?_);have g:=ABo (Obj.mapSeq (·.push Value.none)) y rfl;refine ADV (hz:=by seq_fits) g rfl ?_;have j:=ABo (Obj.mapSeq (·.pop)) g rfl;have k:∀b o,b≠S->(s.heap.push io).get? b=some o->(((s.heap.push io).update S (Obj.mapSeq (·.push Value.none))).update S (Obj.mapSeq (·.pop))).get? b=some o:=
  λb o hb e=>(AB7 _ _ (AAe hb)).trans ((AB7 _ _ (AAe hb)).trans e)
 have W:=(Xd (prog:=prog) (w:=w) (A:=A.in1) (d:=d) (it:=s.heap.objs.size) (es:=es) (ep:=ep) G (AAM M)).toS;refine AAD ⟨plainId_quiet F.plain_extend_loop _,codeAny_extend_loopS W H S ?_ res es.size 0 _ _ _ rfl (AAq _) ⟨⟨io,k _ _ (AAe z) P,by rw[<-u],by rw[<-u];rfl⟩,t.at λo e=>k _ _ p e⟩ j (ItemsOf.nil _) λc a l Q T U=> ?_⟩
 .intro m;simp only[AAF,AAd,AAb] at m;rcases m with e|e
  .exact z e
  .exact p e.symm
 .obtain ⟨X,B,C,D,Y⟩:=Q;have e:c={s with heap:=c.heap,toks:=c.toks}:=by obtain⟨Z,a2,a3,a4,a5⟩:=c;simp only at B C D;subst B;subst C;subst D;rfl
  rw[e];refine I c.heap c.toks a l (λb o hb E=>X b o ?_ (k b o hb (AAH _ E))) T U;intro m;simp only[AAF,AAd,AAb] at m;rcases m with e|e
  .exact hb e
  .exact AAM (AAG E) e
end
section
variable {prog:zp}{w:zm}{A:zk}{E:zx->zw->Prop}{s:zw}{d:zu}{es:Array DictEntry}{ep:Nat}
def N4 {Q:zx->zw->Prop}(r:A.handled=none)(hd:(d==sysModules)=false)(n:Jx s.heap d es ep)(t:es.size<=sizeLine)(hQ:∀h' k l,(∀b o,s.heap.get? b=some o->h'.get? b=some o)->h'.get? s.heap.objs.size=some {cls:= .type "list",dict:=none,data:= .seq (es.map (·.key)) l,slots:= #[] }->Q (.ref s.heap.objs.size) {s with heap:=h',toks:=k}):wpAny (model prog w) A (call (.type "list") [.ref d]) Q E s:=by
 have u:d<s.heap.objs.size:=let ⟨o,v,_⟩:=n;AAG v;refine callType_codes (Q₁:=λobj c=>obj= .ref s.heap.objs.size/\c={s with heap:=s.heap.push {cls:= .type "list",data:= .seq #[] }}) F.called_list (F.typeCall_list_1 _) F.entry_list_init (code_list_new _ ⟨rfl,rfl⟩) λobj c g=> ?_;obtain⟨rfl,rfl⟩:=g;have j:(s.heap.push {cls:= .type "list",data:= .seq #[] }).get? s.heap.objs.size=some {cls:= .type "list",data:= .seq #[] }:=AAS _ rfl;refine⟨⟨_,j,rfl⟩,F.args_list_init_2 _ _, ?_⟩;show wpAny _ A.in1.in1 (do let m <-Builtin.List.listItems (.ref s.heap.objs.size);Builtin.List.listUpdate (.ref s.heap.objs.size) (λ_=> #[]);letGo m.toList.reverse;Builtin.List.listExtendWith (.ref s.heap.objs.size) (.ref d) .none) _ _ _;refine AAA ?_;unfold Builtin.List.listItems;refine AAA (AA2 j rfl (AAD ?_));refine AAA (ADV j rfl ?_);have f:=ABo (Obj.mapSeq (λ_=>(#[] :Array zx))) j rfl;refine AAA (ACf ?_);have h:∀b o,s.heap.get? b=some o->((s.heap.push {cls:= .type "list",data:= .seq #[] }).update s.heap.objs.size (Obj.mapSeq (λ_=>(#[] :Array zx)))).get? b=some o:=λb o e=>by have hb:b≠s.heap.objs.size:=λz=>ABB _ (z ▸ AAG e);exact(AB7 _ _ (AAe hb)).trans (AAH _ e)
 refine Ua (s:={s with heap:=(s.heap.push {cls:= .type "list",data:= .seq #[] }).update s.heap.objs.size (Obj.mapSeq (λ_=>(#[] :Array zx)))}) (d:=d) (es:=es) (ep:=ep) (A:=A.in1) r s.heap.objs.size .none _ hd (n.at λo e=>h d o e) t (AAM u) f ?_;intro h' k a l x y B;refine⟨rfl,hQ h' k l (λb o e=>x b o (λz=>ABB _ (z ▸ AAG e)) (h b o e)) ?_⟩;have C:a=es.map (·.key):=by
  obtain⟨h1,h2⟩:=B;refine Array.ext (by simp[h1]) λi hi hj=> ?_;obtain⟨e,p,D⟩:=h2 i _ (by simp[hi] :a[i]? =some a[i]);have G:i<es.size:=by simpa using hj
  rw[ADp G] at p;cases p;rw[D];simp
 rw[<-C];exact y
end
end PySem
namespace L2
open PySem PySem.Spec PyProof.Rows
section
variable {X:Cx}
def g6 (K:AAB):zy V->Hp->VK->Prop:=λxs H Q=>∃p kvs,xs= [.ref p] /\H p=some (.dN K kvs)/\∀l cs,H l=none->Paired (λ(q:FK×V) (c:zu)=>FX K H c q.1) kvs cs->Q (.ref l) (upd H l (.lst (cs.map V.ref)))
def TX {k:Nat}(g:Room k X.A):CZ X (.type "list") (g6 X.K):=by
 intro B s C H xs us Q I r h;obtain⟨p,kvs,rfl,hp,q⟩:=h;obtain⟨u,rfl,i⟩:=vals1 r;cases i;obtain⟨z,hd,ys,b,o,es,ep,h1,h2,j,c,m,n⟩:=Oi I.hok I.kIn hp;have hl:ys.length=kvs.length:=(ABj b).symm;have d:es.size=ys.length:=by rw[<-ABY,c,AAJ]
 refine N4 (es:=es) (ep:=ep) g.hd hd ⟨o,h1,h2,j⟩ (by rw[d,hl];exact z) λh' v x y e=> ?_;have f:es.map (·.key)=((ys.map (·.2.1)).map Value.ref).toArray:=by apply Array.ext';rw[Array.toList_map,c];simp[entryOfKey]
 rw[f] at e;have hv:∀l:zy zu,Ao (l.map V.ref) (l.map Value.ref):=λl=>by
  induction l with
  | nil=>exact .nil
  | cons a l ih=>exact .cons rfl ih
 refine⟨.ref s.heap.objs.size,_,I.laid (t':=v) y (AAI _) (show B4 X.prog X.w _ h' _ (.lst ((ys.map (·.2.1)).map V.ref)) from⟨by simp only[AAJ];rw[hl];exact z,_,x,hv _,e⟩),rfl,q _ _ (I.hok.fresh (AAI _)) ?_⟩;clear q e f c n m d hl z hp;induction b with
 | nil=>exact .nil
 | cons h t ih=>exact .cons h.2.1 ih
end
end L2
namespace PL
open PySem PySem.Spec PyProof.Rows L2
def UF (k:FK):PV:= .tup [.tup [.int k.1.1, .int k.1.2], .int k.2]
def BC (kvs:zy (FK×Int))(k:FK):zt Int:=(kvs.find? λp=>decide (p.1=k)).map (·.2)
def U9 (kvs:zy (FK×Int))(k:FK):EI (B5 kvs) k=(BC kvs k).map V.int:=by
 induction kvs with
 | nil=>rfl
 | cons p r ih=>
   by_cases e:p.1=k
   .simp [BC,B5,EI,e]
   .simpa [BC,B5,EI,e] using ih
section
variable {K:AAB}{T M:zu->Prop}{H:Hp}
def L4 {v:V}{t d:Int}(r:CC K T M H v (.tup [.int t, .int d])):∃b,v= .ref b/\X2 K H b t d:=by
 obtain⟨a,vs,rfl,hq,c⟩:=Z0 r;cases c with
 | cons f c=>
 cases c with
 | cons g c=>
 cases c;cases f;cases g;refine⟨a,rfl, ?_⟩;rcases hq with h|⟨o,e,n,h1,h2,i,_,j⟩
 .exact .inl h
 .exact .inr ⟨o,e,n,h1,h2,i,j⟩
def Zf {b:zu}{t d:Int}(h:X2 K H b t d):CC K T M H (.ref b) (.tup [.int t, .int d]):=by
 refine .tup (vs:= [.int t, .int d]) ?_ (.cons (.int _) (.cons (.int _) .nil));rcases h with h|⟨o,a,n,h1,h2,e,c⟩
 .exact .inl h
 .refine .inr ⟨o,a,n,h1,h2,e, ?_,c⟩;have:=c.length;simp only[AAZ,ACo,ABY] at this;rw[<-this];exact AAo rfl
def Ze {c:zu}{k:FK}(h:FX K H c k):CC K T M H (.ref c) (UF k):=by obtain⟨b,h1,h2⟩:=h;exact .tup (.inl h1) (.cons (Zf h2) (.cons (.int _) .nil))
end
section
variable {X:Cx}{a b d:zr}{pos p1:Pos}{ta tb td:AE}
def NE (x y:PV)(R:FK->Prop):Prop:=match x,y with | .tup [.int t, .int e], .int s=>R ((t,e),s)|_,_=>False
def SJ {x y:PV}{R:FK->Prop}(h:NE x y R):∃t e s,x= .tup [.int t, .int e] /\y= .int s/\R ((t,e),s):=by
 unfold NE at h;split at h
 .exact ⟨_,_,_,rfl,rfl,h⟩
 .exact h.elim
def i0 (m:PV)(R:zy (FK×Int)->Prop):Prop:=match m with | .dct kvs=>R kvs|_=>False
def Y7 {m:PV}{R:zy (FK×Int)->Prop}(h:i0 m R):∃kvs,m= .dct kvs/\R kvs:=by cases m <;> first | exact⟨_,rfl,h⟩|exact h.elim
def bC (ta tb td:AE):AE:=λτ Q=>ta τ λx=>tb τ λy=>td τ λm=>i0 m λkvs=>NE x y λk=>Q (.bl (BC kvs k).isSome)
def X5 (td ta tb:AE):AE:=λτ Q=>td τ λm=>ta τ λx=>tb τ λy=>i0 m λkvs=>NE x y λk=>match BC kvs k with | some i=>Q (.int i)|none=>False
def Rp {K:AAB}{B:C0}{T:zu->Prop}{H:Hp}{f:L2.St}{τ:A7}{q:zu}{vs:zy V}(c:SR K B T H f τ)(hq:H q=none):DM T H T (upd H q (.tup vs))/\¬T q:=by refine⟨DM.lay c.tp hq,λz=> ?_⟩;obtain⟨o,e,_⟩:=(c.tp q z).mut;rw[hq] at e;cases e
def c6 {r z A:TE}(D:HM X.K r ta)(E:HM X.K z tb)(F:HM X.K A td):HM X.K (k9 X.K (dP (Nd r (Nd z dM))) A) (bC ta tb td):=by
 intro B T p τ H Q Y C h k;refine D B T p τ H _ _ C h λv x G H1 n I h1=> ?_;have f:=C.stp n;refine E B G p τ H1 _ _ f h1 λw y J Z g L h2=> ?_;have i:=f.stp g;refine⟨AAo rfl,λq hq=> ?_⟩;obtain⟨j,M⟩:=Rp (vs:= [v,w]) i hq;have o:=i.stp j;refine F B J p τ _ _ _ o h2 λu m N O l P R=> ?_;obtain⟨kvs,rfl,S⟩:=Y7 R;obtain⟨t,e,s,rfl,rfl,U⟩:=SJ S;have rv:=((I.stp g f.va).stp j i.va).stp l o.va;obtain⟨c,rfl,tn⟩:=L4 rv;cases L;cases P with
 | dct W _ _=> refine⟨_,q,_,((t,e),s),rfl,rfl,W,⟨c,l.keep _ _ M Ab,tn⟩, ?_⟩;rw[U9,ACF];exact k _ _ N O (((n.trans g).trans j).trans l) (.bl _) U
def iL {c:Nat}{k:Nat}(e:Room k X.A)(ha:SE X a ta)(hb:SE X b tb)(hd:SE X d td)(f:behindInMarks .In d=false:=by rfl)(g:starEach (a :: [b]) X.env=(false,eval a X.env)::starEach [b] X.env:=by rfl)(h:starEach [b] X.env=(false,eval b X.env)::starEach [] X.env:=by rfl):RG X (.Compare (.Tuple [a,b] c p1) [.In] [d] pos) (Ax (bC ta tb td)):=by obtain⟨p,i,j⟩:=ha;obtain⟨r,l,m⟩:=hb;obtain⟨s,n,o⟩:=hd;exact⟨_,gv (gf (by have:=e.un;omega) (NF (CH i (CH l E4 h) g)) n) f,Qk (c6 j m o)⟩
def cw {C:Nat}{k:Nat}(E:Room k X.A)(hd:SE X d td)(ha:SE X a ta)(hb:SE X b tb)(hs:en (.Tuple [a,b] C p1))(F:starEach (a :: [b]) X.env=(false,eval a X.env)::starEach [b] X.env:=by rfl)(G:starEach [b] X.env=(false,eval b X.env)::starEach [] X.env:=by rfl):SE X (.Subscript d (.Tuple [a,b] C p1) pos) (X5 td ta tb):=by
 obtain⟨t1,I,J⟩:=ha;obtain⟨t2,K,L⟩:=hb;obtain⟨t3,M,N⟩:=hd;refine⟨_,cU (by have:=E.un;omega) M (NF (CH I (CH K E4 G) F)) hs,λB T z τ H Q AQ D h k=> ?_⟩;refine N B T z τ H _ _ D h λu m O P p R S=> ?_;have j:=D.stp p;refine J B O z τ P _ _ j S λv x U H1 l W h1=> ?_;have f:=j.stp l;refine L B U z τ H1 _ _ f h1 λw y Y H2 g Z h2=> ?_;have n:=f.stp g;refine⟨AAo rfl,λq hq=> ?_⟩;obtain⟨o,nt⟩:=Rp (vs:= [v,w]) n hq;obtain⟨kvs,rfl,h5⟩:=Y7 h2;obtain⟨t,e,s,rfl,rfl,r⟩:=SJ h5;have rv:=(W.stp g f.va).stp o n.va;have r3:=((R.stp l j.va).stp g f.va).stp o n.va;obtain⟨c,rfl,tn⟩:=L4 rv;cases Z;cases ev:BC kvs ((t,e),s) with
 | none=>rw[ev] at r;exact r.elim
 | some i=>
   rw[ev] at r;cases r3 with
   | dct hh _ _=> exact⟨_,q,_,((t,e),s), .int i,rfl,rfl,hh,⟨c,Ab,tn⟩,by rw[U9,ev];rfl,k _ _ Y _ (((p.trans l).trans g).trans o) (.int _) r⟩
def TQ (r:AA):AA:=λτ Q=>r τ λxs=>match xs with | [.dct kvs] =>Q (kvs.map λp=>UF p.1)|_=>False
def Zt {x:Str}{p pos:Pos}{e:zr}{es:zy zr}{r:AA}{k:Nat}(v:Room k X.A)(w:Gl X x)(y:X.mg x=none)(hv:bootBuiltins x=some (.type "list"))(ha:SA X (e::es) r)(z:x≠"__name__" :=by decide)(hdb:(x==("__debug__" :Str))=false:=by decide)(he:starEach (e::es) X.env=(false,eval e X.env)::starEach es X.env:=by rfl)(hpl:(backTo pos (starEach es X.env)).any (·.1)=false:=by rfl):SF X (.Call (.Name x p) (e::es) [] pos) (TQ r):=by
 obtain⟨t,C,s⟩:=ha;refine⟨_,G4 (TX v) w y hv C z hdb he hpl,λB T j τ H Q I m h k=>s B T j τ H _ _ m h λvs xs n H1 c D h1=> ?_⟩;have f:=m.stp c;split at h1 <;> first | exact h1.elim|skip
 rename_i kvs;cases D with
 | cons r t=>
   cases t;cases r with
   | dct o J L=>
     refine⟨_,_,rfl,o,λl cs hl u=> ?_⟩;have E:Az X.K n (mt B j τ) H1 (cs.map V.ref) (kvs.map λp=>UF p.1):=by
      clear h1 o;induction kvs generalizing cs with
      | nil=>cases u;exact .nil
      | cons q r ih=>
        cases u with
        | cons h t=>exact .cons (Ze h) (ih _ t)
     obtain⟨F,g,i,G⟩:=Pu f hl E;exact k l _ _ n _ (c.trans F) g (c.none hl) Ab i G h1
end
def OK (m:zy (FK×Int))(k:FK)(v:Int):zy (FK×Int):=if (m.any λp=>decide (p.1=k)) then m.map λp=>if p.1=k then (p.1,v) else p else m ++ [(k,v)]
def bump (m:zy (FK×Int))(k:FK)(d:Int):zy (FK×Int):=OK m k ((BC m k).getD 0+d)
def ZV (m:zy (FK×Int))(k:FK)(v:Int):Dp (B5 m) k (.int v)=B5 (OK m k v):=by
 unfold Dp OK;have e:((B5 m).any λa=>decide (a.1=k))=(m.any λp=>decide (p.1=k)):=by unfold B5;rw[List.any_map];rfl
 rw[e];split
 .unfold B5;rw[AAc,AAc];apply AA7;intro p _;by_cases h:p.1=k <;> simp[h]
 .simp [B5]
def Jc (m:zy (FK×Int))(k:FK)(v:Int):(OK m k v).length<=m.length+1:=by unfold OK;split <;> simp
def YX (m:zy (FK×Int))(k:FK):(EI (B5 m) k).getD (.int 0)= .int ((BC m k).getD 0):=by rw[U9];cases BC m k <;> rfl
def Ol:PV->zt (zt (Int×Int))
 | .non=>some none
 | .tup [.int t, .int d] =>some (some (t,d))
 | _=>none
def dt:PV->zt Int
 | .int i=>some i
 | _=>none
def V6:zy PV->zt ((Int×Int)×Int×zt (Int×Int))
 | [b,h,e] =>(Ol b).bind λo=>o.bind λp=>(dt h).bind λi=>(Ol e).map λq=>(p,i,q)
 | _=>none
def V7 (x:PV):zt ((Int×Int)×Int×zt (Int×Int)):=
 match x with
 | .tup xs=>V6 xs
 | .lst xs=>V6 xs
 | _=>none
def Fu (m:zy (FK×Int))(b:Int×Int)(h:Int)(e:zt (Int×Int)):zy (FK×Int):=
 match e with
 | none=>bump m (b,1-h) 1
 | some e=>bump (bump m (b,1-h) 1) (e,0) (-1)
def FB:zy PV->zy (FK×Int)->zt (zy (FK×Int))
 | [],m=>some m
 | x::r,m=>match V7 x with | some (b,h,e)=>FB r (Fu m b h e)|none=>none
def ZX:R2:=λx y H Q=>y= .non/\Q (.bl (!decide (x= .non))) H
def Uv (K:AAB):TS:=
 U1 (OQ (dP (Nd (C8 2) (Nd (XZ (OL λi j=> .int (i-j)) (tC (.int 1)) (C8 3)) dM))) (Bc 5))
  (U1 (Zi K (C8 1) (C8 5) (XZ (OL λi j=> .int (i+j)) (Uz K (C8 1) (C8 5) (tC (.int 0))) (tC (.int 1))))
    (ku (aJ (XZ ZX (C8 4) (tC .non)))
      (U1 (OQ (dP (Nd (C8 4) (Nd (tC (.int 0)) dM))) (Bc 6))
        (Zi K (C8 1) (C8 6) (XZ (OL λi j=> .int (i-j)) (Uz K (C8 1) (C8 6) (tC (.int 0))) (tC (.int 1))))) eI))
def iN (K:AAB):TS:=
 U1 (OQ (eG K) (Bc 1)) (U1 (iP (ju K (C8 0)) (N8 K 3 (Cw (Bc 2) (Cw (Bc 3) (Cw (Bc 4) LZ)))) (Uv K)) (aI (C8 1)))
section
variable {K:AAB}{T M:zu->Prop}{H H':Hp}
def Hu.ext (va:Hu T M H)(ex:∀b o,H b=some o->H' b=some o):Mv K T M H T M H':=⟨va,λb o _ _ e=>ex b o e,λ_ t=>t,λ_ _ t=>t,λ_ _ m=>m⟩
def hI {v:V}{x:PV}{b:Int×Int}{h:Int}{e:zt (Int×Int)}(r:CC K T M H v x)(m:V7 x=some (b,h,e)):∃a n f,v= .ref a/\(Kx K H a [n, .int h,f] \/Ep K H a [n, .int h,f])/\CC K T M H n (.tup [.int b.1, .int b.2])/\((e=none/\f= .non)\/∃t d,e=some (t,d)/\CC K T M H f (.tup [.int t, .int d])):=by
 have g:∀{f:V} {ep:PV},CC K T M H f ep->Ol ep=some e->((e=none/\f= .non)\/∃t d,e=some (t,d)/\CC K T M H f (.tup [.int t, .int d])):=by
  intro f ep y he;unfold Ol at he;split at he
  .cases he;cases y;exact .inl ⟨rfl,rfl⟩
  .cases he;exact .inr ⟨_,_,rfl,y⟩
  .cases he
 have j:∀{xs:zy PV},V6 xs=some (b,h,e)->∃ep,xs= [.tup [.int b.1, .int b.2], .int h,ep] /\Ol ep=some e:=λ{xs} hx=>by
  unfold V6 at hx;split at hx
  .rename_i bp hp ep;obtain⟨o,k,hx⟩:=ADW.mp hx;obtain⟨p,z,hx⟩:=ADW.mp hx;obtain⟨i,l,hx⟩:=ADW.mp hx;obtain⟨q,A,hx⟩:=ABH.mp hx;cases hx;subst z;unfold Ol at k;split at k
   .cases k
   .cases k;unfold dt at l;split at l
    .cases l;exact⟨ep,rfl,A⟩
    .cases l
   .cases k
  .cases hx
 cases x with
 | tup xs=>
   obtain⟨ep,rfl,he⟩:=j m;obtain⟨a,vs,rfl,hq,c⟩:=D7 r;cases c with
   | cons s c=>
   cases c with
   | cons u c=>
   cases c with
   | cons w c=> cases c;cases u;exact⟨a,_,_,rfl, .inl hq,s,g w he⟩
 | lst xs=>
   obtain⟨ep,rfl,he⟩:=j m;obtain⟨a,vs,rfl,hq,_,_,c⟩:=Cz r;cases c with
   | cons s c=>
   cases c with
   | cons u c=>
   cases c with
   | cons w c=> cases c;cases u;exact⟨a,_,_,rfl, .inr (.inl (.inl hq)),s,g w he⟩
 | _=>cases m
def Ux {D:LV}{p:zu}{P s u w A B:zt V}{f:Hp}{m:zy (FK×Int)}{v:V}{b:Int×Int}{h:Int}{e:zt (Int×Int)}{x:PV}(va:Hu T M H)(ex:∀b o,H b=some o->f b=some o)(Q:H p=none)(hp:f p=some (.dN K (B5 m)))(hl:m.length+2<sizeLine)(r:CC K T M f v x)(U:V7 x=some (b,h,e))(nx:∀s u w A B k,(∀b o,H b=some o->k b=some o)->k p=some (.dN K (B5 (Fu m b h e)))->D.nx [P,some (.ref p),s,u,w,A,B] k):N8 K 3 (Cw (Bc 2) (Cw (Bc 3) (Cw (Bc 4) LZ))) v [P,some (.ref p),s,u,w,A,B] f λC k=>Uv K D C k:=by
 obtain⟨a,E,ve,rfl,hq,W,F⟩:=hI r U;refine⟨a,_,rfl,hq,rfl,_,_,rfl,_,_,rfl,_,_,rfl,rfl, ?_⟩;have Y:Hu T M H:=va;refine⟨E,rfl,_,rfl,_,_,rfl,rfl,AAo rfl,λq R=> ?_⟩;have g:∀b o,f b=some o->upd f q (.tup [E, .int (1-h)]) b=some o:=λb o e=>by rw[Ad (Ah e R)];exact e
 have G:upd f q (.tup [E, .int (1-h)]) p=some (.dN K (B5 m)):=g _ _ hp;have qp:q≠p:=λz=>by subst z;rw[R] at hp;cases hp
 obtain⟨c,rfl,tn⟩:=L4 W;have I:X2 K (upd f q (.tup [.ref c, .int (1-h)])) c b.1 b.2:=tn.elim (λz=> .inl (g _ _ z)) .inr;have S:FX K (upd f q (.tup [.ref c, .int (1-h)])) q (b,1-h):=⟨c,Ab,I⟩;refine⟨_,rfl,p,_,rfl,G,_,rfl,q,_,(b,1-h),rfl,G,S,_,_,YX m (b,1-h),rfl,_,rfl,_,rfl,p,q,_,(b,1-h),rfl,rfl,G,S,by rw[B5,AAJ];omega, ?_⟩;rw[ZV];have Z:B5 (OK m (b,1-h) ((BC m (b,1-h)).getD 0+1))=B5 (bump m (b,1-h) 1):=rfl;rw[Z];have hb:∀o,f p=some o->True:=λ_ _=>trivial;have ext2:∀(X:HO) b o,H b=some o->upd (upd f q (.tup [.ref c, .int (1-h)])) p X b=some o:=λX b o e=>by rw[Ad (Ah e Q)];exact g _ _ (ex _ _ e)
 have bl:(bump m (b,1-h) 1).length<=m.length+1:=Jc _ _ _;rcases F with⟨rfl,rfl⟩|⟨t,d,rfl,F⟩
 .refine ⟨_,rfl,rfl,false,rfl, ?_⟩;exact nx _ _ _ _ _ _ (ext2 _) Ab
 .obtain ⟨l,rfl,J⟩:=L4 F;refine⟨_,rfl,rfl,true,rfl, ?_⟩;refine⟨_,rfl,AAo rfl,λi L=> ?_⟩;have q2p:p≠i:=λz=>by subst z;rw[Ab] at L;cases L
  have j:∀(a:zu) o,upd (upd f q (.tup [.ref c, .int (1-h)])) p (.dN K (B5 (bump m (b,1-h) 1))) a=some o->upd (upd (upd f q (.tup [.ref c, .int (1-h)])) p (.dN K (B5 (bump m (b,1-h) 1)))) i (.tup [.ref l, .int 0]) a=some o:=λa o e=>by rw[Ad (Ah e L)];exact e
  have N:=j p _ Ab;have O:X2 K (upd (upd (upd f q (.tup [.ref c, .int (1-h)])) p (.dN K (B5 (bump m (b,1-h) 1)))) i (.tup [.ref l, .int 0])) l t d:=J.elim (λz=> .inl (j _ _ (by
   rw[Ad (λy=>by subst y;rw[hp] at z;cases z)];exact g _ _ z))) .inr
  have n:FX K (upd (upd (upd f q (.tup [.ref c, .int (1-h)])) p (.dN K (B5 (bump m (b,1-h) 1)))) i (.tup [.ref l, .int 0])) i ((t,d),0):=⟨l,Ab,O⟩;refine⟨_,rfl,p,_,rfl,N,_,rfl,i,_,((t,d),0),rfl,N,n,_,_,YX _ ((t,d),0),rfl,_,rfl,_,rfl,p,i,_,((t,d),0),rfl,rfl,N,n,by rw[B5,AAJ];omega, ?_⟩;rw[ZV];refine nx _ _ _ _ _ _ (λa o e=> ?_) Ab;rw[Ad (Ah e Q)];exact j _ _ (ext2 _ _ _ e)
def LB {m:zy (FK×Int)}{b:Int×Int}{h:Int}{e:zt (Int×Int)}:(Fu m b h e).length<=m.length+2:=by
 unfold Fu;cases e with
 | none=>have:=Jc m (b,1-h) ((BC m (b,1-h)).getD 0+1);unfold bump;simp only;omega
 | some e=> have h1:=Jc m (b,1-h) ((BC m (b,1-h)).getD 0+1);have h2:=Jc (bump m (b,1-h) 1) (e,0) ((BC (bump m (b,1-h) 1) (e,0)).getD 0 + -1);unfold bump at *;simp only;omega
theorem V2:∀{vs:zy V} {ys:zy PV},Az K T M H vs ys->∀{i:Nat} {x:V},vs[i]? =some x->∃y,ys[i]? =some y/\CC K T M H x y
 | _,_, .nil,i,x,ev=>by simp at ev
 | _,_, .cons h t,0,x,ev=>by simp at ev;subst ev;exact⟨_,rfl,h⟩
 | _,_, .cons h t,i+1,x,ev=>by simpa using V2 t (i:=i) (by simpa using ev)
def Nc {D:LV}{J:It}{s:V}{p:zu}{ys:zy PV}{a:zy (FK×Int)}{H1:Hp}(va:Hu T M H)(C:H p=none)(go:∀H',(∀b o,H b=some o->H' b=some o)->∃vs,Az K T M H' vs ys/\(∀i,i<ys.length->J.go i H')/\(∀i,ys.length<=i->J.stop i H')/\∀i x d,J.yld i H' x d->d=H'/\vs[i]? =some x)(E:∀b o,H b=some o->H1 b=some o)(hp:H1 p=some (.dN K (B5 [])))(hl:2*ys.length+2<sizeLine)(hs:FB ys [] =some a)(t:∀f g j k l H',(∀b o,H b=some o->H' b=some o)->H' p=some (.dN K (B5 a))->D.nx [some s,some (.ref p),f,g,j,k,l] H'):∃W:Nat->Nat->L2.St->Hp->Prop,(∃m,W 0 m [some s,some (.ref p),none,none,none,none,none] H1)/\∀i m n H,W i m n H-> (J.stop i H/\D.nx n H)\/(J.go i H/\∃N:L2.St->Hp->Prop,(∀σ' H',N σ' H'->∃z,z<m/\W (i+1) z σ' H')/\∀x H',J.yld i H x H'->N8 K 3 (Cw (Bc 2) (Cw (Bc 3) (Cw (Bc 4) LZ))) x n H' λu d=>Uv K {D with nx:=N,ct:=N,bk:=D.nx} u d):=by
 let W:Nat->Nat->L2.St->Hp->Prop:=λi m n H'=>i+m=ys.length/\∃f g j k l r,n= [some s,some (.ref p),f,g,j,k,l] /\(∀b o,H b=some o->H' b=some o)/\H' p=some (.dN K (B5 r))/\FB (ys.drop i) r=some a/\r.length<=2*i;refine⟨W,⟨ys.length,ACI _,_,_,_,_,_, [],rfl,E,hp,hs,AAq _⟩, ?_⟩;rintro i m n H' ⟨hi,f,g,j,k,l,r,rfl,ex,A,c,S⟩;obtain⟨vs,F,G,I,L⟩:=go H' ex;cases m with
 | zero=> left;refine⟨I i (by omega),t _ _ _ _ _ _ ex ?_⟩;rw[ADI (by omega)] at c;cases c;exact A
 | succ m=>
   right;refine⟨G i (by omega),λσ' H'=>W (i+1) m σ' H',λσ' H' h=>⟨m,by omega,h⟩,λx d O=> ?_⟩;obtain⟨rfl,ev⟩:=L i x d O;have hy:ys[i]? =some ys[i] :=AAU (by omega);obtain⟨y,B,P⟩:=V2 F ev;rw[ACA (by omega:i<ys.length)] at c;have v:ys[i] =y:=by rw[hy] at B;exact AAX B
   rw[v] at c;unfold FB at c;split at c
   .rename_i b h e Q;refine Ux (H:=H) (m:=r) (b:=b) (h:=h) (e:=e) (x:=y) va ex C A (by omega) P Q λf g j k l U w R=>⟨by omega,f,g,j,k,l,_,rfl,w,R,c, ?_⟩
    .have:=LB (m:=r) (b:=b) (h:=h) (e:=e);omega
   .cases c
def Uw {D:LV}{l:V}{x:PV}{ys:zy PV}{f:zy (FK×Int)}(va:Hu T M H)(r:CC K T M H l x)(hx:x= .tup ys\/x= .lst ys)(hl:2*ys.length+2<sizeLine)(hs:FB ys [] =some f)(m:∀p H',(∀b o,H b=some o->H' b=some o)->H p=none->H' p=some (.dN K (B5 f))->D.rt (.ref p) H'):iN K D [some l,none,none,none,none,none,none] H:=by
 intro p hp;have k:∀b o,H b=some o->upd H p (.dN K []) b=some o:=λb o e=>by rw[Ad (Ah e hp)];exact e
 have last:∀n s t u v H',(∀b o,H b=some o->H' b=some o)->H' p=some (.dN K (B5 f))->(aI (C8 1)) D [some l,some (.ref p),n,s,t,u,v] H':=λn s t u v H' ex h=>⟨_,rfl,m p H' ex hp h⟩;rcases hx with rfl|rfl
 .obtain ⟨a,vs,rfl,hq,w⟩:=D7 (r.mv (va.ext k));refine⟨_,rfl,a,rfl, .inr ⟨⟨vs,hq⟩, ?_⟩⟩;refine Nc (D:={D with nx:=(aI (C8 1)) D}) va hp (λH' ex=> ?_) k Ab hl hs last;obtain⟨y,c,e,g,d⟩:=D7 (r.mv (va.ext ex));cases e;refine⟨c,d,λi hi=>⟨c,c[i]'(by rw[d.length];exact hi),g,AAU _⟩,λi hi=>⟨c,g,by rw[d.length];exact hi⟩,λi x z j=>⟨j.1,j.2 c g⟩⟩
 .obtain ⟨a,vs,rfl,hq,_,_,w⟩:=Cz (r.mv (va.ext k));refine⟨_,rfl,a,rfl, .inl ⟨⟨vs, .inl (.inl hq)⟩, ?_⟩⟩;refine Nc (D:={D with nx:=(aI (C8 1)) D}) va hp (λH' ex=> ?_) k Ab hl hs last;obtain⟨y,c,e,g,_,_,d⟩:=Cz (r.mv (va.ext ex));cases e;refine⟨c,d,λi hi=>⟨c,c[i]'(by rw[d.length];exact hi), .inl (.inl g),AAU _⟩,λi hi=>⟨c, .inl (.inl g),by rw[d.length];exact hi⟩,λi x z j=>⟨j.1,j.2 c (.inl (.inl g))⟩⟩
end
def Gu:AF:=λxs Q=>match xs with | [x] =>Ni x λys=>2*ys.length+2<sizeLine/\∃m,FB ys [] =some m/\Q (.dct m)|_=>False
def S9 {xs:zy PV}{Q:PV->Prop}(h:Gu xs Q):∃x ys m,xs= [x] /\(x= .tup ys\/x= .lst ys)/\2*ys.length+2<sizeLine/\FB ys [] =some m/\Q (.dct m):=by
 unfold Gu at h;split at h
 .obtain ⟨ys,hx,hz,m,a,q⟩:=IK h;exact⟨_,ys,m,rfl,hx,hz,a,q⟩
 .exact h.elim
section
variable {K:AAB}{T M:zu->Prop}{H H':Hp}
def cu {k:Nat}{A:zk}(a:Room k A):A.units+2<cLine:=by have:=a.un;omega
def WI (va:Hu T M H)(ex:∀b o,H b=some o->H' b=some o):DM T H T H' where
 keep:=λb u _ e=>ex b u e
 sub:=λ_ t=>t
 new:=λ_ t=> .inl t
 tp:=λa t=>let ⟨d,x,e,q⟩:=va.tp a t;⟨d,x,ex _ _ e,q⟩
def cr {p:zu}{m:zy (FK×Int)}(va:Hu T M H)(a:H p=none)(hp:H' p=some (.dN K (B5 m))):CC K T M H' (.ref p) (.dct m):=by
 refine .dct hp (λz=> ?_) (λz=> ?_)
 .obtain ⟨o,e,_⟩:=(va.tp p z).mut;rw[a] at e;cases e
 .obtain ⟨o,e,_⟩:=va.mu p z;rw[a] at e;cases e
end
end PL
namespace L2
open PySem PySem.Spec PyProof.Rows
def Td (own:Nat)(a:St):St:=List.replicate own none++a.drop own
def Wn {own:Nat}{a:St}{j:Nat}{v:V}(h:(Td own a)[j]? =some (some v)):own<=j/\a[j]? =some (some v):=by
 unfold Td at h;by_cases hj:j<own
 .rw [ABE (by simpa using hj),ABM,AAE hj] at h;cases h
 .have Xi:own<=j:=by omega
  rw[AA6 (by simpa using Xi),ABN,ACr] at h;rw[show own+(j-own)=j by omega] at h;exact⟨Xi,h⟩
end L2
namespace PL
open PySem PySem.Spec PyProof.Rows L2
def Wm (own:Nat)(τ:A7):A7:=List.replicate own none++τ.drop own
def SR.noOwn {K:AAB}{B:C0}{T:zu->Prop}{H:Hp}{a:L2.St}{τ:A7}(s:SR K B T H a τ)(c:∀b,¬Cv a τ b){i:Nat}{xs:zy PV}:τ[i]? ≠some (some (.own xs)):=λe=>by obtain⟨p,vs,d,_⟩:=s.own i xs e;exact c p ⟨i,xs,e,d⟩
def JM {own:Nat}{τ:A7}{j:Nat}{x:AV}(h:(Wm own τ)[j]? =some (some x)):own<=j/\τ[j]? =some (some x):=by
 unfold Wm at h;by_cases hj:j<own
 .rw [ABE (by simpa using hj),ABM,AAE hj] at h;cases h
 .have Xi:own<=j:=by omega
  rw[AA6 (by simpa using Xi),ABN,ACr] at h;rw[show own+(j-own)=j by omega] at h;exact⟨Xi,h⟩
def SR.cut {K:AAB}{B:C0}{T:zu->Prop}{H:Hp}{c:L2.St}{τ:A7}{own:Nat}(s:SR K B T H c τ)(d:∀b,¬Cv c τ b):SR K B T H (Td own c) (Wm own τ)/\∀b,¬Cv (Td own c) (Wm own τ) b:=by have g:∀b,¬Cv (Td own c) (Wm own τ) b:=λb ⟨i,xs,h,f⟩=>d b ⟨i,xs,(JM h).2,(Wn f).2⟩;refine⟨⟨by simp[Td,Wm,s.len],λi x e=> ?_,λi xs e=>absurd (JM e).2 (s.noOwn d),λi j xs ys p e=>absurd (JM e).2 (s.noOwn d),s.tp,s.bm,s.bt,s.st⟩,g⟩;obtain⟨Xi,f⟩:=JM e;obtain⟨v,hv,r⟩:=s.val i x f;refine⟨v, ?_,r.mv (.anti s.va λa z=>z.elim .inl λz=>absurd z (g a))⟩;unfold Td;rw[AA6 (by simpa using Xi),ABN,ACr,show own+(i-own)=i by omega];exact hv
structure jQ (D:Addr) (T:Addr->Prop) (H:Hp) (T':Addr->Prop) (H':Hp):Prop where
 keep:∀b o,¬T b->b≠D->H b=some o->H' b=some o
 sub:∀b,T b->T' b
 new:∀b,T' b->T b\/H b=none
 tp:∀b,H b≠none->H' b≠none
def jQ.upd {D:zu}{T:zu->Prop}{H:Hp}{o:HO}:jQ D T H T (upd H D o):=⟨λb a _ n e=>by rw[Ad n];exact e,λ_ e=>e,λ_ e=> .inl e,λb e=>by
 by_cases h:b=D
 .subst h;rw[Ab];exact λz=>nomatch z
 .rw [Ad h];exact e⟩
end PL
namespace L2
open PySem PySem.Spec PyProof.Rows
def tR {P:zp}{w:zm}{h:zl}{d:zu}{o:Obj}{es:Array DictEntry}{ep:Nat}{vs:zy (Cf×zx)}(g:h.get? d=some o)(e:o.data= .dict es ep)(x:h.DictOf (A4 P w) d vs):h.DictAt (A4 P w) d vs ep:=by obtain⟨i,b,f,g',c,a,r⟩:=x;rw[g] at g';cases g';rw[e] at a;cases a;exact⟨o,es,g,c,e,r⟩
def Ss (H:Hp)(d:zu)(n ep:Nat)(kvs:zy (Cf×V)):Prop:=∃o es,H d=some (.frz o (.dK kvs))/\o.data= .dict es ep/\kvs.length=n
def Itm (d:zu)(n ep:Nat):It:=
 ⟨λi H=>∃kvs k x,Ss H d n ep kvs/\kvs[i]? =some (k,x),
  λi H v a=>∃T k x,v= .ref T/\H T=none/\a=upd H T (.tup [kV k,x])/\∀kvs,Ss H d n ep kvs->kvs[i]? =some (k,x),
  λi H=>∃kvs,Ss H d n ep kvs/\kvs.length<=i⟩
def Ss.one {H:Hp}{d:zu}{n ep:Nat}{a b:zy (Cf×V)}(x:Ss H d n ep a)(y:Ss H d n ep b):a=b:=by obtain⟨o,es,e,_⟩:=x;obtain⟨g,f,c,_⟩:=y;rw[e] at c;cases c;rfl
def Ss.at {X:Cx}{b:zy (zu×Obj)}{c:St}{H:Hp}{s:zw}{d:zu}{n ep:Nat}{kvs:zy (Cf×V)}(I:Inv X b c H s)(x:Ss H d n ep kvs):∃vs,KV kvs vs/\s.heap.DictAt (A4 X.prog X.w) d vs ep:=by obtain⟨o,es,e,f,_⟩:=x;obtain⟨g,z,hd,vs,a,h⟩:=(show B4 X.prog X.w H s.heap d (.frz o (.dK kvs)) from I.hok d _ e);exact⟨vs,a,tR g f h⟩
def gC {P:zp}{w:zm}{k:Cf}{u:zx}(h:(A4 P w).is k u=true):RelV (kV k) u:=by
 rcases Bm h with⟨i,t,rfl,rfl⟩|⟨x,t,rfl,rfl⟩
 .exact ⟨_,rfl⟩
 .exact ⟨_,rfl⟩
def gI {kvs:zy (Cf×V)}{vs:zy (Cf×zx)}(r:KV kvs vs):∀{i:Nat} {k:Cf} {x:V},kvs[i]? =some (k,x)->∃u,vs[i]? =some (k,u)/\RelV x u:=by
 unfold KV at r;induction r with
 | nil=>intro i k x h;simp at h
 | @cons p q c qs h t ih=>
   intro i k x e;cases i with
   | zero=> simp at e;subst e;obtain⟨d,a⟩:=q;obtain⟨h1,h2⟩:=h;exact⟨a,by simp at h1;simp[h1],h2⟩
   | succ i=> obtain⟨u,hu,b⟩:=ih (i:=i) (k:=k) (x:=x) (by simpa using e);exact⟨u,by simpa using hu,b⟩
def N7:entryFor table "dict_itemiterator.__iter__" =some Builtin.«dict_keyiterator.__iter__»:=
 entryFor_alias (id':="dict_keyiterator.__iter__") (by kernel_rfl) (by first | rfl|decide +kernel|(unfold String.splitOn;simp +decide [String.splitOnAux])) (by decide +kernel) (by kernel_rfl)
def OC {prog:zp}{w:zm}{A:zk}{E:zx->zw->Prop}{s:zw}{it d:zu}{k n ep:Nat}{ok b:zx}{Q:zx->zw->Prop}(he:IsItemIter s.heap it d k n ep ok b)(h:Q (.ref it) s):wpAny (model prog w) A (pyIter (.ref it)) Q E s:=by have a:s.TypeIs (.ref it) "dict_itemiterator" :=⟨_,he,rfl⟩;refine wpAny_pyIter_slot a ADq (AAw ADq a N7 ?_ (F.args_dict_itemiterator_iter_1 _));show wpAny _ _ (ret (.ref it)) _ _ s;exact AAD ⟨_,rfl,"dict_itemiterator",_,a,F.slot_dict_itemiterator_next.lookup,h⟩
def U6 {P:zp}{w:zm}{K:AAB}{es:zy zr}{G:Nat}{j:Pos}{it d:zu}{n ep:Nat}:LY P w K (.Tuple es G j) (Itm d n ep) [it] it (λk h=>∃ok c,IsItemIter h it d k n ep ok c) where
 mem:=by simp
 obj:=λk h st p hp=>by
  obtain⟨ok,c,he⟩:=st;have b:p=it:=by simpa using hp
  subst b;exact⟨_,he,λv z=>nomatch z⟩
 keep:=λk h h' st l=>by obtain⟨ok,c,he⟩:=st;exact⟨ok,c,l it (by simp) _ he⟩
 item:=by
  intro X m hw r hc k B s C H E I i st t;subst m hw r;obtain⟨ok,c,he⟩:=st;obtain⟨kvs,y,x,hq,hx⟩:=t;obtain⟨vs,a,A⟩:=hq.at I;have hl:vs.length=n:=by obtain⟨_,_,_,_,e⟩:=hq;rw[<-e];exact a.length.symm
  subst hl;obtain⟨u,hu,J⟩:=gI a hx;have f:it<s.heap.objs.size:=AAG he;refine wpAny_pyNext_items_item he A hu λkey h1 L M N U O=> ?_;refine⟨_,rfl,wpAny_letOwnedTupleGo_items (s:={s with heap:=h1}) M λh2 Q R=> ?_⟩;have g:∀p o,p≠it->h1.get? p=some o->h2.get? p=some o:=λp o q z=>R.extBut _ _ q z;have D:∀p∈ [it],p<s.heap.objs.size:=λp hp=>by
   have b:p=it:=by simpa using hp
   rw[b];exact f
  have l:∀p o,p ∉ [it] ->s.heap.get? p=some o->h2.get? p=some o:=λp o hp z=>by
   have b:p≠it:=by simpa using hp
   exact g p o b (O p o b z)
  have S:Inv X B C (upd H s.heap.objs.size (.tup [kV y,x])) {s with heap:=h2,toks:=s.toks}:=I.turnedN i D l (AAI _)
   ⟨(by show 2<=sizeLine;decide), [key,u], .cons (gC L) (.cons J .nil),⟨_,g _ _ (AAy f) N,rfl,_,rfl⟩⟩
  refine⟨.ref s.heap.objs.size,upd H s.heap.objs.size (.tup [kV y,x]),S,rfl,⟨_,y,x,rfl,I.fresh,rfl,λF h'=> ?_⟩,⟨key,u,Q⟩,λp hp=> ?_⟩
  .rw [h'.one hq];exact hx
  .rw [Ad (AAM (D p hp))];exact(i p hp).1
 done:=by
  intro X m hw r hc k B s C H E I i st t;subst m hw r;obtain⟨ok,c,he⟩:=st;obtain⟨kvs,hq,hx⟩:=t;obtain⟨vs,a,A⟩:=hq.at I;have hl:vs.length=n:=by obtain⟨_,_,_,_,e⟩:=hq;rw[<-e];exact a.length.symm
  have W:=a.length;subst hl;refine wpAny_pyNext_items_end (I.ok.hd hc) he A (by rw[AC3];omega) λh' T=>⟨rfl, ?_⟩;exact I.turnedL (t':=s.toks) i λp o hp z=>by
   have b:p≠it:=by simpa using hp
   exact T p o b z
 self:=λ_ _ _ _ _ st h=>by obtain⟨ok,c,he⟩:=st;exact OC he h
section
variable {X:Cx}
def SN {e:zr}{z:TE}{apos f j:Pos}{es:zy zr}{C:Nat}(he:PE X e z)(hb:attributeBase e "items" X.env (eval e X.env)=eval e X.env)(D:((backTo f (starEach [] X.env)).all (λx=> !x.1)&&(backToKw f (keywordEach [] X.env)).all (λx=>x.1.isSome)&&decide (([] :zy zr).length+([] :zy Keyword).length+(if ([] :zy Keyword).isEmpty then 0 else 1)<30))=true)(hl:(apos.endLine==f.line)=true)(E:backTo f (starEach [] X.env)= []):PI X (.Tuple es C j) (.Call (.Attribute e "items" apos) [] [] f) (λm H R=>z m H λv H1=>∃d n ep kvs,v= .ref d/\Ss H1 d n ep kvs/\R (Itm d n ep) H1):=by
 intro G s m H R I h;refine ADR hb D hl ADS ADr PySem.F.type_dict_items (BY (he G s m H _ I h) λu i ⟨x,H1,k,J,d,n,ep,kvs,ex,t,K⟩=> ?_);subst ex;obtain rfl:u=Value.ref d:=J;obtain⟨vs,y,A⟩:=t.at k;have L:vs.length=n:=by obtain⟨_,_,_,_,e⟩:=t;rw[<-e];exact y.length.symm
 obtain⟨o,M,N,U,_⟩:=id t;obtain⟨O,P,Q⟩:=Ym k (.inl ⟨kvs, .inr ⟨o,N⟩⟩);have B:i.heap.DictOf (A4 X.prog X.w) d vs:=let ⟨o,es,a,b,c,r⟩:=A;⟨o,es,ep,a,b,c,r⟩;refine⟨O,P, ?_⟩;rw[E];refine ACW rfl (PySem.evalArgs_none ?_);refine ACp ADr B.typeIs PySem.F.entry_dict_items (PySem.F.args_dict_items_1 _) (meets_dict_items (A4 X.prog X.w) d Q) ⟨⟨vs,B⟩, ?_⟩;have S:(i.heap.push {cls:= .type "dict_items",data:= .fields #[.ref d] }).DictAt (A4 X.prog X.w) d vs ep:=by obtain⟨o,es,g,r⟩:=A;exact⟨o,es,AAH _ g,r⟩
 refine wpAny_pyIter_items (s:={i with heap:=i.heap.push {cls:= .type "dict_items",data:= .fields #[.ref d] }}) (knd:=A4 X.prog X.w) (d:=d) ?_ S ?_
 .exact ⟨_,AAS _ rfl,rfl,rfl⟩
 subst L;have l:(i.heap.push {cls:= .type "dict_items",data:= .fields #[.ref d] }).objs.size=i.heap.objs.size+1:=ABC ..;refine⟨_, [i.heap.objs.size+1],_,_,H1,congrArg Value.ref l,k.kept (t':=i.toks) λb W q=>AAH _ (AAH _ q),U6,⟨.none, .none, ?_⟩,λp hp=> ?_,K⟩
 .have:=AAS (i.heap.push {cls:= .type "dict_items",data:= .fields #[.ref d] }) (o:={cls:= .type "dict_itemiterator",data:= .fields #[Value.none,Value.bool false,Value.ref d,Value.int 0 0,Value.int (vs.length:Int) 0,Value.int (ep:Int) 0,Value.none,Value.none] }) rfl;rw[l] at this;exact this
 .have T:p=i.heap.objs.size+1:=by simpa using hp
  subst T;exact k.fpOk (Nat.le_add_right _ _) (k.hok.fresh (Nat.le_add_right _ _))
end
end L2
namespace PL
open PySem PySem.Spec PyProof.Rows L2
section
variable {X:Cx}
def iO (a:zy (TE×TE)):TE:=λd H Q=>∀p,H p=none->U0 a d (upd H p (.dK [])) λe b=>b p=some (.dK [])/\∃kvs:zy (Cf×V),e=kvs.map (λc=>(kV c.1,c.2))/\kvs.length<=15/\∀o es ep,o.data= .dict es ep->Q (.ref p) (upd b p (.frz o (.dK (M4 [] kvs))))
def ZF {b:Pos}{keys:zy (zt zr)}{values:zy zr}{d:zy (TE×TE)}(h:lI X b keys values d)(k:keys.all (·.isSome)=true)(hl:keys.length=values.length)(l:keys≠ [])(m:keys.length<=15):PE X (.Dict keys values b) (iO d):=by
 intro n s p H Q I q;have r:=I.hok.fresh (AAI s.heap.objs.size);have t:=I.laid (a:=s.heap.objs.size) (o:= .dK []) (h':=s.heap.push {cls:= .type "dict",data:= .dict #[] }) (t':=s.toks) (λ_ _ q=>AAH _ q) (AAI _) (RS s.heap I.big);refine wpAny_Dict_walk (knd:=A4 X.prog X.w) k hl l m (BY (h n _ p _ _ t (q _ r)) λD E ⟨F,G,i,g,e,kvs,ep,J,u⟩=> ?_);subst ep;obtain⟨v,c,x⟩:=Mp (P:=X.prog) (w:=X.w) g;obtain⟨z,hd,y,A,B⟩:=VW i.hok e;cases A;have hz:(M4 [] kvs).length<=sizeLine:=by have h1:=HY kvs [];rw[ACo] at h1;rw[sizeLine_eq];omega
 refine⟨v,c,B,λh' f hs=> ?_⟩;obtain⟨o,es,ep,j,C⟩:=id f;refine⟨.ref s.heap.objs.size,_, ?_,rfl,u o es ep C.2.1⟩;exact Gx i (by rw[e];exact True.intro) hs ⟨o,j⟩ ⟨j,Pa hz hd (x.merge .nil) f⟩
def dI {T c:zu->Prop}{H f:Hp}{d:zu}{o:HO}(s:DM T H c f)(hd:H d=none)(g:¬c d):DM T H c (upd f d o) where
 keep b q t e:=by
  have n:b≠d:=λz=>by subst z;rw[hd] at e;cases e
  rw[Ad n];exact s.keep b q t e
 sub:=s.sub
 new:=s.new
 tp a t:=by
  have n:a≠d:=λz=>by subst z;exact g t
  obtain⟨x,y,e,r⟩:=s.tp a t;exact⟨x,y,by rw[Ad n];exact e,r⟩
def X3 (a b:AE):AE:=λτ Q=>a τ λx=>b τ λy=>match x,y with | .int i, .int j=>Q (.dk [(i,j)])|_,_=>False
def iD {a b:zr}{u w:AE}{p:Pos}(ha:SE X a u)(hb:SE X b w):SE X (.Dict [some a] [b] p) (X3 u w):=by
 obtain⟨t,E,s⟩:=ha;obtain⟨t',h,F⟩:=hb;refine⟨_,ZF (ZQ E h ca) rfl rfl (List.cons_ne_nil _ _) (AAo rfl),λB T y τ H Q O k q G=> ?_⟩;intro d hd;have c:DM T H T (upd H d (.dK [])):=DM.lay k.tp hd;have f:=k.stp c;have A:¬T d:=λz=>by obtain⟨o,e,_⟩:=(k.tp d z).mut;rw[hd] at e;cases e
 refine s B T y τ _ _ _ f q λv x I H1 l J K=>F B I y τ _ _ _ (f.stp l) K λP R C L D M m=> ?_;split at m <;> first | exact m.elim|skip
 rename_i i j;cases J;cases M;have n:L d=some (.dK []):=(l.trans D).keep _ _ A Ab;have g:=l.trans D;have r:¬C d:=λz=>by
  rcases g.new d z with z|z
  .exact A z
  .rw [Ab] at z;cases z
 refine⟨n, [(.inl i, .int j)],rfl,AAo rfl,λo es ep N=> ?_⟩;exact G _ _ C _ (dI (c.trans g) hd r) (.dk (kvs:= [(i,j)]) Ab N) m
end
end PL
namespace L2
open PySem PySem.Spec PyProof.Rows
def PZ (J:It)(D:zu)(σ0:St)(g:TG)(f:TT)(h j:TE)(Q:Hp->Prop)(W:Nat->Nat->Hp->Prop):Prop:=
 ∀i m H,W i m H->(J.stop i H/\Q H)\/(J.go i H/\∀x c,J.yld i H x c->g x σ0 c λa l=>f a l λok d=>
  if ok=true then h a d λy n=>j a n λz e=>∃k kvs,y=kV k/\e D=some (.dK kvs)/\kvs.length<sizeLine/\∃b,b<m/\W (i+1) b (upd e D (.dK (Dp kvs k z))) else ∃b,b<m/\W (i+1) b d)
def aG (b:TI)(own:Nat)(ix:zy Nat)(g:TG)(c:TT)(d e:TE):TE:=λa H Q=>b a H λJ H1=>∀D,H1 D=none->
 ∃W:Nat->Nat->Hp->Prop,(∃m,W 0 m (upd H1 D (.dK [])))/\PZ J D (Cc own ix a) g c d e (Q (.ref D)) W
section
variable {X:Cx}{tg kx vx iter:zr}{ifs:zy zr}{scope:Scope}{pos:Pos}{wi:TI}{own:Nat}{ix:zy Nat}{N:zy Str}{g:TG}{tt:TT}{tk tv:TE}
def Te {F:zy (zu×Obj)}{S:St}{H:Hp}{s:zw}{fp:zy zu}{cl:zy (Str×zu)}{it:zu}{tn:Nat->zl->Prop}{J:It}{D:zu}{R:Result->zw->Prop}{Qh:Hp->Prop}{W:Nat->Nat->Hp->Prop}(hc:X.calm=true)(O:FU X tg kx ifs scope own ix N g tt tk)(OV:∀cl C s H ex pn,PE (blk X (relabel scope X.env) N cl C s H ex pn) vx tv)(T:LY X.prog X.w X.K tg J fp it tn)(I:Inv X F S H s)(hf:∀b∈fp,FW X F H b)(FC:∀b∈fp,b<s.heap.objs.size)(hW:PZ J D (Cc own ix S) g tt tk tv Qh W)(hR:∀σ' a U,Inv (blk X (relabel scope X.env) N cl s.heap.objs.size s H fp (X.pn++F)) [] σ' a U->Qh a->R (.ok .next) U)(n:Nat)(s0:zw)(h0:∃i a,Inv (blk X (relabel scope X.env) N cl s.heap.objs.size s H fp (X.pn++F)) [] (Cc own ix S) a s0/\tn i s0.heap/\(∀b∈fp,a b=none)/\W i n a):codeAny (model X.prog X.w) X.A (.compLoop (.DictComp kx vx [⟨tg,iter,ifs,0⟩] scope pos) 0 (.ref it) (.ref D) (Hy X.env (relabel scope X.env) cl s.heap.objs.size)) R s0:=by
 refine codeAny_loop rfl (λn U=>∃i a,Inv (blk X (relabel scope X.env) N cl s.heap.objs.size s H fp (X.pn++F)) [] (Cc own ix S) a U/\tn i U.heap/\(∀b∈fp,a b=none)/\W i n a) (λn s1 h1=> ?_) n h0;obtain⟨i,H1,B1,Z,fr1,w1⟩:=h1;generalize f:blk X (relabel scope X.env) N cl s.heap.objs.size s H fp (X.pn++F)=Y at *;have eA:Y.A=X.A:=by rw[<-f];rfl
 have eP:Y.prog=X.prog:=by rw[<-f];rfl
 have eW:Y.w=X.w:=by rw[<-f];rfl
 have eK:Y.K=X.K:=by rw[<-f];rfl
 have eE:Hy X.env (relabel scope X.env) cl s.heap.objs.size=Y.env:=by rw[<-f];rfl
 have eX:Y.xe=λ_ _=>False:=by rw[<-f];rfl
 have eC:Y.calm=true:=by rw[<-f];exact hc
 have hg:PG Y tg g:=by rw[<-f];exact O.tgt _ _ _ _ _ _
 have ht:e6 Y ifs tt:=by rw[<-f];exact O.tst _ _ _ _ _ _
 have hk:PE Y kx tk:=by rw[<-f];exact O.val _ _ _ _ _ _
 have hv:PE Y vx tv:=by rw[<-f];exact OV _ _ _ _ _ _
 have l:∀{a:Hp},(∀b∈fp,a b=none)->∀b∈fp,FW Y [] a b:=λ{a} hn b hb=>by
  obtain⟨_,a1,a2,a3,a4,a5⟩:=hf b hb;refine⟨hn b hb, ?_, ?_, ?_, ?_, ?_⟩
  .rw [<-f];exact AAM (FC b hb)
  .rw [<-f];exact I.notStk a1 a2
  .rw [<-f];exact .inl hb
  .intro x c e;exact(B1.ok.exf b (by rw[<-f];exact hb)).2 x c e
  .intro p hp;have:p∈X.pn++F:=by rw[<-f] at hp;simpa[blk] using hp
   exact a5 p this
 rw[eE,<-eA,<-eP,<-eW];show wpAny _ _ ((compTurn (.DictComp kx vx [⟨tg,iter,ifs,0⟩] scope pos) 0 (.ref it) (.ref D) Y.env).onRaise (λx=>do noteFrame x Y.env;theTreesLotGoes x)) _ _ s1;refine wpAny_noted ?_;rw[compTurn_dict];have ff:∀{α:Type} {t:Sem α} {Q:α->zw->Prop} {E:zx->zw->Prop} {s:zw},wpAny (model Y.prog Y.w) Y.A t Q Y.xe s->wpAny (model Y.prog Y.w) Y.A t Q E s:=λh=>ABK h (λ_ _ q=>q) λ_ _ z=>by rw[eX] at z;exact z.elim
 refine AAA (ABL (AAA ?_));rcases hW i n H1 w1 with⟨stop,qn⟩|⟨go,step⟩
 .have zd:=λE=>T.done Y eP eW eK eC i [] s1 _ H1 E B1 (l fr1) Z stop;rw[<-eP,<-eW] at zd;refine BY (zd _) λr s4 ⟨hr,I4⟩=> ?_;subst hr;exact AAD (hR _ _ _ I4 qn)
 .have zi:=λE=>T.item Y eP eW eK eC i [] s1 _ H1 E B1 (l fr1) Z go;rw[<-eP,<-eW] at zi;refine BY (zi _) λr s4 ⟨u,hr,h4⟩=> ?_;subst hr;refine AAA (BY h4 λ_ s5 ⟨x,H5,I5,r5,y5,G,fr5⟩=> ?_);have I5':=I5.pinned (l fr5) (T.obj _ _ G);refine AAA (BY (ff (hg _ s5 _ H5 x u _ I5' r5 (O.keep _ _ _ _ (step x H5 y5)))) λ_ s6 ⟨B,H6,I6,q6,l6,k6⟩=> ?_);refine AAA (BY (ff (ht _ s6 B H6 _ I6 q6)) λok s7 ⟨H7,I7,q7⟩=> ?_);have back:∀{L:Hp} {M:zw} {P:Nat},Inv Y ([] ++ KH fp s5.heap) B L M->P<n->W (i+1) P L->
   ∃m,m<n/\∃i a,Inv Y [] (Cc own ix S) a M/\tn i M.heap/\(∀b∈fp,a b=none)/\W i m a:=λ{L M P} I8 hm w8=>by
   refine⟨P,hm,i+1,L,I8.unpinned.weak l6.symm (λj v hj=> ?_),T.keep _ _ _ G λb hb o e=>(I8.pin (b,o) (AAg _ (AAg _ (Dm hb e)))).1,λb hb=> ?_,w8⟩
   .rw [k6 j (Hz hj).1];exact hj
   .obtain ⟨o,e,d⟩:=T.obj _ _ G b hb;exact(I8.pin (b,o) (AAg _ (AAg _ (Dm hb e)))).2.1
  cases ok with
  | false=> obtain⟨P,hm,w8⟩:=q7;exact AAD ⟨rfl,back I7 hm w8⟩
  | true=>
    refine AAA (AAA (BY (ff (hk _ s7 B H7 _ I7 q7)) λkv M ⟨y,L,I8,r8,q8⟩=> ?_));refine AAA (AAk (BY (ff (hv _ M B L _ I8 q8)) λvv s9 ⟨z,H9,I9,r9,k,kvs,ey,hD,hz,P,hm,w9⟩=> ?_));subst ey;refine AAA (ABL (AAk ?_));obtain⟨z1,t5,vs,rel,dd⟩:=VW I9.hok hD;have ud:vs.length<=sizeLine:=by rw[<-rel.length];exact z1
    have hl:(Dp kvs k z).length<=sizeLine:=by have:=D0 kvs k z;omega
    refine wpAny_dictSet_pairs (hsz:=ud) (Rn r8) dd λh' dd' hs=> ?_;have he:∃q,h'.get? D=some q:=let ⟨q,_,_,hq,_⟩:=dd';⟨q,hq⟩;have I10:=Gx (t':=s9.toks+1) I9 (by rw[hD];exact True.intro) hs he (Pa hl t5 (rel.put k r9) dd');exact AAD ⟨rfl,back I10 hm w9⟩
def Wq {h:zy (zu×Obj)}{v:St}{H:Hp}{s:zw}{use:zt (zx->Sem Unit)}{Q:zx->zw->Prop}{it:zu}{fp:zy zu}{cl:zy (Str×zu)}{tn:Nat->zl->Prop}{J:It}{Qd:zu->Hp->Prop}(hc:X.calm=true)(O:FU X tg kx ifs scope own ix N g tt tk)(R:∀cl C s H ex pn,PE (blk X (relabel scope X.env) N cl C s H ex pn) vx tv)(T:LY X.prog X.w X.K tg J fp it tn)(I:Inv X h v H s)(S:∀b∈fp,FW X h H b)(st:tn 0 s.heap)(h1:∀y c,cl.lookup y=some c->X.env.cells.lookup y=some c)(h2:∀y,(y,NameKind.free)∈scope.names->∃c,cl.lookup y=some c)(hq:∀D,H D=none->∃W:Nat->Nat->Hp->Prop,(∃m,W 0 m (upd H D (.dK [])))/\PZ J D (Cc own ix v) g tt tk tv (Qd D) W)(U:∀D C k l,(∃m,l.heap.Ns C m)->Inv X h v k l->(∀i E,Inv X h i k E->∀h',Heap.SameBut C E.heap h'->Inv X h i k {E with heap:=h'})->C≠X.env.locals->(∀x c,X.env.cells.lookup x=some c->C≠c)->Qd D k-> compPost (model X.prog X.w) X.A X.xe use Q (.ref D) C (.ok .next) l):wpAny (model X.prog X.w) X.A (newDict #[]) (λn p=>wpAny (model X.prog X.w) X.A (newFunctionEnv scope X.env.globals cl [] X.env.qual none .none (some X.env)) (λf r=> codeAny (model X.prog X.w) X.A (.compStart (.DictComp kx vx [⟨tg,iter,ifs,0⟩] scope pos) 0 (.ref it) n {f with scope:=relabel scope X.env}) (compPost (model X.prog X.w) X.A X.xe use Q n f.locals) r) X.xe p) X.xe s:=by
 refine AAx ?_ (by simp[sizeOk]);have j:Inv X h v (upd H s.heap.objs.size (.dK [])) {s with heap:=s.heap.push {cls:= .type "dict",data:= .dict #[] }}:=I.laid (a:=s.heap.objs.size) (o:= .dK []) (t':=s.toks) (λ_ _ q=>AAH _ q) (AAI _) (RS s.heap I.big);have Y:=I.fresh;obtain⟨W,⟨m0,Z⟩,hW⟩:=hq _ Y;have fk:∀b∈fp,b<s.heap.objs.size:=λb hb=>by obtain⟨o,e,_⟩:=T.obj _ _ st b hb;exact AAG e
 have F:∀b∈fp,FW X h (upd H s.heap.objs.size (.dK [])) b:=λb hb=>by obtain⟨a0,ar⟩:=S b hb;exact⟨by rw[Ad (AAM (fk b hb))];exact a0,ar⟩
 generalize nC:({s with heap:=s.heap.push {cls:= .type "dict",data:= .dict #[] }}:zw)=s3 at j;have t:tn 0 s3.heap:=T.keep _ _ _ st λb hb o e=>by rw[<-nC];exact AAH _ e
 have G:∀b∈fp,b<s3.heap.objs.size:=λb hb=>by obtain⟨o,e,_⟩:=T.obj _ _ t b hb;exact AAG e
 refine wpAny_newFunctionEnv O.nocell (by intro y hy;simp at hy) (λd iu nD=> ?_) O.kind;have P:∀b o,s3.heap.get? b=some o->d.get? b=some o:=λb o e=>nD.extBut b o (AAM (AAG e)) (AAH _ e);have dj:∀y,((relabel scope X.env).names.lookup y=some .cell\/(relabel scope X.env).names.lookup y=some .free)->∃c,cl.lookup y=some c:=λy hy=>by
  rcases hy with z|z
  .exact h2 y (Ev O.nocell (J7 z) (.inl rfl))
  .exact h2 y (Ev O.nocell (J7 z) (.inr rfl))
 have B:=YA (N:=N) (t':=s3.toks+([] :zy (Str×zx)).length) j F G (sc:=relabel scope X.env) O.kind h1 dj O.ins iu P;have u:tn 0 d:=T.keep _ _ _ t λb hb o e=>P b o e;have loop:∀L:zw,L={s3 with heap:=d,toks:=s3.toks+([] :zy (Str×zx)).length}->
  codeAny (model X.prog X.w) X.A (.compLoop (.DictComp kx vx [⟨tg,iter,ifs,0⟩] scope pos) 0 (.ref it) (.ref s.heap.objs.size) (Hy X.env (relabel scope X.env) cl s3.heap.objs.size)) (compPost (model X.prog X.w) X.A X.xe use Q (.ref s.heap.objs.size) s3.heap.objs.size) L:=by rintro L rfl;refine Te (cl:=cl) (Qh:=Qd s.heap.objs.size) hc O R T j F G hW (λσ' k l M q'=> ?_) m0 _ ⟨0,_,B,u,λb hb=>(F b hb).1,Z⟩;refine U _ _ k l (let ⟨m,hm,_⟩:=M.loc;⟨m,hm⟩) (VJ (own:=own) (ix:=ix) j F G M) (λi E I2 h' hs=>RN j rfl I2 M.free hs) (AAy j.lt) (λx c e=>AAy (j.szLt e)) q'
 exact codeAny_compStart_dict (loop _ rfl) (T.self _ 0 _ _ _ u (loop _ rfl))
def ZR {i:Nat}{x:Str}{pos' b:Pos}(hc:X.calm=true)(hN:X.N.Nodup)(n:X.N[i]? =some x)(hx:Loc X.env.scope x)(hi:PI X tg iter wi)(O:FU X tg kx ifs scope own ix N g tt tk)(o:∀cl C s H ex pn,PE (blk X (relabel scope X.env) N cl C s H ex pn) vx tv)(p:swapsWith (.DictComp kx vx [⟨tg,iter,ifs,0⟩] scope pos) (some (.Name x pos')) b.line X.env=pure true:=by rfl)(hs:∀x,foldedSetIterable iter X.env x=pure x:=by intro _;rfl)(r:X.fn x=true\/X.env.scope.names.lookup x=some .local:=by first | exact .inl rfl|exact .inr rfl|assumption):PS X (.Assign [.Name x pos'] (.DictComp kx vx [⟨tg,iter,ifs,0⟩] scope pos) b) (OQ (aG wi own ix g tt tk tv) (Bc i)):=by
 intro k s l H D I h;obtain⟨cl,t,h1,h2⟩:=IA (env:=X.env) (scope:=scope) λy hy e=>I.ok.has y.1 (.inl (O.frees y hy e));rw[exec_Assign_Name_used _ _ _ _ p];refine AAA (ABL (AAA ?_));show wpAny _ _ (do let _ <-comprehension (.DictComp kx vx [⟨tg,iter,ifs,0⟩] scope pos) scope X.env _ (newDict #[]) false (eval iter X.env) (some (assign (.Name x pos') X.env))) _ _ s;refine AAA (BY (ADG (use:=some (assign (.Name x pos') X.env)) (Q:=λ_ c=>SP X k D .next c) rfl hs t O.kind O.names (BY (hi k s l H _ I h) λv W hv=>BY hv λu Y w=> ?_)) λ_ c hq=>AAD (AAD hq));obtain⟨it,fp,tn,J,Z,rfl,A,T,f,B,q⟩:=w;refine Wq (Qd:=λd j=>Bc i (.ref d) l j D.nx) hc O o T A B f h1 h2 q λd C j c E F gone G K L=> ?_;obtain⟨m,M⟩:=E;show wpAny _ _ (assign (.Name x pos') X.env (.ref d)) _ _ c;refine AC6 (Kb (v:= .ref d) F hN n hx rfl (λP R ⟨a,S,ha⟩=> ?_) r);have U:C≠a:=by
  rcases ha with z|z
  .rw [z];exact G
  .exact K x a z
 exact⟨m,M.sameBut S U,λh' hs=>⟨_,j,gone _ P R h' hs,L⟩⟩
end
section
variable {X:Cx}
def iQ (i:Nat)(t:TS):TS:=λD b H=>∃a kvs,b[i]? =some (some (.ref a))/\H a=some (.dK kvs)/\∀o es ep,o.data= .dict es ep->t D b (upd H a (.frz o (.dK kvs)))
def cj {rest:zy Stmt}{t:TS}{i:Nat}(h:Su X rest t):Su X rest (iQ i t):=by intro c s d H D I q;obtain⟨a,kvs,_,e,q⟩:=q;obtain⟨z,hd,vs,b,f⟩:=VW I.hok e;obtain⟨o,es,ep,g,j⟩:=id f;have k:Inv X c d (upd H a (.frz o (.dK kvs))) {s with heap:=s.heap,toks:=s.toks}:=Gx (h':=s.heap) I (by rw[e];exact True.intro) ⟨rfl,λ_ _=>rfl⟩ ⟨o,g⟩ ⟨g,Pa z hd b f⟩;exact h c s d _ D k (q o es ep j.2.1)
end
end L2
namespace PL
open PySem PySem.Spec PyProof.Rows L2
def NJ (m:zy (Int×Int))(k v:Int):zy (Int×Int):=if (m.any λp=>decide (p.1=k))=true then m.map (λp=>if p.1=k then (p.1,v) else p) else m ++ [(k,v)]
def Mu (m:zy (Int×Int))(k:Int):Int:=((m.find? λp=>decide (p.1=k)).map (·.2)).getD 0
def bg (m:zy (Int×Int))(k:Int):((IF m).any λa=>decide (a.1=(.inl k:Cf)))=m.any λp=>decide (p.1=k):=by
 induction m with
 | nil=>rfl
 | cons p r ih=> unfold IF at ih ⊢;rw[AAK,ABG,ABG,ih];congr 1;simp
def Vi (m:zy (Int×Int))(k v:Int):IF (NJ m k v)=Dp (IF m) (.inl k) (.int v):=by
 unfold NJ Dp;rw[bg];split
 .unfold IF;rw[AAc,AAc];apply AA7;intro p _;simp only[Function.comp];by_cases h:p.1=k
  .simp [h]
  .simp [h]
 .unfold IF;rw[AAT];rfl
def bi (m:zy (Int×Int))(k:Int):(EI (IF m) (.inl k)).getD (.int 0)= .int (Mu m k):=by
 induction m with
 | nil=>rfl
 | cons p r ih=>
   unfold IF at ih ⊢;rw[AAK];by_cases h:p.1=k
   .rw [Gr (by simp[h])];simp[Mu,h]
   .rw [Gq (by simp[h]),ih];simp[Mu,h]
def NK (m:zy (Int×Int))(k v:Int):(NJ m k v).length<=m.length+1:=by
 unfold NJ;split
 .rw [AAJ];omega
 .simp
def CI (many:Int)(m:zy (Int×Int)):zy (Int×Int):=m.foldl (λa p=>NJ a p.1 (many*p.2)) []
def Pr {m:zy (Int×Int)}{i:Nat}(h:i<m.length):(IF m)[i]? =some (.inl m[i].1, .int m[i].2):=by unfold IF;rw[AAm,AAU h];rfl
def G7 {c a:Type}{f:a->c->a}{b:a}{m:zy c}{i:Nat}(h:i<m.length):(m.take (i+1)).foldl f b=f ((m.take i).foldl f b) m[i] :=by rw[List.take_succ_eq_append_getElem h,ABU];rfl
def bI {K:AAB}{H:Hp}{r:L2.St}{s:Nat}{many:Int}{d n ep:Nat}{m:zy (Int×Int)}{Q:V->Hp->Prop}(y:Ss H d n ep (IF m))(A:r[s]? =some (some (.int many)))(hl:m.length<sizeLine)(ok:∀p∈m,MulOk many p.2)(q:∀D c,H D=none->(∀b o,H b=some o->c b=some o)->c D=some (.dK (IF (CI many m)))->Q (.ref D) c):∀D,H D=none->∃W:Nat->Nat->Hp->Prop,(∃k,W 0 k (upd H D (.dK [])))/\PZ (Itm d n ep) D (Cc 2 [s] r) (N8 K 2 (Cw (Bc 0) (Cw (Bc 1) LZ))) dQ (C8 0) (XZ (rI MulOk λi j=> .int (i*j)) (C8 2) (C8 1)) (Q (.ref D)) W:=by
 intro D u;have B:Cc 2 [s] r= [none,none,some (.int many)] :=by unfold Cc;simp[A]
 rw[B];let W:Nat->Nat->Hp->Prop:=λi k c=>i+k=m.length/\(∀b o,H b=some o->c b=some o)/\c D=some (.dK (IF (CI many (m.take i))))/\(CI many (m.take i)).length<=i;refine⟨W,⟨m.length,ACI _,λb o e=>by rw[Ad (Ah e u)];exact e,Ab,AAI _⟩, ?_⟩;rintro i k c ⟨hi,ex,l,C⟩;have f:Ss c d n ep (IF m):=let ⟨o,es,a,b⟩:=y;⟨o,es,ex _ _ a,b⟩;cases k with
 | zero=> left;refine⟨⟨_,f,by unfold IF;rw[AAJ];omega⟩,q D c u ex ?_⟩;rw[ABq (by omega)] at l;exact l
 | succ k=>
   right;have g:i<m.length:=by omega
   refine⟨⟨_,_,_,f,Pr g⟩,λx F E=> ?_⟩;obtain⟨t,G,I,rfl,v,rfl,hu⟩:=E;have hx:=hu _ f;rw[Pr g] at hx;cases hx;have J:D≠t:=λz=>by subst z;rw[l] at v;cases v
   have h:∀b o,c b=some o->upd c t (.tup [kV (.inl m[i].1), .int m[i].2]) b=some o:=λb o e=>by rw[Ad (Ah e v)];exact e
   refine⟨t,_,rfl, .inl (.inl (.inl Ab)),rfl,_,_,rfl,_,_,rfl,rfl, ?_⟩;dsimp only[dQ];rw[AAE rfl];refine⟨_,rfl,_,rfl,_,rfl,many,m[i].2,rfl,rfl,ok _ (ABd g), ?_⟩;refine⟨.inl m[i].1,_,rfl,h _ _ l,by unfold IF;rw[AAJ];omega,k,by omega,by omega,λb o e=> ?_, ?_, ?_⟩
   .rw [Ad (Ah e u)];exact h _ _ (ex _ _ e)
   .rw [Ab];unfold CI;rw[G7 g,Vi]
   .unfold CI at C ⊢;rw[G7 g];have:=NK ((m.take i).foldl (λw p=>NJ w p.1 (many*p.2)) []) m[i].1 (many*m[i].2);omega
def Dn (more:Int)(a m:zy (Int×Int)):zy (Int×Int):=m.foldl (λa p=>NJ a p.1 (Mu a p.1+more*p.2)) a
def Y2 (d a b c:Nat):TS:=d7 (C8 d) (C8 a) (XZ (OL λi j=> .int (i+j)) (aH (C8 d) (C8 a) (tC (.int 0))) (XZ (rI MulOk λi j=> .int (i*j)) (C8 c) (C8 b)))
def cG {K:AAB}{H H1:Hp}{σ0:L2.St}{D:LV}{B c f s:Nat}{more:Int}{d n ep a:Nat}{m acc0:zy (Int×Int)}(U:B≠c)(X:B≠f)(Y:s≠c)(Z:s≠f)(n5:c≠f)(l1:c<σ0.length)(l2:f<σ0.length)(fd:Ss H d n ep (IF m))(ha:H a=none)(J:∀b o,H b=some o->H1 b=some o)(h1:H1 a=some (.dK (IF acc0)))(hw:σ0[B]? =some (some (.ref a)))(hm:σ0[s]? =some (some (.int more)))(ok:∀p∈m,MulOk more p.2)(hl:acc0.length+m.length<sizeLine)(L:∀σ' g,σ'.length=σ0.length->(∀j,j≠c->j≠f->σ'[j]? =σ0[j]?)->(∀b o,H b=some o->g b=some o)->g a=some (.dK (IF (Dn more acc0 m)))->D.nx σ' g):∃W:Nat->Nat->L2.St->Hp->Prop,(∃k,W 0 k σ0 H1)/\∀i k v g,W i k v g-> ((Itm d n ep).stop i g/\D.nx v g)\/((Itm d n ep).go i g/\∃N:L2.St->Hp->Prop,(∀σ' w,N σ' w->∃Q,Q<k/\W (i+1) Q σ' w)/\∀x w,(Itm d n ep).yld i g x w->N8 K 2 (Cw (Bc c) (Cw (Bc f) LZ)) x v w λl R=>Y2 B c f s {D with nx:=N,ct:=N,bk:=D.nx} l R):=by
 let W:Nat->Nat->L2.St->Hp->Prop:=λi k v g=>i+k=m.length/\(v.length=σ0.length/\∀j,j≠c->j≠f->v[j]? =σ0[j]?)/\(∀b o,H b=some o->g b=some o)/\g a=some (.dK (IF (Dn more acc0 (m.take i))))/\(Dn more acc0 (m.take i)).length<=acc0.length+i;refine⟨W,⟨m.length,ACI _,⟨rfl,λ_ _ _=>rfl⟩,J,h1,AAI _⟩, ?_⟩;rintro i k v g ⟨hi,⟨S,T⟩,ex,M,uK⟩;have y:Ss g d n ep (IF m):=let ⟨o,es,a,b⟩:=fd;⟨o,es,ex _ _ a,b⟩;cases k with
 | zero=> left;refine⟨⟨_,y,by unfold IF;rw[AAJ];omega⟩,L v g S T ex ?_⟩;rw[ABq (by omega)] at M;exact M
 | succ k=>
   right;have C:i<m.length:=by omega
   refine⟨⟨_,_,_,y,Pr C⟩,λσ' w=>W (i+1) k σ' w,λσ' w h=>⟨k,by omega,h⟩,λx w yl=> ?_⟩;obtain⟨t,kk,xx,rfl,hn,rfl,hu⟩:=yl;have hx:=hu _ y;rw[Pr C] at hx;cases hx;have z:∀b o,g b=some o->upd g t (.tup [kV (.inl m[i].1), .int m[i].2]) b=some o:=λb o e=>by rw[Ad (Ah e hn)];exact e
   refine⟨t,_,rfl, .inl (.inl (.inl Ab)),rfl,_,_,rfl,_,_,rfl,rfl, ?_⟩;generalize G:(v.set c (some (kV (.inl m[i].1)))).set f (some (V.int m[i].2))=l;have A:l.length=σ0.length:=by rw[<-G];simp[S]
   have r:∀j,j≠c->j≠f->l[j]? =σ0[j]? :=λj h h'=>by rw[<-G,AAY (AAe h'),AAY (AAe h)];exact T j h h'
   have E:l[c]? =some (some (.int m[i].1)):=by rw[<-G,AAY (AAe n5),ABl (by omega)];rfl
   have O:l[f]? =some (some (.int m[i].2)):=by rw[<-G,ABl (by simp;omega)]
   have F:l[B]? =some (some (.ref a)):=by rw[r B U X];exact hw
   have P:l[s]? =some (some (.int more)):=by rw[r s Y Z];exact hm
   have I:=z _ _ M;generalize hH:upd g t (.tup [kV (.inl m[i].1), .int m[i].2])=R at z I;refine⟨_,F,a,rfl, .inl ⟨_, .inl I⟩,_,E,_,Sz.k (k:= .inl m[i].1) I,_,P,_,O,more,m[i].2,rfl,rfl,ok _ (ABd C), ?_⟩;rw[bi];refine⟨_,_,rfl,rfl,_,F,_,E,a,_,rfl,S0.k (k:= .inl m[i].1) I (by unfold IF;rw[AAJ];omega),by omega,⟨A,r⟩,λb o e=> ?_, ?_, ?_⟩
   .rw [Ad (Ah e ha)];exact z _ _ (ex _ _ e)
   .rw [Ab];unfold Dn;rw[G7 C,Vi]
   .unfold Dn at uK ⊢;rw[G7 C];have:=NK ((m.take i).foldl (λu p=>NJ u p.1 (Mu u p.1+more*p.2)) acc0) m[i].1 (Mu ((m.take i).foldl (λu p=>NJ u p.1 (Mu u p.1+more*p.2)) acc0) m[i].1+more*m[i].2);omega
def qI (a:TE):TI:=λb H R=>a b H λv H1=>∃d n ep kvs,v= .ref d/\Ss H1 d n ep kvs/\R (Itm d n ep) H1
def tS (K:AAB)(a:TE)(b c:Nat):TS:=OQ (aG (qI a) 2 [c] (N8 K 2 (Cw (Bc 0) (Cw (Bc 1) LZ))) dQ (C8 0) (XZ (rI MulOk λi j=> .int (i*j)) (C8 2) (C8 1))) (Bc b)
def qQ (K:AAB)(d:TE)(e a b c:Nat):TS:=iP (qI d) (N8 K 2 (Cw (Bc a) (Cw (Bc b) LZ))) (Y2 e a b c)
section
variable {K:AAB}{B:C0}{T:zu->Prop}{H:Hp}{σ σ':L2.St}{τ τ':A7}
def SR.loose (s:SR K B T H σ τ)(hl:σ'.length=τ'.length)(h:∀(j:Nat) (a:AV),τ'[j]? =some (some a)->τ[j]? =some (some a)/\σ'[j]? =σ[j]?):SR K B T H σ' τ'/\∀b,Cv σ' τ' b->Cv σ τ b:=by
 have g:∀b,Cv σ' τ' b->Cv σ τ b:=λb ⟨j,xs,h1,h2⟩=>let ⟨c,d⟩:=h j _ h1;⟨j,xs,c,by rw[<-d];exact h2⟩;have i:Mv K T (mt B σ τ) H T (mt B σ' τ') H:= .anti s.va λa m=>m.elim .inl λz=> .inr (g a z);refine⟨⟨hl,λj y e=> ?_,λj ys e=> ?_,λj k ys o p r t l n=> ?_,s.tp,s.bm,s.bt,s.st⟩,g⟩
 .obtain ⟨c,d⟩:=h j _ e;obtain⟨w,hw,f⟩:=s.val j y c;exact⟨w,by rw[d];exact hw,f.mv i⟩
 .obtain ⟨c,d⟩:=h j _ e;obtain⟨p,vs,h1,h2,u,v⟩:=s.own j ys c;exact⟨p,vs,by rw[d];exact h1,h2,u.mv i,v⟩
 .obtain ⟨c,d⟩:=h j _ r;obtain⟨x,b2⟩:=h k _ t;rw[d] at l;rw[b2] at n;exact s.dist j k ys o p c x l n
end
def gS (x:PV)(R:zy (Int×Int)->Prop):Prop:=match x with | .dk m=>R m|_=>False
def Vq {x:PV}{R:zy (Int×Int)->Prop}(h:gS x R):∃m,x= .dk m/\R m:=by cases x <;> first | exact⟨_,rfl,h⟩|exact h.elim
def X4 (c a b e d:Nat)(f g:AE):AS:=λD τ=>(c<τ.length/\a<τ.length/\b<τ.length)/\f τ λx=>gS x λm1=>∃many,τ[e]? =some (some (.val (.int many)))/\m1.length<sizeLine/\(∀p∈m1,MulOk many p.2)/\
 g (τ.set c none) λy=>gS y λm2=>∃more,τ[d]? =some (some (.val (.int more)))/\(CI many m1).length+m2.length<sizeLine/\(∀p∈m2,MulOk more p.2)/\
 D.nx (((τ.set c (some (.val (.dk (Dn more (CI many m1) m2))))).set a none).set b none)
def qW {k:Nat}{A:zk}(a:Room k A):A.units+1<cLine:=by have:=a.un;omega
section
variable {X:Cx}
def Z6 {e1 e2:zr}{ta tb:AE}{m p:Stmt}{rest:zy Stmt}{b:AS}{f g k im s:Nat}(n1:f≠g)(n2:f≠k)(n3:s≠g)(n4:s≠k)(n5:g≠k)(n6:s≠f)(h1:SE X e1 ta)(h2:SE X e2 tb)(p1:∀I,PE X e1 I->PS X m (tS X.K I f im))(p2:∀I,PE X e2 I->PS X p (qQ X.K I f g k s))(h3:Xg X rest b):Xg X (m::p::rest) (AY (X4 f g k im s ta tb) b):=by
 obtain⟨t1,q1,s1⟩:=h1;obtain⟨t2,q2,s2⟩:=h2;obtain⟨t3,q3,s3⟩:=h3;refine⟨_,Be (p1 t1 q1) (Be (p2 t2 q2) (cj (i:=f) q3)),λB T J τ H D AD A h er=> ?_⟩;obtain⟨⟨l0,l1,l2⟩,h⟩:=h;refine s1 B T J τ H _ _ A h λv x U H1 m r1 h1=> ?_;obtain⟨m1,rfl,many,jj,Z,ok1,h1⟩:=Vq h1;have u:=A.stp m;obtain⟨vm,uX,rvm⟩:=u.val _ _ jj;cases rvm;cases r1 with
 | dk hh eo=>
 rename_i d o es ep;have L:Ss H1 d m1.length ep (IF m1):=⟨o,es,hh,eo,by unfold IF;rw[AAJ]⟩;refine⟨_,_,_,_,rfl,L, ?_⟩;refine bI (K:=X.K) (Q:=λx H1=>Bc f x J H1 (U1 (qQ X.K t2 f g k s) (iQ f t3) D)) L uX Z ok1 λa H2 ha ex hD=> ?_;have M:¬U a:=λz=>by obtain⟨o,e,_⟩:=(u.tp a z).mut;rw[ha] at e;cases e
 have N:DM U H1 U H2:=WI u.va ex;have sr2:=u.stp N;obtain⟨O,_⟩:=sr2.loose (σ':=J.set f (some (.ref a))) (τ':=τ.set f none) (by simp[A.len]) λj c e=>by
  rcases BH e with⟨_,C,_⟩|⟨n,C⟩
  .cases C
  .exact ⟨C,AAY (λz=>n z.symm)⟩
 refine s2 B U _ _ H2 _ _ O h1 λv2 y W G p r2 h2=> ?_;obtain⟨m2,rfl,more,jl,hsz,ok2,h2⟩:=Vq h2;obtain⟨vr,uY,rvr⟩:=A.val _ _ jl;cases rvr;have ik:G a=some (.dK (IF (CI many m1))):=p.keep _ _ M hD;have na2:¬W a:=λz=>by
  rcases p.new a z with z|z
  .exact M z
  .rw [hD] at z;cases z
 cases r2 with
 | dk Y P=>
 rename_i d2 o2 R ep2;have da:d2≠a:=λz=>by subst z;rw[ik] at Y;cases Y
 have fd2:Ss G d2 m2.length ep2 (IF m2):=⟨o2,R,Y,P,by unfold IF;rw[AAJ]⟩;refine⟨_,_,_,_,rfl,fd2, ?_⟩;let H0:Hp:=λb=>if b=a then none else G b
 have E:(J.set f (some (V.ref a))).length=τ.length:=by simp[A.len]
 refine cG (K:=X.K) (H:=H0) (H1:=G) (σ0:=J.set f (some (V.ref a))) (D:={D with nx:=iQ f t3 D}) (acc0:=CI many m1) (a:=a) (more:=more) n1 n2 n3 n4 n5 (by rw[E];exact l1) (by rw[E];exact l2) ⟨o2,R,(AAC da).trans Y,P,by unfold IF;rw[AAJ]⟩ (AAE rfl) (λb o e=> ?_) ik ?_ ?_ ok2 hsz λσ' H4 sl so S tf=> ?_
 .by_cases z:b=a
  .rw [show H0 b=none from AAE z] at e;cases e
  .rw [show H0 b=G b from AAC z] at e;exact e
 .rw [ABl (by rw[A.len];exact l0)]
 .rw [AAY (λz=>n6 z.symm)];exact uY
 refine⟨a,_, ?_,tf,λo es ep eo=> ?_⟩
 .rw [so f n1 n2,ABl (by rw[A.len];exact l0)]
 have l:DM T H W G:=(m.trans N).trans p;have St:DM T H W (upd H4 a (.frz o (.dK (IF (Dn more (CI many m1) m2))))):=by
  refine⟨λb q nt e=> ?_,l.sub,l.new,λx t=> ?_⟩
  .have z:b≠a:=λz=>by subst z;have:=m.keep _ _ nt e;rw[ha] at this;cases this
   rw[Ad z];exact S b q ((AAC z).trans (l.keep b q nt e))
  .have z:x≠a:=λz=>by subst z;exact na2 t
   obtain⟨d,w,e,r⟩:=l.tp x t;exact⟨d,w,by rw[Ad z];exact S _ _ ((AAC z).trans e),r⟩
 have sr5:=A.stp St;have sr6:=sr5.set (i:=f) (v:= .ref a) (x:= .dk (Dn more (CI many m1) m2)) (.dk Ab eo);obtain⟨sr7,ow⟩:=sr6.loose (σ':=σ') (τ':=((τ.set f (some (.val (.dk (Dn more (CI many m1) m2))))).set g none).set k none) (by rw[sl,E];simp) λj c e=>by
  rcases BH e with⟨_,C,_⟩|⟨k2,C⟩
  .cases C
  .rcases BH C with⟨_,F,_⟩|⟨k1,F⟩
   .cases F
   .exact ⟨F,so j k1 k2⟩
 exact s3 B W σ' _ _ D AD sr7 h2 (er.shift (St.prog.trans (.less λb z=>Cn (ow b z))))
end
end PL
namespace L2
open PySem PySem.Spec PyProof.Rows
def mB (K:AAB)(l:zu):It:=
 ⟨λi H=>∃xs x,Ep K H l xs/\xs[i]? =some x,
  λi H v a=>∃T x,v= .ref T/\H T=none/\a=upd H T (.tup [.int i,x])/\∀xs,Ep K H l xs->xs[i]? =some x,
  λi H=>∃xs,Ep K H l xs/\xs.length<=i⟩
def Xb {P:zp}{w:zm}{K:AAB}{es:zy zr}{J:Nat}{n:Pos}{e it l:zu}(C:e≠it):LY P w K (.Tuple es J n) (mB K l) [e,it] e (λk h=>(∃b,IsEnum h e it (k:Nat) b)/\h.IsListIter it l k) where
 mem:=by simp
 obj:=λk h st p hp=>by
  obtain⟨⟨b,he⟩,hi⟩:=st;have f:p=e\/p=it:=by simpa using hp
  rcases f with q|q
  .subst q;exact⟨_,he,λv z=>nomatch z⟩
  .subst q;obtain⟨o,a,c,d⟩:=hi;exact⟨o,a,λv z=>by rw[d] at z;cases z⟩
 keep:=λk h h' st j=>by obtain⟨⟨b,he⟩,hi⟩:=st;exact⟨⟨b,j e (by simp) _ he⟩,hi.at λo a=>j it (by simp) o a⟩
 item:=by
  intro X r hw t hc k D s F H E I m st y;subst r hw t;obtain⟨⟨b,he⟩,hi⟩:=st;obtain⟨xs,x,hq,hx⟩:=y;obtain⟨A,rv,p,hz⟩:=I.list hq;obtain⟨u,hu,L⟩:=rv.get hx;have i:e<s.heap.objs.size:=AAG he;have B:it<s.heap.objs.size:=by obtain⟨o,a,_⟩:=id hi;exact AAG a
  refine wpAny_pyNext_enum_item he hi p.isList (x:=u) (by simpa using hu) C λh1 M N O Z Q=> ?_;refine⟨_,rfl,wpAny_letOwnedTupleGo_enum (s:={s with heap:=h1,toks:=s.toks+1}) M λh2 R S=> ?_⟩;have g:∀p o,p≠e->h1.get? p=some o->h2.get? p=some o:=λp o q z=>S.extBut _ _ q z;have G:∀p∈ [e,it],p<s.heap.objs.size:=λp hp=>by
   have f:p=e\/p=it:=by simpa using hp
   rcases f with q|q
   .rw [q];exact i
   .rw [q];exact B
  have j:∀p o,p ∉ [e,it] ->s.heap.get? p=some o->h2.get? p=some o:=λp o hp z=>by
   have f:p≠e/\p≠it:=by simpa using hp
   exact g p o f.1 (Q p o f.1 f.2 z)
  have T:Inv X D F (upd H s.heap.objs.size (.tup [.int k,x])) {s with heap:=h2,toks:=s.toks+1}:=I.turnedN m G j (AAI _)
   ⟨(by show 2<=sizeLine;decide), [.int k s.toks,u], .cons ⟨_,rfl⟩ (.cons L .nil),⟨_,g _ _ (AAy i) O,rfl,_,rfl⟩⟩
  have U:H s.heap.objs.size=none:=I.fresh;refine⟨.ref s.heap.objs.size,upd H s.heap.objs.size (.tup [.int k,x]),T,rfl,⟨_,x,rfl,U,rfl,λW h'=> ?_⟩,⟨⟨u, ?_⟩, ?_⟩,λp hp=> ?_⟩
  .rw [I.list_inj h' hq];exact hx
  .have:((k+1:Nat):Int)=(k:Int)+1:=by push_cast;rfl
   rw[this];exact R
  .exact N.at λo z=>g it o C.symm z
  .rw [Ad (AAM (G p hp))];exact(m p hp).1
 done:=by
  intro X r hw t hc k D s F H E I m st y;subst r hw t;obtain⟨⟨b,he⟩,hi⟩:=st;obtain⟨xs,hq,hx⟩:=y;obtain⟨A,rv,p,hz⟩:=I.list hq;have hl:=rv.length;refine wpAny_pyNext_enum_end (I.ok.hd hc) he hi p.isList (by simp;omega) λh' Y=>⟨rfl, ?_⟩;exact I.turnedL (t':=s.toks) m λp o hp z=>by
   have f:p≠e/\p≠it:=by simpa using hp
   exact Y p o f.2 z
 self:=λ_ _ _ _ _ st h=>by obtain⟨⟨b,he⟩,_⟩:=st;exact ACs he h
section
variable {X:Cx}
def js (K:AAB)(a:TA):TI:=λb H R=>a b H λvs H1=>∃l,vs= [.ref l] /\(∃xs,Ep K H1 l xs)/\R (mB K l) H1
def cW {e:zr}{f:TA}{p b c:Pos}{es:zy zr}{j:Nat}(k:Gl X "enumerate")(m:X.mg "enumerate" =none)(ha:PA X [e] f)(hs:starEach [e] X.env= [(false,eval e X.env)] :=by rfl):PI X (.Tuple es j c) (.Call (.Name "enumerate" p) [e] [] b) (js X.K f):=by
 intro n s o H R I h;refine Call_ (J5 I k m boot_enumerate (AB1 (BY (ha b n s o H _ I h) λus a ⟨vs,H1,d,t,u⟩=> ?_) (by rw[hs];rfl) rfl));obtain⟨l,rfl,⟨xs,hl⟩,q⟩:=u;cases t with
 | cons r v=>
 cases v;cases r;obtain⟨w,rv,p,hz⟩:=d.list hl;refine call_enumerate_list p.isList λh' g b2 y x=> ?_;refine ACs g ?_;have i:∀p∈ [a.heap.objs.size+1,a.heap.objs.size],a.heap.objs.size<=p:=λp hp=>by
  have z:p=a.heap.objs.size+1\/p=a.heap.objs.size:=by simpa using hp
  omega
 exact⟨_,_,_,_,H1,rfl,d.kept (t':=a.toks) x,Xb (Nat.succ_ne_self _),⟨⟨.none,g⟩,b2⟩,λp hp=>d.fpOk (i p hp) (d.hok.fresh (i p hp)),q⟩
end
end L2
namespace PL
open PySem PySem.Spec PyProof.Rows L2
def Df (k:Nat):zy PV->zy PV
 | [] => []
 | x::r=> .tup [.int k,x] :: Df (k+1) r
theorem Jz:∀(xs:zy PV) (k:Nat),(Df k xs).length=xs.length
 | [],_=>rfl
 | _::r,k=>by rw[Df,AAZ,Jz r,AAZ]
theorem FN:∀(xs:zy PV) (k i:Nat) (z:PV),(Df k xs)[i]? =some z->∃x,xs[i]? =some x/\z= .tup [.int ((k+i:Nat):Int),x]
 | [],_,_,_,h=>by simp[Df] at h
 | x::r,k,0,z,h=>⟨x,rfl,by simp[Df] at h;rw[<-h];rfl⟩
 | x::r,k,i+1,z,h=>by obtain⟨y,h1,h2⟩:=FN r (k+1) i z (by simpa[Df] using h);refine⟨y,by simpa using h1, ?_⟩;rw[h2,show k+1+i=k+(i+1) by omega]
def W5 {K:AAB}{T M:zu->Prop}{H:Hp}{l:zu}{xs:zy PV}(va:Hu T M H)(r:CC K T M H (.ref l) (.lst xs)):TD K M (mB K l) (Df 0 xs) T H:=by
 obtain⟨a,vs,e,hq,k,m,b⟩:=Cz r;cases e;have c:Ep K H l vs:= .inl (.inl hq);refine⟨λi z h=> ?_,λi z v n h f=> ?_,λi h=>⟨vs,c, ?_⟩⟩
 .obtain ⟨x,hx,_⟩:=FN xs 0 i z h;obtain⟨u,hu,_⟩:=b.get hx;exact⟨vs,u,c,hu⟩
 .obtain ⟨x,hx,rfl⟩:=FN xs 0 i z h;obtain⟨p,u,rfl,g,rfl,hu⟩:=f;obtain⟨s,d,j⟩:=b.get' (hu vs c);rw[hx] at d;cases d;have st:=DM.lay (o:= .tup [.int (i:Nat),u]) va.tp g;rw[ACI];exact⟨st, .tup (.inl Ab) (.cons (.int _) (.cons (j.stp st va) .nil))⟩
 .rw [b.length];rw[Jz] at h;exact h
section
variable {X:Cx}
def mM (r:AA):AI:=λτ Q=>r τ λa=>match a with | [.lst xs] =>Q (Df 0 xs)|_=>False
def nj {e:zr}{r:AA}{p c b:Pos}{es:zy zr}{d:Nat}(f:Gl X "enumerate")(g:X.mg "enumerate" =none)(ha:SA X [e] r)(hs:starEach [e] X.env= [(false,eval e X.env)] :=by rfl):SI X (.Tuple es d b) (.Call (.Name "enumerate" p) [e] [] c) true (mM r):=by
 obtain⟨t,i,s⟩:=ha;refine⟨_,cW f g i hs,λB T j τ H R v l h k=>s B T j τ H _ _ l h λvs xs m H1 n o h1=> ?_⟩;split at h1 <;> first | exact h1.elim|skip
 cases o with
 | cons ra t=> cases t;obtain⟨a,us,rfl,hq,_,_,w⟩:=Cz ra;exact⟨a,rfl,⟨us, .inl (.inl hq)⟩,k _ _ m H1 n (λM2 x y u va _=>W5 va (ra.mv u)) h1⟩
end
end PL
namespace L2
open PySem PySem.Spec PyProof.Rows
def YK {prog:zp}{w:zm}{A:zk}(c:A.handled=none)(b:zq)(it l:zu)(d:l≠it)(items:Array zx):Draws prog w A it [it,l] items.size (λi v=>items[i]? =some v) (λi h=>N2 b h it l i/\Lm b h l items) where
 live:=λ_ _ st=>let ⟨o,f,_⟩:=st.1.obj;⟨o,f⟩
 frame:=λ_ _ _ st hk=>⟨st.1.mv λo e=>hk it (by simp) o e,st.2.mv λo e=>hk l (by simp) o e⟩
 item:=λi s Q E hi st hQ=>by refine JN st.1 st.2 (x:=items[i]) (by simp[hi]) λh' g a=> ?_;exact hQ _ h' s.toks (by simp[hi]) ⟨g,st.2.mv λo e=>a.extBut _ _ d e⟩ a
 done:=λs Q E st j=>Gy c st.1 st.2 (by simp) j
def eZ (K:AAB)(b:zq)(l:zu):It:=
 ⟨λi H=>∃xs x,Sq K b H l xs/\xs[i]? =some x,
  λi H v a=>∃T x,v= .ref T/\H T=none/\a=upd H T (.tup [.int i,x])/\∀xs,Sq K b H l xs->xs[i]? =some x,
  λi H=>∃xs,Sq K b H l xs/\xs.length<=i⟩
def c8 {b:zq}{h:zl}{q l:zu}{k:Nat}(x:N2 b h q l k):∃o,h.get? q=some o/\(o.cls= .type "list_iterator" \/o.cls= .type "tuple_iterator"):=by
 cases b with
 | true=>obtain⟨o,a,c,_⟩:=x;exact⟨o,a, .inl c⟩
 | false=>obtain⟨o,a,c,_⟩:=x;exact⟨o,a, .inr c⟩
def dH {b:zq}{h:zl}{l:zu}{xs:Array zx}(x:Lm b h l xs):∃o,h.get? l=some o/\(o.cls= .type "list" \/o.cls= .type "tuple"):=by
 cases b with
 | true=>obtain⟨o,a,c,_⟩:=x;exact⟨o,a, .inl c⟩
 | false=>obtain⟨o,a,c,_⟩:=x;exact⟨o,a, .inr c⟩
def Z7 {b:zq}{h:zl}{e it l:zu}{k:Nat}{i:Int}{f:zx}{xs:Array zx}(x:Lm b h l xs)(y:N2 b h it l k)(z:IsEnum h e it i f):l≠it/\l≠e:=by
 obtain⟨o,a,c⟩:=dH x;obtain⟨j,g,d⟩:=c8 y;refine⟨λq=> ?_,λq=> ?_⟩
 .subst q;rw[a] at g;cases g;rcases c with c|c <;> rcases d with d|d <;> (rw[c] at d;simp at d)
 .subst q;rw[z] at a;cases a;rcases c with c|c <;> simp at c
def U5 {P:zp}{w:zm}{K:AAB}{es:zy zr}{S:Nat}{t:Pos}{b:zq}{e it l:zu}(B:e≠it):LY P w K (.Tuple es S t) (eZ K b l) [e,it] e (λk h=>(∃c,IsEnum h e it (k:Nat) c)/\N2 b h it l k) where
 mem:=by simp
 obj:=λk h st p hp=>by
  obtain⟨⟨c,he⟩,hi⟩:=st;have f:p=e\/p=it:=by simpa using hp
  rcases f with q|q
  .subst q;exact⟨_,he,λv z=>nomatch z⟩
  .subst q;exact hi.obj
 keep:=λk h h' st m=>by obtain⟨⟨c,he⟩,hi⟩:=st;exact⟨⟨c,m e (by simp) _ he⟩,hi.mv λo a=>m it (by simp) o a⟩
 item:=by
  intro X C hw D hc k L s M H E I r st F;subst C hw D;obtain⟨⟨c,he⟩,hi⟩:=st;obtain⟨xs,x,hq,hx⟩:=F;obtain⟨d,rv,p,hz⟩:=I.sq hq;obtain⟨u,hu,T⟩:=rv.get hx;have j:e<s.heap.objs.size:=AAG he;have G:it<s.heap.objs.size:=by obtain⟨o,a,_⟩:=hi.obj;exact AAG a
  obtain⟨N,O⟩:=Z7 p hi he;have U:k<d.toArray.size:=by have:=(AAp.mp hu).1;simpa using this
  refine wpAny_pyNext_enum_itemD (YK (prog:=X.prog) (w:=X.w) (A:=X.A.in1) (I.ok.hd hc) b it l N d.toArray) he ⟨hi,p⟩ U B (by simp only[AAF,AAd,AAb];rintro(z|z);exact B z;exact O z.symm) λy h1 J hy W Y Z a4 a5=> ?_;have uc:y=u:=by
   have:d[k]? =some y:=by simpa using hy
   rw[hu] at this;exact(AAX this).symm
  subst uc;refine⟨_,rfl,wpAny_letOwnedTupleGo_enum (s:={s with heap:=h1,toks:=J+1}) W λh2 c1 c2=> ?_⟩;have g:∀p o,p≠e->h1.get? p=some o->h2.get? p=some o:=λp o q z=>c2.extBut _ _ q z;have R:∀p∈ [e,it],p<s.heap.objs.size:=λp hp=>by
   have f:p=e\/p=it:=by simpa using hp
   rcases f with q|q
   .rw [q];exact j
   .rw [q];exact G
  have m:∀p o,p ∉ [e,it] ->s.heap.get? p=some o->h2.get? p=some o:=λp o hp z=>by
   have f:p≠e/\p≠it:=by simpa using hp
   exact g p o f.1 (a5 p o f.1 f.2 z)
  have I2:Inv X L M (upd H s.heap.objs.size (.tup [.int k,x])) {s with heap:=h2,toks:=J+1}:=I.turnedN r R m (AAI _)
   ⟨(by show 2<=sizeLine;decide), [.int k J,y], .cons ⟨_,rfl⟩ (.cons T .nil),⟨_,g _ _ (AAy j) Z,rfl,_,rfl⟩⟩
  have T7:H s.heap.objs.size=none:=I.fresh;refine⟨.ref s.heap.objs.size,upd H s.heap.objs.size (.tup [.int k,x]),I2,rfl,⟨_,x,rfl,T7,rfl,λxs' h'=> ?_⟩,⟨⟨y, ?_⟩, ?_⟩,λp hp=> ?_⟩
  .rw [I.sq_inj h' hq];exact hx
  .have:((k+1:Nat):Int)=(k:Int)+1:=by push_cast;rfl
   rw[this];exact c1
  .exact Y.1.mv λo z=>g it o B.symm z
  .rw [Ad (AAM (R p hp))];exact(r p hp).1
 done:=by
  intro X C hw D hc k L s M H E I r st F;subst C hw D;obtain⟨⟨c,he⟩,hi⟩:=st;obtain⟨xs,hq,hx⟩:=F;obtain⟨d,rv,p,hz⟩:=I.sq hq;have hl:=rv.length;have sz:d.toArray.size<=k:=by simp;omega
  obtain⟨N,O⟩:=Z7 p hi he;refine wpAny_pyNext_enum_endD (n:=k) (P:=λ_ _=>True) (St:=λi h=>i=k/\N2 b h it l k/\Lm b h l d.toArray) (fp:= [it,l]) ⟨λ_ _ st=>let ⟨o,ho,_⟩:=st.2.1.obj;⟨o,ho⟩,λ_ _ _ st hk=>⟨st.1,st.2.1.mv λo e=>hk it (by simp) o e,st.2.2.mv λo e=>hk l (by simp) o e⟩,λi s Q E hi st hQ=>absurd hi (by rw[st.1];omega),λs Q E st hE=>Gy (A:=X.A.in1) (I.ok.hd hc) st.2.1 st.2.2 (by simp;simpa using sz) hE⟩ he ⟨rfl,hi,p⟩ λh' eb=>⟨rfl, ?_⟩;exact I.turnedL (t':=s.toks) r λp o hp z=>by
   have f:p≠e/\p≠it:=by simpa using hp
   exact eb p o f.2 z
 self:=λ_ _ _ _ _ st h=>by obtain⟨⟨c,he⟩,_⟩:=st;exact ACs he h
def IH (b:zq)(l:zu)(items:Array zx):Meets (Builtin.«enumerate.__new__» ⟨[.type "enumerate", .ref l], []⟩) (λ_ R s=>Lm b s.heap l items/\ R (.ok (.ret (.ref (s.heap.push (UE b l)).objs.size))) {s with heap:=(s.heap.push (UE b l)).push {cls:= .type "enumerate",data:= .fields #[.none, .bool false, .ref s.heap.objs.size,rawInt 0, .none, .none] }}):=
 .of_wp λprog w A R s h=>by
   obtain⟨hp,g,d,e,os⟩:=s;obtain⟨hl,h⟩:=h;have f:=sub_enumerate;have a:Lm b hp l items:=hl
   wp_walk using J4 a
   refine wpAny_stack_any λst=>AAD ?_;split
   .rename_i c _ _ _ _ _;cases (c==Value.type "enumerate")
    .wp_walk using J4 a
     exact⟨_,rfl,h⟩
    .wp_walk using J4 a
     exact⟨_,rfl,h⟩
   .wp_walk using J4 a
    exact⟨_,rfl,h⟩
section
variable {prog:zp}{w:zm}{A:zk}{E:zx->zw->Prop}{s:zw}
def JJ {b:zq}{l:zu}{items:Array zx}{Q:zx->zw->Prop}(a:Lm b s.heap l items)(h:∀h',IsEnum h' (s.heap.objs.size+1) s.heap.objs.size 0 .none->N2 b h' s.heap.objs.size l 0->h'.objs.size=s.heap.objs.size+2-> (∀b o,s.heap.get? b=some o->h'.get? b=some o)->Q (.ref (s.heap.objs.size+1)) {s with heap:=h'}):wpAny (model prog w) A (call (.type "enumerate") [.ref l]) Q E s:=by
 refine callType_new F.called_enumerate (by decide) (F.typeCall_enumerate_1 _) (F.newCall_enumerate_1 _) (λobj=>F.args_object_init_2 obj _) F.entry_enumerate_new
  (IH b l items) ⟨a, ?_⟩
 have hz:(s.heap.push (UE b l)).objs.size=s.heap.objs.size+1:=ABC ..;show _/\_;rw[hz];have he:IsEnum ((s.heap.push (UE b l)).push
  {cls:= .type "enumerate",data:= .fields #[.none, .bool false, .ref s.heap.objs.size,rawInt 0, .none, .none] }) (s.heap.objs.size+1) s.heap.objs.size 0 .none:=by
  have:=AAS (s.heap.push (UE b l))
   (o:={cls:= .type "enumerate",data:= .fields #[.none, .bool false, .ref s.heap.objs.size,rawInt 0, .none, .none] }) rfl
  rw[hz] at this;exact this
 exact⟨⟨_,he,rfl⟩,h _ he (Yr (AAH _ (AAS _ rfl))) (by rw[ABC,hz]) λb o x=>AAH _ (AAH _ x)⟩
end
section
variable {X:Cx}
def fx (K:AAB)(a:TA):TI:=λc H R=>a c H λvs H1=>∃b l,vs= [.ref l] /\(∃xs,Sq K b H1 l xs)/\R (eZ K b l) H1
def ZL {e:zr}{g:TA}{p c d:Pos}{es:zy zr}{k:Nat}(m:Gl X "enumerate")(n:X.mg "enumerate" =none)(ha:PA X [e] g)(hs:starEach [e] X.env= [(false,eval e X.env)] :=by rfl):PI X (.Tuple es k d) (.Call (.Name "enumerate" p) [e] [] c) (fx X.K g):=by
 intro o s t H R I h;refine Call_ (J5 I m n boot_enumerate (AB1 (BY (ha c o s t H _ I h) λus a ⟨vs,H1,f,u,v⟩=> ?_) (by rw[hs];rfl) rfl));obtain⟨b,l,rfl,⟨xs,hl⟩,q⟩:=v;cases u with
 | cons r w=>
 cases w;cases r;obtain⟨x,rv,p,hz⟩:=f.sq hl;refine JJ p λh' i b2 z y=> ?_;refine ACs i ?_;have j:∀p∈ [a.heap.objs.size+1,a.heap.objs.size],a.heap.objs.size<=p:=λp hp=>by
  have A:p=a.heap.objs.size+1\/p=a.heap.objs.size:=by simpa using hp
  omega
 exact⟨_,_,_,_,H1,rfl,f.kept (t':=a.toks) y,U5 (Nat.succ_ne_self _),⟨⟨.none,i⟩,b2⟩,λp hp=>f.fpOk (j p hp) (f.hok.fresh (j p hp)),q⟩
end
end L2
namespace PL
open PySem PySem.Spec PyProof.Rows L2
def UD {K:AAB}{T M:zu->Prop}{H:Hp}{l:zu}{x:PV}{xs:zy PV}(va:Hu T M H)(hx:x= .tup xs\/x= .lst xs)(r:CC K T M H (.ref l) x):TD K M (eZ K (fE x) l) (Df 0 xs) T H:=by
 obtain⟨_,vs,e,hq,a⟩:=O2 hx r;cases e;refine⟨λi z h=> ?_,λi z v g h c=> ?_,λi h=>⟨vs,hq, ?_⟩⟩
 .obtain ⟨x,hx,_⟩:=FN xs 0 i z h;obtain⟨u,hu,_⟩:=a.get hx;exact⟨vs,u,hq,hu⟩
 .obtain ⟨x,hx,rfl⟩:=FN xs 0 i z h;obtain⟨p,u,rfl,d,rfl,hu⟩:=c;obtain⟨j,b,f⟩:=a.get' (hu vs hq);rw[hx] at b;cases b;have st:=DM.lay (o:= .tup [.int (i:Nat),u]) va.tp d;rw[ACI];exact⟨st, .tup (.inl Ab) (.cons (.int _) (.cons (f.stp st va) .nil))⟩
 .rw [a.length];rw[Jz] at h;exact h
section
variable {X:Cx}
def fD (r:AA):AI:=λτ Q=>r τ λa=>match a with | [x] =>Ni x λxs=>Q (Df 0 xs)|_=>False
def kh {e:zr}{r:AA}{p b a:Pos}{es:zy zr}{c:Nat}(d:Gl X "enumerate")(f:X.mg "enumerate" =none)(ha:SA X [e] r)(hs:starEach [e] X.env= [(false,eval e X.env)] :=by rfl):SI X (.Tuple es c a) (.Call (.Name "enumerate" p) [e] [] b) true (fD r):=by
 obtain⟨t,g,s⟩:=ha;refine⟨_,ZL d f g hs,λB T i τ H R v j h k=>s B T i τ H _ _ j h λvs xs m H1 n o h1=> ?_⟩;split at h1 <;> first | exact h1.elim|skip
 rename_i x;obtain⟨xs,hx,h2⟩:=IK h1;cases o with
 | cons ra t=> cases t;obtain⟨l,us,rfl,hq,w⟩:=O2 hx ra;exact⟨fE x,l,rfl,⟨us,hq⟩,k _ _ m H1 n (λM2 y z u va _=>UD va hx (ra.mv u)) h2⟩
end
instance{r:AA}{τ:A7}{a:zy PV->Prop}:Wp (fD r τ a) (r τ λb=>match b with | [x] =>Ni x λxs=>a (Df 0 xs)|_=>False):=⟨id⟩
section
variable {X:Cx}{a b c d e:zr}{ta tb tc td:AE}{pos:Pos}
def Bf (ha:SE X a ta)(h:starEach [a] X.env=(false,eval a X.env)::starEach [] X.env:=by rfl):SA X [a] (AB ta AM):=B7 ha D4 h
def Al (ha:SE X a ta)(hb:SE X b tb)(h:starEach [a,b] X.env=(false,eval a X.env)::starEach [b] X.env:=by rfl)(h2:starEach [b] X.env=(false,eval b X.env)::starEach [] X.env:=by rfl):SA X [a,b] (AB ta (AB tb AM)):=B7 ha (Bf hb h2) h
def Ek (ha:SE X a ta)(hb:SE X b tb)(hc:SE X c tc)(h:starEach [a,b,c] X.env=(false,eval a X.env)::starEach [b,c] X.env:=by rfl)(h2:starEach [b,c] X.env=(false,eval b X.env)::starEach [c] X.env:=by rfl)(f:starEach [c] X.env=(false,eval c X.env)::starEach [] X.env:=by rfl):SA X [a,b,c] (AB ta (AB tb (AB tc AM))):=B7 ha (Al hb hc h2 f) h
def AU (ha:SE X a ta)(hb:SE X b tb)(hs:PQ b:=by exact λ_ _=>rfl):SE X (.Subscript a b pos) (AW Ai ta tb):=ka kq ha hb hs
def FQ {op:CmpOp}{r:R2}{f:Iq}(g:EN X (compareOp op) r/\CQ X.K r f)(ha:SE X a ta)(hb:SE X b tb)(h:behindInMarks op b=false:=by exact CU _):RG X (.Compare a [op] [b] pos) (Ax (AW f ta tb)):=iK g ha hb h
def CY (i:Nat){x:Str}{pos':Pos}(hN:X.N.Nodup)(he:SE X e ta)(hi:X.N[i]? =some x:=by rfl)(hx:Loc X.env.scope x:=by exact Or.inl rfl)(hs:swapsWith e (some (.Name x pos')) pos.line X.env=pure false:=by rfl)(f:X.fn x=true\/X.env.scope.names.lookup x=some .local:=by first | exact .inl rfl|exact .inr rfl|assumption):SS X (.Assign [.Name x pos'] e pos) (Aj ta (Ak i)):=Ei hN hi hx he hs f
def D5 (i:Nat){x:Str}(hN:X.N.Nodup)(hi:X.N[i]? =some x:=by rfl)(hx:Loc X.env.scope x:=by exact Or.inl rfl)(f:X.fn x=true\/X.env.scope.names.lookup x=some .local:=by first | exact .inl rfl|exact .inr rfl|assumption):SG X (.Name x pos) (Ak i):=L1 hN hi hx f
def Jl (i:Nat){own:Nat}{x:Str}(hN:X.N.Nodup)(hi:X.N[i]? =some x:=by rfl)(hx:Loc X.env.scope x:=by exact Or.inl rfl)(hk:i<own:=by decide)(f:X.fn x=true\/X.env.scope.names.lookup x=some .local:=by first | exact .inl rfl|exact .inr rfl|assumption):SK own X (.Name x pos) (Ak i):=dA hN hi hx hk f
end
def map_pair {a b c:Type}{o:zt a}{f:a->b}{g:a->c}{x:b}{y:c}(h1:o.map f=some x)(h2:o.map g=some y):o.map (λs=>(f s,g s))=some (x,y):=by
 cases o with
 | none=>cases h1
 | some s=>cases h1;cases h2;rfl
def map5 {a A B C D E:Type}{o:zt a}{F:a->A×B×C×D×E}{X:A×B×C×D×E}(h1:o.map (λs=>(F s).1)=some X.1)(h2:o.map (λs=>(F s).2.1)=some X.2.1)(b:o.map (λs=>(F s).2.2.1)=some X.2.2.1)(c:o.map (λs=>(F s).2.2.2.1)=some X.2.2.2.1)(d:o.map (λs=>(F s).2.2.2.2)=some X.2.2.2.2):o.map F=some X:=by
 cases o with
 | none=>cases h1
 | some s=>exact congrArg some (AB5 (AAX h1) (AB5 (AAX h2) (AB5 (AAX b) (AB5 (AAX c) (AAX d)))))
def BO {P:zp}{w:zm}{K:AAB}{mg:Str->zt zx}{base:zl}{k a:Nat}{x:Str}{b:zy Str}{sp:Sp}(H:Has P w K mg base k x b sp)(h:k<=a:=by decide):Has P w K mg base a x b sp:=H.mono h
end PL
open PySem L2 PL PyProof.Rows
local macro_rules | `(tactic| decreasing_trivial_pre_omega)=> `(tactic| first | assumption|omega|((apply Bd.mono);(focus (repeat' (first | assumption|exact FT.m (by assumption)|exact FT.x (by assumption)|exact FT.y (by assumption)|exact FT.z (by assumption)|exact tO|exact mN|with_reducible apply Bd.add|with_reducible apply Bd.sub|with_reducible apply Bd.mul|with_reducible apply Bd.neg|with_reducible apply Bd.mx|with_reducible apply Bd.mn)));first | omega|decide)|decide|(simp only [List.length_map,List.length_append,List.length_cons,List.length_nil,List.length_take,List.length_drop,List.length_zip,List.length_reverse];omega)|(show _<=16777216;simp only [List.length_map,List.length_append,List.length_cons,List.length_nil,List.length_take,List.length_drop,List.length_zip,List.length_reverse];omega)|(show _<16777216;simp only [List.length_map,List.length_append,List.length_cons,List.length_nil,List.length_take,List.length_drop,List.length_zip,List.length_reverse];omega)|(refine And.intro ?_ ?_ <;> decreasing_trivial_pre_omega)|exact rfl)
local macro_rules | `(tactic| array_mem_dec)=> `(tactic| first
 | refine Wp.go ?_
 | ((refine RJ.go ?_ ?_);focus (first | exact True.intro|decreasing_trivial_pre_omega))
 | ((with_reducible apply And.intro);focus decreasing_trivial_pre_omega)
 | ((with_reducible apply s_ifdT);focus decide)
 | ((with_reducible apply s_ifdF);focus decide)
 | ((with_reducible apply s_ifnT);focus decide)
 | ((with_reducible apply s_ifnF);focus decide)
 | refine mK.go (λ_=> ?_) (λ_=> ?_)
 | ((with_reducible apply hV);focus assumption)
 | ((with_reducible apply d8);focus exact rfl)
 | ((with_reducible apply s_isi);(focus (first | exact .inl rfl|exact .inr (.inl rfl)|exact .inr (.inr (.inl rfl))|exact .inr (.inr (.inr rfl))));(focus exact rfl))
 | ((with_reducible apply kU);focus exact rfl)
 | ((with_reducible apply kT);focus exact rfl)
 | intro _
 | with_reducible rfl)
local macro_rules | `(tactic| array_get_dec)=> `(tactic| first | array_mem_dec|refine pV.go ?_|fail)
local macro_rules | `(tactic| ac_rfl)=> `(tactic| repeat' array_mem_dec)
namespace PL
open PySem L2 PyProof.Rows
def FY.open {n B:Nat}{cs:zy C4}(p:FY n B cs):∃a r l,cs=a::r/\r≠ [] /\(a::r).getLast?=some l/\a.1<l.1:=by
 obtain⟨two,c,d,b⟩:=p;match cs,two,b with
 | a::b0::r,_,b=>exact⟨a,b0::r,_,rfl,by simp,ABv (by simp),(AAL.mp b).1 _ (ACn (W8 (ABv (by simp))))⟩
abbrev MO:AS:=
 (Aq (A2 (AB (TR J0 (AW Ai (aV 0) (aC (.int 0)))) (AB (AW Ai (aV 0) (aC (.int 1))) AM))))
def Di:AF:=Am 1 MO
def QR {a:PV}{Q:PV->Prop}(h:MO ⟨λ_=>Q .non,Q,λ_=>False,λ_=>False⟩ [some (.val a)]):Di [a] Q:=h
abbrev OU:AS:=
 (Aq (ii (Ax (AW Nh (aV 1) (aC (.int 2)))) (AW Ai (aV 0) (aC (.int 1))) (AW Ai (aV 0) (aC (.int 0)))))
def EM:AF:=Am 2 OU
def SY {a b:PV}{Q:PV->Prop}(h:OU ⟨λ_=>Q .non,Q,λ_=>False,λ_=>False⟩ [some (.val a),some (.val b)]):EM [a,b] Q:=h
def Q8 (b:T3)(v:PV):Prop:=v=CM b\/v= .lst [fr b.1,fr b.2.1,fr b.2.2]
def av (cs:zy C4)(b:T3)(v:PV):Prop:=∃p w,Kv cs p/\Q8 b w/\(v= .tup [p,w] \/v= .lst [p,w])
def gP (r:Rat):PV.tup [.int (-r.num), .int r.den] =fr (-r):=by unfold fr;rw[Rat.neg_num,Rat.neg_den]
def P0 {r:Rat}{Q:PV->Prop}(q:Q (fr (-r))):Di [fr r] Q:=by
 apply QR;repeat' array_get_dec
 rw[gP];exact q
def c0 {x:PV}{c:C4}{R:PV->Prop}(hx:x=cor c\/x=corL c)(h:R (fr c.1)):Ai x (.int 0) R:=by rcases hx with rfl|rfl <;> exact h
def f0 {cs:zy C4}{b:T3}{v:PV}{R:PV->Prop}(hv:av cs b v)(h:∀p,Kv cs p->R p):Ai v (.int 0) R:=by obtain⟨p,w,hp,hw,hv⟩:=hv;rcases hv with rfl|rfl <;> exact h p hp
def f1 {cs:zy C4}{b:T3}{v:PV}{R:PV->Prop}(hv:av cs b v)(h:∀w,Q8 b w->R w):Ai v (.int 1) R:=by obtain⟨p,w,hp,hw,hv⟩:=hv;rcases hv with rfl|rfl <;> exact h w hw
def b2 {b:T3}{w:PV}{R:PV->Prop}(hw:Q8 b w)(h:R (fr b.2.2)):Ai w (.int 2) R:=by rcases hw with rfl|rfl <;> exact h
def Yy {k n:Nat}(h:k<=n)(a:n<1000000):k<sizeLine:=AAs h (AAV a (AAo rfl))
def c9 {w:PV}{x y:Rat}{k:Int}(a:∀{R:PV->Prop},R (fr x)->Ai w (.int 0) R)(h1:∀{R:PV->Prop},R (fr y)->Ai w (.int 1) R){Q:PV->Prop}(q:Q (fr (if k=2 then y else x))):EM [w, .int k] Q:=by
 apply SY;ac_rfl
 .rename_i h;rw[AAE h] at q;exact h1 q
 .rename_i h;rw[AAC h] at q;exact a q
def FM {b:T3}{w:PV}{k:Int}(hw:Q8 b w){Q:PV->Prop}(q:Q (fr (if k=2 then b.2.1 else b.1))):EM [w, .int k] Q:=
 c9 (λh=>by rcases hw with rfl|rfl <;> exact h) (λh=>by rcases hw with rfl|rfl <;> exact h) q
def b9 {xs:zy PV}{k:Int}{R:PV->Prop}(a:0<=k)(h1:k<xs.length)(h:∀x∈xs,R x):Ai (.lst xs) (.int k) R:=by show cN (Jp xs k) R;have hk:xs[k.toNat]? =some (xs[k.toNat]'(by omega)):=AAU (by omega);have e:=DB hk;rw[show ((k.toNat:Nat):Int)=k by omega] at e;rw[e];exact h _ (ABd _)
def Fd {xs:zy Rat}{k:Int}{R:PV->Prop}(a:0<=k)(h1:k<xs.length)(h:∀x∈xs,R (fr x)):Ai (.lst (xs.map fr)) (.int k) R:=by refine b9 a (by simpa using h1) λx hx=> ?_;obtain⟨y,hy,rfl⟩:=AAN.mp hx;exact h y hy
def i3 {r:Rat}(h:r.num.natAbs<2^8:=by decide +kernel)(h2:r.den<2^8:=by decide +kernel):Bd 8 r:=⟨h,h2⟩
section
variable {τ:A7}
instance{i:Nat}{xs:zy PV}{P:zy PV->Prop}[h:dY τ i (.own xs)] :Wp (PX i τ P) (P xs):=⟨λk=>by unfold PX;rw[h.e];exact k⟩
end
def absR (r:Rat):Rat:=if r<0 then -r else r
def Bd.absR {n:Nat}{r:Rat}(h:Bd n r):Bd n (absR r):=by unfold PL.absR;split;exact h.neg;exact h
def nU (p q:T3)(d:Rat×Rat):T3:=((p.1-q.1)/d.1,(p.2.1-q.2.1)/d.1,(p.2.2-q.2.2)/d.2)
def mS (o:T3):Rat:=mx (mx (mx 0 (absR o.1)) (absR o.2.1)) (absR o.2.2)
def aN (a l b c:C4)(m:Rat):Prop:=(¬m<a.1/\¬m<b.1)/\m<l.1/\m<c.1
instance {a l b c:C4}{m:Rat}:Decidable (aN a l b c m):=by unfold aN;infer_instance
abbrev Jr:AS:=
 (AY (Aj (AW Pb (AW Bl (aV 2) (aV 3)) (aC (.int 2))) (Ak 4))
   (CF (Ax (AN 2 Ar (AB (AW Ai (aV 0) (aV 4)) (AB (aV 1) AM)))) (Aj (AW Bl (aV 4) (aC (.int 1))) (Ak 2)) (Aj (aV 4) (Ak 3))))
abbrev Jt:AS:=
 (AY (Hv (Ax (AW YR (aV 2) (aV 3))) Jr)
   (Aq (aV 2)))
abbrev Js:AS:=
 (AY (Aj (FR IE (AB (aV 0) AM)) (Ak 3))
   Jt)
abbrev HW:AS:=
 (AY (Aj (aC (.int 0)) (Ak 2))
   Js)
def C5:AF:=Am 5 HW
def Lh {a b:PV}{Q:PV->Prop}(h:HW ⟨λ_=>Q .non,Q,λ_=>False,λ_=>False⟩ [some (.val a),some (.val b),none,none,none]):C5 [a,b] Q:=h
abbrev Kr:AS:=
 (AY (Aj (TN (AN 2 C5 (AB (aV 1) (AB (aV 2) AM)))) (Ak 3))
   (CF (RL (RM (Ax (AW Nh (aV 3) (FR IE (AB (aV 1) AM)))) (Ax (AW Ws (AW Ai (aV 1) (aV 3)) (aV 2))))) (DT 1 Y0 (AB (aV 3) (AB (aV 2) AM))) BV))
abbrev Q5:AS:=
 (AY (ED (Jy (aV 0)) (Ak 2) Kr)
   (Aq (aV 1)))
abbrev Q4:AS:=
 (AY (GR (DS AM) 1)
   Q5)
def GP:AF:=Am 4 Q4
def Ue {a:PV}{Q:PV->Prop}(h:Q4 ⟨λ_=>Q .non,Q,λ_=>False,λ_=>False⟩ [some (.val a),none,none,none]):GP [a] Q:=h
abbrev Qz:AS:=
 (AY (TM 3 jX (X5 (aV 1) (aV 4) (aV 5)))
   (DT 2 GV (AB (A2 (AB (aV 4) (AB (aV 5) (AB (aV 3) AM)))) AM)))
abbrev Q3:AS:=
 (AY (ED (Jy (AN 1 GP (AB (Ej (Bz (Jy (Ej (TQ (AB (aV 1) AM)))) 2 [] (Hx 2 (AZ (Ak 0) (AZ (Ak 1) Bq))) Dd (aV 0))) AM))) (Ak 4) (ED (Jy (A2 (AB (aC (.int 0)) (AB (aC (.int 1)) AM)))) (Ak 5) (CF (Ax (bC (aV 4) (aV 5) (aV 1))) Qz BV)))
   (Aq (aV 2)))
abbrev Q1:AS:=
 (AY (Aj (aC (.int 0)) (Ak 3))
   Q3)
abbrev Q0:AS:=
 (AY (GR (DS AM) 2)
   Q1)
abbrev Qy:AS:=
 (AY (Aj (AN 1 Gu (AB (aV 0) AM)) (Ak 1))
   Q0)
def GO:AF:=Am 6 Qy
def Ud {a:PV}{Q:PV->Prop}(h:Qy ⟨λ_=>Q .non,Q,λ_=>False,λ_=>False⟩ [some (.val a),none,none,none,none,none]):GO [a] Q:=h
abbrev PD:AS:=
 (AY (DT 2 GV (AB (A2 (AB (AW Ai (aV 3) (aC (.int 0))) (AB (AW Ai (aV 3) (aC (.int 1))) (AB (aV 4) AM)))) AM))
   (Aj (aC .non) (Ak 3)))
abbrev FS:AS:=
 (AY (CF (Ax (AW On (aV 3) (aC .non))) (DT 2 GV (AB (A2 (AB (AW Ai (aV 3) (aC (.int 0))) (AB (AW Ai (aV 3) (aC (.int 1))) (AB (aC .non) AM)))) AM)) BV)
   (Aq (FR DV (AB (aV 2) AM))))
abbrev PH:AS:=
 (AY (ED (Jy (AN 1 GO (AB (aV 0) AM))) (Hx 3 (AZ (Ak 4) (AZ (Ak 5) (AZ (Ak 6) Bq)))) (CF (Er (Ax (AW HN (aV 3) (aC .non))) (Ax (AW pX (aV 6) (aV 1)))) (Aj (A2 (AB (aV 4) (AB (AW HP (aC (.int 1)) (aV 5)) AM))) (Ak 3)) (CF (Er (Ax (AW On (aV 3) (aC .non))) (Ax (AW YR (aV 6) (aV 1)))) PD BV)))
   FS)
abbrev PF:AS:=
 (AY (Aj (aC .non) (Ak 3))
   PH)
abbrev OR:AS:=
 (AY (GR (DS AM) 2)
   PF)
def EJ:AF:=Am 7 OR
def SU {a b:PV}{Q:PV->Prop}(h:OR ⟨λ_=>Q .non,Q,λ_=>False,λ_=>False⟩ [some (.val a),some (.val b),none,none,none,none,none]):EJ [a,b] Q:=h
abbrev MX:AS:=
 (Aq (AN 2 EJ (AB (aV 0) (AB (aC (.int 1)) AM))))
def EX:AF:=Am 1 MX
def QW {a:PV}{Q:PV->Prop}(h:MX ⟨λ_=>Q .non,Q,λ_=>False,λ_=>False⟩ [some (.val a)]):EX [a] Q:=h
def ins:zy Rat->Rat->zy Rat
 | [],x=> [x]
 | q::r,x=>if q<x then q::ins r x else if q=x then q::r else x::q::r
abbrev RI (qs:zy Rat):Prop:=qs.Pairwise (· < ·)
theorem Px {x y:Rat}:∀{qs:zy Rat},y∈ins qs x↔y=x\/y∈qs
 | [] =>by simp[ins]
 | q::r=>by
   unfold ins;split
   .rw [AAF,Px,AAF];grind
   .split
    .rename_i h;subst h;simp
    .simp
theorem WH {x:Rat}:∀{qs:zy Rat},RI qs->RI (ins qs x)
 | [],_=>by simp[ins]
 | q::r,h=>by
   obtain⟨h1,h2⟩:=AAL.mp h;unfold ins;split
   .rename_i hq;refine AAL.mpr ⟨λy hy=> ?_,WH h2⟩;rcases Px.mp hy with rfl|hy
    .exact hq
    .exact h1 y hy
   .split
    .exact h
    .refine AAL.mpr ⟨λy hy=> ?_,h⟩;rcases AAF.mp hy with rfl|hy
     .grind
     .have:=h1 y hy;grind
theorem Vj {x:Rat}:∀{qs:zy Rat},(ins qs x).length<=qs.length+1
 | [] =>by simp[ins]
 | q::r=>by
   have:=Vj (x:=x) (qs:=r);unfold ins;split
   .simp;omega
   .split <;> simp
structure At (qs:List Rat) (x:Rat) (k:Nat):Prop where
 le:k<=qs.length
 lo:∀q∈qs.take k,q<x
 hi:∀q∈qs.drop k,¬q<x
theorem TV:∀{qs:zy Rat} {x:Rat} {k:Nat},RI qs->At qs x k->ins qs x=if qs[k]? =some x then qs else qs.take k++x::qs.drop k
 | [],x,k,_,h=>by have:=h.le;simp at this;subst this;simp[ins]
 | q::r,x,0,_,h=>by
   have:=h.hi q (by simp);unfold ins;rw[AAC this];by_cases e:q=x
   .rw [AAE e,AAE (by simp[e])]
   .rw [AAC e,AAC (by simp[e])];rfl
 | q::r,x,k+1,hs,h=>by have hq:=h.lo q (by simp);have ih:=TV (qs:=r) (x:=x) (k:=k) (AAL.mp hs).2 ⟨by have:=h.le;simp at this;exact this,λy hy=>h.lo y (by simp[hy]),λy hy=>h.hi y (by simpa using hy)⟩;unfold ins;rw[AAE hq,ih];simp only[List.getElem?_cons_succ,ADJ,List.drop_succ_cons];split <;> rfl
theorem Qo:∀{a b:zy Rat},RI a->RI b->(∀x,x∈a↔x∈b)->a=b
 | [], [],_,_,_=>rfl
 | [],y::b,_,_,h=>by have:=(h y).mpr (by simp);simp at this
 | x::a, [],_,_,h=>by have:=(h x).mp (by simp);simp at this
 | x::a,y::b,ha,hb,h=>by
   obtain⟨f,i⟩:=AAL.mp ha;obtain⟨g,b2⟩:=AAL.mp hb;have c:x=y:=by
    rcases AAF.mp ((h x).mp (by simp)) with e|e
    .exact e
    .rcases AAF.mp ((h y).mpr (by simp)) with d|d
     .exact d.symm
     .have:=g x e;have:=f y d;grind
   subst c;congr 1;refine Qo i b2 λz=>⟨λhz=> ?_,λhz=> ?_⟩
   .rcases AAF.mp ((h z).mp (by simp[hz])) with e|e
    .subst e;have:=f z hz;grind
    .exact e
   .rcases AAF.mp ((h z).mpr (by simp[hz])) with e|e
    .subst e;have:=g z hz;grind
    .exact e
def BW (xs:zy Rat):zy Rat:=xs.foldl ins []
theorem Lz:∀(xs qs:zy Rat),RI qs->RI (xs.foldl ins qs)/\(∀y,y∈xs.foldl ins qs↔y∈xs\/y∈qs)/\(xs.foldl ins qs).length<=qs.length+xs.length
 | [],qs,h=>⟨h,by simp,by simp⟩
 | x::xs,qs,h=>by
   obtain⟨h1,h2,a⟩:=Lz xs (ins qs x) (WH h);refine⟨h1,λy=> ?_, ?_⟩
   .rw [AA3,h2,Px,AAF];grind
   .have:=Vj (x:=x) (qs:=qs);rw[AA3,AAZ];omega
def CB {xs:zy Rat}:RI (BW xs):=(Lz xs [] .nil).1
def BI {xs:zy Rat}{y:Rat}:y∈BW xs↔y∈xs:=by rw[BW,(Lz xs [] .nil).2.1];simp
def Db {xs:zy Rat}:(BW xs).length<=xs.length:=by have:=(Lz xs [] .nil).2.2;unfold BW;simpa using this
def NM {a b:zy Rat}(h:∀x,x∈a↔x∈b):BW a=BW b:=Qo CB CB λx=>by rw[BI,BI,h]
theorem Qq:∀{qs:zy Rat} {m:Nat} {c x:Rat},RI qs->qs[m]? =some c->c<x->∀q∈qs.take (m+1),q<x
 | [],m,c,x,_,e,_=>by simp at e
 | a::r,0,c,x,_,e,h=>by simp at e;subst e;simp[h]
 | a::r,m+1,c,x,hs,e,h=>by
   obtain⟨h1,h2⟩:=AAL.mp hs;have b:r[m]? =some c:=by simpa using e
   intro q hq;rw[ADJ] at hq;rcases AAF.mp hq with rfl|hq
   .have:=h1 c (ABb b);grind
   .exact Qq h2 b h q hq
theorem VX:∀{qs:zy Rat} {m:Nat} {c x:Rat},RI qs->qs[m]? =some c->¬c<x->∀q∈qs.drop m,¬q<x
 | [],m,c,x,_,e,_=>by simp at e
 | a::r,0,c,x,hs,e,h=>by
   simp at e;subst e;intro q hq;rcases AAF.mp hq with rfl|hq
   .exact h
   .have:=(AAL.mp hs).1 q hq;grind
 | a::r,m+1,c,x,hs,e,h=>by intro q hq;exact VX (AAL.mp hs).2 (by simpa using e) h q (by simpa using hq)
def YF {qs:zy Rat}{x:Rat}{B M:Nat}(hs:RI qs)(hl:qs.length<=1000000)(hq:∀q∈qs,Bd B q)(hx:Bd M x)(r:B<=4000)(s:M<=4000){Q:PV->Prop}(q:∀k:Nat,At qs x k->Q (.int k)):C5 [.lst (qs.map fr),fr x] Q:=by
 apply Lh;repeat' array_get_dec
 refine eM (λn τ=>∃(lo hi:Nat) (z:zt AV),hi-lo<n/\lo<=hi/\hi<=qs.length/\(∀q∈qs.take lo,q<x)/\(∀q∈qs.drop hi,¬q<x)/\τ= [some (.val (.lst (qs.map fr))),some (.val (fr x)),some (.val (.int lo)),some (.val (.int hi)),z]) ?_ ?_ (n:=qs.length+1) ⟨0,qs.length,none,by omega,by omega,by omega,by simp,by simp,rfl⟩
 .rintro n τ R d ⟨lo,hi,z,h1,h2,i,f,g,rfl⟩;have j:frz [some (.val (.lst (qs.map fr))),some (.val (fr x)),some (.val (.int lo)),some (.val (.int hi)),z] = [some (.val (.lst (qs.map fr))),some (.val (fr x)),some (.val (.int lo)),some (.val (.int hi)),bL z] :=rfl;rw[j];repeat' array_get_dec
  .rename_i l;refine⟨⟨by decide,by decide⟩, ?_⟩;have o:((lo:Int)+hi).fdiv 2=((lo+hi)/2:Nat):=by rw[ABP _ (by decide)];omega
   rw[o];have m1:(lo+hi)/2<hi:=by omega
   have m2:lo<=(lo+hi)/2:=by omega
   generalize (lo+hi)/2=m at *;repeat' array_get_dec
   rename_i c p hc;have a:qs[m]? =some c:=p;have t:=hq c hc;repeat' array_get_dec
   .rename_i b;refine d _ ⟨m+1,hi,_,by omega,by omega,i,Qq hs a b,g,rfl⟩
   .rename_i b;refine d _ ⟨lo,m,_,by omega,m2,by omega,f,VX hs a b,rfl⟩
  .rename_i l;have e:lo=hi:=by omega
   subst e;exact q lo ⟨by omega,f,g⟩
 .rintro τ ⟨lo,hi,z,h,_⟩;omega
def XS {v:PV}{xs:zy Rat}{B:Nat}(hv:v= .lst (xs.map fr)\/v= .tup (xs.map fr))(hl:xs.length<=1000)(hx:∀x∈xs,Bd B x)(m:B<=4000){Q:PV->Prop}(q:Q (.lst ((BW xs).map fr))):GP [v] Q:=by
 apply Ue;have key:∀{a b:zt AV},C7 (Ak 2) Kr ⟨Aq (aV 1) ⟨λ_=>Q .non,Q,λ_=>False,λ_=>False⟩,Q,λ_=>False,λ_=>False⟩ (xs.map fr) [some (.val v),some (.own []),a,b] :=by
  intro a b;refine Cu fr (λus vs τ=>∃a b,τ= [some (.val v),some (.own ((BW us).map fr)),a,b]) ?_ ?_ ⟨_,_,rfl⟩
  .rintro τ ⟨a,b,rfl⟩;repeat' array_get_dec
   exact q
  .rintro us c vs e τ R n ⟨a,b,rfl⟩;have ul:us.length<=1000:=by have:=congrArg List.length e;simp at this;omega
   have r:=Db (xs:=us);have o:∀y∈BW us,Bd B y:=λy hy=>hx y (by rw[<-e];simp[BI.mp hy]);have p:Bd B c:=hx c (by rw[<-e];simp);have f:∀(l:zy Rat) a b,l=ins (BW us) c->R [some (.val v),some (.own (l.map fr)),a,b] :=λl a b h=>n _ ⟨a,b,by rw[h,show BW (us ++ [c])=ins (BW us) c by unfold BW;rw[ABU];rfl]⟩;repeat' array_get_dec
   refine YF CB (by omega) o p m m λk hk=> ?_;have s:=hk.le;have i:=TV CB hk;repeat' array_get_dec
   .rename_i h1;have j:(BW us)[k]? =none:=List.getElem?_eq_none (by omega);rw[j,AAC (by simp)] at i;have:=f _ (some (.val (fr c))) (some (.val (.int k))) i.symm;rw[AAT,AAK,ADX,ACE] at this;exact this
   .rename_i h1 d j _ h2;have g:(BW us)[k]? =some d:=j;rw[g,AAC (by simpa using h2)] at i;have:=f _ (some (.val (fr c))) (some (.val (.int k))) i.symm;rw[AAT,AAK,ADX,ACE] at this;exact this
   .rename_i h1 d j _ h2;have g:(BW us)[k]? =some d:=j;rw[g,AAE (by rw[h2])] at i;exact f _ _ _ i.symm
 rcases hv with rfl|rfl;all_goals
  ac_rfl;exact key
abbrev Pl:=Rat×Int
abbrev BD:=Rat×Int×zt Rat
def bp (s:BD):Pl:=(s.1,1-s.2.1)
def ep (s:BD):zt Pl:=s.2.2.map λe=>(e,0)
def Eu (p:Pl):FK:=((p.1.num,p.1.den),p.2)
def Ps {p q:Pl}(h:Eu p=Eu q):p=q:=by obtain⟨a,i⟩:=p;obtain⟨b,j⟩:=q;unfold Eu at h;simp only[ADY,Int.ofNat_inj] at h;obtain⟨⟨h1,h2⟩,c⟩:=h;have:a=b:=Rat.ext h1 h2;rw[this,c]
def Wr:zt Rat->PV|none=> .non|some e=>fr e
def BS (s:BD):PV:= .tup [fr s.1, .int s.2.1,Wr s.2.2]
def cv (s:BD):PV:= .lst [fr s.1, .int s.2.1,Wr s.2.2]
def hG {s:BD}{x:PV}(h:x=BS s\/x=cv s):V7 x=some ((s.1.num,(s.1.den:Int)),s.2.1,s.2.2.map λe=>(e.num,(e.den:Int))):=by obtain⟨b,i,e⟩:=s;rcases h with rfl|rfl <;> cases e <;> rfl
def aR {m:zy (FK×Int)}{k a:FK}{v:Int}:BC (OK m k v) a=if a=k then some v else BC m a:=by
 unfold OK;by_cases hk:(m.any λp=>decide (p.1=k))=true
 .rw [AAE hk];induction m with
  | nil=>simp at hk
  | cons p r ih=>
    by_cases e:p.1=k
    .by_cases b:a=k
     .subst b;simp[BC,e]
     .have:¬k=a:=λz=>b z.symm;by_cases d:(r.any λp=>decide (p.1=k))=true
      .have:=ih d;simpa[BC,e,b,this, ‹¬k=a›] using this
      .have f:r.map (λp=>if p.1=k then (p.1,v) else p)=r:=by
        conv=>rhs;rw[<-List.map_id r]
        apply AA7;intro q hq;have:¬q.1=k:=λz=>d (AAh.mpr ⟨q,hq,by simpa using z⟩);rw[AAC this];rfl
       simp only[AAK,e,AA5,f];simp[BC,e,b,this]
    .have d:(r.any λp=>decide (p.1=k))=true:=by simpa[e] using hk
     have:=ih d;by_cases c:p.1=a
     .have:¬a=k:=λz=>e (c.trans z);simp[BC,e,c,this]
     .simpa [BC,e,c] using this
 .rw [AAC hk];induction m with
  | nil=>
    by_cases b:a=k
    .subst b;simp[BC]
    .have:¬k=a:=λz=>b z.symm;simp[BC,b,this]
  | cons p r ih=>
    have e:¬p.1=k:=λz=>hk (by simp[z]);have d:¬(r.any λp=>decide (p.1=k))=true:=λz=>hk (by simp only[ABG,z,Bool.or_true]);have:=ih d;by_cases c:p.1=a
    .have:¬a=k:=λz=>e (c.trans z);simp[BC,c,this]
    .simpa [BC,c] using this
def cA {m:zy (FK×Int)}{k a:FK}{v:Int}:a∈(OK m k v).map (·.1)↔a=k\/a∈m.map (·.1):=by
 unfold OK;split
 .rename_i hk;obtain⟨q,hq,e⟩:=AAh.mp hk;have e:q.1=k:=by simpa using e
  have:(m.map λp=>if p.1=k then (p.1,v) else p).map (·.1)=m.map (·.1):=by rw[AAc];apply AA7;intro p _;by_cases z:p.1=k <;> simp[z]
  rw[this];refine⟨.inr,λh=>h.elim (λz=> ?_) id⟩;rw[z,<-e];exact AAN.mpr ⟨q,hq,rfl⟩
 .rw [AAT,AAO];simp only[AAK,ABc,AAW];exact Or.comm
def dW {m:zy (FK×Int)}{k:FK}:(BC m k).isSome=true↔k∈m.map (·.1):=by
 unfold BC;rw[ACF,List.find?_isSome,AAN];constructor
 .rintro ⟨p,hp,e⟩;exact⟨p,hp,by simpa using e⟩
 .rintro ⟨p,hp,e⟩;exact⟨p,hp,by simpa using e⟩
def JY (s:BD)(p:Pl):Int:=(if bp s=p then 1 else 0)-(if ep s=some p then 1 else 0)
def cnt (ss:zy BD)(p:Pl):Int:=(ss.map λs=>JY s p).sum
def JT (ss:zy BD)(p:Pl):Prop:=∃s∈ss,bp s=p\/ep s=some p
def J1 {m:zy (FK×Int)}{k a:FK}{d:Int}:(BC (bump m k d) a).getD 0=(BC m a).getD 0+if a=k then d else 0:=by
 unfold bump;rw[aR];by_cases e:a=k
 .subst e;simp
 .simp [e]
def M1 {m:zy (FK×Int)}{k a:FK}{d:Int}:a∈(bump m k d).map (·.1)↔a=k\/a∈m.map (·.1):=cA
inductive Ea:List PV->List BD->Prop where
 | nil:Ea [] []
 | cons {x:PV} {s:BD} {xs:List PV} {ss:List BD} (h:x=BS s\/x=cv s) (t:Ea xs ss):Ea (x::xs) (s::ss)
def Ea.length:∀{xs:zy PV} {ss:zy BD},Ea xs ss->xs.length=ss.length
 | _,_, .nil=>rfl
 | _,_, .cons _ t=>by simp[t.length]
def KJ (ss:zy BD):Ea (ss.map BS) ss:=by
 induction ss with
 | nil=>exact .nil
 | cons s ss ih=>exact .cons (.inl rfl) ih
def Si {m:zy (FK×Int)}{s:BD}:(∀p,(BC (Fu m (s.1.num,(s.1.den:Int)) s.2.1 (s.2.2.map λe=>(e.num,(e.den:Int)))) (Eu p)).getD 0=(BC m (Eu p)).getD 0+JY s p)/\ ∀k,k∈(Fu m (s.1.num,(s.1.den:Int)) s.2.1 (s.2.2.map λe=>(e.num,(e.den:Int)))).map (·.1)↔k∈m.map (·.1)\/∃p,(bp s=p\/ep s=some p)/\k=Eu p:=by
 obtain⟨b,h,e⟩:=s;have a:∀p:Pl,(Eu p=((b.num,(b.den:Int)),1-h))↔bp (b,h,e)=p:=λp=>⟨λz=>(Ps (p:=p) (q:=(b,1-h)) z).symm,λz=>by rw[<-z];rfl⟩;cases e with
 | none=>
   refine⟨λp=> ?_,λk=> ?_⟩
   .show (BC (bump m ((b.num,(b.den:Int)),1-h) 1) (Eu p)).getD 0=_;rw[J1];simp only[a,JY,ep];simp
   .show k∈(bump m ((b.num,(b.den:Int)),1-h) 1).map (·.1)↔_;rw[M1];constructor
    .rintro (z|z)
     .exact .inr ⟨_, .inl rfl,z⟩
     .exact .inl z
    .rintro (z|⟨p,z|z,hk⟩)
     .exact .inr z
     .exact .inl (by rw[hk,<-z];rfl)
     .cases z
 | some e=>
   have c:∀p:Pl,(Eu p=((e.num,(e.den:Int)),0))↔ep (b,h,some e)=some p:=λp=>⟨λz=>by rw[<-Ps (p:=(e,0)) (q:=p) z.symm];rfl,λz=>by cases z;rfl⟩;refine⟨λp=> ?_,λk=> ?_⟩
   .show (BC (bump (bump m ((b.num,(b.den:Int)),1-h) 1) ((e.num,(e.den:Int)),0) (-1)) (Eu p)).getD 0=_;rw[J1,J1];simp only[a,c,JY];split <;> split <;> omega
   .show k∈(bump (bump m ((b.num,(b.den:Int)),1-h) 1) ((e.num,(e.den:Int)),0) (-1)).map (·.1)↔_;rw[M1,M1];constructor
    .rintro (z|z|z)
     .exact .inr ⟨(e,0), .inr rfl,z⟩
     .exact .inr ⟨_, .inl rfl,z⟩
     .exact .inl z
    .rintro (z|⟨p,z|z,hk⟩)
     .exact .inr (.inr z)
     .exact .inr (.inl (by rw[hk,<-z];rfl))
     .exact .inl (by rw[hk];exact(c p).mpr z)
theorem O3:∀{xs:zy PV} {ss:zy BD} (m0:zy (FK×Int)),Ea xs ss->∃m,FB xs m0=some m/\(∀p,(BC m (Eu p)).getD 0=(BC m0 (Eu p)).getD 0+cnt ss p)/\(∀k,k∈m.map (·.1)↔k∈m0.map (·.1)\/∃p,JT ss p/\k=Eu p)/\m.length<=m0.length+2*ss.length
 | _,_,m0, .nil=>⟨m0,rfl,λp=>by simp[cnt],λk=>by simp[JT],by simp⟩
 | x::xs,s::ss,m0, .cons h t=>by
   obtain⟨m,h1,h2,d,i⟩:=O3 (Fu m0 (s.1.num,(s.1.den:Int)) s.2.1 (s.2.2.map λe=>(e.num,(e.den:Int)))) t;obtain⟨f,g⟩:=Si (m:=m0) (s:=s);refine⟨m, ?_,λp=> ?_,λk=> ?_, ?_⟩
   .unfold FB;rw[hG h];exact h1
   .rw [h2,f];simp[cnt];omega
   .rw [d,g];constructor
    .rintro ((z|⟨p,z,e⟩)|⟨p,⟨c,a,z⟩,e⟩)
     .exact .inl z
     .exact .inr ⟨p,⟨s,by simp,z⟩,e⟩
     .exact .inr ⟨p,⟨c,by simp[a],z⟩,e⟩
    .rintro (z|⟨p,⟨c,a,z⟩,e⟩)
     .exact .inl (.inl z)
     .rcases AAF.mp a with rfl|a
      .exact .inl (.inr ⟨p,z,e⟩)
      .exact .inr ⟨p,⟨c,a,z⟩,e⟩
   .have:=LB (m:=m0) (b:=(s.1.num,(s.1.den:Int))) (h:=s.2.1) (e:=s.2.2.map λe=>(e.num,(e.den:Int)));simp only[AAZ];omega
def K4 (x p:Pl):zq:=decide (x.1<p.1)||(decide (x.1=p.1)&&decide (x.2<=p.2))
def Ap (s:BD)(p:Pl):zq:=(decide (s.1<p.1)||(decide (s.1=p.1)&&decide (0<s.2.1+p.2)))&&(match s.2.2 with | none=>true|some e=>decide (p.1<e))
structure BR (B:Nat) (s:BD):Prop where
 b:Bd B s.1
 h:s.2.1=0\/s.2.1=1
 e:∀e,s.2.2=some e->s.1<e/\Bd B e
def tm (s:BD)(p:Pl):Int:=(if K4 (bp s) p=true then 1 else 0)-(if (ep s).any (K4 · p)=true then 1 else 0)
def lC {B:Nat}{s:BD}{p:Pl}(ok:BR B s)(hp:0<=p.2):tm s p=if Ap s p=true then 1 else 0:=by
 obtain⟨b,h,e⟩:=s;obtain⟨q,i⟩:=p;have g:h=0\/h=1:=ok.h;have hp:0<=i:=hp;have d:K4 (bp (b,h,e)) (q,i)=(decide (b<q)||(decide (b=q)&&decide (0<h+i))):=by unfold K4 bp;congr 2;exact ABS.mpr (by show 1-h<=i↔0<h+i;omega)
 cases e with
 | none=> unfold tm Ap;rw[d];simp[ep]
 | some e=>
   have j:b<e:=(ok.e e rfl).1;have f:(ep (b,h,some e)).any (K4 · (q,i))= !decide (q<e):=by
    show K4 (e,0) (q,i)=_;unfold K4;by_cases z:q<e
    .have a:¬e<q:=by grind
     have c:¬e=q:=by grind
     simp[z,a,c]
    .by_cases a:e<q
     .simp [z,a]
     .have c:e=q:=by grind
      simp[c,hp]
   unfold tm Ap;rw[d,f];by_cases z:q<e
   .simp [z]
   .have a:b<q:=by grind
    simp[z,a]
def Hn (ss:zy BD)(p:Pl):Nat:=(ss.filter (Ap · p)).length
theorem T8 {B:Nat}{p:Pl}(hp:0<=p.2):∀{ss:zy BD},(∀s∈ss,BR B s)->(Hn ss p:Int)=(ss.map λs=>tm s p).sum
 | [],_=>rfl
 | s::ss,h=>by
   have ih:=T8 hp (ss:=ss) λx hx=>h x (by simp[hx]);have e:=lC (p:=p) (h s (by simp)) hp;rw[AAK,ACC,<-ih,e];unfold Hn;rw[ABh];split
   .simp;omega
   .simp
def Lr (x p:Pl):Prop:=x.1<p.1\/(x.1=p.1/\x.2<p.2)
def G2 {a b c:Pl}(h:Lr a b)(h2:Lr b c):Lr a c:=by
 unfold Lr at *;rcases h with h|⟨h,h'⟩ <;> rcases h2 with h2|⟨h2,d⟩
 .left;grind
 .left;grind
 .left;grind
 .right;exact⟨by grind,by omega⟩
def DE {x p:Pl}:K4 x p=true↔Lr x p\/x=p:=by
 obtain⟨a,i⟩:=x;obtain⟨b,j⟩:=p;unfold K4 Lr;simp only[ABV,AAf,ACt,ADY];constructor
 .rintro (h|⟨h,h2⟩)
  .exact .inl (.inl h)
  .by_cases e:i=j
   .exact .inr ⟨h,e⟩
   .exact .inl (.inr ⟨h,by omega⟩)
 .rintro ((h|⟨h,h2⟩)|⟨h,h2⟩)
  .exact .inl h
  .exact .inr ⟨h,by omega⟩
  .exact .inr ⟨h,by omega⟩
def Lu {p:Pl}:¬Lr p p:=by
 unfold Lr;rintro(h|⟨_,h⟩)
 .grind
 .omega
def Rq (x:Pl):zt Pl->zq|none=>false|some p=>K4 x p
def dR (s:BD)(o:zt Pl):Int:=(if Rq (bp s) o=true then 1 else 0)-(if (ep s).any (Rq · o)=true then 1 else 0)
def nR:zt Pl->Pl->Prop|none,_=>True|some q,p=>Lr q p
def Jn {x p:Pl}{o:zt Pl}(hx:Rq x o=true\/x=p\/Lr p x)(a:nR o p):K4 x p=(Rq x o||decide (x=p))/\¬(Rq x o=true/\x=p):=by
 have h1:Rq x o=true->Lr x p:=λh=>by
  cases o with
  | none=>cases h
  | some q=>rcases DE.mp h with h|h
            .exact G2 h a
            .rw [h];exact a
 refine⟨?_,λh=>by rw[h.2] at h1;exact Lu (h1 (h.2 ▸ h.1))⟩;rw[AAz,ABV,ACt,DE];constructor
 .rintro (h|h)
  .rcases hx with z|z|z
   .exact .inl z
   .exact .inr z
   .exact absurd (G2 h z) Lu
  .exact .inr h
 .rintro (h|h)
  .exact .inl (h1 h)
  .exact .inr h
def Yk {A:zq}{E:Prop}[Decidable E](h:¬(A=true/\E)):(if (A||decide E)=true then (1:Int) else 0)=(if A=true then 1 else 0)+if E then 1 else 0:=by cases A <;> by_cases e:E <;> simp_all
def dS {s:BD}{p:Pl}{o:zt Pl}(hb:Rq (bp s) o=true\/bp s=p\/Lr p (bp s))(he:∀x,ep s=some x->Rq x o=true\/x=p\/Lr p x)(a:nR o p):tm s p=dR s o+JY s p:=by
 obtain⟨b,b2⟩:=Jn hb a;unfold tm dR JY;rw[b,Yk b2];cases e:ep s with
 | none=>simp
 | some x=>
   obtain⟨c,d⟩:=Jn (he x e) a;have h1:(if (some x).any (K4 · p)=true then (1:Int) else 0)=(if Rq x o=true then 1 else 0)+if x=p then 1 else 0:=by show (if K4 x p=true then (1:Int) else 0)=_;rw[c,Yk d]
   rw[h1];show _=(_-(if Rq x o=true then (1:Int) else 0))+(_-(if some x=some p then (1:Int) else 0));have h2:(if some x=some p then (1:Int) else 0)=if x=p then 1 else 0:=by by_cases z:x=p <;> simp[z]
   rw[h2];omega
def Xx (X:zy Pl):Prop:=X.Pairwise Lr
def GI (ss:zy BD):Int->zy Pl->Prop
 | _, [] =>True
 | c,p::r=>(Hn ss p:Int)=c+cnt ss p/\GI ss (Hn ss p) r
theorem WK {a:Type}(f g:a->Int):∀xs:zy a,(xs.map λx=>f x+g x).sum=(xs.map f).sum+(xs.map g).sum
 | [] =>rfl
 | x::xs=>by simp only[AAK,ACC,WK f g xs];omega
theorem Mq {B:Nat}{ss:zy BD}(ok:∀s∈ss,BR B s):∀(X:zy Pl) (o:zt Pl),Xx X->(∀p∈X,nR o p/\0<=p.2)->(∀s∈ss,(Rq (bp s) o=true\/bp s∈X)/\∀x,ep s=some x->Rq x o=true\/x∈X)->GI ss ((ss.map λs=>dR s o).sum) X
 | [],_,_,_,_=>True.intro
 | p::r,o,hs,ho,hk=>by
   obtain⟨h1,h2⟩:=AAL.mp hs;obtain⟨op,a⟩:=ho p (by simp);have cls:∀x,(Rq x o=true\/x∈p::r)->Rq x o=true\/x=p\/Lr p x:=λx h=>by
    rcases h with h|h
    .exact .inl h
    .rcases AAF.mp h with h|h
     .exact .inr (.inl h)
     .exact .inr (.inr (h1 x h))
   have e:(Hn ss p:Int)=(ss.map λs=>dR s o).sum+cnt ss p:=by rw[T8 a ok];unfold cnt;rw[<-WK];congr 1;apply AA7;intro s hs;exact dS (cls _ (hk s hs).1) (λx ex=>cls x ((hk s hs).2 x ex)) op
   refine⟨e, ?_⟩;have:=Mq ok r (some p) h2 (λq hq=>⟨h1 q hq,(ho q (by simp[hq])).2⟩) (λs hs=>⟨?_,λx ex=> ?_⟩)
   .rw [show (ss.map λs=>dR s (some p)).sum=(Hn ss p:Int) from(T8 a ok).symm] at this;exact this
   .rcases cls _ (hk s hs).1 with z|z|z
    .exact .inl (by rw[show Rq (bp s) (some p)=K4 (bp s) p from rfl,(Jn (.inl z) op).1,z];rfl)
    .exact .inl (DE.mpr (.inr z))
    .rcases (hk s hs).1 with y|y
     .exact .inl (by rw[show Rq (bp s) (some p)=K4 (bp s) p from rfl,(Jn (.inl y) op).1,y];rfl)
     .rcases AAF.mp y with y|y
      .exact .inl (DE.mpr (.inr y))
      .exact .inr y
   .rcases (hk s hs).2 x ex with y|y
    .exact .inl (by rw[show Rq x (some p)=K4 x p from rfl,(Jn (.inl y) op).1,y];rfl)
    .rcases AAF.mp y with y|y
     .exact .inl (DE.mpr (.inr y))
     .exact .inr y
def places (qs:zy Rat):zy Pl:=qs.flatMap λq=> [(q,0),(q,1)]
def Bb {qs:zy Rat}{p:Pl}:p∈places qs↔p.1∈qs/\(p.2=0\/p.2=1):=by
 obtain⟨a,i⟩:=p;unfold places;simp only[ABW,AAF,AAd,AAb,ADY];constructor
 .rintro ⟨q,hq,⟨rfl,rfl⟩|⟨rfl,rfl⟩⟩
  .exact ⟨hq, .inl rfl⟩
  .exact ⟨hq, .inr rfl⟩
 .rintro ⟨h,h2⟩;exact⟨a,h,h2.elim (λz=> .inl ⟨rfl,z⟩) (λz=> .inr ⟨rfl,z⟩)⟩
theorem Eh:∀{qs:zy Rat},RI qs->Xx (places qs)
 | [],_=>List.Pairwise.nil
 | q::r,h=>by
   obtain⟨h1,h2⟩:=AAL.mp h;have ih:=Eh h2;have a:∀(i:Int),∀p∈places r,Lr (q,i) p:=λi p hp=> .inl (h1 _ (Bb.mp hp).1);show Xx ((q,0)::(q,1)::places r);refine AAL.mpr ⟨λp hp=> ?_,AAL.mpr ⟨a 1,ih⟩⟩;rcases AAF.mp hp with rfl|hp
   .exact .inr ⟨rfl,by show (0:Int)<1;decide⟩
   .exact a 0 p hp
def Bs (ss:zy BD):zy Rat:=ss.flatMap λs=>s.1::s.2.2.toList
def Cy (ss:zy BD):zy Pl:=places (BW (Bs ss))
def M3 {B:Nat}{ss:zy BD}(ok:∀s∈ss,BR B s){s:BD}(hs:s∈ss):bp s∈Cy ss/\∀x,ep s=some x->x∈Cy ss:=by
 refine⟨Bb.mpr ⟨BI.mpr (ABW.mpr ⟨s,hs,by simp[bp]⟩), ?_⟩,λx ex=> ?_⟩
 .have:=(ok s hs).h;unfold bp;simp only;omega
 .obtain ⟨e,he,rfl⟩:=ABH.mp ex;exact Bb.mpr ⟨BI.mpr (ABW.mpr ⟨s,hs,by simp[he]⟩), .inl rfl⟩
def Es {B:Nat}{ss:zy BD}(ok:∀s∈ss,BR B s):GI ss 0 (Cy ss):=by
 have h:=Mq ok (Cy ss) none (Eh CB) (λp hp=>⟨True.intro,by rcases (Bb.mp hp).2 with z|z <;> omega⟩) (λs hs=>⟨.inr (M3 ok hs).1,λx ex=> .inr ((M3 ok hs).2 x ex)⟩);have:(ss.map λs=>dR s none).sum=0:=by
  clear h ok;induction ss with
  | nil=>rfl
  | cons s ss ih=> rw[AAK,ACC,ih];unfold dR;cases ep s <;> rfl
 rw[this] at h;exact h
def Cd (val:Pl->zt Int)(st:zy (Pl×Int)×Int)(p:Pl):zy (Pl×Int)×Int:=match val p with | some v=>(st.1 ++ [(p,st.2+v)],st.2+v)|none=>st
theorem Qs {ss:zy BD}{val:Pl->zt Int}(h1:∀p v,val p=some v->v=cnt ss p)(h2:∀p,val p=none->cnt ss p=0):∀(X:zy Pl) (a:zy (Pl×Int)) (c:Int),GI ss c X->(X.foldl (Cd val) (a,c)).1=a++(X.filter λp=>(val p).isSome).map λp=>(p,(Hn ss p:Int))
 | [],a,c,_=>by simp
 | p::r,a,c,h=>by
   rw[AA3];cases e:val p with
   | none=>
     have hc:(Hn ss p:Int)=c:=by rw[h.1,h2 p e];omega
     rw[show Cd val (a,c) p=(a,c) by unfold Cd;rw[e],Qs h1 h2 r a c (hc ▸ h.2),ABh,AAC (by rw[e];decide)]
   | some v=>
     have hc:c+v=(Hn ss p:Int):=by rw[h.1,h1 p v e]
     rw[show Cd val (a,c) p=(a ++ [(p,c+v)],c+v) by unfold Cd;rw[e],hc,Qs h1 h2 r _ _ h.2,ABh,AAE (by rw[e];rfl),AAK,List.append_assoc];rfl
section
variable {ta tb td:AE}{r:AA}{τ:A7}{Q:PV->Prop}{QL:zy PV->Prop}{m:zy (FK×Int)}
def j6 (xs:zy PV)(Q:zy PV->Prop):Prop:=match xs with | [.dct kvs] =>Q (kvs.map λp=>UF p.1)|_=>False
instance:Wp (TQ r τ QL) (r τ λxs=>j6 xs QL):=⟨id⟩
instance:Wp (j6 [.dct m] QL) (QL (m.map λp=>UF p.1)):=⟨id⟩
class bB (m:List (FK×Int)) (k:FK) (i:outParam Int):Prop where
 e:BC m k=some i
def nW (m:zy (FK×Int))(k:FK)(Q:PV->Prop):Prop:=match BC m k with | some i=>Q (.int i)|none=>False
instance:Wp (bC ta tb td τ Q) (ta τ λx=>tb τ λy=>td τ λm=>i0 m λkvs=>NE x y λk=>Q (.bl (BC kvs k).isSome)):=⟨id⟩
instance:Wp (X5 td ta tb τ Q) (td τ λm=>ta τ λx=>tb τ λy=>i0 m λkvs=>NE x y λk=>nW kvs k Q):=⟨id⟩
instance{k:FK}{i:Int}[h:bB m k i] :Wp (nW m k Q) (Q (.int i)):=⟨λz=>by unfold nW;rw[h.e];exact z⟩
instance{R:zy (FK×Int)->Prop}:Wp (i0 (.dct m) R) (R m):=⟨id⟩
instance{q:Rat}{i:Int}{R:FK->Prop}:Wp (NE (fr q) (.int i) R) (R (Eu (q,i))):=⟨id⟩
end
def aD {v:PV}{xs:zy PV}{m:zy (FK×Int)}(hv:v= .tup xs\/v= .lst xs)(hl:xs.length<=1000)(h:FB xs [] =some m){Q:PV->Prop}(q:Q (.dct m)):Gu [v] Q:=by
 have hz:2*xs.length+2<sizeLine:=AAs (by omega:_<=2002) (AAV (by decide:2002<2003) (AAo rfl));rcases hv with rfl|rfl
 .exact ⟨hz,m,h,q⟩
 .exact ⟨hz,m,h,q⟩
def un (k:FK):Rat:=mkRat k.1.1 k.1.2.toNat
def iW (p:Pl):un (Eu p)=p.1:=by unfold un Eu;show mkRat p.1.num ((p.1.den:Int).toNat)=p.1;rw[ABm];exact Rat.mkRat_self p.1
def gD (p:Pl):UF (Eu p)= .tup [fr p.1, .int p.2] :=rfl
def lf (x:Pl×Int):PV:= .tup [fr x.1.1, .int x.1.2, .int x.2]
def Pw (ss:zy BD)(key:Pl->zq):zy (Pl×Int):=((Cy ss).filter key).map λp=>(p,(Hn ss p:Int))
def XA {v:PV}{xs:zy PV}{ss:zy BD}{B:Nat}(hv:v= .tup xs\/v= .lst xs)(E:Ea xs ss)(ok:∀s∈ss,BR B s)(hl:ss.length<=400)(I:B<=4000){Q:PV->Prop}(q:∀key:Pl->zq,(∀p,key p=true↔JT ss p)->Q (.lst ((Pw ss key).map lf))):GO [v] Q:=by
 obtain⟨m,J,F,C,K⟩:=O3 [] E;have hx:=E.length;have M:∀p:Pl,(BC m (Eu p)).isSome=true↔JT ss p:=λp=>by
  rw[dW,C];constructor
  .rintro (z|⟨T,z,e⟩)
   .cases z
   .rw [Ps e];exact z
  .exact λz=> .inr ⟨p,z,rfl⟩
 have G:=q (λp=>(BC m (Eu p)).isSome) M;have g:∀p w,BC m (Eu p)=some w->w=cnt ss p:=λp w e=>by have:=F p;rw[e] at this;simpa[BC] using this
 have N:∀p,BC m (Eu p)=none->cnt ss p=0:=λp e=>by have:=F p;rw[e] at this;simp[BC] at this;omega
 have O:=Qs g N (Cy ss) [] 0 (Es ok);have mk:∀k∈m,∃p,k.1=Eu p/\JT ss p:=λk hk=>by
  rcases (C k.1).mp (AAN.mpr ⟨k,hk,rfl⟩) with z|⟨p,z,e⟩
  .cases z
  .exact ⟨p,e,z⟩
 have ms:∀x,x∈m.map (λk=>un k.1)↔x∈Bs ss:=λx=>by
  rw[AAN];unfold Bs;rw[ABW];constructor
  .rintro ⟨k,hk,rfl⟩;obtain⟨p,e,s,hs,z⟩:=mk k hk;rw[e,iW];refine⟨s,hs, ?_⟩;rcases z with z|z
   .rw [<-z];simp[bp]
   .obtain ⟨U,he,rfl⟩:=ABH.mp z;simp[he]
  .rintro ⟨s,hs,hx⟩;have go:∀p:Pl,JT ss p->∃a∈m,un a.1=p.1:=λp hp=>by obtain⟨a,ha,e⟩:=AAN.mp ((C (Eu p)).mpr (.inr ⟨p,hp,rfl⟩));exact⟨a,ha,by rw[e,iW]⟩
   rcases AAF.mp hx with rfl|hx
   .exact go (bp s) ⟨s,hs, .inl rfl⟩
   .have hx:s.2.2=some x:=by simpa using hx
    exact go (x,0) ⟨s,hs, .inr (by unfold ep;rw[hx];rfl)⟩
 have bm:∀x∈m.map (λk=>un k.1),Bd B x:=λx h=>by
  obtain⟨s,hs,hx⟩:=ABW.mp ((ms x).mp h);rcases AAF.mp hx with rfl|hx
  .exact (ok s hs).b
  .exact ((ok s hs).e x (by simpa using hx)).2
 have H:BW (m.map λk=>un k.1)=BW (Bs ss):=NM ms;have W:m.length<=800:=by simp at K;omega
 apply Ud;ac_rfl;refine aD hv (by omega) J ?_;ac_rfl;refine Cs (λk:FK×Int=>UF k.1) fr (λk=>un k.1) (λk=>k∈m) (λk hk R y=> ?_) m [] (λ_ h=>h) ?_
 .obtain ⟨p,e,_⟩:=mk k hk;rw[e,iW] at y;rw[e,gD];repeat' array_get_dec
  exact y
 ac_rfl;rw[AA0];refine XS (.inl rfl) (by rw[AAJ];omega) bm I ?_;rw[H];have Y:(BW (Bs ss)).length<=800:=by rw[<-H];exact AAl Db (by rw[AAJ];omega)
 ac_rfl;refine Cu fr (λus vs τ=>∃r t,τ= [some (.val v),some (.val (.dct m)),some (.own (((places us).foldl (Cd λp=>BC m (Eu p)) ([],0)).1.map lf)),some (.val (.int ((places us).foldl (Cd λp=>BC m (Eu p)) ([],0)).2)),r,t]) ?_ ?_ ⟨_,_,rfl⟩
 .rintro τ ⟨r,t,rfl⟩;repeat' array_get_dec
  have e:Pw ss (λp=>(BC m (Eu p)).isSome)=((places (BW (Bs ss))).foldl (Cd λp=>BC m (Eu p)) ([],0)).1:=by rw[show places (BW (Bs ss))=Cy ss from rfl,O];rfl
  rw[e] at G;exact G
 .rintro us c vs e τ R y ⟨r,t,rfl⟩;have ep:places (us ++ [c])=places us ++ [(c,0),(c,1)] :=by unfold places;simp
  have es:(places (us ++ [c])).foldl (Cd λp=>BC m (Eu p)) ([],0)=Cd (λp=>BC m (Eu p)) (Cd (λp=>BC m (Eu p)) ((places us).foldl (Cd λp=>BC m (Eu p)) ([],0)) (c,0)) (c,1):=by rw[ep,ABU];rfl
  have P:((places us).foldl (Cd λp=>BC m (Eu p)) ([],0)).1.length<=2*us.length:=by
   have go:∀(X:zy Pl) (st:zy (Pl×Int)×Int),(X.foldl (Cd λp=>BC m (Eu p)) st).1.length<=st.1.length+X.length:=by
    intro X;induction X with
    | nil=>intro st;simp
    | cons p X ih=>
      intro st;have h1:=ih (Cd (λp=>BC m (Eu p)) st p);have h2:(Cd (λp=>BC m (Eu p)) st p).1.length<=st.1.length+1:=by unfold Cd;split <;> simp
      rw[AA3,AAZ];omega
   have h1:=go (places us) ([],0);have h2:(places us).length=2*us.length:=by
    unfold places;clear y es ep e h1;induction us with
    | nil=>rfl
    | cons u us ih=>rw[ACu,AAr,ih];simp;omega
   simp at h1;omega
  have ul:us.length<=800:=by have:=congrArg List.length e;simp at this;omega
  generalize (places us).foldl (Cd λp=>BC m (Eu p)) ([],0)=st at *;obtain⟨L,n⟩:=st;have i:∀(L2:zy (Pl×Int)) D r t,(L2,D)=Cd (λp=>BC m (Eu p)) (Cd (λp=>BC m (Eu p)) (L,n) (c,0)) (c,1)->R [some (.val v),some (.val (.dct m)),some (.own (L2.map lf)),some (.val (.int D)),r,t] :=λL2 D r t h=>y _ ⟨r,t,by rw[es,<-h]⟩;clear y;have l:(Rat.num 0:Int)=0:=rfl;have o:((Rat.den 0:Nat):Int)=1:=rfl;have S:L.length<=1600:=by have h:L.length<=2*us.length:=P;omega
  cases j:BC m (Eu (c,0)) with
  | none=>
    cases d:BC m (Eu (c,1)) with
    | none=>
      have f:=i L n;repeat' array_get_dec
      simp only[l,o,j];repeat' array_get_dec
      simp only[l,o,d];repeat' array_get_dec
      exact f _ _ (by unfold Cd;simp only[j,d])
    | some g=>
      have f:=i (L ++ [((c,1),n+g)]) (n+g);rw[AAT] at f;haveI:bB m (Eu (c,1)) g:=⟨d⟩;repeat' array_get_dec
      simp only[l,o,j];repeat' array_get_dec
      simp only[l,o,d];repeat' array_get_dec
      exact f _ _ (by unfold Cd;simp only[j,d])
  | some A=>
    haveI:bB m (Eu (c,0)) A:=⟨j⟩;cases d:BC m (Eu (c,1)) with
    | none=>
      have f:=i (L ++ [((c,0),n+A)]) (n+A);rw[AAT] at f;repeat' array_get_dec
      simp only[l,o,j];repeat' array_get_dec
      simp only[l,o,d];repeat' array_get_dec
      exact f _ _ (by unfold Cd;simp only[j,d])
    | some g=>
      have f:=i (L ++ [((c,0),n+A)] ++ [((c,1),n+A+g)]) (n+A+g);rw[AAT,AAT] at f;haveI:bB m (Eu (c,1)) g:=⟨d⟩;repeat' array_get_dec
      simp only[l,o,j];repeat' array_get_dec
      simp only[l,o,d];repeat' array_get_dec
      exact f _ _ (by unfold Cd;simp only[j,d])
def stepI (st:zy BD×zt Pl)(x:Pl×zq):zy BD×zt Pl:=
 match st.2,x.2 with
 | none,true=>(st.1,some x.1)
 | some b,false=>(st.1 ++ [(b.1,1-b.2,some x.1.1)],none)
 | _,_=>st
def Pd (st:zy BD×zt Pl):zy BD:=match st.2 with | none=>st.1|some b=>st.1 ++ [(b.1,1-b.2,none)]
def D1 (X:zy (Pl×zq)):zy BD:=Pd (X.foldl stepI ([],none))
def Wc:zt Pl->PV|none=> .non|some b=> .tup [fr b.1, .int (1-b.2)]
def XX {st:zy BD×zt Pl}{x:Pl×zq}:(stepI st x).1.length<=st.1.length+1:=by unfold stepI;split <;> simp
theorem Gz:∀(X:zy (Pl×zq)) (st:zy BD×zt Pl),(X.foldl stepI st).1.length<=st.1.length+X.length
 | [],st=>by simp
 | x::X,st=>by have h1:=Gz X (stepI st x);have h2:=XX (st:=st) (x:=x);rw[AA3,AAZ];omega
theorem J8:∀{ss:zy BD},(Bs ss).length<=2*ss.length
 | [] =>by simp[Bs]
 | s::ss=>by
   have ih:=J8 (ss:=ss);unfold Bs at *;rw[ACu,AAr,AAZ,AAZ];have:s.2.2.toList.length<=1:=by cases s.2.2 <;> simp
   omega
theorem IM:∀{qs:zy Rat},(places qs).length=2*qs.length
 | [] =>rfl
 | q::qs=>by have ih:=IM (qs:=qs);unfold places at *;rw[ACu,AAr,ih,AAZ];simp;omega
def Yz {ss:zy BD}{key:Pl->zq}:(Pw ss key).length<=4*ss.length:=by unfold Pw Cy;rw[AAJ];have h1:=List.length_filter_le key (places (BW (Bs ss)));have h2:=IM (qs:=BW (Bs ss));have a:=Db (xs:=Bs ss);have b:=J8 (ss:=ss);omega
def Ta {v:PV}{xs:zy PV}{ss:zy BD}{B:Nat}{n:Int}(hv:v= .tup xs\/v= .lst xs)(t:Ea xs ss)(ok:∀s∈ss,BR B s)(hl:ss.length<=400)(u:B<=4000){Q:PV->Prop}(q:∀key:Pl->zq,(∀p,key p=true↔JT ss p)->Q (.tup ((D1 ((Pw ss key).map λx=>(x.1,decide (n<=x.2)))).map BS))):EJ [v, .int n] Q:=by
 apply SU;ac_rfl;refine XA hv t ok hl u λkey hk=> ?_;have l:=q key hk;have w:(Pw ss key).length<=2000:=AAl Yz (by omega);clear q;generalize Pw ss key=Ls at *;ac_rfl;refine Cu lf (λus vs τ=>∃a d g,τ= [some (.val v),some (.val (.int n)),some (.own (((us.map λx=>(x.1,decide (n<=x.2))).foldl stepI ([],none)).1.map BS)),some (.val (Wc ((us.map λx=>(x.1,decide (n<=x.2))).foldl stepI ([],none)).2)),a,d,g]) ?_ ?_ ⟨_,_,_,rfl⟩
 .rintro τ ⟨a,d,g,rfl⟩;have m:=Gz (Ls.map λx=>(x.1,decide (n<=x.2))) ([],none);unfold D1 at l;generalize (Ls.map λx=>(x.1,decide (n<=x.2))).foldl stepI ([],none)=st at *;obtain⟨L,b⟩:=st;have o:L.length<=2000:=by have h:L.length<=0+_:=m;rw[AAJ] at h;omega
  cases b with
  | none=>
    have j:Q (.tup (L.map BS)):=l;show FS _ [some (.val v),some (.val (.int n)),some (.own (L.map BS)),some (.val .non),a,d,g];repeat' array_get_dec
    exact j
  | some b=>
    have j:Q (.tup ((L ++ [(b.1,1-b.2,none)]).map BS)):=l;rw[AAT] at j;show FS _ [some (.val v),some (.val (.int n)),some (.own (L.map BS)),some (.val (.tup [fr b.1, .int (1-b.2)])),a,d,g];repeat' array_get_dec
    exact j
 .rintro us c vs e τ R r ⟨a,d,g,rfl⟩;have m:=Gz (us.map λx=>(x.1,decide (n<=x.2))) ([],none);have ul:us.length<=2000:=by have:=congrArg List.length e;simp at this;omega
  have es:((us ++ [c]).map λx=>(x.1,decide (n<=x.2))).foldl stepI ([],none)=stepI ((us.map λx=>(x.1,decide (n<=x.2))).foldl stepI ([],none)) (c.1,decide (n<=c.2)):=by rw[AAT,ABU];rfl
  generalize (us.map λx=>(x.1,decide (n<=x.2))).foldl stepI ([],none)=st at *;obtain⟨L,b⟩:=st;have o:L.length<=2000:=by have h:L.length<=0+_:=m;rw[AAJ] at h;omega
  have i:∀L2 b2 a d g,(L2,b2)=stepI (L,b) (c.1,decide (n<=c.2))->R [some (.val v),some (.val (.int n)),some (.own (L2.map BS)),some (.val (Wc b2)),a,d,g] :=λL2 b2 a d g h=>r _ ⟨a,d,g,by rw[es,<-h]⟩;clear r;obtain⟨p,k⟩:=c;show Hx 3 (AZ (Ak 4) (AZ (Ak 5) (AZ (Ak 6) Bq))) (.tup [fr p.1, .int p.2, .int k]) _ _;cases b with
  | none=>
    show Hx 3 (AZ (Ak 4) (AZ (Ak 5) (AZ (Ak 6) Bq))) (.tup [fr p.1, .int p.2, .int k]) [some (.val v),some (.val (.int n)),some (.own (L.map BS)),some (.val .non),a,d,g] _;repeat' array_get_dec
    .rename_i h;exact i L (some p) _ _ _ (by unfold stepI;simp only[AA1 h])
    .rename_i h;exact i L none _ _ _ (by unfold stepI;simp only[AAj h])
  | some b=>
    show Hx 3 (AZ (Ak 4) (AZ (Ak 5) (AZ (Ak 6) Bq))) (.tup [fr p.1, .int p.2, .int k]) [some (.val v),some (.val (.int n)),some (.own (L.map BS)),some (.val (.tup [fr b.1, .int (1-b.2)])),a,d,g] _;repeat' array_get_dec
    .rename_i h;have f:=i (L ++ [(b.1,1-b.2,some p.1)]) none (some (.val (fr p.1))) (some (.val (.int p.2))) (some (.val (.int k))) (by unfold stepI;simp only[AAj (show ¬n<=k by omega)]);rw[AAT] at f;exact f
    .rename_i h;exact i L (some b) _ _ _ (by unfold stepI;simp only[AA1 (show n<=k by omega)])
def TJ (In key:Pl->zq):zq->zy Pl->Prop
 | _, [] =>True
 | c,p::r=>(key p=false->In p=c)/\TJ In key (In p) r
def Uu {st:zy BD×zt Pl}{p:Pl}{i:zq}:(stepI st (p,i)).2.isSome=i:=by obtain⟨L,b⟩:=st;cases b <;> cases i <;> rfl
def Ut {st:zy BD×zt Pl}{p:Pl}{i:zq}(h:i=st.2.isSome):stepI st (p,i)=st:=by obtain⟨L,b⟩:=st;cases b <;> cases i <;> first | rfl|cases h
theorem G6 {In key:Pl->zq}:∀(X:zy Pl) (st:zy BD×zt Pl),TJ In key st.2.isSome X->(X.map λp=>(p,In p)).foldl stepI st=((X.filter key).map λp=>(p,In p)).foldl stepI st
 | [],st,_=>rfl
 | p::r,st,h=>by
   rw[AAK,AA3,ABh];cases k:key p with
   | true=> rw[AAE rfl,AAK,AA3];exact G6 r _ (by rw[Uu];exact h.2)
   | false=> have e:=h.1 k;rw[AAC (by decide),Ut e];exact G6 r st (by have:=h.2;rw[e] at this;exact this)
theorem Ik {ss:zy BD}{key:Pl->zq}{n:Int}(hk:∀p,key p=false->cnt ss p=0):∀(X:zy Pl) (c:Int),GI ss c X->TJ (λp=>decide (n<=(Hn ss p:Int))) key (decide (n<=c)) X
 | [],_,_=>True.intro
 | p::r,c,h=>⟨λk=>(by show decide (n<=(Hn ss p:Int))=_;rw[h.1,hk p k,Int.add_zero]),Ik hk r _ h.2⟩
def canon (n:Int)(ss:zy BD):zy BD:=D1 ((Cy ss).map λp=>(p,decide (n<=(Hn ss p:Int))))
def RP {ss:zy BD}{p:Pl}(h:¬JT ss p):cnt ss p=0:=by
 have key:∀ss:zy BD,(∀s∈ss,¬(bp s=p\/ep s=some p))->cnt ss p=0:=by
  intro ss;induction ss with
  | nil=>intro _;rfl
  | cons s ss ih=>
    intro h;have h1:=h s (by simp);have e:cnt (s::ss) p=JY s p+cnt ss p:=by simp[cnt]
    rw[e,ih λx hx=>h x (by simp[hx])];unfold JY;rw[AAC λz=>h1 (.inl z),AAC λz=>h1 (.inr z)];rfl
 exact key ss λs hs z=>h ⟨s,hs,z⟩
def YC {ss:zy BD}{B:Nat}{n:Int}{key:Pl->zq}(ok:∀s∈ss,BR B s)(a:0<n)(hk:∀p,key p=true↔JT ss p):D1 ((Pw ss key).map λx=>(x.1,decide (n<=x.2)))=canon n ss:=by
 unfold canon D1 Pw;rw[AAc];have h:=G6 (In:=λp=>decide (n<=(Hn ss p:Int))) (key:=key) (Cy ss) ([],none) (by
  have:=Ik (n:=n) (key:=key) (λp z=>RP λy=>by rw[(hk p).mpr y] at z;cases z) (Cy ss) 0 (Es ok);rw[AAj (by omega)] at this;exact this)
 rw[h];rfl
def TZ {v:PV}{xs:zy PV}{ss:zy BD}{B:Nat}{n:Int}(hv:v= .tup xs\/v= .lst xs)(a:Ea xs ss)(ok:∀s∈ss,BR B s)(hl:ss.length<=400)(b:B<=4000)(c:0<n){Q:PV->Prop}(q:Q (.tup ((canon n ss).map BS))):EJ [v, .int n] Q:=
 Ta hv a ok hl b λkey hk=>by rw[YC ok c hk];exact q
def Sj {v:PV}{xs:zy PV}{ss:zy BD}{B:Nat}(hv:v= .tup xs\/v= .lst xs)(a:Ea xs ss)(ok:∀s∈ss,BR B s)(hl:ss.length<=400)(b:B<=4000){Q:PV->Prop}(q:Q (.tup ((canon 1 ss).map BS))):EX [v] Q:=by
 apply QW;repeat' array_get_dec
 exact TZ hv a ok hl b (by decide) q
def Fc {ss:zy BD}{p:Pl}:decide ((1:Int)<=(Hn ss p:Int))=ss.any (Ap · p):=by
 rw[AAz,ACt,AAh];unfold Hn;constructor
 .intro h;obtain⟨s,hs⟩:=List.exists_mem_of_length_pos (l:=ss.filter (Ap · p)) (by omega);have:=ABz.mp hs;exact⟨s,this.1,this.2⟩
 .rintro ⟨s,hs,h⟩;have:=List.length_pos_of_mem (ABz.mpr ⟨hs,h⟩:s∈ss.filter (Ap · p));omega
def DZ (In:Pl->zq):zy Pl->zt Pl->zy BD
 | [],none=> []
 | [],some b=> [(b.1,1-b.2,none)]
 | p::r,none=>if In p=true then DZ In r (some p) else DZ In r none
 | p::r,some b=>if In p=true then DZ In r (some b) else (b.1,1-b.2,some p.1)::DZ In r none
theorem NL {In:Pl->zq}:∀(X:zy Pl) (a:zy BD) (b:zt Pl),Pd ((X.map λp=>(p,In p)).foldl stepI (a,b))=a++DZ In X b
 | [],a,none=>by simp[Pd,DZ]
 | [],a,some b=>by simp[Pd,DZ]
 | p::r,a,none=>by
   rw[AAK,AA3];unfold DZ;cases e:In p with
   | true=>exact NL r a (some p)
   | false=>exact NL r a none
 | p::r,a,some b=>by
   rw[AAK,AA3];unfold DZ;cases e:In p with
   | true=>exact NL r a (some b)
   | false=> show Pd ((r.map λp=>(p,In p)).foldl stepI (a ++ [(b.1,1-b.2,some p.1)],none))=a++((b.1,1-b.2,some p.1)::DZ In r none);rw[NL r _ none];simp
def Ox {In:Pl->zq}{X:zy Pl}:D1 (X.map λp=>(p,In p))=DZ In X none:=by unfold D1;rw[NL];rfl
def Lo {q p:Pl}{e:zt Rat}(hq:q.2=0\/q.2=1)(hp:0<=p.2):Ap (q.1,1-q.2,e) p=(K4 q p&&(match e with | none=>true|some e=>decide (p.1<e))):=by unfold Ap K4;congr 2;congr 1;exact ABS.mpr (by show 0<1-q.2+p.2↔q.2<=p.2;omega)
def Jv (In:Pl->zq):zq->zy Pl->Prop
 | _, [] =>True
 | c,p::r=>(c=true->In p=false->p.2=0)/\Jv In (In p) r
theorem V0 {In:Pl->zq}:∀(X:zy Pl),Xx X->(∀x∈X,x.2=0\/x.2=1)-> (Jv In false X->(∀p:Pl,0<=p.2->(∀x∈X,Lr p x)->(DZ In X none).any (Ap · p)=false)/\∀p∈X,(DZ In X none).any (Ap · p)=In p)/\ (Jv In true X->∀q:Pl,(q.2=0\/q.2=1)->(∀x∈X,Lr q x)->(∀p:Pl,0<=p.2->(∀x∈X,Lr p x)->(DZ In X (some q)).any (Ap · p)=K4 q p)/\∀p∈X,(DZ In X (some q)).any (Ap · p)=In p)
 | [],_,_=>⟨λ_=>⟨λp _ _=>rfl,λp hp=>by cases hp⟩,λ_ q hq _=>⟨λp hp _=>by show (Ap (q.1,1-q.2,none) p||false)=_;rw[Lo hq hp];simp,λp hp=>by cases hp⟩⟩
 | x::r,hs,Vc=>by
   obtain⟨h1,h2⟩:=AAL.mp hs;have ih:=V0 (In:=In) r h2 λy hy=>Vc y (by simp[hy]);have j:=Vc x (by simp);have f:0<=x.2:=by omega
   have g:∀p:Pl,(∀y∈x::r,Lr p y)->∀y∈r,Lr p y:=λp h y hy=>h y (by simp[hy]);have l:∀p:Pl,Lr p x->K4 x p=false:=λp h=>by
    rw[<-Bool.not_eq_true,DE];rintro(z|z)
    .exact Lu (G2 z h)
    .rw [z] at h;exact Lu h
   have m:K4 x x=true:=DE.mpr (.inr rfl);refine⟨λhd=> ?_,λhd q hq k=> ?_⟩
   .unfold DZ;cases e:In x with
    | true=>
      have a:=hd.2;rw[e] at a;obtain⟨b,d⟩:=ih.2 a x j h1;rw[AAE rfl];refine⟨λp c hp=> ?_,λp hp=> ?_⟩
      .rw [b p c (g p hp),l p (hp x (by simp))]
      .rcases AAF.mp hp with rfl|hp
       .rw [b p f h1,m,e]
       .exact d p hp
    | false=>
      have a:=hd.2;rw[e] at a;obtain⟨b,d⟩:=ih.1 a;rw[AAC (by decide)];refine⟨λp c hp=>b p c (g p hp),λp hp=> ?_⟩;rcases AAF.mp hp with rfl|hp
      .rw [b p f h1,e]
      .exact d p hp
   .unfold DZ;have n:K4 q x=true:=DE.mpr (.inl (k x (by simp)));cases e:In x with
    | true=>
      have a:=hd.2;rw[e] at a;obtain⟨b,d⟩:=ih.2 a q hq (g q k);rw[AAE rfl];refine⟨λp c hp=>b p c (g p hp),λp hp=> ?_⟩;rcases AAF.mp hp with rfl|hp
      .rw [b p f h1,n,e]
      .exact d p hp
    | false=>
      have a:=hd.2;rw[e] at a;obtain⟨b,d⟩:=ih.1 a;have s:=hd.1 rfl e;rw[AAC (by decide)];have i:∀p:Pl,(p=x\/Lr x p)->¬p.1<x.1:=λp h=>by rcases h with h|h|⟨h,_⟩ <;> grind
      refine⟨λp c hp=> ?_,λp hp=> ?_⟩
      .have o:p.1<x.1:=by
        rcases hp x (by simp) with z|⟨_,z⟩
        .exact z
        .omega
       show (Ap (q.1,1-q.2,some x.1) p||(DZ In r none).any (Ap · p))=_;rw[Lo hq c,b p c (g p hp)];simp[o]
      .show (Ap (q.1,1-q.2,some x.1) p||(DZ In r none).any (Ap · p))=_;rcases AAF.mp hp with rfl|hp
       .rw [Lo hq f,b p f h1,e];simp[i p (.inl rfl)]
       .rw [Lo hq (by have:=Vc p (by simp[hp]);omega),d p hp];simp[i p (.inr (h1 p hp))]
theorem SQ {In:Pl->zq}(P:Rat->Prop):∀(X:zy Pl) (b:zt Pl),Xx X->(∀x∈X,(x.2=0\/x.2=1)/\P x.1)->Jv In b.isSome X->(∀q,b=some q->(q.2=0\/q.2=1)/\P q.1/\∀x∈X,Lr q x)-> ∀s∈DZ In X b,P s.1/\(s.2.1=0\/s.2.1=1)/\∀e,s.2.2=some e->s.1<e/\P e
 | [],none,_,_,_,_=>λs hs=>by cases hs
 | [],some q,_,_,_,hb=>λs hs=>by obtain⟨h1,h2,_⟩:=hb q rfl;simp only[DZ,AAW] at hs;subst hs;exact⟨h2,by show 1-q.2=0\/1-q.2=1;omega,λe he=>by cases he⟩
 | x::r,b,hs,Vc,hd,hb=>by
   obtain⟨h1,h2⟩:=AAL.mp hs;have ih:=λb d hb=>SQ (In:=In) P r b h2 (λy hy=>Vc y (by simp[hy])) d hb;have a:=hd.2;cases b with
   | none=>
     unfold DZ;cases e:In x with
     | true=> rw[AAE rfl];rw[e] at a;exact ih (some x) a λq hq=>by cases hq;exact⟨(Vc x (by simp)).1,(Vc x (by simp)).2,h1⟩
     | false=> rw[AAC (by decide)];rw[e] at a;exact ih none a λq hq=>by cases hq
   | some q=>
     obtain⟨g,c,f⟩:=hb q rfl;unfold DZ;cases e:In x with
     | true=> rw[AAE rfl];rw[e] at a;exact ih (some q) a λh hq=>by cases hq;exact⟨g,c,λy hy=>f y (by simp[hy])⟩
     | false=>
       rw[AAC (by decide)];rw[e] at a;have i:=hd.1 rfl e;intro s hs;rcases AAF.mp hs with rfl|hs
       .refine ⟨c,by show 1-q.2=0\/1-q.2=1;omega,λj he=> ?_⟩;cases he;refine⟨?_,(Vc x (by simp)).2⟩;rcases f x (by simp) with z|⟨_,z⟩
        .exact z
        .omega
       .exact ih none a (λq hq=>by cases hq) s hs
theorem ID {ss:zy BD}:∀(X:zy Pl) (c:Int),(∀x∈X,x.2=0\/x.2=1)->GI ss c X->Jv (λp=>ss.any (Ap · p)) (decide (1<=c)) X
 | [],_,_,_=>True.intro
 | p::r,c,Vc,h=>by
   have ih:=ID r (Hn ss p) (λx hx=>Vc x (by simp[hx])) h.2;rw[Fc] at ih;refine⟨λhc hi=> ?_,ih⟩;rcases Vc p (by simp) with z|z
   .exact z
   .have hc:1<=c:=by simpa using hc
    have hi:ss.any (Ap · p)=false:=hi;rw[<-Fc] at hi;have hi:¬(1:Int)<=Hn ss p:=by simpa using hi
    have c0:0<=cnt ss p:=by
     have go:∀ss:zy BD,0<=cnt ss p:=by
      intro ss;induction ss with
      | nil=>exact Int.le_refl _
      | cons s ss ih=>
        have e:cnt (s::ss) p=JY s p+cnt ss p:=by simp[cnt]
        have o:0<=JY s p:=by
         unfold JY;have:¬ep s=some p:=λy=>by obtain⟨b,_,a⟩:=ABH.mp y;have:(0:Int)=p.2:=congrArg Prod.snd a;omega
         rw[AAC this];split <;> decide
        omega
     exact go ss
    have:=h.1;omega
def WG {ss:zy BD}:∀x∈Cy ss,x.2=0\/x.2=1:=λx hx=>(Bb.mp hx).2
def Og {ss:zy BD}:canon 1 ss=DZ (λp=>ss.any (Ap · p)) (Cy ss) none:=by unfold canon;rw[<-Ox];congr 1;apply AA7;intro p _;rw[Fc]
def Ur {ss:zy BD}{B:Nat}(ok:∀s∈ss,BR B s):Jv (λp=>ss.any (Ap · p)) false (Cy ss):=ID (Cy ss) 0 WG (Es ok)
def TY {ss:zy BD}{B:Nat}(ok:∀s∈ss,BR B s):∀s∈canon 1 ss,s.1∈Bs ss/\(s.2.1=0\/s.2.1=1)/\∀e,s.2.2=some e->s.1<e/\e∈Bs ss:=by rw[Og];exact SQ (· ∈Bs ss) (Cy ss) none (Eh CB) (λx hx=>⟨WG x hx,BI.mp (Bb.mp hx).1⟩) (Ur ok) λq hq=>by cases hq
def Vo {ss:zy BD}{B:Nat}(ok:∀s∈ss,BR B s):∀x∈Bs ss,Bd B x:=λx h=>by
 obtain⟨s,hs,hx⟩:=ABW.mp h;rcases AAF.mp hx with rfl|hx
 .exact (ok s hs).b
 .exact ((ok s hs).e x (by simpa using hx)).2
def GT {ss:zy BD}{B:Nat}(ok:∀s∈ss,BR B s):∀s∈canon 1 ss,BR B s:=λs hs=>by obtain⟨h1,h2,a⟩:=TY ok s hs;exact⟨Vo ok _ h1,h2,λe he=>⟨(a e he).1,Vo ok _ (a e he).2⟩⟩
theorem HZ (f:Rat->zq):∀qs:zy Rat,(places qs).filter (λp=>f p.1)=places (qs.filter f)
 | [] =>rfl
 | q::qs=>by show ((q,0)::(q,1)::places qs).filter (λp=>f p.1)=_;rw[ABh,ABh,ABh,HZ f qs];cases f q <;> rfl
def gA {xs:zy PV}{k:Int}{R:PV->Prop}(a:0<=k)(h1:k<xs.length)(h:∀x∈xs,R x):Ai (.lst xs) (.int k) R:=by
 have hk:k.toNat<xs.length:=by omega
 have e:Jp xs ((k.toNat:Nat):Int)=some xs[k.toNat] :=DB (AAU hk);rw[show ((k.toNat:Nat):Int)=k by omega] at e;show cN (Jp xs k) R;rw[e];exact h _ (ABd hk)
def bo {o:zt Rat}{Q:PV->Prop}(h:Q (.bl (decide (o=none)))):HN (Wr o) .non Q:=by cases o <;> exact h
instance{o:zt Rat}{Q:PV->Prop}:Wp (HN (Wr o) .non Q) (Q (.bl (decide (o=none)))):=⟨bo⟩
theorem Yl:∀{qs:zy Rat} {x:Rat},RI qs->x∈qs->ins qs x=qs
 | [],x,_,h=>by cases h
 | q::r,x,hs,h=>by
   obtain⟨h1,h2⟩:=AAL.mp hs;unfold ins;rcases AAF.mp h with e|h
   .subst e;rw[AAC (by grind),AAE rfl]
   .have:=h1 x h;rw[AAE this,Yl h2 h]
def Zh (xs ys:zy Rat):BW (xs++ys)=ys.foldl ins (BW xs):=by unfold BW;rw[ABU]
def CW (ms:zy Rat)(ss:zy BD):zy Pl:=places (BW (ms++Bs ss))
def JL {B:Nat}{ms:zy Rat}{ss:zy BD}(ok:∀s∈ss,BR B s):GI ss 0 (CW ms ss):=by
 have c:∀s∈ss,bp s∈CW ms ss/\∀x,ep s=some x->x∈CW ms ss:=λs hs=>by
  obtain⟨h1,h2⟩:=M3 ok hs;have d:∀x∈Cy ss,x∈CW ms ss:=λx hx=>by obtain⟨a,b⟩:=Bb.mp hx;exact Bb.mpr ⟨BI.mpr (AAg _ (BI.mp a)),b⟩
  exact⟨d _ h1,λx ex=>d _ (h2 x ex)⟩
 have h:=Mq ok (CW ms ss) none (Eh CB) (λp hp=>⟨True.intro,by rcases (Bb.mp hp).2 with z|z <;> omega⟩) (λs hs=>⟨.inr (c s hs).1,λx ex=> .inr ((c s hs).2 x ex)⟩);have z:(ss.map λs=>dR s none).sum=0:=by
  clear h c ok;induction ss with
  | nil=>rfl
  | cons s ss ih=> rw[AAK,ACC,ih];unfold dR;cases ep s <;> rfl
 rw[z] at h;exact h
def Fa {B:Nat}{ms:zy Rat}{ss:zy BD}{n:Int}(ok:∀s∈ss,BR B s)(c:0<n):D1 ((CW ms ss).map λp=>(p,decide (n<=(Hn ss p:Int))))=canon n ss:=by
 have hk:∀p:Pl,decide (p.1∈Bs ss)=false->cnt ss p=0:=λp hp=>RP λ⟨s,hs,z⟩=>by
  have hp:¬p.1∈Bs ss:=by simpa using hp
  refine hp (ABW.mpr ⟨s,hs, ?_⟩);rcases z with z|z
  .rw [<-z];simp[bp]
  .obtain ⟨d,he,rfl⟩:=ABH.mp z;simp[he]
 have a:=Ik (n:=n) (ss:=ss) (key:=λp=>decide (p.1∈Bs ss)) hk (CW ms ss) 0 (JL ok);rw[AAj (by omega)] at a;have h:=G6 (CW ms ss) ([],none) a;have b:(CW ms ss).filter (λp=>decide (p.1∈Bs ss))=Cy ss:=by unfold CW Cy;rw[HZ (λx=>decide (x∈Bs ss))];congr 1;refine Qo (CB.filter _) CB λx=> ?_;rw[ABz,BI,BI,ACt];exact⟨λh=>h.2,λh=>⟨AAg _ h,h⟩⟩
 rw[b] at h;show Pd _=Pd _;rw[h]
def GS {B:Nat}{ss:zy BD}(ok:∀s∈ss,BR B s){p:Pl}(hp:p.2=0\/p.2=1):(canon 1 ss).any (Ap · p)=ss.any (Ap · p):=by
 have b:p∈CW [p.1] ss:=Bb.mpr ⟨BI.mpr (by simp),hp⟩;have a:∀x∈CW [p.1] ss,x.2=0\/x.2=1:=λx hx=>(Bb.mp hx).2;have c:=ID (CW [p.1] ss) 0 a (JL ok);have e:canon 1 ss=DZ (λp=>ss.any (Ap · p)) (CW [p.1] ss) none:=by rw[<-Fa (ms:= [p.1]) ok (by decide),<-Ox];congr 1;apply AA7;intro q _;rw[Fc]
 rw[e];exact((V0 (CW [p.1] ss) (Eh CB) a).1 c).2 p b
def hN (L:zy BD)(p:Pl):Nat:=(L.filter (Ap · p)).length
def Xv (ss:zy BD)(In:Pl->zq):zq->zy Pl->Prop
 | _, [] =>True
 | c,p::r=>(c=true->In p=false->∃s∈ss,ep s=some p)/\Xv ss In (In p) r
theorem Om {ss:zy BD}:∀(X:zy Pl) (c:Int),GI ss c X->Xv ss (λp=>ss.any (Ap · p)) (decide (1<=c)) X
 | [],_,_=>True.intro
 | p::r,c,h=>by
   have ih:=Om r (Hn ss p) h.2;rw[Fc] at ih;refine⟨λhc hi=> ?_,ih⟩;have hc:1<=c:=by simpa using hc
   have hi:ss.any (Ap · p)=false:=hi;rw[<-Fc] at hi;have hi:¬(1:Int)<=Hn ss p:=by simpa using hi
   have c0:cnt ss p<0:=by have:=h.1;omega
   refine ACJ λd=> ?_;have go:∀a:zy BD,(∀s∈a,ep s≠some p)->0<=cnt a p:=by
    intro a;induction a with
    | nil=>intro _;exact Int.le_refl _
    | cons s a ih=>
      intro b;have e:cnt (s::a) p=JY s p+cnt a p:=by simp[cnt]
      have o:0<=JY s p:=by unfold JY;rw[AAC (b s (by simp))];split <;> decide
      have:=ih λx hx=>b x (by simp[hx]);omega
   have:=go ss λs hs z=>d ⟨s,hs,z⟩;omega
theorem GY {ss:zy BD}{In:Pl->zq}:∀(X:zy Pl) (b:zt Pl),Xv ss In b.isSome X->∀s∈DZ In X b,∀e,s.2.2=some e->(∃t∈ss,t.2.2=some e)/\In (e,0)=false
 | [],none,_=>λs hs=>by cases hs
 | [],some q,_=>λs hs e he=>by simp only[DZ,AAW] at hs;subst hs;cases he
 | x::r,b,hd=>by
   have a:=hd.2;cases b with
   | none=>
     unfold DZ;cases e:In x with
     | true=>rw[AAE rfl];rw[e] at a;exact GY r (some x) a
     | false=>rw[AAC (by decide)];rw[e] at a;exact GY r none a
   | some q=>
     unfold DZ;cases e:In x with
     | true=>rw[AAE rfl];rw[e] at a;exact GY r (some q) a
     | false=>
       rw[AAC (by decide)];rw[e] at a;intro s hs d he;rcases AAF.mp hs with rfl|hs
       .cases he;obtain⟨t,f,g⟩:=hd.1 rfl e;obtain⟨h,h2,i⟩:=ABH.mp g;have c:x=(h,0):=i.symm;refine⟨⟨t,f,by rw[h2,c]⟩, ?_⟩;rw[<-e,c]
       .exact GY r none a s hs d he
def Mo {B:Nat}{ss:zy BD}(ok:∀s∈ss,BR B s):∀r∈canon 1 ss,∀e,r.2.2=some e->(∃t∈ss,t.2.2=some e)/\ss.any (Ap · (e,0))=false:=by rw[Og];exact GY (Cy ss) none (Om (Cy ss) 0 (Es ok))
def YB {B:Nat}{ss a:zy BD}(ok:∀s∈ss,BR B s)(b:∀s∈a,BR B s)(h:∀p:Pl,(p.2=0\/p.2=1)->ss.any (Ap · p)=a.any (Ap · p)):canon 1 ss=canon 1 a:=by
 rw[<-Fa (ms:=Bs a) ok (by decide),<-Fa (ms:=Bs ss) b (by decide)];have e:CW (Bs a) ss=CW (Bs ss) a:=by unfold CW;rw[NM λx=> ?_];rw[AAO,AAO];exact Or.comm
 rw[e];congr 1;apply AA7;intro p hp;rw[Fc,Fc,h p (Bb.mp hp).2]
def EE (y:Rat)(s:BD):BD:=(s.1,s.2.1,s.2.2.map (· + y))
def Fe {B C:Nat}{y:Rat}(hy:0<=y)(c:Bd C y){s:BD}(o:BR B s):BR (B+C+1) (EE y s):=by refine⟨o.b.mono (by omega),o.h,λe he=> ?_⟩;obtain⟨d,h1,rfl⟩:=ABH.mp he;obtain⟨a,b⟩:=o.e d h1;exact⟨by show s.1<d+y;grind,b.add c⟩
def G1 {B:Nat}{s:BD}(o:BR B s){p:Pl}(hp:p.2=0\/p.2=1):Ap s p=true↔K4 (bp s) p=true/\∀e,s.2.2=some e->p.1<e:=by
 obtain⟨a,b,c⟩:=s;have hb:b=0\/b=1:=o.h;have d:K4 (bp (a,b,c)) p=(decide (a<p.1)||(decide (a=p.1)&&decide (0<b+p.2))):=by unfold K4 bp;congr 2;exact ABS.mpr (by show 1-b<=p.2↔0<b+p.2;omega)
 unfold Ap;rw[AAf,d];cases c with
 | none=>simp
 | some c=>simp
def Yx {B C:Nat}{ss:zy BD}{y:Rat}(ok:∀s∈ss,BR B s)(hy:0<=y)(b:Bd C y):canon 1 ((canon 1 ss).map (EE y))=canon 1 (ss.map (EE y)):=by
 have c:=GT ok;have k:∀s∈(canon 1 ss).map (EE y),BR (B+C+1) s:=λs hs=>by obtain⟨t,a,rfl⟩:=AAN.mp hs;exact Fe hy b (c t a)
 have l:∀s∈ss.map (EE y),BR (B+C+1) s:=λs hs=>by obtain⟨t,a,rfl⟩:=AAN.mp hs;exact Fe hy b (ok t a)
 refine YB k l λp hp=> ?_;have gl:∀{s:BD},BR B s->(Ap (EE y s) p=true↔K4 (bp s) p=true/\∀e,s.2.2=some e->p.1<e+y):=λ{s} o=>by
  rw[G1 (Fe hy b o) hp];constructor
  .rintro ⟨h1,h2⟩;exact⟨h1,λe he=>h2 (e+y) (by show s.2.2.map (· + y)=_;rw[he];rfl)⟩
  .rintro ⟨h1,h2⟩;refine⟨h1,λe he=> ?_⟩;obtain⟨v,g,rfl⟩:=ABH.mp he;exact h2 v g
 rw[AAz,AAh,AAh];constructor
 .rintro ⟨s,hs,h⟩;obtain⟨r,d,rfl⟩:=AAN.mp hs;have o:=c r d;obtain⟨h1,h2⟩:=(gl o).mp h;by_cases x:Ap r p=true
  .have:ss.any (Ap · p)=true:=by rw[<-GS ok hp];exact AAh.mpr ⟨r,d,x⟩
   obtain⟨t,a,g⟩:=AAh.mp this;obtain⟨m,n⟩:=(G1 (ok t a) hp).mp g;exact⟨EE y t,AAN.mpr ⟨t,a,rfl⟩,(gl (ok t a)).mpr ⟨m,λe he=>by have:=n e he;grind⟩⟩
  .have:∃e,r.2.2=some e/\¬p.1<e:=ACJ λj=>x ((G1 o hp).mpr ⟨h1,λe he=>ACJ λz=>j ⟨e,he,z⟩⟩);obtain⟨e,he,H⟩:=this;obtain⟨⟨t,a,A⟩,_⟩:=Mo ok r d e he;have I:=((ok t a).e e A).1;refine⟨EE y t,AAN.mpr ⟨t,a,rfl⟩,(gl (ok t a)).mpr ⟨DE.mpr (.inl (.inl (by show t.1<p.1;grind))),λv D=> ?_⟩⟩;rw[A] at D;cases D;exact h2 e he
 .rintro ⟨s,hs,h⟩;obtain⟨t,a,rfl⟩:=AAN.mp hs;have o:=ok t a;obtain⟨h1,h2⟩:=(gl o).mp h;have bt:(bp t).2=0\/(bp t).2=1:=by have:=o.h;unfold bp;simp only;omega
  have hb:Ap t (bp t)=true:=(G1 o bt).mpr ⟨DE.mpr (.inr rfl),λe he=>(o.e e he).1⟩;have:(canon 1 ss).any (Ap · (bp t))=true:=by rw[GS ok bt];exact AAh.mpr ⟨t,a,hb⟩
  obtain⟨r,d,g⟩:=AAh.mp this;have i:=c r d;obtain⟨m,n⟩:=(G1 i bt).mp g;refine⟨EE y r,AAN.mpr ⟨r,d,rfl⟩,(gl i).mpr ⟨?_,λe he=> ?_⟩⟩
  .rcases DE.mp m with z|z
   .rcases DE.mp h1 with w|w
    .exact DE.mpr (.inl (G2 z w))
    .rw [<-w];exact DE.mpr (.inl z)
   .rw [z];exact h1
  .have E:t.1<e:=n e he;obtain⟨_,j⟩:=Mo ok r d e he;have F:¬Ap t (e,0)=true:=λz=>by rw[ACv] at j;exact j t a z
   have:∃f,t.2.2=some f/\¬e<f:=ACJ λG=>F ((G1 o (.inl rfl)).mpr ⟨DE.mpr (.inl (.inl E)),λf u=>ACJ λz=>G ⟨f,u,z⟩⟩);obtain⟨f,u,hl⟩:=this;have:=h2 f u;grind
def gW {v:PV}{xs:zy PV}{a:zy PV->Prop}(hv:v= .tup xs\/v= .lst xs)(h:a xs):Ni v a:=by rcases hv with rfl|rfl <;> exact h
def Uc {x:PV}{r:zy PV}{ss:zy BD}(h:Ea (x::r) ss):∃s c,ss=s::c/\(x=BS s\/x=cv s)/\Ea r c:=by
 cases h with
 | cons a b=>exact⟨_,_,rfl,a,b⟩
def cO {x:PV}{s:BD}{a:zy PV->Prop}(h:x=BS s\/x=cv s)(q:a [fr s.1, .int s.2.1,Wr s.2.2]):Ni x a:=by rcases h with rfl|rfl <;> exact q
theorem VL {a:Type}(f:a->zq):∀xs:zy a,JI (xs.map λx=> .bl (f x))=some (xs.map f)
 | [] =>rfl
 | x::xs=>by show (JI (xs.map λx=> .bl (f x))).map (f x :: ·)=_;rw[VL f xs];rfl
def mO (xs:zy PV):IB xs (some 1) none=xs.drop 1:=by
 unfold IB;rw[HT.sIx_none,show ((1:Int))=((1:Nat):Int) from rfl,HT.sIx_nat];cases xs with
 | nil=>rfl
 | cons x xs=> rw[Nat.min_eq_left (by simp)];simp
def ib (a b:zy Rat):HS (a.map fr) (b.map fr)=(a.zip b).map λp=> .tup [fr p.1,fr p.2] :=by unfold HS;rw[List.zipWith_map,List.zip,List.map_zipWith]
theorem Mr:∀(X:zy (Pl×zq)) (st:zy BD×zt Pl),2*(X.foldl stepI st).1.length+(if (X.foldl stepI st).2.isSome then 1 else 0)<=2*st.1.length+(if st.2.isSome then 1 else 0)+X.length
 | [],st=>AAI _
 | x::X,st=>by
   have h1:=Mr X (stepI st x);have h2:2*(stepI st x).1.length+(if (stepI st x).2.isSome then 1 else 0)<=2*st.1.length+(if st.2.isSome then 1 else 0)+1:=by obtain⟨L,b⟩:=st;obtain⟨p,c⟩:=x;cases b <;> cases c <;> simp[stepI] <;> omega
   rw[AA3,AAZ];omega
def XT (X:zy (Pl×zq)):2*(D1 X).length<=X.length+1:=by have h:=Mr X ([],none);unfold D1;generalize X.foldl stepI ([],none)=st at *;obtain⟨L,b⟩:=st;cases b <;> simp[Pd] at * <;> omega
def FZ {n:Int}{ss:zy BD}:(canon n ss).length<=2*ss.length:=by unfold canon Cy;have h:=XT ((places (BW (Bs ss))).map λp=>(p,decide (n<=(Hn ss p:Int))));have a:=Db (xs:=Bs ss);have b:=J8 (ss:=ss);have c:=IM (qs:=BW (Bs ss));rw[AAJ] at h;omega
def lt_size {k n:Nat}(h:k<=n)(a:n<1000000):k<sizeLine:=AAs h (AAV a (AAo rfl))
def BR.mono {B C:Nat}{s:BD}(h:BR B s)(k:B<=C):BR C s:=⟨h.b.mono k,h.h,λe he=>⟨(h.e e he).1,(h.e e he).2.mono k⟩⟩
def Vd {B:Nat}{s:BD}{m x:Rat}(os:BR B s)(hx:s.2.2=some x):Ap s (m,0)=true↔(s.1<m\/(s.1=m/\s.2.1=1))/\m<x:=by
 unfold Ap;rw[hx];have:0<s.2.1+0↔s.2.1=1:=by have:=os.h;omega
 simp only[AAf,ABV,ABe,this]
abbrev Ho:AS:=
 (AY (ED (Jy (aV 0)) (Hx 2 (AZ (Ak 2) (AZ (Ak 3) Bq))) (TM 1 C6 (AW Pb (aV 3) (AN 2 GN (AB (aV 1) (AB (aV 3) AM))))))
   (Aq (aV 1)))
abbrev F3:AS:=
 (AY (Aj (aC (.int 1)) (Ak 1))
   Ho)
def CP:AF:=Am 4 F3
def Jh {a:PV}{Q:PV->Prop}(h:F3 ⟨λ_=>Q .non,Q,λ_=>False,λ_=>False⟩ [some (.val a),none,none,none]):CP [a] Q:=h
def L3 (xs:zy Rat):Nat:=xs.foldl (λN r=>N*(r.den/Nat.gcd N r.den)) 1
def V9 (xs:zy Rat)(r:Rat):L3 (xs ++ [r])=L3 xs*(r.den/Nat.gcd (L3 xs) r.den):=by unfold L3;rw[ABU];rfl
def cy {N d:Nat}(hN:0<N)(hd:0<d):0<N*(d/Nat.gcd N d)/\N ∣ N*(d/Nat.gcd N d)/\d ∣ N*(d/Nat.gcd N d)/\N*(d/Nat.gcd N d)<=N*d:=by have g:Nat.gcd N d ∣ d:=ACB ..;have a:0<Nat.gcd N d:=ABu _ hd;refine⟨Nat.mul_pos hN (Nat.div_pos (ACl hd g) a),Nat.dvd_mul_right .., ?_,Nat.mul_le_mul_left _ (ABf ..)⟩;rw[<-Nat.mul_div_assoc _ g];exact Nat.dvd_lcm_right ..
theorem Ul {W:Nat}:∀(n:Nat) (xs:zy Rat),xs.length=n->(∀x∈xs,Bd W x)->0<L3 xs/\(∀x∈xs,x.den ∣ L3 xs)/\L3 xs<2^(n*W+1)
 | 0,xs,e,_=>by have:xs= [] :=ADs.mp e;subst this;exact⟨by decide,by simp,by simp[L3]⟩
 | n+1,xs,e,h=>by
   obtain⟨ys,r,rfl⟩:∃ys r,xs=ys ++ [r] :=⟨xs.dropLast,xs.getLast (by intro z;subst z;cases e),(ACw _).symm⟩;have a:ys.length=n:=by simpa using e
   obtain⟨h1,h2,b⟩:=Ul n ys a λx hx=>h x (by simp[hx]);have c:=(h r (by simp)).bot;rw[V9];obtain⟨d,f,g,i⟩:=cy h1 r.den_pos;refine⟨d,λx hx=> ?_, ?_⟩
   .rcases AAO.mp hx with hx|hx
    .exact Nat.dvd_trans (h2 x hx) f
    .simp at hx;subst hx;exact g
   .refine AAs i ?_;have:=UM b c;rw[show n*W+1+W=(n+1)*W+1 by rw[Nat.succ_mul];omega] at this;exact this
def iC (N:Nat)(r:Rat):Int:=r.num*((N:Int).fdiv (r.den:Int))
def Zn {N:Nat}{r:Rat}(h:r.den ∣ N):(iC N r:Rat)=r*N:=by
 obtain⟨k,rfl⟩:=h;have hd:=r.den_pos;unfold iC;rw[ACm,Int.mul_fdiv_cancel_left _ (by omega),ACx];have b:((r.den:Int):Rat)≠0:=λz=>by have:(r.den:Int)=0:=Rat.intCast_inj.mp z;omega
 have e:r=(r.num:Rat)/((r.den:Int):Rat):=by rw[<-Rat.divInt_eq_div,ABF]
 have a:r*((r.den:Int):Rat)=r.num:=by
  conv=>lhs;arg 1;rw[e]
  grind
 rw[<-a,show ((r.den*k:Nat):Rat)=((r.den:Int):Rat)*((k:Int):Rat) by rw[<-ACx,<-ACm,Rat.intCast_natCast]];grind
structure Pc where
 b:Rat
 e:Rat
 o0:T3
 o1:T3
def Pc.six (p:Pc):zy Rat:= [p.o0.1,p.o0.2.1,p.o0.2.2,p.o1.1,p.o1.2.1,p.o1.2.2]
def Pc.N (p:Pc):Nat:=L3 p.six
def iU (cs a:zy C4)(b e:Rat):zy Rat:=BW ([b,e] ++ ((cs.filter (jU b e)++a.filter (jU b e)).map (·.1)))
def nV (cs a:zy C4)(d:Rat×Rat)(m:Rat):T3:=nU ((spotC cs m).getD (0,0,0)) ((spotC a m).getD (0,0,0)) d
def nX (cs a:zy C4)(d:Rat×Rat)(b:zy Rat):zy Pc:=(b.zip b.tail).map λp=>⟨p.1,p.2,nV cs a d p.1,nV cs a d p.2⟩
def ja (cs:zy C4):Rat:=(cs.head?.getD (0,0,0,0)).1
def lstM (cs:zy C4):Rat:=(cs.getLast?.getD (0,0,0,0)).1
def fF (cs a:zy C4):Rat:=mx (ja cs) (ja a)
def fP (cs a:zy C4):Rat:=mn (lstM cs) (lstM a)
def uv (cs a:zy C4):zy Rat:=iU cs a (fF cs a) (fP cs a)
def ug (cs a:zy C4)(d:Rat×Rat):zy Pc:=if fF cs a<fP cs a then nX cs a d (uv cs a) else []
abbrev Nr:AS:=
 (AY (Aj (FR DV (AB (Ej (Bz (Jy (aV 0)) 2 [3] (Hx 2 (AZ (Ak 0) (AZ (Ak 1) Bq))) Dd (AW C6 (aV 0) (AW Pb (aV 2) (aV 1))))) AM)) (Ak 4))
   (Aq (A2 (AB (aV 4) (AB (aV 1) (AB (X3 (aV 2) (aV 3)) AM))))))
abbrev MR:AS:=
 (AY (Aj (AN 1 CP (AB (aV 0) AM)) (Ak 3))
   Nr)
def CD:AF:=Am 5 MR
def QS {a b c:PV}{Q:PV->Prop}(h:MR ⟨λ_=>Q .non,Q,λ_=>False,λ_=>False⟩ [some (.val a),some (.val b),some (.val c),none,none]):CD [a,b,c] Q:=h
abbrev Q7:AS:=
 (AY (X4 5 6 7 1 3 (AW Ai (aV 0) (aC (.int 2))) (AW Ai (aV 2) (aC (.int 2))))
   (Aq (A2 (AB (aV 4) (AB (FR (fV max) (AB (AW Ai (aV 0) (aC (.int 1))) (AB (AW Ai (aV 2) (aC (.int 1))) AM))) (AB (aV 5) AM))))))
abbrev Q6:AS:=
 (AY (Aj (FR DV (AB (Ej (Bz (db (AB (AW Ai (aV 0) (aC (.int 0))) (AB (AW Ai (aV 2) (aC (.int 0))) AM))) 2 [1,3] (Hx 2 (AZ (Ak 0) (AZ (Ak 1) Bq))) Dd (AW Bl (AW C6 (aV 2) (aV 0)) (AW C6 (aV 3) (aV 1))))) AM)) (Ak 4))
   Q7)
def GQ:AF:=Am 8 Q6
def Uf {a b c d:PV}{Q:PV->Prop}(h:Q6 ⟨λ_=>Q .non,Q,λ_=>False,λ_=>False⟩ [some (.val a),some (.val b),some (.val c),some (.val d),none,none,none,none]):GQ [a,b,c,d] Q:=h
abbrev OS:AS:=
 (Aq (AN 4 GQ (AB (aV 0) (AB (TR J0 (AW Ai (AW Ai (aV 1) (aC (.int 0))) (aV 2))) (AB (aV 1) (AB (AW Ai (AW Ai (aV 0) (aC (.int 0))) (aV 2)) AM))))))
def FJ:AF:=Am 3 OS
def SV {a b c:PV}{Q:PV->Prop}(h:OS ⟨λ_=>Q .non,Q,λ_=>False,λ_=>False⟩ [some (.val a),some (.val b),some (.val c)]):FJ [a,b,c] Q:=h
abbrev MM:AS:=
 (AY (Aj (AW Ai (AW Ai (aV 0) (aC (.int 0))) (aC (.int 0))) (Ak 1))
   (Aq (lP (AW YR (aV 1) (aC (.int 0))) (RK (AW Nh (aV 1) (aC (.int 0))) (AW Nh (AW Ai (aV 0) (aC (.int 1))) (aC (.int 1)))))))
def Dh:AF:=Am 2 MM
def QP {a:PV}{Q:PV->Prop}(h:MM ⟨λ_=>Q .non,Q,λ_=>False,λ_=>False⟩ [some (.val a),none]):Dh [a] Q:=h
abbrev PK:AS:=
 (AY (Aj (AW Ai (AW Ai (aV 0) (aC (.int 0))) (aV 1)) (Ak 3))
   (Aq (ii (Ax (AW aZ (aV 3) (aC (.int 0)))) (A2 (AB (TR J0 (aV 2)) (AB (aV 3) AM))) (A2 (AB (aV 2) (AB (TR J0 (aV 3)) AM))))))
abbrev OW:AS:=
 (AY (Aj (AW Ai (AW Ai (aV 0) (aC (.int 0))) (aC (.int 0))) (Ak 2))
   PK)
def DG:AF:=Am 4 OW
def SZ {a b:PV}{Q:PV->Prop}(h:OW ⟨λ_=>Q .non,Q,λ_=>False,λ_=>False⟩ [some (.val a),some (.val b),none,none]):DG [a,b] Q:=h
abbrev LL:AS:=
 (AY (CF (Ax (AN 2 Ar (AB (aV 4) (AB (aV 3) AM)))) (Aq (AW aZ (AW Ai (AW Ai (aV 0) (aC (.int 0))) (aV 2)) (aC (.int 0)))) BV)
   (Aq (AW aZ (AW Ai (aV 0) (aC (.int 1))) (AW Ai (aV 1) (aC (.int 1))))))
abbrev LK:AS:=
 (AY (CF (Ax (AN 2 Ar (AB (aV 3) (AB (aV 4) AM)))) (Aq (AW YR (AW Ai (AW Ai (aV 0) (aC (.int 0))) (aV 2)) (aC (.int 0)))) BV)
   LL)
abbrev LJ:AS:=
 (AY (Aj (AN 2 DG (AB (aV 1) (AB (aV 2) AM))) (Ak 4))
   LK)
abbrev JB:AS:=
 (AY (Aj (AN 2 DG (AB (aV 0) (AB (aV 2) AM))) (Ak 3))
   LJ)
def DQ:AF:=Am 5 JB
def NO {a b c:PV}{Q:PV->Prop}(h:JB ⟨λ_=>Q .non,Q,λ_=>False,λ_=>False⟩ [some (.val a),some (.val b),some (.val c),none,none]):DQ [a,b,c] Q:=h
abbrev Ny:AS:=
 (AY (ED (Jy (aV 0)) (Ak 4) (CF (Er (Ax (AW aZ (AW C6 (AW Ai (AW Ai (aV 4) (aC (.int 0))) (aV 1)) (aV 2)) (aC (.int 0)))) (RM (Ax (AW HN (aV 3) (aC .non))) (Ax (AN 3 DQ (AB (aV 4) (AB (aV 3) (AB (aV 1) AM))))))) (Aj (aV 4) (Ak 3)) BV))
   (Aq (aV 3)))
abbrev MW:AS:=
 (AY (Aj (aC .non) (Ak 3))
   Ny)
def Ci:AF:=Am 5 MW
def QV {a b c:PV}{Q:PV->Prop}(h:MW ⟨λ_=>Q .non,Q,λ_=>False,λ_=>False⟩ [some (.val a),some (.val b),some (.val c),none,none]):Ci [a,b,c] Q:=h
abbrev Np:AS:=
 (AY (Aj (AN 3 FJ (AB (AN 3 Ci (AB (aV 0) (AB (aV 1) (AB (aC (.int 1)) AM)))) (AB (aV 3) (AB (aV 1) AM)))) (Ak 4))
   (Aq (ii (Ax (AN 1 Dh (AB (aV 4) AM))) (aV 4) (aC .non))))
abbrev Nn:AS:=
 (AY (CF (Ax (AW HN (aV 3) (aC .non))) (Aq (aC .non)) BV)
   Np)
abbrev Nm:AS:=
 (AY (Aj (AN 3 Ci (AB (aV 0) (AB (aV 1) (AB (TR J0 (aC (.int 1))) AM)))) (Ak 3))
   Nn)
abbrev ML:AS:=
 (AY (ED (Jy (aV 0)) (Ak 2) (CF (Er (Ax (AW Nh (AW Ai (AW Ai (aV 2) (aC (.int 0))) (aV 1)) (aC (.int 0)))) (Ax (AN 1 Dh (AB (aV 2) AM)))) (Aq (aV 2)) BV))
   Nm)
def EU:AF:=Am 5 ML
def QO {a b:PV}{Q:PV->Prop}(h:ML ⟨λ_=>Q .non,Q,λ_=>False,λ_=>False⟩ [some (.val a),some (.val b),none,none,none]):EU [a,b] Q:=h
abbrev Nx:AS:=
 (AY (Aj (AN 2 DG (AB (aV 4) (AB (aV 1) AM))) (Ak 5))
   (Aq (A2 (AB (aV 3) (AB (AW HP (aC (.int 1)) (AW Ai (aV 2) (aC (.int 1)))) (AB (AN 2 FV (AB (AW Ai (aV 5) (aC (.int 0))) (AB (AW Ai (aV 5) (aC (.int 1))) AM))) AM))))))
abbrev Nw:AS:=
 (AY (CF (Ax (AW HN (aV 4) (aC .non))) (Aq (A2 (AB (aV 3) (AB (AW HP (aC (.int 1)) (AW Ai (aV 2) (aC (.int 1)))) (AB (aC .non) AM))))) BV)
   Nx)
abbrev Nv:AS:=
 (AY (Aj (AN 3 Ci (AB (aV 0) (AB (aV 1) (AB (TR J0 (aC (.int 1))) AM)))) (Ak 4))
   Nw)
abbrev Nu:AS:=
 (AY (Aj (AN 2 FV (AB (AW Ai (aV 3) (aC (.int 0))) (AB (AW Ai (aV 3) (aC (.int 1))) AM))) (Ak 3))
   Nv)
abbrev Nt:AS:=
 (AY (Aj (AN 2 DG (AB (aV 2) (AB (aV 1) AM))) (Ak 3))
   Nu)
abbrev MV:AS:=
 (AY (Aj (AN 3 Ci (AB (aV 0) (AB (aV 1) (AB (aC (.int 1)) AM)))) (Ak 2))
   Nt)
def EW:AF:=Am 6 MV
def QU {a b:PV}{Q:PV->Prop}(h:MV ⟨λ_=>Q .non,Q,λ_=>False,λ_=>False⟩ [some (.val a),some (.val b),none,none,none,none]):EW [a,b] Q:=h
structure DL where
 c0:Int
 c1:Int
 s:Int
 w:List (Int×Int)
def CV (p:DL):PV:= .tup [.tup [.int p.c0, .int p.c1], .int p.s, .dk p.w]
structure HL (N:Nat) (p:DL):Prop where
 a:p.c0.natAbs<2^N
 b:p.c1.natAbs<2^N
 w:∀e∈p.w,e.2.natAbs<2^N
 l:p.w.length<=12
 s:p.s=0\/p.s=1
instance{p:DL}:Ix (CV p) 0 (.tup [.int p.c0, .int p.c1]):=⟨rfl⟩
instance{p:DL}:Ix (CV p) 1 (.int p.s):=⟨rfl⟩
instance{p:DL}:Ix (CV p) 2 (.dk p.w):=⟨rfl⟩
def fM {a b:AE}{τ:A7}{Q:PV->Prop}:X3 a b τ Q=a τ λx=>b τ λy=>Xk x λi=>Xk y λj=>Q (.dk [(i,j)]):=by
 unfold X3;congr 1
 funext x
 congr 1
 funext y
 cases x <;> cases y <;> rfl
instance{a b:AE}{τ:A7}{Q:PV->Prop}:Wp (X3 a b τ Q) (a τ λx=>b τ λy=>Xk x λi=>Xk y λj=>Q (.dk [(i,j)])):=⟨λh=>by rw[fM];exact h⟩
def UY (p:DL)(t:Rat):Rat:=p.c0+p.c1*t
def Zm {S:Nat}{r:Rat}{W N:Nat}(b:Bd W r)(h:S<2^N):(iC S r).natAbs<2^(W+N):=by unfold iC;rw[ADL];refine UM b.top ?_;rw[ABP _ (by omega),<-ABg,ABx];exact AAs (ABf ..) h
def Uo {a b:Rat}{W:Nat}(i:Bd W a)(j:Bd W b)(g:W<=1400){Q:PV->Prop}(q:Q (.int (L3 [a,b] :Nat))):CP [.tup [fr a,fr b]] Q:=by
 have hx:∀x∈ [a,b],Bd W x:=by simp;exact⟨i,j⟩
 apply Jh;ac_rfl;show C7 _ _ _ ([a,b].map fr) _;refine Cu fr (λus vs τ=>∃d f,τ= [some (.val (.tup [fr a,fr b])),some (.val (.int (L3 us:Nat))),d,f]) ?_ ?_ ⟨_,_,rfl⟩
 .rintro τ ⟨d,f,rfl⟩;ac_rfl;exact q
 .rintro us c vs e τ R k ⟨d,f,rfl⟩;have hu:∀x∈us,Bd W x:=λx l=>hx x (by rw[<-e];simp[l]);have ul:us.length<=6:=by have:=congrArg List.length e;simp at this;omega
  obtain⟨h1,h2,o⟩:=Ul us.length us rfl hu;have h:=(hx c (by rw[<-e];simp)).bot;have r:us.length*W<=6*1400:=Nat.mul_le_mul ul g;have s:0<Nat.gcd (L3 us) c.den:=ABu _ c.den_pos;have gl:Nat.gcd (L3 us) c.den<2^8900:=A9 (AAs (ACl c.den_pos (ACB ..)) h) (by omega);ac_rfl;refine Ku _ _ _ ?_;ac_rfl;refine⟨⟨by omega,by simpa using gl⟩, ?_⟩;have p:((c.den:Nat):Int).fdiv ((Nat.gcd (L3 us) c.den:Nat):Int)=((c.den/Nat.gcd (L3 us) c.den:Nat):Int):=by rw[ABP _ (by omega),ABg]
  rw[p];have dl:c.den/Nat.gcd (L3 us) c.den<2^1400:=A9 (AAs (ABf ..) h) g;ac_rfl;refine⟨MulOk.of (m:=8401) (n:=1400) (by simpa using A9 o (by omega)) (by rw[ABx];exact dl), ?_⟩;exact k _ ⟨some (.val (.int c.num)),some (.val (.int c.den)),by rw[V9,ACm];rfl⟩
def ZP {a b:Rat}{W:Nat}{s n:Int}(c:Bd W a)(d:Bd W b)(e:W<=1400)(hs:s=0\/s=1){Q:PV->Prop}(q:∀(p:DL) (S:Rat),p.s=s->HL (3*W+1) p->0<S->(p.c1:Rat)=b*S->(p.c0:Rat)=a*S->Q (CV p)):CD [.tup [fr a,fr b], .int s, .int n] Q:=by
 obtain⟨h1,h2,f⟩:=Ul (W:=W) 2 [a,b] rfl (by simp;exact⟨c,d⟩);have h:(0:Rat)<((L3 [a,b] :Nat):Rat):=by exact_mod_cast h1
 have i:=Zn (h2 a (by simp));have j:=Zn (h2 b (by simp));have k:=Zm c f;have l:=Zm d f;have g:=q ⟨iC (L3 [a,b]) a,iC (L3 [a,b]) b,s, [(n,(L3 [a,b] :Nat))]⟩ ((L3 [a,b] :Nat):Rat) rfl ⟨A9 k (by omega),A9 l (by omega),by simp;exact A9 f (by omega),by simp,hs⟩ h j i;have m:((L3 [a,b] :Int).fdiv (a.den:Int)).natAbs<2^2801:=by rw[ABP _ (by omega),<-ABg,ABx];exact AAs (ABf ..) (A9 f (by omega))
 have o:((L3 [a,b] :Int).fdiv (b.den:Int)).natAbs<2^2801:=by rw[ABP _ (by omega),<-ABg,ABx];exact AAs (ABf ..) (A9 f (by omega))
 have u:0<a.den:=a.den_pos;have v:0<b.den:=b.den_pos;have r:=(c.mono e).bot;have t:=(d.mono e).bot;apply QS;ac_rfl;refine Uo c d e ?_;unfold iC at g;generalize L3 [a,b] =S at *;repeat' array_get_dec
 refine⟨⟨by omega,by rw[ABx];exact A9 r (by decide)⟩, ?_⟩;repeat' array_get_dec
 refine⟨MulOk.of (c.mono e).top m, ?_⟩;repeat' array_get_dec
 refine⟨⟨by omega,by rw[ABx];exact A9 t (by decide)⟩, ?_⟩;repeat' array_get_dec
 refine⟨MulOk.of (d.mono e).top o, ?_⟩;repeat' array_get_dec
 exact g
def Uj {many:Int}{m:zy (Int×Int)}:(CI many m).length<=m.length:=by
 have key:∀(m a:zy (Int×Int)),(m.foldl (λa p=>NJ a p.1 (many*p.2)) a).length<=a.length+m.length:=by
  intro m;induction m with
  | nil=>intro a;simp
  | cons x r ih=> intro a;rw[AA3,AAZ];have:=ih (NJ a x.1 (many*x.2));have:=NK a x.1 (many*x.2);omega
 have:=key m [];simpa[CI] using this
def XY {p r:DL}{N:Nat}{many more:Int}(hp:HL N p)(d:HL N r)(h1:many.natAbs<2^N)(h2:more.natAbs<2^N)(hN:N<=10000){Q:PV->Prop}(q:Q (CV ⟨many*p.c0+more*r.c0,many*p.c1+more*r.c1,max p.s r.s,Dn more (CI many p.w) r.w⟩)):GQ [CV p, .int many,CV r, .int more] Q:=by
 have c:∀x y:Int,x.natAbs<2^N->y.natAbs<2^N->MulOk x y:=λx y a b=> .of a b;have g:(CI many p.w).length<=p.w.length:=Uj;have f:=hp.l;have h:=d.l;apply Uf;repeat' array_get_dec
 refine⟨c _ _ h1 hp.a, ?_⟩;repeat' array_get_dec
 refine⟨c _ _ h2 d.a, ?_⟩;repeat' array_get_dec
 refine⟨c _ _ h1 hp.b, ?_⟩;repeat' array_get_dec
 refine⟨c _ _ h2 d.b, ?_⟩;repeat' array_get_dec
 refine⟨⟨AAo rfl,AAo rfl,AAo rfl⟩, ?_⟩;repeat' array_get_dec
 refine⟨many,rfl,Yy (n:=12) f (by decide),λe he=>c _ _ h1 (hp.w e he), ?_⟩;show AW Ai (aV 2) (aC (.int 2)) [some (AV.val (CV p)),some (AV.val (PV.int many)),some (AV.val (CV r)),some (AV.val (PV.int more)),some (AV.val (PV.tup [PV.int (many*p.c0+more*r.c0),PV.int (many*p.c1+more*r.c1)])),none,none,none] _;repeat' array_get_dec
 refine⟨more,rfl,Yy (n:=24) (by omega) (by decide),λe he=>c _ _ h2 (d.w e he), ?_⟩;simp only[List.set_cons_succ,List.set_cons_zero];repeat' array_get_dec
 exact q
def Tc {p r:DL}{N:Nat}(hp:HL N p)(a:HL N r)(hN:N<=10000){Q:PV->Prop}(q:Q (CV ⟨-r.c1*p.c0+p.c1*r.c0, -r.c1*p.c1+p.c1*r.c1,max p.s r.s,Dn p.c1 (CI (-r.c1) p.w) r.w⟩)):FJ [CV p,CV r, .int 1] Q:=by
 apply SV;repeat' array_get_dec
 exact XY hp a (by rw[ABs];exact a.b) hp.b hN q
def KB (p:DL):zq:=decide (p.c0<0\/(p.c0=0/\p.s=1))
def Ru {p:DL}{Q:PV->Prop}(q:Q (.bl (KB p))):Dh [CV p] Q:=by
 unfold KB at q;apply QP;repeat' array_get_dec
 .rename_i h;rw[AA1 (.inl h)] at q;exact q
 .rename_i h1 h2;rw[show decide (p.c0<0\/p.c0=0/\p.s=1)=decide (p.s=1) by rw[ABS];omega] at q;exact q
 .rename_i h1 h2;rw[AAj (by omega)] at q;exact q
def Bt (p:DL):Int×Int:=if 0<p.c1 then (-p.c0,p.c1) else (p.c0, -p.c1)
def L5 {p:DL}{Q:PV->Prop}(q:Q (.tup [.int (Bt p).1, .int (Bt p).2])):DG [CV p, .int 1] Q:=by
 unfold Bt at q;apply SZ;repeat' array_get_dec
 .rename_i h;rw[AAE h] at q;exact q
 .rename_i h;rw[AAC h] at q;exact q
def De (p:DL):Rat:= -(p.c0:Rat)/p.c1
def U2 (p r:DL):zq:=if (Bt p).1*(Bt r).2<(Bt r).1*(Bt p).2 then decide (p.c1<0) else if (Bt r).1*(Bt p).2<(Bt p).1*(Bt r).2 then decide (0<p.c1) else decide (r.s<p.s)
def Go {p:DL}{N:Nat}(h:HL N p):(Bt p).1.natAbs<2^N/\(Bt p).2.natAbs<2^N:=by
 unfold Bt;have:=h.a;have:=h.b;split
 .rw [ABs];exact⟨h.a,h.b⟩
 .rw [ABs];exact⟨h.a,h.b⟩
def Ml {a b c d:Int}{N:Nat}(h1:a.natAbs<2^N)(h2:b.natAbs<2^N)(e:c.natAbs<2^N)(f:d.natAbs<2^N)(hN:N<=10000){Q:PV->Prop}(q:Q (.bl (decide (a*d<c*b)))):Ar [.tup [.int a, .int b], .tup [.int c, .int d]] Q:=by refine⟨.of h1 f, .of e h2,q⟩
def U3 {p r:DL}{N:Nat}(hp:HL N p)(d:HL N r)(hN:N<=10000){Q:PV->Prop}(q:Q (.bl (U2 p r))):DQ [CV p,CV r, .int 1] Q:=by
 obtain⟨a,b⟩:=Go hp;obtain⟨c,b2⟩:=Go d;unfold U2 at q;apply NO;ac_rfl;refine L5 ?_;ac_rfl;refine L5 ?_;ac_rfl;refine Ml a b c b2 hN ?_;ac_rfl
 .rename_i h;rw[AAE h] at q;exact q
 rename_i h;rw[AAC h] at q;refine Ml c b2 a b hN ?_;ac_rfl
 .rename_i h;rw[AAE h] at q;exact q
 .rename_i h;rw[AAC h] at q;exact q
def holds (p:DL)(t:Rat):Prop:=0<UY p t\/(UY p t=0/\p.s=0)
def C9 {p:DL}(h:p.c1≠0):0<(Bt p).2/\((Bt p).1:Rat)=De p*((Bt p).2:Rat)/\(p.c0:Rat)= - (De p*p.c1):=by
 have hc:(p.c1:Rat)≠0:=by exact_mod_cast h
 have e:De p*(p.c1:Rat)= -(p.c0:Rat):=by unfold De;exact Rat.div_mul_cancel hc
 unfold Bt;split
 .rename_i h1;refine⟨h1, ?_, ?_⟩
  .rw [e];push_cast;rfl
  .rw [e];grind
 .rename_i h1;refine⟨by show 0 < -p.c1;omega, ?_, ?_⟩
  .push_cast;grind
  .rw [e];grind
def WL {p r:DL}(hp:p.c1≠0)(a:r.c1≠0):(Bt p).1*(Bt r).2<(Bt r).1*(Bt p).2↔De p<De r:=by
 obtain⟨b,c,_⟩:=C9 hp;obtain⟨d,b2,_⟩:=C9 a;have e:(0:Rat)<((Bt p).2:Rat):=by exact_mod_cast b
 have f:(0:Rat)<((Bt r).2:Rat):=by exact_mod_cast d
 rw[<-ACy,ACx,ACx,c,b2];generalize ((Bt p).2:Rat)=x at *;generalize ((Bt r).2:Rat)=y at *;have g:0<x*y:=Rat.mul_pos e f;rw[show De p*x*y=De p*(x*y) by grind,show De r*y*x=De r*(x*y) by grind];exact Rat.mul_lt_mul_right g
def Vy {p:DL}(h:p.c1≠0)(t:Rat):UY p t=p.c1*(t-De p):=by obtain⟨_,_,e⟩:=C9 h;unfold UY;rw[e];grind
def EO {p:DL}(h:0<p.c1)(t:Rat):holds p t↔(De p<t\/(De p=t/\p.s=0)):=by
 have hc:(0:Rat)<p.c1:=by exact_mod_cast h
 unfold holds;rw[Vy (by omega)];have a:0<(p.c1:Rat)*(t-De p)↔De p<t:=by rw[ABy hc];grind
 have b:(p.c1:Rat)*(t-De p)=0↔De p=t:=by rw[ACK];grind
 rw[a,b]
def Dj {p:DL}(h:p.c1<0)(t:Rat):holds p t↔(t<De p\/(De p=t/\p.s=0)):=by
 have hc:(0:Rat) < -(p.c1:Rat):=by
  have:(p.c1:Rat)<0:=by exact_mod_cast h
  grind
 unfold holds;rw[Vy (by omega)];have a:0<(p.c1:Rat)*(t-De p)↔t<De p:=by rw[show (p.c1:Rat)*(t-De p)= -(p.c1:Rat)*(De p-t) by grind,ABy hc];grind
 have b:(p.c1:Rat)*(t-De p)=0↔De p=t:=by rw[ACK];grind
 rw[a,b]
instance{p:DL}{Q:PV->Prop}:Wp (HN (CV p) .non Q) (Q (.bl false)):=⟨id⟩
def QG:zt DL->PV|none=> .non|some p=>CV p
def Sm (a:Int)(o:zt DL)(p:DL):zt DL:=if 0<p.c1*a then (match o with | none=>some p|some r=>if U2 p r=true then some p else some r) else o
def tight (a:Int)(b:zy DL):zt DL:=b.foldl (Sm a) none
def aO {p r:DL}{b:Int}(h:b=1\/b= -1)(hp:0<p.c1*b)(a:0<r.c1*b)(sp:p.s=0\/p.s=1)(e:r.s=0\/r.s=1)(t:Rat):(U2 p r=true->holds p t->holds r t)/\(U2 p r=false->holds r t->holds p t):=by
 have c:p.c1≠0:=by intro z;rw[z] at hp;simp at hp
 have d:r.c1≠0:=by intro z;rw[z] at a;simp at a
 unfold U2;simp only[WL c d,WL d c];rcases h with rfl|rfl
 .have hp:0<p.c1:=by omega
  have a:0<r.c1:=by omega
  rw[EO hp,EO a];split
  .simp [show ¬p.c1<0 by omega];grind
  .split
   .simp [hp];grind
   .simp;grind
 .have hp:p.c1<0:=by omega
  have a:r.c1<0:=by omega
  rw[Dj hp,Dj a];split
  .simp [hp];grind
  .split
   .simp [show ¬0<p.c1 by omega];grind
   .simp;grind
structure e8 (sg:Int) (ps:List DL) (o:Option DL):Prop where
 no:o=none->∀p∈ps,¬0<p.c1*sg
 so:∀r,o=some r->r∈ps/\0<r.c1*sg/\∀p∈ps,0<p.c1*sg->∀t,holds r t->holds p t
def Xa {c:Int}(h:c=1\/c= -1){g:zy DL}{o:zt DL}{p:DL}(hs:∀p∈g,p.s=0\/p.s=1)(hp:p.s=0\/p.s=1)(i:e8 c g o):e8 c (g ++ [p]) (Sm c o p):=by
 unfold Sm;split
 .rename_i h1;cases o with
  | none=>
    refine⟨λz=>(by cases z),λr e=> ?_⟩;cases e;refine⟨by simp,h1,λx hx h2 t a=> ?_⟩;rcases AAO.mp hx with hx|hx
    .exact absurd h2 (i.no rfl x hx)
    .rw [AAW.mp hx];exact a
  | some r=>
    obtain⟨m,d,f⟩:=i.so r rfl;have j:=aO h h1 d hp (hs r m);dsimp only;split
    .rename_i h2;refine⟨λz=>(by cases z),λk e=> ?_⟩;cases e;refine⟨by simp,h1,λx hx b t a=> ?_⟩;rcases AAO.mp hx with hx|hx
     .exact f x hx b t ((j t).1 h2 a)
     .rw [AAW.mp hx];exact a
    .rename_i h2;refine⟨λz=>(by cases z),λk e=> ?_⟩;cases e;refine⟨by simp[m],d,λx hx b t a=> ?_⟩;rcases AAO.mp hx with hx|hx
     .exact f x hx b t a
     .rw [AAW.mp hx];exact(j t).2 (by simpa using h2) a
 .rename_i h1;refine⟨λz x hx=> ?_,λr e=> ?_⟩
  .rcases AAO.mp hx with hx|hx
   .exact i.no z x hx
   .rw [AAW.mp hx];exact h1
  .obtain ⟨m,d,f⟩:=i.so r e;refine⟨by simp[m],d,λx hx b t a=> ?_⟩;rcases AAO.mp hx with hx|hx
   .exact f x hx b t a
   .rw [AAW.mp hx] at b;exact absurd b h1
def O5 (a:Int)(us:zy DL)(p:DL):tight a (us ++ [p])=Sm a (tight a us) p:=by unfold tight;rw[ABU];rfl
theorem CT {b:Int}(h:b=1\/b= -1):∀(n:Nat) (a:zy DL),a.length=n->(∀p∈a,p.s=0\/p.s=1)->e8 b a (tight b a)
 | 0,a,e,_=>by have:a= [] :=ADs.mp e;subst this;exact⟨λ_=>by simp,λr e=>by cases e⟩
 | n+1,a,e,hs=>by obtain⟨ys,r,rfl⟩:∃ys r,a=ys ++ [r] :=⟨a.dropLast,a.getLast (by intro z;subst z;cases e),(ACw _).symm⟩;rw[O5];exact Xa h (λp hp=>hs p (by simp[hp])) (hs r (by simp)) (CT h n ys (by simpa using e) λp hp=>hs p (by simp[hp]))
def Ez {v:PV}{d:zy DL}{N:Nat}{c:Int}(hv:v= .lst (d.map CV))(h:c=1\/c= -1)(ok:∀p∈d,HL N p)(hN:N<=10000)(hl:d.length<=100){Q:PV->Prop}(q:Q (QG (tight c d))):Ci [v, .int 1, .int c] Q:=by
 subst hv;have o:c.natAbs<2^N\/N=0:=by
  rcases Nat.eq_zero_or_pos N with z|z
  .exact .inr z
  .left;have:2^1<=2^N:=ADK (by decide) z;omega
 apply QV;ac_rfl;refine Cu CV (λus vs τ=>∃f,τ= [some (.val (.lst (d.map CV))),some (.val (.int 1)),some (.val (.int c)),some (.val (QG (tight c us))),f]) ?_ ?_ ⟨_,rfl⟩
 .rintro τ ⟨f,rfl⟩;ac_rfl;exact q
 .rintro us p vs e τ R g ⟨f,rfl⟩;have i:HL N p:=ok p (by rw[<-e];simp);have j:∀x∈us,HL N x:=λx hx=>ok x (by rw[<-e];simp[hx]);have k:=CT h us.length us rfl λx hx=>(j x hx).s;have a:=g [some (.val (.lst (d.map CV))),some (.val (.int 1)),some (.val (.int c)),some (.val (QG (tight c (us ++ [p])))),some (.val (CV p))] ⟨_,rfl⟩;clear g;rw[O5] at a;unfold Sm at a;have m1:MulOk p.c1 c:= .of (m:=10000) (n:=10000) (A9 i.b hN) (A9 (m:=1) (by omega) (by decide));cases hq:tight c us with
  | none=>
    rw[hq] at a;rw[show QG none=PV.non from rfl];ac_rfl
    .rename_i z;rw[AAE z] at a;exact a
    .rename_i z;rw[AAC z] at a;exact a
  | some r=>
    rw[hq] at a;have l:=j r (k.so r hq).1;rw[show QG (some r)=CV r from rfl];ac_rfl
    .rename_i z;rw[AAE z] at a;refine U3 i l hN ?_;dsimp only at a;cases hb:U2 p r with
     | true=> rw[hb,AAE rfl] at a;ac_rfl;exact a
     | false=> rw[hb,AAC (by decide)] at a;ac_rfl;exact a
    .rename_i z;rw[AAC z] at a;exact a
def U4 {p:DL}(h:p.c1≠0):Rat.divInt (Bt p).1 (Bt p).2=De p:=by
 obtain⟨a,b,_⟩:=C9 h;have hz:((Bt p).2:Rat)≠0:=by
  have:(0:Rat)<((Bt p).2:Rat):=by exact_mod_cast a
  grind
 rw[Rat.divInt_eq_div,b];exact Rat.mul_div_cancel hz
def Za {v:PV}{a:zy DL}{N:Nat}{l h:DL}(hv:v= .lst (a.map CV))(ok:∀p∈a,HL N p)(hN:N<=8900)(hl:a.length<=100)(b:tight 1 a=some l)(c:tight (-1) a=some h){Q:PV->Prop}(q:Q (.tup [fr (De l), .int (1-l.s),fr (De h)])):EW [v, .int 1] Q:=by
 have d:=(CT (.inl rfl) a.length a rfl λx hx=>(ok x hx).s).so l b;have e:=(CT (.inr rfl) a.length a rfl λx hx=>(ok x hx).s).so h c;have f:l.c1≠0:=by have:=d.2.1;omega
 have g:h.c1≠0:=by have:=e.2.1;omega
 have i:=Go (ok l d.1);have b2:=Go (ok h e.1);have j:=(C9 f).1;have k:=(C9 g).1;rw[<-U4 f,<-U4 g] at q;apply QU;ac_rfl;refine Ez hv (.inl rfl) ok (by omega) hl ?_;rw[b,show QG (some l)=CV l from rfl];ac_rfl;refine L5 ?_;ac_rfl;refine EL _ _ (by omega) (A9 i.2 hN) _ ?_;ac_rfl;refine Ez hv (.inr rfl) ok (by omega) hl ?_;rw[c,show QG (some h)=CV h from rfl];ac_rfl;refine L5 ?_;ac_rfl;refine EL _ _ (by omega) (A9 b2.2 hN) _ ?_;ac_rfl;exact q
def bF {a:zy DL}{l h:DL}(hs:∀p∈a,p.s=0\/p.s=1)(m:tight 1 a=some l)(n:tight (-1) a=some h)(h1:h.s=1)(o:∀p∈a,p.c1=0->KB p=false)(t:Rat):(∀p∈a,holds p t)↔((De l<t\/(De l=t/\l.s=0))/\t<De h):=by
 have c:=(CT (.inl rfl) a.length a rfl hs).so l m;have d:=(CT (.inr rfl) a.length a rfl hs).so h n;have f:0<l.c1:=by have:=c.2.1;omega
 have g:h.c1<0:=by have:=d.2.1;omega
 constructor
 .intro i;have e:=(EO f t).mp (i l c.1);have b:=(Dj g t).mp (i h d.1);refine⟨e, ?_⟩;rcases b with b|b
  .exact b
  .omega
 .rintro ⟨e,b⟩ p hp;rcases Int.lt_trichotomy p.c1 0 with z|z|z
  .exact d.2.2 p hp (by omega) t ((Dj g t).mpr (.inl b))
  .have:=o p hp z;unfold KB at this;have this:=ABR this;unfold holds UY;rw[z];rcases hs p hp with j|j
   .have:0<=p.c0:=by omega
    rcases Int.lt_or_eq_of_le this with k|k
    .left;have:(0:Rat)<p.c0:=by exact_mod_cast k
     grind
    .right;rw[<-k];exact⟨by grind,j⟩
   .have k:0<p.c0:=by omega
    left;have:(0:Rat)<p.c0:=by exact_mod_cast k
    grind
  .exact c.2.2 p hp (by omega) t ((EO f t).mpr e)
def YT {v:PV}{a:zy DL}{N:Nat}(hv:v= .lst (a.map CV))(ok:∀p∈a,HL N p)(hN:N<=8900)(hl:a.length<=100)(lo:∃p∈a,0<p.c1)(hi:∃p∈a,p.c1<0)(hs:∀p∈a,p.c1<0->p.s=1){Q:PV->Prop}(J:∀l h,tight 1 a=some l->tight (-1) a=some h->De l<De h->h.s=1->(∀p∈a,p.c1=0->KB p=false)->Q .non)(E:∀p,(∀t,¬∀p∈a,holds p t)->Q (CV p)):EU [v, .int 1] Q:=by
 have F:=CT (.inl rfl) a.length a rfl λx hx=>(ok x hx).s;have G:=CT (.inr rfl) a.length a rfl λx hx=>(ok x hx).s;obtain⟨l,n⟩:∃l,tight 1 a=some l:=by
  cases e:tight 1 a with
  | some l=>exact⟨l,rfl⟩
  | none=>obtain⟨p,hp,h⟩:=lo;exact absurd (by omega) (F.no e p hp)
 obtain⟨h,o⟩:∃h,tight (-1) a=some h:=by
  cases e:tight (-1) a with
  | some l=>exact⟨l,rfl⟩
  | none=>obtain⟨p,hp,h⟩:=hi;exact absurd (by omega) (G.no e p hp)
 have f:=F.so l n;have g:=G.so h o;have H:0<l.c1:=by have:=f.2.1;omega
 have r:h.c1<0:=by have:=g.2.1;omega
 have K:=hs h g.1 r;apply QO;ac_rfl;subst hv;refine Cu CV (λus vs τ=>(∀p∈us,p.c1=0->KB p=false)/\∃u i j,τ= [some (.val (.lst (a.map CV))),some (.val (.int 1)),u,i,j]) ?_ ?_ ⟨by simp,_,_,_,rfl⟩
 .rintro τ ⟨y,u,i,j,rfl⟩;have A:(0:Rat)<l.c1:=by exact_mod_cast H
  have B:(0:Rat) < -(h.c1:Rat):=by
   have:(h.c1:Rat)<0:=by exact_mod_cast r
   grind
  have L:((-h.c1*l.c0+l.c1*h.c0:Int):Rat)=(l.c1 * -(h.c1:Rat))*(De h-De l):=by
   push_cast
   rw[(C9 (p:=l) (by omega)).2.2,(C9 (p:=h) (by omega)).2.2];grind
  have M:max l.s h.s=1:=by have:=(ok l f.1).s;omega
  have C:=Rat.mul_pos A B;have key:De l<De h↔0 < -h.c1*l.c0+l.c1*h.c0:=by rw[<-ACy,L,ADZ,ABy C];grind
  ac_rfl;refine Ez rfl (.inr rfl) ok (by omega) hl ?_;rw[o,show QG (some h)=CV h from rfl];ac_rfl;refine Ez rfl (.inl rfl) ok (by omega) hl ?_;rw[n,show QG (some l)=CV l from rfl];ac_rfl;refine Tc (ok l f.1) (ok h g.1) (by omega) ?_;have f1:=E ⟨-h.c1*l.c0+l.c1*h.c0, -h.c1*l.c1+l.c1*h.c1,max l.s h.s,Dn l.c1 (CI (-h.c1) l.w) h.w⟩;have O:=J l h n o;generalize hb:(⟨-h.c1*l.c0+l.c1*h.c0, -h.c1*l.c1+l.c1*h.c1,max l.s h.s,Dn l.c1 (CI (-h.c1) l.w) h.w⟩:DL)=b at *;have T:b.c0= -h.c1*l.c0+l.c1*h.c0:=by rw[<-hb]
  have bs:b.s=1:=by rw[<-hb];exact M
  ac_rfl;refine Ru ?_;cases c:KB b with
  | true=>
    unfold KB at c;have c:=ABQ c;ac_rfl;refine f1 λt m=> ?_;have U:=(EO H t).mp (m l f.1);have D:=(Dj r t).mp (m h g.1);have:De l<De h:=by
     rcases D with D|D
     .grind
     .omega
    have:=key.mp this;omega
  | false=> unfold KB at c;have c:=ABR c;ac_rfl;exact O (key.mpr (by omega)) K y
 .rintro us p vs e τ R I ⟨y,u,i,j,rfl⟩;have P:p∈a:=by rw[<-e];simp
  have d:(p.c1=0->KB p=false)->R [some (AV.val (PV.lst (List.map CV a))),some (AV.val (PV.int 1)),some (AV.val (CV p)),i,j] :=λh=>I _ ⟨λx hx=>by
   rcases AAO.mp hx with hx|hx
   .exact y x hx
   .rw [AAW.mp hx];exact h,_,_,_,rfl⟩
  clear I;ac_rfl
  .rename_i z;refine Ru ?_;cases c:KB p with
   | true=>
     ac_rfl;refine E p λt m=> ?_;have:=m p P;unfold KB at c;have c:=ABQ c;unfold holds UY at this;rw[z] at this;have S:(p.c0:Rat)+((0:Int):Rat)*t=(p.c0:Rat):=by grind
     rw[S] at this;rcases this with k|⟨k,W⟩
     .have:0<p.c0:=by exact_mod_cast k
      omega
     .have:p.c0=0:=by exact_mod_cast k
      omega
   | false=> ac_rfl;exact d λ_=>c
  .rename_i z;exact d λh=>absurd h z
abbrev Nq:AS:=
 (AY (ED (Jy (aV 0)) (Hx 3 (AZ (Ak 3) (AZ (Ak 4) (AZ (Ak 5) Bq)))) (DT 2 GV (AB (A2 (AB (aV 3) (AB (aV 4) (AB (ii (Ax (AW HN (aV 5) (aC .non))) (aC .non) (AN 2 Jw (AB (aV 5) (AB (aV 1) AM)))) AM)))) AM)))
   (Aq (AN 1 EX (AB (aV 2) AM))))
abbrev MN:AS:=
 (AY (GR (DS AM) 2)
   Nq)
def EV:AF:=Am 6 MN
def QQ {a b:PV}{Q:PV->Prop}(h:MN ⟨λ_=>Q .non,Q,λ_=>False,λ_=>False⟩ [some (.val a),some (.val b),none,none,none,none]):EV [a,b] Q:=h
def Ro {v:PV}{xs:zy PV}{ss:zy BD}{x:Rat}{B C:Nat}(hv:v= .tup xs\/v= .lst xs)(i:Ea xs ss)(ok:∀s∈ss,BR B s)(hl:ss.length<=400)(hx:0<=x)(l:Bd C x)(m:B+C+1<=4000){Q:PV->Prop}(q:Q (.tup ((canon 1 (ss.map (EE x))).map BS))):EV [v,fr x] Q:=by
 have A:=i.length;apply QQ;ac_rfl;refine gW hv ?_;refine G0 (λr τ=>∃us vs b c d,us++vs=ss/\Ea r vs/\τ= [some (.val v),some (.val (fr x)),some (.own ((us.map (EE x)).map BS)),b,c,d]) ?_ ?_ _ _ ⟨[],ss,_,_,_,rfl,i,rfl⟩
 .rintro τ ⟨us,vs,b,c,d,e,hv,rfl⟩;cases hv;rw[AB3] at e;subst e;repeat' array_get_dec
  refine Sj (.inr rfl) (KJ (us.map (EE x))) (B:=B+C+1) (λs hs=> ?_) (by rw[AAJ];exact hl) m q;obtain⟨t,n,rfl⟩:=AAN.mp hs;exact Fe hx l (ok t n)
 .rintro y r τ R j ⟨us,vs,b,c,d,e,hv,rfl⟩;obtain⟨s,p,rfl,hy,u⟩:=Uc hv;have os:=ok s (by rw[<-e];simp);have ul:us.length<=400:=by have:=congrArg List.length e;simp at this;omega
  have f:∀g b c d,g=(us.map (EE x)).map BS ++ [BS (EE x s)] ->R [some (.val v),some (.val (fr x)),some (.own g),b,c,d] :=λg b c d h=>j _ ⟨us ++ [s],p,b,c,d,by simpa using e,u,by rw[h];simp⟩;clear j;show Ni y _;refine cO hy ⟨rfl, ?_⟩;obtain⟨a,k,o⟩:=s;cases o with
  | none=>
    repeat' array_get_dec
    exact f _ _ _ _ rfl
  | some t=>
    have bt:Bd B t:=(os.e t rfl).2;have w:Wr (a,k,some t).2.2=fr t:=rfl;repeat' array_get_dec
    .exact absurd ‹(a,k,some t).2.2=none› (λz=>by cases z)
    rw[w];repeat' array_get_dec
    exact f _ _ _ _ rfl
abbrev Hk:AS:=
 (AY (Aj (AN 2 Me (AB (AN 2 Dt (AB (aV 5) (AB (aV 4) AM))) (AB (aV 2) AM))) (Ak 6))
   (DT 3 GV (AB (A2 (AB (AN 2 Dt (AB (aV 4) (AB (AN 2 JE (AB (aV 6) (AB (AW Ai (aV 0) (aC (.int 0))) AM))) AM))) (AB (aV 6) AM))) AM)))
abbrev Hm:AS:=
 (AY (ED (db (AB (X6 (aV 0) (X8 (aC (.int 1))) X7) (AB (X6 (aV 1) (X8 (aC (.int 1))) X7) AM))) (Hx 2 (AZ (Ak 4) (AZ (Ak 5) Bq))) Hk)
   (Aq (A2 (AB (AW Ai (aV 0) (aC (.int 0))) (AB (AW Ai (aV 1) (aC (.int 0))) (AB (aV 3) AM))))))
abbrev Hl:AS:=
 (AY (GR (DS AM) 3)
   Hm)
abbrev F2:AS:=
 (AY (Aj (AN 2 Dt (AB (AW Ai (aV 1) (aC (.int 0))) (AB (AW Ai (aV 0) (aC (.int 0))) AM))) (Ak 2))
   Hl)
def Bw:AF:=Am 7 F2
def Jg {a b:PV}{Q:PV->Prop}(h:F2 ⟨λ_=>Q .non,Q,λ_=>False,λ_=>False⟩ [some (.val a),some (.val b),none,none,none,none,none]):Bw [a,b] Q:=h
abbrev Ko:AS:=
 (Aq (Ej (Bz (JF (AB (AW HP (FR IE (AB (aV 0) AM)) (aC (.int 1))) AM)) 1 [0] (Ak 0) Dd (AN 2 Bw (AB (AW Ai (aV 1) (aV 0)) (AB (AW Ai (aV 1) (AW Bl (aV 0) (aC (.int 1)))) AM))))))
def Dy:AF:=Am 1 Ko
def ON {a:PV}{Q:PV->Prop}(h:Ko ⟨λ_=>Q .non,Q,λ_=>False,λ_=>False⟩ [some (.val a)]):Dy [a] Q:=h
abbrev Nz:AS:=
 (AY (Aj (AN 2 EM (AB (aV 1) (AB (aV 3) AM))) (Ak 4))
   (DT 2 GV (AB (A2 (AB (AN 2 Dt (AB (AW Ai (AW Ai (aV 0) (aC (.int 1))) (aV 3)) (AB (aV 4) AM))) (AB (AN 2 Jw (AB (AW Ai (AW Ai (aV 0) (aC (.int 2))) (aV 3)) (AB (aV 4) AM))) AM))) AM)))
abbrev N0:AS:=
 (AY (ED (JF (AB (aC (.int 3)) AM)) (Ak 3) Nz)
   (Aq (aV 2)))
abbrev MY:AS:=
 (AY (GR (DS AM) 2)
   N0)
def EY:AF:=Am 5 MY
def QX {a b:PV}{Q:PV->Prop}(h:MY ⟨λ_=>Q .non,Q,λ_=>False,λ_=>False⟩ [some (.val a),some (.val b),none,none,none]):EY [a,b] Q:=h
abbrev MS:AS:=
 (AY (DT 2 GV (AB (TN (AN 3 CD (AB (A2 (AB (AN 2 Dt (AB (aV 6) (AB (aV 8) AM))) (AB (aV 7) AM))) (AB (aC (.int 1)) (AB (FR IE (AB (aV 2) AM)) AM))))) AM))
   (DT 2 GV (AB (TN (AN 3 CD (AB (A2 (AB (AN 2 Dt (AB (aV 9) (AB (aV 6) AM))) (AB (AN 1 Di (AB (aV 7) AM)) AM))) (AB (aC (.int 1)) (AB (FR IE (AB (aV 2) AM)) AM))))) AM)))
abbrev MU:AS:=
 (AY (ED (db (AB (aV 5) (AB (aV 1) AM))) (Hx 2 (AZ (Hx 2 (AZ (Ak 6) (AZ (Ak 7) Bq))) (AZ (Hx 2 (AZ (Ak 8) (AZ (Ak 9) Bq))) Bq))) MS)
   (Aq (aV 2)))
abbrev MT:AS:=
 (AY (GR (DS (AB (AN 3 CD (AB (A2 (AB (AN 1 Di (AB (aV 3) AM)) (AB (aC (.tup [(.int 1),(.int 1)])) AM))) (AB (aC (.int 0)) (AB (aC (.int 0)) AM)))) (AB (AN 3 CD (AB (A2 (AB (aV 4) (AB (aC (.tup [(.int (-1)),(.int 1)])) AM))) (AB (aC (.int 1)) (AB (aC (.int 1)) AM)))) AM))) 2)
   MU)
abbrev Kq:AS:=
 (AY (Aj (aV 0) (Hx 3 (AZ (Ak 3) (AZ (Ak 4) (AZ (Ak 5) Bq)))))
   MT)
def Dz:AF:=Am 10 Kq
def OO {a b:PV}{Q:PV->Prop}(h:Kq ⟨λ_=>Q .non,Q,λ_=>False,λ_=>False⟩ [some (.val a),some (.val b),none,none,none,none,none,none,none,none]):Dz [a,b] Q:=h
abbrev MP:AS:=
 (AY (Aj (AN 2 Dz (AB (aV 3) (AB (aV 1) AM))) (Ak 4))
   (CF (Ax (AW HN (AN 2 EU (AB (aV 4) (AB (aC (.int 1)) AM))) (aC .non))) (DT 2 GV (AB (AN 2 EW (AB (aV 4) (AB (aC (.int 1)) AM))) AM)) BV))
abbrev MQ:AS:=
 (AY (ED (Jy (AN 1 Dy (AB (aV 0) AM))) (Ak 3) MP)
   (Aq (aV 2)))
abbrev Kk:AS:=
 (AY (GR (DS AM) 2)
   MQ)
def Dx:AF:=Am 5 Kk
def OM {a b:PV}{Q:PV->Prop}(h:Kk ⟨λ_=>Q .non,Q,λ_=>False,λ_=>False⟩ [some (.val a),some (.val b),none,none,none]):Dx [a,b] Q:=h
abbrev VB:AS:=
 (AY (Aj (aV 0) (Hx 2 (AZ (Ak 2) (AZ (Ak 3) Bq))))
   (Aq (AN 2 EV (AB (AN 2 Dx (AB (aV 2) (AB (AN 2 EY (AB (aV 1) (AB (aV 3) AM))) AM))) (AB (AW Ai (aV 3) (aC (.int 2))) AM)))))
def JD:AF:=Am 4 VB
def XU {a b:PV}{Q:PV->Prop}(h:VB ⟨λ_=>Q .non,Q,λ_=>False,λ_=>False⟩ [some (.val a),some (.val b),none,none]):JD [a,b] Q:=h
def K8 (b e:C4)(x y:Rat):Rat:=(y-x)/(e.1-b.1)
def Ng (b e:C4)(x y:Rat):Rat:=x-K8 b e x y*b.1
def cC (b e:C4)(x y:Rat):PV:= .tup [fr (Ng b e x y),fr (K8 b e x y)]
def IL (b e:C4):PV:= .tup [fr b.1,fr e.1, .lst [cC b e b.2.1 e.2.1,cC b e b.2.2.1 e.2.2.1,cC b e b.2.2.2 e.2.2.2]]
def KW {b e:C4}{x y:Rat}{B:Nat}(hb:Bd B b.1)(he:Bd B e.1)(hx:Bd B x)(hy:Bd B y)(h:b.1<e.1):Bd (4*B+2) (K8 b e x y)/\Bd (6*B+3) (Ng b e x y):=by have s:Bd (4*B+2) (K8 b e x y):=(Bd.div (by grind) (hy.sub hx) (he.sub hb)).mono (by omega);exact⟨s,(hx.sub (s.mul hb)).mono (by omega)⟩
def ZO {f:C4->PV}(a:f=cor\/f=corL){b e:C4}{B:Nat}(hb:FT B b)(he:FT B e)(h:b.1<e.1)(l:6*B+3<=3900){Q:PV->Prop}(q:Q (IL b e)):Bw [f b,f e] Q:=by
 obtain⟨c,d⟩:=KW hb.m he.m hb.x he.x h;obtain⟨g,i⟩:=KW hb.m he.m hb.y he.y h;obtain⟨j,k⟩:=KW hb.m he.m hb.z he.z h;have n:e.1-b.1≠0:=by grind
 have bs:=he.m.sub hb.m;apply Jg;rcases a with rfl|rfl
 .repeat' array_get_dec
  exact q
 .repeat' array_get_dec
  show Wt (.lst [fr b.1,fr b.2.1,fr b.2.2.1,fr b.2.2.2]) (some 1) none _;refine EH ?_;repeat' array_get_dec
  show Wt (.lst [fr e.1,fr e.2.1,fr e.2.2.1,fr e.2.2.2]) (some 1) none _;refine EH ?_;show Ni (.lst [fr b.2.1,fr b.2.2.1,fr b.2.2.2]) λxs=>Ni (.lst [fr e.2.1,fr e.2.2.1,fr e.2.2.2]) λys=>_;repeat' array_get_dec
  exact q
def FO (cs:zy C4):zy (C4×C4):=cs.zip cs.tail
def cf {cs:zy C4}{i:Nat}(h:i+1<cs.length):∃b e,cs[i]? =some b/\cs[i+1]? =some e/\(FO cs)[i]? =some (b,e):=by refine⟨cs[i],cs[i+1],AAU _,AAU _, ?_⟩;unfold FO;rw[ADt];refine⟨AAU _, ?_⟩;rw[List.getElem?_tail];exact AAU _
def G5 {cs:zy C4}(a:Jo cs){p:C4×C4}(h:p∈FO cs):p.1∈cs/\p.2∈cs/\p.1.1<p.2.1:=by obtain⟨i,hi⟩:=List.getElem?_of_mem h;unfold FO at hi;rw[ADt] at hi;obtain⟨h1,h2⟩:=hi;rw[List.getElem?_tail] at h2;exact⟨ABb h1,ABb h2,V4 a h1 h2⟩
def gr {cs:zy C4}{v:PV}{B:Nat}(hv:Kv cs v)(hc:∀c∈cs,FT B c)(o:Jo cs)(h2:2<=cs.length)(hl:cs.length<=1000)(r:6*B+3<=3900){Q:PV->Prop}(q:Q (.lst ((FO cs).map λp=>IL p.1 p.2))):Dy [v] Q:=by
 obtain⟨f,s,hv⟩:=hv;apply ON;have t:(FO cs).length=cs.length-1:=by unfold FO;simp
 have go:∀w:PV,(∀(k:Int) (j:Nat) (c:C4) {R:PV->Prop},k=(j:Int)->cs[j]? =some c->R (f c)->Ai w (.int k) R)->Cj (Ak 0) Dd (AN 2 Bw (AB (AW Ai (aV 1) (aV 0)) (AB (AW Ai (aV 1) (AW Bl (aV 0) (aC (PV.int 1)))) AM))) [none,some (AV.val w)] (λxs=>Q (PV.lst xs)) (rng 0 ((cs.length:Int)-1).toNat) [] :=λw ix=>by
  refine VP (λi a=>a=((FO cs).map λp=>IL p.1 p.2).take i) (λa e=> ?_) (λi hi a R n e=> ?_) rfl
  .rw [e,ABq (by rw[AAJ,t];omega)];exact q
  .obtain ⟨b,d,g,l,ep⟩:=cf (cs:=cs) (i:=i) (by omega);have m:=n (a ++ [IL b d]) (by rw[e,List.take_add_one,AAm,ep];rfl);clear n;ac_rfl;refine ix _ i b (by omega) g ?_;ac_rfl;refine ix _ (i+1) d (by omega) l ?_;ac_rfl;refine ZO s (hc b (ABb g)) (hc d (ABb l)) (V4 o g l) r ?_;exact m
 rcases hv with rfl|rfl
 .ac_rfl;exact go _ λk j c R hk e h=>Pf hk e h
 .ac_rfl;exact go _ λk j c R hk e h=>Pf hk e h
def Xy (lo hi:T3)(v:PV):Prop:=∃a b l h,Q8 lo l/\Q8 hi h/\(v= .tup [a,l,h,b] \/v= .lst [a,l,h,b])
def Io (lo hi:T3):PV:= .lst [.tup [fr lo.1,fr hi.1], .tup [fr lo.2.1,fr hi.2.1], .tup [fr lo.2.2,fr hi.2.2]]
def DU {b:T3}{w:PV}(hw:Q8 b w){R:PV->Prop}:(R (fr b.1)->Ai w (.int 0) R)/\(R (fr b.2.1)->Ai w (.int 1) R)/\(R (fr b.2.2)->Ai w (.int 2) R):=by rcases hw with rfl|rfl <;> exact⟨id,id,id⟩
def Sn {lo hi b:T3}{v w:PV}(hv:Xy lo hi v)(hw:Q8 b w)(c:Du 100 lo)(d:Du 100 hi)(e:Du 100 b){Q:PV->Prop}(q:Q (Io (lo.1-b.1,lo.2.1-b.1,lo.2.2-b.2.1) (hi.1+b.1,hi.2.1+b.1,hi.2.2+b.2.1))):EY [v,w] Q:=by
 obtain⟨p,r,l,h,hl,a,hv⟩:=hv;have f:=c.x;have g:=c.y;have i:=c.z;have j:=d.x;have k:=d.y;have m:=d.z;have n:=e.x;have o:=e.y;apply QX;rcases hv with rfl|rfl
 .ac_rfl;show C7 _ _ _ [.int 0, .int 1, .int 2] _;repeat' array_get_dec
  refine FM hw ?_;rw[AAC (by decide)];repeat' array_get_dec
  refine(DU hl).1 ?_;repeat' array_get_dec
  refine(DU a).1 ?_;repeat' array_get_dec
  refine FM hw ?_;rw[AAC (by decide)];repeat' array_get_dec
  refine(DU hl).2.1 ?_;repeat' array_get_dec
  refine(DU a).2.1 ?_;repeat' array_get_dec
  refine FM hw ?_;rw[AAE (by decide)];repeat' array_get_dec
  refine(DU hl).2.2 ?_;repeat' array_get_dec
  refine(DU a).2.2 ?_;repeat' array_get_dec
  exact q
 .ac_rfl;show C7 _ _ _ [.int 0, .int 1, .int 2] _;repeat' array_get_dec
  refine FM hw ?_;rw[AAC (by decide)];repeat' array_get_dec
  refine(DU hl).1 ?_;repeat' array_get_dec
  refine(DU a).1 ?_;repeat' array_get_dec
  refine FM hw ?_;rw[AAC (by decide)];repeat' array_get_dec
  refine(DU hl).2.1 ?_;repeat' array_get_dec
  refine(DU a).2.1 ?_;repeat' array_get_dec
  refine FM hw ?_;rw[AAE (by decide)];repeat' array_get_dec
  refine(DU hl).2.2 ?_;repeat' array_get_dec
  refine(DU a).2.2 ?_;repeat' array_get_dec
  exact q
abbrev Fm:=Rat×Rat×Int
def hF (f:Fm)(t:Rat):Prop:=0<f.1+f.2.1*t\/(f.1+f.2.1*t=0/\f.2.2=0)
structure aY (N:Nat) (f:Fm) (p:DL):Prop where
 ok:HL N p
 s:p.s=f.2.2
 ex:∃S:Rat,0<S/\(p.c0:Rat)=f.1*S/\(p.c1:Rat)=f.2.1*S
inductive RF (N:Nat):List Fm->List DL->Prop where
 | nil:RF N [] []
 | cons {f:Fm} {p:DL} {fs:List Fm} {ps:List DL} (h:aY N f p) (t:RF N fs ps):RF N (f::fs) (p::ps)
def aY.hold {N:Nat}{f:Fm}{p:DL}(h:aY N f p)(t:Rat):holds p t↔hF f t:=by
 obtain⟨S,a,b,c⟩:=h.ex;unfold holds hF UY;rw[b,c,h.s,show f.1*S+f.2.1*S*t=S*(f.1+f.2.1*t) by grind,ABy a,ACK];have:S≠0:=by grind
 simp[this]
def aY.sign {N:Nat}{f:Fm}{p:DL}(h:aY N f p):(0<p.c1↔0<f.2.1)/\(p.c1<0↔f.2.1<0):=by
 obtain⟨S,c,e,d⟩:=h.ex;have a:0<p.c1↔(0:Rat)<(p.c1:Rat):=by rw[<-ADZ,ACy]
 have b:p.c1<0↔(p.c1:Rat)<0:=by rw[<-ADZ,ACy]
 rw[a,b,d];refine⟨?_, ?_⟩
 .rw [Rat.mul_comm,ABy c]
 .constructor
  .intro k;have:0<S*(-f.2.1):=by grind
   rw[ABy c] at this;grind
  .intro k;have:0<S*(-f.2.1):=Rat.mul_pos c (by grind);grind
def aY.turn {N:Nat}{f:Fm}{p:DL}(h:aY N f p)(e:f.2.1≠0):f.1+f.2.1*De p=0:=by
 obtain⟨S,g,b,a⟩:=h.ex;have hs:S≠0:=by grind
 have c:(p.c1:Rat)≠0:=by rw[a];intro z;rcases ACK.mp z with z|z <;> contradiction
 have d:p.c1≠0:=by intro z;rw[z] at c;exact c rfl
 have:=(C9 d).2.2;rw[b,a] at this;have:S*(f.1+f.2.1*De p)=0:=by grind
 rcases ACK.mp this with z|z
 .contradiction
 .exact z
def RF.mem {N:Nat}:∀{e:zy Fm} {g:zy DL},RF N e g->(∀p∈g,∃f∈e,aY N f p)/\(∀f∈e,∃p∈g,aY N f p)/\g.length=e.length
 | _,_, .nil=>⟨by simp,by simp,rfl⟩
 | _,_, .cons h t=>by
   obtain⟨a,b,c⟩:=t.mem;refine⟨λp hp=> ?_,λf d=> ?_,by simp[c]⟩
   .rcases AAF.mp hp with rfl|hp
    .exact ⟨_,by simp,h⟩
    .obtain ⟨f,d,k⟩:=a p hp;exact⟨f,by simp[d],k⟩
   .rcases AAF.mp d with rfl|d
    .exact ⟨_,by simp,h⟩
    .obtain ⟨p,hp,k⟩:=b f d;exact⟨p,by simp[hp],k⟩
def DI {a b:Rat}{W:Nat}{s n:Int}(c:Bd W a)(d:Bd W b)(e:W<=1400)(hs:s=0\/s=1){Q:PV->Prop}(q:∀p:DL,aY (3*W+1) (a,b,s) p->Q (CV p)):CD [.tup [fr a,fr b], .int s, .int n] Q:=
 ZP c d e hs λp S h1 h2 f g h=>q p ⟨h2,h1,S,f,h,g⟩
def Wu (b e:C4)(lo hi:T3):zy Fm:= [(-b.1,1,0),(e.1, -1,1),
 (Ng b e b.2.1 e.2.1-lo.1,K8 b e b.2.1 e.2.1,1),(hi.1-Ng b e b.2.1 e.2.1, -K8 b e b.2.1 e.2.1,1),
 (Ng b e b.2.2.1 e.2.2.1-lo.2.1,K8 b e b.2.2.1 e.2.2.1,1),(hi.2.1-Ng b e b.2.2.1 e.2.2.1, -K8 b e b.2.2.1 e.2.2.1,1),
 (Ng b e b.2.2.2 e.2.2.2-lo.2.2,K8 b e b.2.2.2 e.2.2.2,1),(hi.2.2-Ng b e b.2.2.2 e.2.2.2, -K8 b e b.2.2.2 e.2.2.2,1)]
def XN {b e:C4}{lo hi:T3}{B:Nat}(hb:FT B b)(he:FT B e)(h:b.1<e.1)(k:Du 201 lo)(l:Du 201 hi)(a:6*B+205<=1400){Q:PV->Prop}(q:∀u,RF (3*(6*B+205)+1) (Wu b e lo hi) u->Q (.lst (u.map CV))):Dz [IL b e,Io lo hi] Q:=by
 obtain⟨c,d⟩:=KW hb.m he.m hb.x he.x h;obtain⟨f,g⟩:=KW hb.m he.m hb.y he.y h;obtain⟨i,j⟩:=KW hb.m he.m hb.z he.z h;have n:=k.x;have o:=k.y;have p:=k.z;have r:=l.x;have s:=l.y;have t:=l.z;have bm:=hb.m;have v:=he.m;unfold IL Io cC;unfold Wu at q;generalize Ng b e b.2.1 e.2.1=x0 at *;generalize Ng b e b.2.2.1 e.2.2.1=y0 at *;generalize Ng b e b.2.2.2 e.2.2.2=z0 at *;generalize K8 b e b.2.1 e.2.1=x1 at *;generalize K8 b e b.2.2.1 e.2.2.1=y1 at *;generalize K8 b e b.2.2.2 e.2.2.2=z1 at *;have w:Bd (6*B+205) (1:Rat):=mN.mono (by omega);have A:Bd (6*B+205) (-1:Rat):=mN.neg.mono (by omega);apply OO;repeat' array_get_dec
 refine P0 ?_;repeat' array_get_dec
 rw[show PV.tup [PV.int 1,PV.int 1] =fr 1 from rfl];refine DI (W:=6*B+205) (bm.neg.mono (by omega)) w a (.inl rfl) λC f0=> ?_;repeat' array_get_dec
 rw[show PV.tup [PV.int (-1),PV.int 1] =fr (-1) from rfl];refine DI (W:=6*B+205) (v.mono (by omega)) A a (.inr rfl) λD f1=> ?_;repeat' array_get_dec
 refine DI (W:=6*B+205) ((d.sub n).mono (by omega)) (c.mono (by omega)) a (.inr rfl) λE F=> ?_;repeat' array_get_dec
 refine P0 ?_;repeat' array_get_dec
 refine DI (W:=6*B+205) ((r.sub d).mono (by omega)) (c.neg.mono (by omega)) a (.inr rfl) λG H=> ?_;repeat' array_get_dec
 refine DI (W:=6*B+205) ((g.sub o).mono (by omega)) (f.mono (by omega)) a (.inr rfl) λI J=> ?_;repeat' array_get_dec
 refine P0 ?_;repeat' array_get_dec
 refine DI (W:=6*B+205) ((s.sub g).mono (by omega)) (f.neg.mono (by omega)) a (.inr rfl) λK L=> ?_;repeat' array_get_dec
 refine DI (W:=6*B+205) ((j.sub p).mono (by omega)) (i.mono (by omega)) a (.inr rfl) λM N=> ?_;repeat' array_get_dec
 refine P0 ?_;repeat' array_get_dec
 refine DI (W:=6*B+205) ((t.sub j).mono (by omega)) (i.neg.mono (by omega)) a (.inr rfl) λO P=> ?_;repeat' array_get_dec
 exact q [C,D,E,G,I,K,M,O] (.cons f0 (.cons f1 (.cons F (.cons H (.cons J (.cons L (.cons N (.cons P .nil))))))))
def VE (lo hi p:T3):Prop:=(lo.1<p.1/\p.1<hi.1)/\(lo.2.1<p.2.1/\p.2.1<hi.2.1)/\(lo.2.2<p.2.2/\p.2.2<hi.2.2)
instance (lo hi p:T3):Decidable (VE lo hi p):=by unfold VE;infer_instance
def JR (lo hi:T3)(p:C4×C4)(t:Rat):Prop:=p.1.1<=t/\t<p.2.1/\VE lo hi (inter p.1 p.2 t)
def jL (lo hi:T3)(p:C4×C4)(m:Rat):Prop:=m=p.1.1\/m=p.2.1\/(p.1.1<m/\m<p.2.1/\((p.1.2.1≠p.2.2.1/\((inter p.1 p.2 m).1=lo.1\/(inter p.1 p.2 m).1=hi.1))\/(p.1.2.2.1≠p.2.2.2.1/\((inter p.1 p.2 m).2.1=lo.2.1\/(inter p.1 p.2 m).2.1=hi.2.1))\/(p.1.2.2.2≠p.2.2.2.2/\((inter p.1 p.2 m).2.2=lo.2.2\/(inter p.1 p.2 m).2.2=hi.2.2))))
def UH {b e:C4}(x y t:Rat):x+(t-b.1)/(e.1-b.1)*(y-x)=Ng b e x y+K8 b e x y*t:=by unfold Ng K8;rw[ACk,ACk];grind
def Rm (b e:C4)(t:Rat):inter b e t=(Ng b e b.2.1 e.2.1+K8 b e b.2.1 e.2.1*t,Ng b e b.2.2.1 e.2.2.1+K8 b e b.2.2.1 e.2.2.1*t,Ng b e b.2.2.2 e.2.2.2+K8 b e b.2.2.2 e.2.2.2*t):=by rw[<-UH,<-UH,<-UH];rfl
def bJ {b e:C4}{lo hi:T3}(t:Rat):(∀f∈Wu b e lo hi,hF f t)↔JR lo hi (b,e) t:=by
 unfold JR VE;simp only[Rm];unfold Wu hF;simp only[AAF,AAd,AAb,forall_eq_or_imp,forall_eq];generalize Ng b e b.2.1 e.2.1=x0 at *;generalize Ng b e b.2.2.1 e.2.2.1=y0 at *;generalize Ng b e b.2.2.2 e.2.2.2=z0 at *;generalize K8 b e b.2.1 e.2.1=x1 at *;generalize K8 b e b.2.2.1 e.2.2.1=y1 at *;generalize K8 b e b.2.2.2 e.2.2.2=z1 at *;have m:(0 < -b.1+1*t\/ -b.1+1*t=0/\True)↔b.1<=t:=by grind
 have n:(0<e.1 + -1*t)↔t<e.1:=by grind
 have a:∀l x y:Rat,0<x-l+y*t↔l<x+y*t:=by intro l x y;grind
 have c:∀l x y:Rat,0<l-x + -y*t↔x+y*t<l:=by intro l x y;grind
 have z:¬((1:Int)=0):=by decide
 simp only[z,and_false,AAb,n,a lo.1 x0 x1,c hi.1 x0 x1,a lo.2.1 y0 y1,c hi.2.1 y0 y1,a lo.2.2 z0 z1,c hi.2.2 z0 z1];rw[m];constructor
 .rintro ⟨d,h1,h2,g,h,i,j,k⟩;exact⟨d,h1,⟨h2,g⟩,⟨h,i⟩,j,k⟩
 .rintro ⟨d,h1,⟨h2,g⟩,⟨h,i⟩,j,k⟩;exact⟨d,h1,h2,g,h,i,j,k⟩
def ZS {N:Nat}{b e:C4}{lo hi:T3}{c:zy DL}(h:RF N (Wu b e lo hi) c)(t:Rat):(∀p∈c,holds p t)↔JR lo hi (b,e) t:=by
 obtain⟨m1,m2,_⟩:=h.mem;rw[<-bJ];constructor
 .intro k f a;obtain⟨p,hp,r⟩:=m2 f a;exact(r.hold t).mp (k p hp)
 .intro k p hp;obtain⟨f,a,r⟩:=m1 p hp;exact(r.hold t).mpr (k f a)
def Up {b e:C4}{x y:Rat}(h:K8 b e x y≠0):x≠y:=by intro z;subst z;apply h;unfold K8;rw[ACk];grind
def VY {b e:C4}{lo hi:T3}{f:Fm}{m:Rat}(d:f∈Wu b e lo hi)(a:f.2.1≠0)(c:f.1+f.2.1*m=0)(h1:b.1<=m)(h2:m<=e.1):jL lo hi (b,e) m:=by
 unfold jL;by_cases g:m=b.1
 .exact .inl g
 by_cases h:m=e.1
 .exact .inr (.inl h)
 refine .inr (.inr ⟨by show b.1<m;grind,by show m<e.1;grind, ?_⟩);simp only[Rm];unfold Wu at d;simp only[AAF,AAd,AAb] at d;have i:= @Up b e b.2.1 e.2.1;have j:= @Up b e b.2.2.1 e.2.2.1;have sz:= @Up b e b.2.2.2 e.2.2.2;generalize Ng b e b.2.1 e.2.1=x0 at *;generalize Ng b e b.2.2.1 e.2.2.1=y0 at *;generalize Ng b e b.2.2.2 e.2.2.2=z0 at *;generalize K8 b e b.2.1 e.2.1=x1 at *;generalize K8 b e b.2.2.1 e.2.2.1=y1 at *;generalize K8 b e b.2.2.2 e.2.2.2=z1 at *;rcases d with rfl|rfl|rfl|rfl|rfl|rfl|rfl|rfl
 .exact absurd (by dsimp only at c;grind) g
 .exact absurd (by dsimp only at c;grind) h
 .exact .inl ⟨i (by dsimp only at a;exact a), .inl (by dsimp only at c ⊢;grind)⟩
 .exact .inl ⟨i (by dsimp only at a;grind), .inr (by dsimp only at c ⊢;grind)⟩
 .exact .inr (.inl ⟨j (by dsimp only at a;exact a), .inl (by dsimp only at c ⊢;grind)⟩)
 .exact .inr (.inl ⟨j (by dsimp only at a;grind), .inr (by dsimp only at c ⊢;grind)⟩)
 .exact .inr (.inr ⟨sz (by dsimp only at a;exact a), .inl (by dsimp only at c ⊢;grind)⟩)
 .exact .inr (.inr ⟨sz (by dsimp only at a;grind), .inr (by dsimp only at c ⊢;grind)⟩)
def aP {p:DL}{N:Nat}(h:HL N p)(c:p.c1≠0):Bd N (De p):=by obtain⟨a,b⟩:=Go h;rw[<-U4 c];exact .divInt (by have:=(C9 c).1;omega) a b
structure TK (N:Nat) (lo hi:T3) (p:C4×C4) (s:BD):Prop where
 ok:BR N s
 fin:∃x,s.2.2=some x/\jL lo hi p x
 bmk:jL lo hi p s.1
 sem:∀t,Ap s (t,0)=true↔JR lo hi p t
def aA {N:Nat}{b e:C4}{lo hi:T3}{a:zy DL}{l h:DL}(hp:RF N (Wu b e lo hi) a)(v:tight 1 a=some l)(w:tight (-1) a=some h)(D:De l<De h)(hs:h.s=1)(E:∀p∈a,p.c1=0->KB p=false):TK N lo hi (b,e) (De l,1-l.s,some (De h)):=by
 obtain⟨m1,m2,_⟩:=hp.mem;have g:∀p∈a,p.s=0\/p.s=1:=λp hp=>by obtain⟨f,_,r⟩:=m1 p hp;exact r.ok.s
 have i:=(CT (.inl rfl) a.length a rfl g).so l v;have j:=(CT (.inr rfl) a.length a rfl g).so h w;have y:0<l.c1:=by have:=i.2.1;omega
 have A:h.c1<0:=by have:=j.2.1;omega
 obtain⟨F,G,c⟩:=m1 l i.1;obtain⟨H,I,m⟩:=m1 h j.1;have J:=bF g v w hs E;have n:∀t,((De l<t\/(De l=t/\l.s=0))/\t<De h)↔JR lo hi (b,e) t:=λt=>by rw[<-J t,ZS hp]
 have K:b.1<=De l:=by
  obtain⟨o,u,d⟩:=m2 (-b.1,1,0) (by simp[Wu]);by_cases z:b.1<=De l
  .exact z
  exfalso;have k:=i.2.2 o u (by have:=d.sign.1.mpr (by show (0:Rat)<1;decide);omega) ((De l+b.1)/2) ((EO y _).mpr (.inl (by grind)));have k:=(d.hold _).mp k;unfold hF at k;dsimp only at k;grind
 have he:De h<=e.1:=by
  obtain⟨o,u,d⟩:=m2 (e.1, -1,1) (by simp[Wu]);by_cases z:De h<=e.1
  .exact z
  exfalso;have k:=j.2.2 o u (by have:=d.sign.2.mpr (by show (-1:Rat)<0;decide);omega) ((De h+e.1)/2) ((Dj A _).mpr (.inl (by grind)));have k:=(d.hold _).mp k;unfold hF at k;dsimp only at k;grind
 have B:F.2.1≠0:=by have:=c.sign.1.mp y;grind
 have C:H.2.1≠0:=by have:=m.sign.2.mp A;grind
 refine⟨⟨aP c.ok (by omega),by have:=c.ok.s;show 1-l.s=0\/1-l.s=1;omega,λx hx=> ?_⟩,⟨_,rfl,VY I C (m.turn C) (by grind) he⟩,VY G B (c.turn B) K (by grind),λt=> ?_⟩
 .cases hx;exact⟨D,aP m.ok (by omega)⟩
 .rw [<-n t];have:=c.ok.s;simp only[Ap,AAf,ABV,ABe];have:(0<1-l.s+0)↔l.s=0:=by omega
  rw[this]
structure DR (N:Nat) (lo hi:T3) (us:List (C4×C4)) (ss:List BD):Prop where
 ok:∀s∈ss,∃p∈us,TK N lo hi p s
 all:∀p∈us,∀t,JR lo hi p t->∃s∈ss,Ap s (t,0)=true
 len:ss.length<=us.length
def DR.more {N:Nat}{lo hi:T3}{us:zy (C4×C4)}{ss:zy BD}{p:C4×C4}{s:BD}(h:DR N lo hi us ss)(k:TK N lo hi p s):DR N lo hi (us ++ [p]) (ss ++ [s]):=by
 refine⟨λx hx=> ?_,λq hq t a=> ?_,by have:=h.len;simp;omega⟩
 .rcases AAO.mp hx with hx|hx
  .obtain ⟨q,hq,r⟩:=h.ok x hx;exact⟨q,by simp[hq],r⟩
  .rw [AAW.mp hx];exact⟨p,by simp,k⟩
 .rcases AAO.mp hq with hq|hq
  .obtain ⟨x,hx,r⟩:=h.all q hq t a;exact⟨x,by simp[hx],r⟩
  .rw [AAW.mp hq] at a;exact⟨s,by simp,(k.sem t).mpr a⟩
def DR.less {N:Nat}{lo hi:T3}{us:zy (C4×C4)}{ss:zy BD}{p:C4×C4}(h:DR N lo hi us ss)(k:∀t,¬JR lo hi p t):DR N lo hi (us ++ [p]) ss:=by
 refine⟨λx hx=> ?_,λq hq t a=> ?_,by have:=h.len;simp;omega⟩
 .obtain ⟨q,hq,r⟩:=h.ok x hx;exact⟨q,by simp[hq],r⟩
 .rcases AAO.mp hq with hq|hq
  .exact h.all q hq t a
  .rw [AAW.mp hq] at a;exact absurd a (k t)
def ZC {cs:zy C4}{lo hi:T3}{v:PV}{B:Nat}(hv:Kv cs v)(hc:∀c∈cs,FT B c)(o:Jo cs)(h2:2<=cs.length)(hl:cs.length<=1000)(E:Du 201 lo)(F:Du 201 hi)(G:6*B+205<=1400){Q:PV->Prop}(q:∀ss,DR (3*(6*B+205)+1) lo hi (FO cs) ss->Q (.lst (ss.map BS))):Dx [v,Io lo hi] Q:=by
 have N:(FO cs).length=cs.length-1:=by unfold FO;simp
 apply OM;ac_rfl;refine gr hv hc o h2 hl (by omega) ?_;ac_rfl;refine Cu (λp:C4×C4=>IL p.1 p.2) (λus vs τ=>∃ss a d,DR (3*(6*B+205)+1) lo hi us ss/\τ= [some (.val v),some (.val (Io lo hi)),some (.own (ss.map BS)),a,d]) ?_ ?_ ⟨[],_,_,⟨by simp,by simp,by simp⟩,rfl⟩
 .rintro τ ⟨ss,a,d,h,rfl⟩;ac_rfl;exact q ss h
 .rintro us p vs e τ R j ⟨ss,a,d,h,rfl⟩;obtain⟨m1,m2,m3⟩:=G5 o (p:=p) (by rw[<-e];simp);have ul:us.length<=1000:=by have:=congrArg List.length e;simp at this;omega
  have O:=h.len;ac_rfl;refine XN (hc _ m1) (hc _ m2) m3 E F G λu hp=> ?_;obtain⟨w,y,H⟩:=hp.mem;have z:∀p∈u,HL (3*(6*B+205)+1) p:=λp hp=>by obtain⟨f,_,r⟩:=w p hp;exact r.ok
  have A:u.length<=100:=by rw[H];exact AAo rfl
  ac_rfl;refine YT rfl z (by omega) A ?_ ?_ ?_ (λl h' C D I J K=> ?_) (λb L=> ?_)
  .obtain ⟨k,i,m⟩:=y (-p.1.1,1,0) (by simp[Wu]);exact⟨k,i,m.sign.1.mpr (by show (0:Rat)<1;decide)⟩
  .obtain ⟨k,i,m⟩:=y (p.2.1, -1,1) (by simp[Wu]);exact⟨k,i,m.sign.2.mpr (by show (-1:Rat)<0;decide)⟩
  .intro x hx i;obtain⟨f,n,r⟩:=w x hx;have:=r.sign.2.mp i;rw[r.s];unfold Wu at n;simp only[AAF,AAd,AAb] at n;rcases n with rfl|rfl|rfl|rfl|rfl|rfl|rfl|rfl
   .exact absurd this (by show ¬(1:Rat)<0;decide)
   all_goals rfl
  .have st:=aA hp C D I J K;ac_rfl;refine Za rfl z (by omega) A C D ?_;have g:∀a d,R [some (.val v),some (.val (Io lo hi)),some (.own ((ss ++ [(De l,1-l.s,some (De h'))]).map BS)),a,d] :=λa d=>j _ ⟨_,a,d,h.more st,rfl⟩;clear j;rw[AAT] at g;ac_rfl;exact g _ _
  .have g:∀a d,R [some (.val v),some (.val (Io lo hi)),some (.own (ss.map BS)),a,d] :=λa d=>j _ ⟨_,a,d,h.less λt M=>L t ((ZS hp t).mpr M),rfl⟩;clear j;ac_rfl;exact g _ _
def DR.st {N:Nat}{lo hi:T3}{us:zy (C4×C4)}{ss:zy BD}(h:DR N lo hi us ss):∀s∈ss,BR N s:=λs hs=>let ⟨_,_,k⟩:=h.ok s hs;k.ok
def aB {cs:zy C4}{lo hi b:T3}{v w:PV}{B:Nat}(hv:av cs b v)(hw:Xy lo hi w)(hc:∀c∈cs,FT B c)(o:Jo cs)(h2:2<=cs.length)(hl:cs.length<=400)(e:Du 100 lo)(f:Du 100 hi)(g:Du 100 b)(r:0<=b.2.2)(t:6*B+205<=1266){Q:PV->Prop}(q:∀ss,DR (3*(6*B+205)+1) (lo.1-b.1,lo.2.1-b.1,lo.2.2-b.2.1) (hi.1+b.1,hi.2.1+b.1,hi.2.2+b.2.1) (FO cs) ss->Q (.tup ((canon 1 (ss.map (EE b.2.2))).map BS))):JD [v,w] Q:=by
 obtain⟨p,u,hp,hu,hv⟩:=hv;have A:(FO cs).length=cs.length-1:=by unfold FO;simp
 have h:=e.x;have i:=e.y;have j:=e.z;have k:=f.x;have l:=f.y;have m:=f.z;have a:=g.x;have d:=g.y;have n:=g.z;apply XU;rcases hv with rfl|rfl
 .ac_rfl;refine Sn hw hu e f g ?_;ac_rfl;refine ZC hp hc o h2 (by omega) ⟨(h.sub a).mono (by decide),(i.sub a).mono (by decide),(j.sub d).mono (by decide)⟩ ⟨(k.add a).mono (by decide),(l.add a).mono (by decide),(m.add d).mono (by decide)⟩ (by omega) λss hs=> ?_;have s:=hs.len;ac_rfl;refine(DU hu).2.2 ?_;ac_rfl;exact Ro (.inr rfl) (KJ ss) hs.st (by omega) r n (by omega) (q ss hs)
 .ac_rfl;refine Sn hw hu e f g ?_;ac_rfl;refine ZC hp hc o h2 (by omega) ⟨(h.sub a).mono (by decide),(i.sub a).mono (by decide),(j.sub d).mono (by decide)⟩ ⟨(k.add a).mono (by decide),(l.add a).mono (by decide),(m.add d).mono (by decide)⟩ (by omega) λss hs=> ?_;have s:=hs.len;ac_rfl;refine(DU hu).2.2 ?_;ac_rfl;exact Ro (.inr rfl) (KJ ss) hs.st (by omega) r n (by omega) (q ss hs)
instance{r:AA}{τ:A7}{a:zy PV->Prop}:Wp (mM r τ a) (r τ λb=>match b with | [.lst xs] =>a (Df 0 xs)|_=>False):=⟨id⟩
abbrev FG:AS:=
 (AY (Hv (Er (Ax (AW aZ (aV 3) (aC (.int 0)))) (Ax (AN 2 Ar (AB (aV 2) (AB (AW Ai (aV 1) (AW HP (aV 3) (aC (.int 1)))) AM))))) (Aj (AW HP (aV 3) (aC (.int 1))) (Ak 3)))
   (CF (RL (RM (Ax (AW Nh (aV 3) (aC (.int 0)))) (Ax (AW Ws (AW Ai (aV 1) (AW HP (aV 3) (aC (.int 1)))) (aV 2))))) (DT 1 Y0 (AB (aV 3) (AB (aV 2) AM))) BV))
abbrev GE:AS:=
 (AY (Aj (TN (FR IE (AB (aV 1) AM))) (Ak 3))
   FG)
abbrev GF:AS:=
 (AY (ED (Jy (aV 0)) (Ak 2) GE)
   (Aq (aV 1)))
abbrev El:AS:=
 (AY (GR (DS AM) 1)
   GF)
def BF:AF:=Am 4 El
def HR {a:PV}{Q:PV->Prop}(h:El ⟨λ_=>Q .non,Q,λ_=>False,λ_=>False⟩ [some (.val a),none,none,none]):BF [a] Q:=h
abbrev GC:AS:=
 (Aq (Ej (Bz (db (AB (aV 0) (AB (X6 (aV 0) (X8 (aC (.int 1))) X7) AM))) 2 [] (Hx 2 (AZ (Ak 0) (AZ (Ak 1) Bq))) Dd (AN 2 BE (AB (AN 2 A3 (AB (aV 0) (AB (aV 1) AM))) (AB (A2 (AB (aC (.int 1)) (AB (aC (.int 2)) AM))) AM))))))
def Bp:AF:=Am 1 GC
def KL {a:PV}{Q:PV->Prop}(h:GC ⟨λ_=>Q .non,Q,λ_=>False,λ_=>False⟩ [some (.val a)]):Bp [a] Q:=h
abbrev Iw:AS:=
 (AY (DT 3 GV (AB (AW Bl (aV 4) (A2 (AB (aV 6) AM))) AM))
   (Aj (aC .non) (Ak 4)))
abbrev GH:AS:=
 (AY (CF (Er (Ax (AW HN (aV 4) (aC .non))) (Ax (AW Ai (aV 1) (aV 5)))) (Aj (A2 (AB (aV 6) (AB (aC (.int 1)) AM))) (Ak 4)) BV)
   (CF (Er (Ax (AW HN (aV 4) (aC .non))) (Ax (AW Ai (AW Bl (aV 2) (Ej (DS (AB (aC (.bl false)) AM)))) (aV 5)))) (Aj (A2 (AB (aV 6) (AB (aC (.int 0)) AM))) (Ak 4)) BV))
abbrev Iy:AS:=
 (AY (CF (Er (Ax (AW On (aV 4) (aC .non))) (Ky (Ax (AW Ai (aV 1) (aV 5))))) Iw BV)
   GH)
abbrev I0:AS:=
 (AY (ED (mM (AB (aV 0) AM)) (Hx 2 (AZ (Ak 5) (AZ (Ak 6) Bq))) Iy)
   (Aq (FR DV (AB (aV 3) AM))))
abbrev Iz:AS:=
 (AY (Aj (aC .non) (Ak 4))
   I0)
abbrev GG:AS:=
 (AY (GR (DS AM) 3)
   Iz)
def BX:AF:=Am 7 GG
def KM {a b c:PV}{Q:PV->Prop}(h:GG ⟨λ_=>Q .non,Q,λ_=>False,λ_=>False⟩ [some (.val a),some (.val b),some (.val c),none,none,none,none]):BX [a,b,c] Q:=h
def bn {qs:zy Rat}{x:Rat}{k:Nat}(hs:RI qs)(hk:k<=qs.length)(hi:∀q∈qs.drop k,x<q)(lo:∀c,qs[k-1]? =some c->0<k->c<x):ins qs x=qs.take k++x::qs.drop k:=by
 have a:At qs x k:=by
  refine⟨hk,λq hq=> ?_,λq hq=>by have:=hi q hq;grind⟩;by_cases b:k=0
  .subst b;simp at hq
  .have e:qs[k-1]? =some qs[k-1] :=AAU (by omega);have:=Qq hs e (lo _ e (by omega));rw[show k-1+1=k by omega] at this;exact this q hq
 rw[TV hs a,AAC];intro e;have:x∈qs.drop k:=by have:=ACr (xs:=qs) (i:=k) (j:=0);rw[Nat.add_zero,e] at this;exact ABb this
 have:=hi x this;grind
def KI {xs:zy Rat}{B:Nat}(hl:xs.length<=1000)(hx:∀x∈xs,Bd B x)(E:B<=4000){Q:PV->Prop}(q:Q (.lst ((BW xs).map fr))):BF [.lst (xs.map fr)] Q:=by
 apply HR;ac_rfl;refine Cu fr (λus vs τ=>∃b f,τ= [some (.val (.lst (xs.map fr))),some (.own ((BW us).map fr)),b,f]) ?_ ?_ ⟨_,_,rfl⟩
 .rintro τ ⟨b,f,rfl⟩;repeat' array_get_dec
  exact q
 .rintro us x vs e τ R o ⟨b,f,rfl⟩;have F:=hx x (by rw[<-e];simp);have l:∀b f,R [some (.val (.lst (xs.map fr))),some (.own ((ins (BW us) x).map fr)),b,f] :=λb f=>o _ ⟨b,f,by rw[Zh];rfl⟩;clear o q;have u:∀c∈BW us,Bd B c:=λc hc=>hx c (by rw[<-e];exact AC5 _ (BI.mp hc));have G:(BW us).length<=1000:=by have:=Db (xs:=us);have:=congrArg List.length e;simp only[AAr,AAZ] at this;omega
  have qs:=CB (xs:=us);generalize BW us=ks at *;ac_rfl;refine eM (λn τ=>∃k:Nat,n=k+1/\k<=ks.length/\(∀q∈ks.drop k,x<q)/\τ= [some (.val (.lst (xs.map fr))),some (.own (ks.map fr)),some (.val (fr x)),some (.val (.int k))]) ?_ ?_ (n:=ks.length+1) ⟨ks.length,rfl,AAI _,by simp,by simp⟩
  .rintro n τ R2 v ⟨k,w,hk,hi,rfl⟩;rw[show frz [some (AV.val (PV.lst (xs.map fr))),some (AV.own (ks.map fr)),some (AV.val (fr x)),some (AV.val (PV.int k))] = [some (AV.val (PV.lst (xs.map fr))),some (AV.val (.lst (ks.map fr))),some (AV.val (fr x)),some (AV.val (PV.int k))] from rfl];have a:(∀c,ks[k-1]? =some c->0<k->c<x)->R [some (.val (.lst (xs.map fr))),some (.own (List.take (k:Int).toNat (ks.map fr)++fr x::List.drop (k:Int).toNat (ks.map fr))),some (.val (fr x)),some (.val (.int k))] :=λlo=>by have:=l (some (.val (fr x))) (some (.val (.int k)));rw[bn qs hk hi lo,AAT,AAK,ADX,ACE] at this;exact this
   have keep:x∈ks->R [some (.val (.lst (xs.map fr))),some (.own (ks.map fr)),some (.val (fr x)),some (.val (.int k))] :=λh=>by have:=l (some (.val (fr x))) (some (.val (.int k)));rw[Yl qs h] at this;exact this
   ac_rfl
   .rename_i y c p hc;have H:=u c hc;have y:0<k:=by omega
    have g:ks[k-1]? =some c:=by rw[show ((k:Int)-1).toNat=k-1 by omega] at p;exact p
    have z:ks.drop (k-1)=c::ks.drop k:=by obtain⟨h1,h2⟩:=AAp.mp g;rw[ACA h1,h2,show k-1+1=k by omega]
    have A:x<c->R2 [some (.val (.lst (xs.map fr))),some (.own (ks.map fr)),some (.val (fr x)),some (.val (.int (k-1)))] :=λC=>v _ ⟨k-1,by omega,by omega,by
     intro q hq;rw[z] at hq;rcases AAF.mp hq with h|h
     .rw [h];exact C
     .exact hi q h,by rw[show ((k-1:Nat):Int)=(k:Int)-1 by omega]⟩
    ac_rfl
    .exact A (by assumption)
    .exact a λ_ _ _=>by exfalso;omega
    .rename_i m _ j i r s;have D:j=c:=by rw[show ((k:Int)-1).toNat=k-1 by omega,g] at i;exact(AAX i).symm
     subst D;exact a λd hd _=>by rw[g] at hd;cases hd;have s:¬j=x:=s;have m:¬x<j:=m;grind
    .rename_i m _ j i r t;have t:j=x:=by by_cases h:j=x <;> simp_all
     exact keep (t ▸ r)
   .exact a λ_ _ _=>by exfalso;omega
   .exact a λ_ _ _=>by exfalso;omega
   .exfalso;omega
  .rintro τ ⟨k,w,_⟩;omega
abbrev Tr:=Rat×zq×zq
def iS (t:Tr):zy (Pl×zq):= [((t.1,0),t.2.1),((t.1,1),t.2.2)]
def Eb (T:zy Tr):zy BD×zt Pl:=(T.flatMap iS).foldl stepI ([],none)
def Ms (T:zy Tr)(t:Tr):Eb (T ++ [t])=stepI (stepI (Eb T) ((t.1,0),t.2.1)) ((t.1,1),t.2.2):=by unfold Eb;rw[List.flatMap_append,ABU];rfl
theorem Oo:∀(T:zy Tr),(T.flatMap iS).length=2*T.length
 | [] =>rfl
 | t::T=>by rw[ACu,AAr,Oo T,AAZ];simp[iS];omega
def Ys {us vs:zy PV}{x:PV}{R:PV->Prop}(h:R x):Ai (.lst (us++x::vs)) (.int us.length) R:=by show cN (Jp (us++x::vs) (us.length:Nat)) R;rw[show Jp (us++x::vs) ((us.length:Nat):Int)=some x from DB (j:=us.length) (by simp)];exact h
def Zq {T:zy Tr}{gs:zy zq}(s:T= [] \/gs ++ [false] =T.map (·.2.2))(mono:∀t∈T,t.2.1=true->t.2.2=true)(hl:T.length<=1000)(l:(Eb T).2=none){Q:PV->Prop}(q:Q (.tup ((D1 (T.flatMap iS)).map BS))):BX [.lst (T.map λt=>fr t.1), .lst (T.map λt=> .bl t.2.1), .lst (gs.map .bl)] Q:=by
 apply KM;ac_rfl;show C7 _ _ _ (Df 0 (T.map λt=>fr t.1)) _;refine G0 (λr τ=>∃us vs f i,us++vs=T/\r=Df us.length (vs.map λt:Tr=>fr t.1)/\τ= [some (.val (.lst (T.map λt=>fr t.1))),some (.val (.lst (T.map λt=> .bl t.2.1))),some (.val (.lst (gs.map .bl))),some (.own ((Eb us).1.map BS)),some (.val (Wc (Eb us).2)),f,i]) ?_ ?_ _ _ ⟨[],T,_,_,rfl,rfl,rfl⟩
 .rintro τ ⟨us,vs,f,i,e,n,rfl⟩;cases vs with
  | cons a b=>simp[Df] at n
  | nil=>
    rw[AB3] at e;subst e;repeat' array_get_dec
    have w:D1 (us.flatMap iS)=(Eb us).1:=by unfold D1 Pd;show (match (Eb us).2 with | none=>(Eb us).1|some b=>(Eb us).1 ++ [(b.1,1-b.2,none)])=_;rw[l]
    rw[w] at q;exact q
 .rintro y r τ R u ⟨us,vs,f,i,e,n,rfl⟩;cases vs with
  | nil=>simp[Df] at n
  | cons t vs=>
    rw[AAK,Df] at n;obtain⟨rfl,rfl⟩:=List.cons.inj n;have mt:=mono t (by rw[<-e];simp);have es:=Ms us t;have v:(Eb us).1.length<=2000:=by have h:=Gz (us.flatMap iS) ([],none);rw[Oo] at h;have:=congrArg List.length e;simp only[AAr,AAZ] at this;have h:(Eb us).1.length<=0+_:=h;omega
    have c:∀{j:PV->Prop},j (.bl t.2.1)->Ai (.lst (T.map λt=> .bl t.2.1)) (.int us.length) j:=λ{j} h=>by rw[<-e,AAT,AAK];have:=Ys (us:=us.map λt=>PV.bl t.2.1) (vs:=vs.map λt=>PV.bl t.2.1) h;rw[AAJ] at this;exact this
    have o:∀{j:PV->Prop},j (.bl t.2.2)->Ai (.lst (gs.map PV.bl ++ [.bl false])) (.int us.length) j:=λ{j} h=>by
     have p:gs.map PV.bl ++ [.bl false] =T.map λt=>PV.bl t.2.2:=by
      rcases s with k|k
      .rw [k] at e;simp at e
      .have:=congrArg (List.map PV.bl) k;rw[AAT,AAc] at this;exact this
     rw[p,<-e,AAT,AAK];have:=Ys (us:=us.map λt=>PV.bl t.2.2) (vs:=vs.map λt=>PV.bl t.2.2) h;rw[AAJ] at this;exact this
    have gl:gs.length<=1000:=by
     rcases s with k|k
     .rw [k] at e;simp at e
     .have:=congrArg List.length k;simp only[AAr,AAJ,AAZ,ACo] at this;omega
    have d:∀L2 b2 f i,(L2,b2)=stepI (stepI (Eb us) ((t.1,0),t.2.1)) ((t.1,1),t.2.2)->R [some (.val (.lst (T.map λt=>fr t.1))),some (.val (.lst (T.map λt=> .bl t.2.1))),some (.val (.lst (gs.map .bl))),some (.own (L2.map BS)),some (.val (Wc b2)),f,i] :=λL2 b2 f i h=>u _ ⟨us ++ [t],vs,f,i,by simpa using e,by simp,by rw[es,<-h]⟩;clear u;generalize Eb us=st at *;obtain⟨A,b⟩:=st;obtain⟨m,h,g⟩:=t;have v:A.length<=2000:=v;cases b with
    | none=>
      rw[show Wc (A,(none:zt Pl)).2= .non from rfl];cases h with
      | true=> have p:g=true:=mt rfl;subst p;ac_rfl;refine c ?_;ac_rfl;exact d A (some (m,0)) _ _ rfl
      | false=>
        ac_rfl;refine c ?_;ac_rfl;refine o ?_;cases g with
        | true=> ac_rfl;exact d A (some (m,1)) _ _ rfl
        | false=> ac_rfl;exact d A none _ _ rfl
    | some b=>
      rw[show Wc (A,some b).2= .tup [fr b.1, .int (1-b.2)] from rfl];cases h with
      | true=> have p:g=true:=mt rfl;subst p;ac_rfl;refine c ?_;ac_rfl;exact d A (some b) _ _ rfl
      | false=>
        have f1:=λb2 f i=>d (A ++ [(b.1,1-b.2,some m)]) b2 f i;rw[AAT] at f1;ac_rfl;refine c ?_;ac_rfl;refine c ?_;ac_rfl;refine o ?_;cases g with
        | true=> ac_rfl;exact f1 (some (m,1)) _ _ rfl
        | false=> ac_rfl;exact f1 none _ _ rfl
def II (qs:zy Rat):zy Rat:=(qs.zip (qs.drop 1)).map λp=>(p.1+p.2)*(1/2:Rat)
def J9 {qs:zy Rat}(hl:qs.length<=1000)(hb:∀x∈qs,Bd 1000 x){Q:PV->Prop}(q:Q (.lst ((II qs).map fr))):Bp [.lst (qs.map fr)] Q:=by
 apply KL;ac_rfl;rw[mO,<-ACE,ib];have a:∀p∈qs.zip (qs.drop 1),Bd 1000 p.1/\Bd 1000 p.2:=λp hp=>⟨hb _ (ABD hp).1,hb _ (ADa (ABD hp).2)⟩;refine⟨lt_size (n:=1000) (by simp;omega) (by decide), ?_⟩;refine Cs (λp:Rat×Rat=> .tup [fr p.1,fr p.2]) fr (λp=>(p.1+p.2)*(1/2:Rat)) (λp=>Bd 1000 p.1/\Bd 1000 p.2) (λp hp R h=> ?_) _ [] a ?_
 .obtain ⟨b,b2⟩:=hp;have bs:=b.add b2;have c:Bd 3 ((1/2:Rat)):=⟨by decide +kernel,by decide +kernel⟩;ac_rfl;exact h
 .rw [AA0];exact q
theorem Rr {f g:Rat->zq}:∀(qs:zy Rat),qs≠ [] ->(∀us q c vs,us++q::c::vs=qs->f ((q+c)*(1/2:Rat))=g q)->(∀us q,us ++ [q] =qs->g q=false)->(II qs).map f ++ [false] =qs.map g
 | [],h,_,_=>absurd rfl h
 | [q],_,_,h=>by have:=h [] q rfl;simp[II,this]
 | q::c::r,_,h1,h2=>by have ih:=Rr (f:=f) (g:=g) (c::r) (by simp) (λus a b vs e=>h1 (q::us) a b vs (by rw[<-e];rfl)) (λus a e=>h2 (q::us) a (by rw[<-e];rfl));have d:=h1 [] q c r rfl;have i:II (q::c::r)=(q+c)*(1/2:Rat)::II (c::r):=rfl;rw[i,AAK,ADO,ih,d];rfl
def dF {us vs:zy Rat}{q a:Rat}(hs:RI (us++q::a::vs)):q<a/\∀x∈us++q::a::vs,¬q<x\/¬x<a:=by
 obtain⟨h1,h2,b⟩:=ACD.mp hs;obtain⟨c,d⟩:=AAL.mp h2;obtain⟨e,f⟩:=AAL.mp d;refine⟨c a (by simp),λx hx=> ?_⟩;rcases AAO.mp hx with h|h
 .have:=b x h q (by simp);exact .inl (by grind)
 .rcases AAF.mp h with rfl|h
  .exact .inl (by grind)
  .rcases AAF.mp h with rfl|h
   .exact .inr (by grind)
   .have:=e x h;exact .inr (by grind)
def Z3 {us:zy Rat}{q:Rat}(hs:RI (us ++ [q])):∀x∈us ++ [q],¬q<x:=λx hx=>by
 obtain⟨h1,h2,a⟩:=ACD.mp hs;rcases AAO.mp hx with h|h
 .have:=a x h q (by simp);grind
 .rw [AAW.mp h];grind
abbrev MH:AS:=
 (Aq (RK (AW Nh (aV 0) (aV 1)) (AW Nh (FR Mt (AB (aV 0) AM)) (FR Mt (AB (aV 1) AM)))))
def DP:AF:=Am 2 MH
def Zj {x:PV}{Q:PV->Prop}(a:PR x)(hq:K3 x=true)(q:Q (.bl true)):DP [x,x] Q:=by
 have e:=YQ a.ok;have b:∀c,c=true->Q (.bl c):=λc e=>by rw[e];exact q
 have go:ae (.bl (fQ x x)) λc=>if c=true then AW Nh (FR Mt (AB (aV 0) AM)) (FR Mt (AB (aV 1) AM)) [some (.val x),some (.val x)] Q else Q (.bl false):=by rw[e];exact Uy a hq (Uy a hq (b _ (AA1 rfl)))
 cases x with
 | tup xs=>exact⟨⟨a.ok,a.ok⟩,go⟩
 | lst xs=>exact⟨⟨a.ok,a.ok⟩,go⟩
 | _=>simp[K3] at hq
abbrev L7:AS:=
 (Aq (FR DV (AB (Ej (Bz (Jy (aV 0)) 1 [] (Ak 0) Dd (AW Bl (A2 (AB (AN 2 A3 (AB (AW Ai (aV 0) (aC (.int 0))) (AB (A2 (AB (AW jY (aC (.int 10)) (aC (.int 18))) (AB (aC (.int 1)) AM))) AM))) AM)) (X6 (aV 0) (X8 (aC (.int 1))) X7)))) AM)))
def ES:AF:=Am 1 L7
def QM {a:PV}{Q:PV->Prop}(h:L7 ⟨λ_=>Q .non,Q,λ_=>False,λ_=>False⟩ [some (.val a)]):ES [a] Q:=h
abbrev Hh:AS:=
 (AY (Aj (AN 2 A3 (AB (AN 1 Ch (AB (aV 0) AM)) (AB (AW Ai (Ej (DS (AB (A2 (AB (aC (.int 0)) (AB (aC (.int 1)) AM))) (AB (A2 (AB (aC (.int 4)) (AB (aC (.int 1)) AM))) (AB (A2 (AB (aC (.int 12)) (AB (aC (.int 1)) AM))) AM))))) (AN 2 BB (AB (aV 0) (AB (aC (.int 3)) AM)))) AM))) (Ak 4))
   (DT 2 GV (AB (AN 2 A3 (AB (aV 3) (AB (aV 4) AM))) AM)))
abbrev Hj:AS:=
 (AY (ED (Jy (aV 1)) (Ak 3) Hh)
   (Aq (A2 (AB (AW Ai (Ej (DS (AB (aC (.str "a")) (AB (aC (.str "room")) (AB (aC (.str "abcdefgh")) AM))))) (AN 2 BB (AB (aV 0) (AB (aC (.int 3)) AM)))) (AB (FR DV (AB (aV 1) AM)) (AB (FR DV (AB (aV 2) AM)) (AB (AW Bl (aC (.int 1)) (AN 2 BB (AB (aV 0) (AB (aC (.int 4)) AM)))) AM)))))))
abbrev Hi:AS:=
 (AY (GR (DS AM) 2)
   Hj)
abbrev Fz:AS:=
 (AY (Aj (Ej (Bz (JF (AB (aC (.int 3)) AM)) 1 [0] (Ak 0) Dd (AN 2 BQ (AB (AN 1 A6 (AB (aV 1) AM)) (AB (AW Ai (Ej (DS (AB (A2 (AB (aC (.int 0)) (AB (aC (.int 1)) AM))) (AB (A2 (AB (aC (.int 3)) (AB (aC (.int 1)) AM))) (AB (A2 (AB (aC (.int 9)) (AB (aC (.int 1)) AM))) AM))))) (AN 2 BB (AB (aV 1) (AB (aC (.int 3)) AM)))) AM))))) (Ak 1))
   Hi)
def CO:AF:=Am 5 Fz
def Jf {a:PV}{Q:PV->Prop}(h:Fz ⟨λ_=>Q .non,Q,λ_=>False,λ_=>False⟩ [some (.val a),none,none,none,none]):CO [a] Q:=h
abbrev HB:AS:=
 (AY (Aj (AN 2 Cr (AB (AN 2 BQ (AB (aV 8) (AB (AW Ai (aV 4) (AW Bl (AW RT (aV 7) (aC (.int 3))) (aC (.int 1)))) AM))) (AB (aV 9) AM))) (Ak 10))
   (CF (Er (Ax (AN 2 Ar (AB (A2 (AB (aC (.int 0)) (AB (aC (.int 1)) AM))) (AB (aV 10) AM)))) (Ax (AN 2 Ar (AB (aV 10) (AB (A2 (AB (aC (.int 1)) (AB (aC (.int 1)) AM))) AM))))) (DT 3 GV (AB (AN 2 A3 (AB (AW Ai (aV 4) (aC (.int 0))) (AB (AN 2 BE (AB (aV 10) (AB (aV 6) AM))) AM))) AM)) BV))
abbrev HC:AS:=
 (AY (Aj (AN 2 BQ (AB (AW Ai (aV 5) (AW Bl (AW RT (aV 7) (aC (.int 3))) (aC (.int 1)))) (AB (AW Ai (aV 4) (AW Bl (AW RT (aV 7) (aC (.int 3))) (aC (.int 1)))) AM))) (Ak 9))
   (CF (Ax (AW Ws (AW Ai (aV 9) (aC (.int 0))) (aC (.int 0)))) HB BV))
abbrev HD:AS:=
 (AY (Aj (AN 2 BQ (AB (AW Ai (aV 5) (aC (.int 0))) (AB (AW Ai (aV 4) (aC (.int 0))) AM))) (Ak 6))
   (ED (fD (AB (AW Bl (aV 1) (aV 2)) AM)) (Hx 2 (AZ (Ak 7) (AZ (Ak 8) Bq))) HC))
abbrev HE:AS:=
 (AY (ED (db (AB (aV 0) (AB (X6 (aV 0) (X8 (aC (.int 1))) X7) AM))) (Hx 2 (AZ (Ak 4) (AZ (Ak 5) Bq))) HD)
   (Aq (AN 1 BF (AB (aV 3) AM))))
abbrev FF:AS:=
 (AY (GR (Bz (Jy (aV 0)) 1 [] (Ak 0) Dd (AW Ai (aV 0) (aC (.int 0)))) 3)
   HE)
def B9:AF:=Am 11 FF
def IQ {a b c:PV}{Q:PV->Prop}(h:FF ⟨λ_=>Q .non,Q,λ_=>False,λ_=>False⟩ [some (.val a),some (.val b),some (.val c),none,none,none,none,none,none,none,none]):B9 [a,b,c] Q:=h
abbrev G9:AS:=
 (AY (CF (Ax (AW HN (aV 4) (aC .non))) (Aq (aC (.bl false))) BV)
   (Aq (FR (RU λbs=>bs.all id) (AB (Ej (Bz (JF (AB (aC (.int 3)) AM)) 1 [1,4,2] (Ak 0) Dd (RK (AN 2 Ar (AB (AW Ai (aV 1) (aV 0)) (AB (AW Ai (aV 2) (aV 0)) AM))) (AN 2 Ar (AB (AW Ai (aV 2) (aV 0)) (AB (AW Ai (aV 3) (aV 0)) AM)))))) AM))))
abbrev G8:AS:=
 (AY (Aj (AN 2 Dw (AB (aV 0) (AB (aV 3) AM))) (Ak 4))
   G9)
abbrev FD:AS:=
 (AY (CF (Ky (Ax (AN 2 Ar (AB (aV 3) (AB (AW Ai (AW Ai (aV 0) (TR J0 (aC (.int 1)))) (aC (.int 0))) AM))))) (Aq (aC (.bl false))) BV)
   G8)
def BP:AF:=Am 5 FD
def IN {a b c d:PV}{Q:PV->Prop}(h:FD ⟨λ_=>Q .non,Q,λ_=>False,λ_=>False⟩ [some (.val a),some (.val b),some (.val c),some (.val d),none]):BP [a,b,c,d] Q:=h
abbrev Nk:AS:=
 (AY (Aj (Ej (Bz (Jy (aV 3)) 1 [0,1,2] (Ak 0) Dd (AN 4 BP (AB (aV 1) (AB (aV 2) (AB (aV 3) (AB (aV 0) AM))))))) (Ak 4))
   (Aq (AN 3 BX (AB (aV 3) (AB (aV 4) (AB (Ej (Bz (Jy (AN 1 Bp (AB (aV 3) AM))) 1 [0,1,2] (Ak 0) Dd (AN 4 BP (AB (aV 1) (AB (aV 2) (AB (aV 3) (AB (aV 0) AM))))))) AM))))))
abbrev L8:AS:=
 (AY (Aj (AN 3 B9 (AB (aV 0) (AB (aV 1) (AB (aV 2) AM)))) (Ak 3))
   Nk)
def ET:AF:=Am 5 L8
def QN {a b c:PV}{Q:PV->Prop}(h:L8 ⟨λ_=>Q .non,Q,λ_=>False,λ_=>False⟩ [some (.val a),some (.val b),some (.val c),none,none]):ET [a,b,c] Q:=h
def fS {cs:zy C4}{B:Nat}(hl:cs.length<=1000)(hc:∀c∈cs,FT B c)(d:B<=3000){Q:PV->Prop}(q:Q (BJ (laterC (10^18) cs))):ES [BJ cs] Q:=by
 have bk:Bd 60 ((10:Rat)^18):=⟨by decide +kernel,by decide +kernel⟩;apply QM;ac_rfl;refine Cs cor cor (λc=>(c.1+10^18,c.2)) (FT B) (λc a R b=> ?_) cs [] hc ?_
 .have bm:=a.m;ac_rfl;rw[show (((10:Int)^Int.toNat 18:Int):Rat)=10^18 by decide +kernel];exact b
 .rw [AA0];ac_rfl;exact q
def V5 {Q:PV->Prop}(q:∀(s:Str) (lo hi:T3) (d:Int),(s="a" \/s="room" \/s="abcdefgh")->Du 40 lo->Du 40 hi->1<=d->d<=4->Q (.tup [.str s,CM lo,CM hi, .int d])):CO [.tape] Q:=by
 have v:∀{k:Int} {R:PV->Prop},0<=k->k<3->(∀x,Bd 8 x->R (fr x))->Ai (.lst [fr 0,fr ((3:Int):Rat),fr ((9:Int):Rat)]) (.int k) R:=λj h1 h=>Fd (xs:= [0,((3:Int):Rat),((9:Int):Rat)]) j h1 λx hx=>h x (by
  simp only[AAF,AAd,AAb] at hx;rcases hx with rfl|rfl|rfl <;> exact⟨by decide +kernel,by decide +kernel⟩)
 have A:∀{k:Int} {R:PV->Prop},0<=k->k<3->(∀x,Bd 8 x->R (fr x))->Ai (.lst [fr 0,fr ((4:Int):Rat),fr ((12:Int):Rat)]) (.int k) R:=λj h1 h=>Fd (xs:= [0,((4:Int):Rat),((12:Int):Rat)]) j h1 λx hx=>h x (by
  simp only[AAF,AAd,AAb] at hx;rcases hx with rfl|rfl|rfl <;> exact⟨by decide +kernel,by decide +kernel⟩)
 apply Jf;ac_rfl;refine VP (λi b=>∃xs:zy Rat,xs.length=i/\(∀x∈xs,Bd 20 x)/\b=xs.map fr) (λb h=> ?_) (λi hi b R B h=> ?_) ⟨[],rfl,by simp,rfl⟩
 .obtain ⟨xs,l,c,rfl⟩:=h;obtain⟨x,y,z,rfl⟩:∃x y z,xs= [x,y,z] :=by
   match xs,l with
   | [x,y,z],_=>exact⟨x,y,z,rfl⟩
  have C:=c x (by simp);have m:=c y (by simp);have D:=c z (by simp);ac_rfl;refine Cu fr (λus vs τ=>∃hs:zy Rat,∃n o,hs.length=us.length/\(∀x∈hs,Bd 40 x)/\τ= [some (.val .tape),some (.val (.lst ([x,y,z].map fr))),some (.own (hs.map fr)),n,o]) ?_ ?_ ⟨[],_,_,rfl,by simp,rfl⟩
  .rintro τ ⟨hs,n,o,hl,hb,rfl⟩;obtain⟨E,F,G,rfl⟩:∃x y z,hs= [x,y,z] :=by
    match hs,hl with
    | [x,y,z],_=>exact⟨x,y,z,rfl⟩
   have p:=λs d hs h1 h2=>q s (x,y,z) (E,F,G) d hs ⟨C.mono (by decide),m.mono (by decide),D.mono (by decide)⟩ ⟨hb _ (by simp),hb _ (by simp),hb _ (by simp)⟩ h1 h2;ac_rfl;rename_i k f g;refine gA f g λu hu=> ?_;obtain⟨s,rfl,hs⟩:∃s:Str,u= .str s/\(s="a" \/s="room" \/s="abcdefgh"):=by
    simp only[AAF,AAd,AAb] at hu;rcases hu with rfl|rfl|rfl
    .exact ⟨_,rfl, .inl rfl⟩
    .exact ⟨_,rfl, .inr (.inl rfl)⟩
    .exact ⟨_,rfl, .inr (.inr rfl)⟩
   ac_rfl;exact p s _ hs (by omega) (by omega)
  .rintro us a vs e τ R2 H ⟨hs,n,o,hl,hb,rfl⟩;have r:Bd 20 a:=by
    have:a∈ [x,y,z] :=by rw[<-e];simp
    exact c a this
   have ul:us.length<=3:=by have:=congrArg List.length e;simp at this;omega
   ac_rfl;rename_i w I J k f g;refine A f g λu t=> ?_;ac_rfl;exact H _ ⟨hs ++ [a+(w+u)],_,_,by simp[hl],λx hx=>by
    rcases AAO.mp hx with hx|hx
    .exact hb x hx
    .rw [AAW.mp hx];exact(r.add (I.add t)).mono (by decide),by rw[AAT];rfl⟩
 .obtain ⟨xs,l,c,rfl⟩:=h;ac_rfl;rename_i a r k f g;refine v f g λu t=> ?_;ac_rfl;exact B _ ⟨xs ++ [a-u],by simp[l],λx hx=>by
   rcases AAO.mp hx with hx|hx
   .exact c x hx
   .rw [AAW.mp hx];exact(r.sub t).mono (by decide),by rw[AAT];rfl⟩
def Jb (a b:C4)(r:zy C4):FO (a::b::r)=(a,b)::FO (b::r):=rfl
theorem Lq:∀{cs:zy C4} {l:C4},Jo cs->cs.getLast?=some l->∀c∈cs,c.1<=l.1
 | [],_,_,e,_,_=>by cases e
 | [a],l,_,e,c,hc=>by cases e;rw[AAW.mp hc];exact ACL
 | a::b::r,l,h,e,c,hc=>by
   rw[ABw] at e;have h':=AAL.mp h;have ih:=Lq h'.2 e;rcases AAF.mp hc with rfl|hc
   .have:=h'.1 b (by simp);have:=ih b (by simp);grind
   .exact ih c hc
def WF {lo hi:T3}{m:Rat}:∀(r:zy C4) (a b l:C4),Jo (a::b::r)->a.1<=m->(a::b::r).getLast?=some l->((∃t,spotG a (b::r) m=some t/\VE lo hi t)/\m<l.1↔∃p∈FO (a::b::r),JR lo hi p m):=by
 intro r;induction r with
 | nil=>
   intro a b l h ha e;cases e;have g:=(AAL.mp h).1 b (by simp);simp only[Jb,show FO [b] = [] from rfl,AAW,exists_eq_left,spotG];unfold JR;constructor
   .rintro ⟨⟨t,e,k⟩,d⟩;rw[AAC (by grind)] at e;cases e;exact⟨ha,d,k⟩
   .rintro ⟨_,d,k⟩;rw[AAC (by grind)];exact⟨⟨_,rfl,k⟩,d⟩
 | cons c r ih=>
   intro a b l h ha e;have h':=AAL.mp h;have g:=h'.1 b (by simp);have i:=(AAL.mp h'.2).1 c (by simp);have u:=Lq h e b (by simp);have cl:=Lq h e c (by simp);rw[ABw] at e;rw[Jb];have f:m<b.1->∀p∈FO (b::c::r),¬JR lo hi p m:=λd p hp k=>by
    have q:=(G5 h'.2 hp).1;have:b.1<=p.1.1:=by
     rcases AAF.mp q with z|z
     .rw [z];exact ACL
     .have:=(AAL.mp h'.2).1 _ z;grind
    have:=k.1;grind
   by_cases j:b.1<m
   .rw [show spotG a (b::c::r) m=spotG b (c::r) m by rw[spotG,AAE j],ih b c l h'.2 (by grind) e];constructor
    .rintro ⟨p,hp,k⟩;exact⟨p,by simp[hp],k⟩
    .rintro ⟨p,hp,k⟩;rcases AAF.mp hp with rfl|hp
     .exact absurd k.2.1 (by show ¬m<b.1;grind)
     .exact ⟨p,hp,k⟩
   .rw [show spotG a (b::c::r) m=some (inter a b m) by rw[spotG,AAC j]];by_cases n:m<b.1
    .constructor
     .rintro ⟨⟨t,e,k⟩,_⟩;cases e;exact⟨(a,b),by simp,ha,n,k⟩
     .rintro ⟨p,hp,k⟩;rcases AAF.mp hp with rfl|hp
      .exact ⟨⟨_,rfl,k.2.2⟩,by grind⟩
      .exact absurd k (f n p hp)
    .have d:m=b.1:=by grind
     subst d;have s:inter a b b.1=b.2:=UB g;have o:inter b c b.1=b.2:=Rl i;rw[s];constructor
     .rintro ⟨⟨t,e,k⟩,_⟩;cases e;exact⟨(b,c),by rw[Jb];simp,ACL,i,by rw[o];exact k⟩
     .rintro ⟨p,hp,k⟩;rcases AAF.mp hp with rfl|hp
      .exact absurd k.2.1 (by show ¬b.1<b.1;grind)
      .rw [Jb] at hp;rcases AAF.mp hp with rfl|hp
       .refine ⟨⟨_,rfl, ?_⟩,by grind⟩;have:=k.2.2;rw[o] at this;exact this
       .exfalso;have q:=(G5 (AAL.mp h'.2).2 hp).1;have:=(AAL.mp h'.2).1 _ q;have:=k.1;grind
def W2 {cs:zy C4}{lo hi:T3}{m:Rat}{B M:Nat}(hc:∀c∈cs,FT B c)(d:Jo cs)(h2:2<=cs.length)(hl:cs.length<=1000)(g:Du 100 lo)(i:Du 100 hi)(bm:Bd M m)(G:M+6*B+10<=3900){Q:PV->Prop}(q:∀b:zq,(b=true↔∃p∈FO cs,JR lo hi p m)->Q (.bl b)):BP [BJ cs,CM lo,CM hi,fr m] Q:=by
 obtain⟨a,b,r,rfl⟩:∃a b r,cs=a::b::r:=by
  match cs,h2 with
  | a::b::r,_=>exact⟨a,b,r,rfl⟩
 obtain⟨l,n⟩:∃l,(a::b::r).getLast?=some l:=⟨_,ABv (by simp)⟩;have s:l∈a::b::r:=ACn n;have u:=(hc l s).m;have sp:=WF (lo:=lo) (hi:=hi) (m:=m) r a b l d;have o:=Du.spotC bm d hc;have v:=g.x;have w:=g.y;have A:=g.z;have C:=i.x;have D:=i.y;have E:=i.z;have key:(∃p∈FO (a::b::r),JR lo hi p m)↔(∃t,spotC (a::b::r) m=some t/\VE lo hi t)/\m<l.1:=by
  by_cases h:m<a.1
  .rw [LA h];constructor
   .rintro ⟨p,hp,k⟩;exfalso;have q:=(G5 d hp).1;have:a.1<=p.1.1:=by
     rcases AAF.mp q with z|z
     .rw [z];exact ACL
     .have:=(AAL.mp d).1 _ z;grind
    have:=k.1;grind
   .rintro ⟨⟨t,e,_⟩,_⟩;cases e
  .rw [show spotC (a::b::r) m=spotG a (b::r) m by rw[spotC,AAC h],sp (by grind) n]
 rw[key] at q;apply IN;ac_rfl
 .rename_i h;exact q false ⟨λz=>(by cases z),λz=>absurd z.2 h⟩
 rename_i F;refine GM hc d (by simp) hl bm (by omega) ?_;cases hs:spotC (a::b::r) m with
 | none=> rw[show Sg none=PV.non from rfl];ac_rfl;exact q false ⟨λz=>(by cases z),λz=>by obtain⟨⟨t,e,_⟩,_⟩:=z;rw[hs] at e;cases e⟩
 | some t=>
   have j:=o t hs;have H:=j.x;have I:=j.y;have J:=j.z;rw[show Sg (some t)=CM t from rfl];have f:=λb (h:b=true↔VE lo hi t)=>q b (by rw[h,hs];exact⟨λz=>⟨⟨t,rfl,z⟩,F⟩,λz=>by obtain⟨⟨t',e,k⟩,_⟩:=z;cases e;exact k⟩);clear q key sp o;unfold VE at f;ac_rfl;show Cj _ _ _ _ _ [.int 0, .int 1, .int 2] [];repeat' array_get_dec
   all_goals (refine f _ ?_;simp_all)
def F9 (k:Int)(c:C4):Rat:=if k % 3=0 then c.2.1 else if k % 3=1 then c.2.2.1 else c.2.2.2
def E6 (lo hi:T3):zy (Int×Rat):= [(0,lo.1),(1,lo.2.1),(2,lo.2.2),(3,hi.1),(4,hi.2.1),(5,hi.2.2)]
def nK (p:Int×Rat):PV:= .tup [.int p.1,fr p.2]
def aX (cs:zy C4):HS (cs.map cor) (List.map cor (List.drop (Int.toNat 1) cs))=(FO cs).map λp=> .tup [cor p.1,cor p.2] :=by rw[show Int.toNat 1=1 from rfl,List.drop_one];unfold HS FO;rw[List.zipWith_map,List.zip,List.map_zipWith]
def eV (p:C4×C4)(u:Int×Rat)(m:Rat):Prop:=p.1.1<m/\m<p.2.1/\F9 u.1 p.1≠F9 u.1 p.2/\F9 u.1 p.1+(m-p.1.1)/(p.2.1-p.1.1)*(F9 u.1 p.2-F9 u.1 p.1)=u.2
structure ej (W:Nat) (cs:List C4) (us:List (C4×C4)) (lo hi:T3) (ms:List Rat):Prop where
 bd:∀m∈ms,Bd W m
 crn:∀c∈cs,c.1∈ms
 ed:∀p∈us,∀u∈E6 lo hi,∀m,eV p u m->m∈ms
 len:ms.length<=cs.length+6*us.length
structure TF (W:Nat) (cs:List C4) (us:List (C4×C4)) (lo hi:T3) (p:C4×C4) (ws:List (Int×Rat)) (ms:List Rat):Prop where
 bd:∀m∈ms,Bd W m
 crn:∀c∈cs,c.1∈ms
 ed:∀p∈us,∀u∈E6 lo hi,∀m,eV p u m->m∈ms
 ed2:∀u∈ws,∀m,eV p u m->m∈ms
 len:ms.length<=cs.length+6*us.length+ws.length
def TF.more {W:Nat}{cs:zy C4}{us:zy (C4×C4)}{lo hi:T3}{p:C4×C4}{b:zy (Int×Rat)}{ms:zy Rat}{u:Int×Rat}(h:TF W cs us lo hi p b ms){x:Rat}(d:Bd W x)(k:∀m,eV p u m->m=x):TF W cs us lo hi p (b ++ [u]) (ms ++ [x]):=by
 refine⟨λm a=> ?_,λc hc=>by simp[h.crn c hc],λq hq v hv m a=>by simp[h.ed q hq v hv m a],λv hv m a=> ?_,by have:=h.len;simp;omega⟩
 .rcases AAO.mp a with a|a
  .exact h.bd m a
  .rw [AAW.mp a];exact d
 .rcases AAO.mp hv with hv|hv
  .simp [h.ed2 v hv m a]
  .rw [AAW.mp hv] at a;simp[k m a]
def TF.less {W:Nat}{cs:zy C4}{us:zy (C4×C4)}{lo hi:T3}{p:C4×C4}{b:zy (Int×Rat)}{ms:zy Rat}{u:Int×Rat}(h:TF W cs us lo hi p b ms)(k:∀m,¬eV p u m):TF W cs us lo hi p (b ++ [u]) ms:=by
 refine⟨h.bd,h.crn,h.ed,λv hv m a=> ?_,by have:=h.len;simp;omega⟩;rcases AAO.mp hv with hv|hv
 .exact h.ed2 v hv m a
 .rw [AAW.mp hv] at a;exact absurd a (k m)
def fN {p:C4×C4}{u:Int×Rat}{m:Rat}(h:eV p u m):(m-p.1.1)/(p.2.1-p.1.1)=(u.2-F9 u.1 p.1)/(F9 u.1 p.2-F9 u.1 p.1)/\0<(m-p.1.1)/(p.2.1-p.1.1)/\(m-p.1.1)/(p.2.1-p.1.1)<1/\m=p.1.1+(m-p.1.1)/(p.2.1-p.1.1)*(p.2.1-p.1.1):=by
 obtain⟨h1,h2,c,a⟩:=h;have d:(0:Rat)<p.2.1-p.1.1:=by grind
 have d':p.2.1-p.1.1≠0:=by grind
 have w:F9 u.1 p.2-F9 u.1 p.1≠0:=by grind
 have b:(m-p.1.1)/(p.2.1-p.1.1)*(p.2.1-p.1.1)=m-p.1.1:=Rat.div_mul_cancel d';refine⟨?_, ?_, ?_,by rw[b];grind⟩
 .rw [<-a,show F9 u.1 p.1+(m-p.1.1)/(p.2.1-p.1.1)*(F9 u.1 p.2-F9 u.1 p.1)-F9 u.1 p.1=(m-p.1.1)/(p.2.1-p.1.1)*(F9 u.1 p.2-F9 u.1 p.1) by grind,Rat.mul_div_cancel w]
 .rw [Rat.lt_div_iff d];grind
 .rw [Rat.div_lt_iff d];grind
def jW {lo hi:T3}{u:Int×Rat}{B:Nat}(a:Du 100 lo)(b:Du 100 hi)(hu:u∈E6 lo hi):(∀(d:C4) {R:PV->Prop},R (fr (F9 u.1 d))->Ai (cor d) (.int (u.1.fmod 3+1)) R)/\Bd 100 u.2/\∀d,FT B d->Bd B (F9 u.1 d):=by
 unfold E6 at hu;simp only[AAF,AAd,AAb] at hu;rcases hu with rfl|rfl|rfl|rfl|rfl|rfl
 .exact ⟨λd R h=>(show R (fr d.2.1) from h),a.x,λd h=>h.x⟩
 .exact ⟨λd R h=>(show R (fr d.2.2.1) from h),a.y,λd h=>h.y⟩
 .exact ⟨λd R h=>(show R (fr d.2.2.2) from h),a.z,λd h=>h.z⟩
 .exact ⟨λd R h=>(show R (fr d.2.1) from h),b.x,λd h=>h.x⟩
 .exact ⟨λd R h=>(show R (fr d.2.2.1) from h),b.y,λd h=>h.y⟩
 .exact ⟨λd R h=>(show R (fr d.2.2.2) from h),b.z,λd h=>h.z⟩
def UL {cs:zy C4}{lo hi:T3}{B:Nat}(hc:∀c∈cs,FT B c)(J:Jo cs)(h2:2<=cs.length)(hl:cs.length<=100)(K:Du 100 lo)(L:Du 100 hi)(T:B<=140){Q:PV->Prop}(q:∀ms,ej (6*B+105) cs (FO cs) lo hi ms->Q (.lst ((BW ms).map fr))):B9 [BJ cs,CM lo,CM hi] Q:=by
 have U:(FO cs).length=cs.length-1:=by unfold FO;simp
 apply IQ;ac_rfl;refine Cs cor fr (λc=>c.1) (λ_=>True) (λc _ R s=> ?_) cs [] (λ_ _=>True.intro) ?_
 .ac_rfl;exact s
 rw[AA0];ac_rfl;rw[aX];refine Cu (λp:C4×C4=> .tup [cor p.1,cor p.2]) (λus vs τ=>∃ms v y A d f g a,ej (6*B+105) cs us lo hi ms/\τ= [some (.val (BJ cs)),some (.val (CM lo)),some (.val (CM hi)),some (.own (ms.map fr)),v,y,A,d,f,g,a]) ?_ ?_ ⟨cs.map λc=>c.1,_,_,_,_,_,_,_,⟨λm i=> ?_,λc hc=>List.mem_map_of_mem hc,by simp,by simp⟩,rfl⟩
 .rintro τ ⟨ms,v,y,A,d,f,g,a,h,rfl⟩;have:=h.len;ac_rfl;exact KI (B:=6*B+105) (by omega) h.bd (by omega) (q ms h)
 .rintro us p vs e τ R s ⟨ms,v,y,A,d,f,g,a,h,rfl⟩;obtain⟨m1,m2,m3⟩:=G5 J (p:=p) (by rw[<-e];simp);have ul:us.length<=100:=by have:=congrArg List.length e;simp at this;omega
  obtain⟨b,c⟩:=p;have G:=(hc b m1).m;have M:=(hc c m2).m;ac_rfl;show Bl (.tup [fr lo.1,fr lo.2.1,fr lo.2.2]) (.tup [fr hi.1,fr hi.2.1,fr hi.2.2]) _;ac_rfl;show C7 _ _ _ ((E6 lo hi).map nK) _;refine Cu nK (λC vs τ=>∃ms d f g a,TF (6*B+105) cs us lo hi (b,c) C ms/\τ= [some (.val (BJ cs)),some (.val (CM lo)),some (.val (CM hi)),some (.own (ms.map fr)),some (.val (cor b)),some (.val (cor c)),some (.val (fr (c.1-b.1))),d,f,g,a]) ?_ ?_ ⟨ms,_,_,_,_,⟨h.bd,h.crn,h.ed,by simp,h.len⟩,rfl⟩
  .rintro τ ⟨ms,d,f,g,a,k,rfl⟩;refine s _ ⟨ms,_,_,_,_,_,_,_,⟨k.bd,k.crn,λx hx u hu m i=> ?_,by have:=k.len;simp[E6] at this ⊢;omega⟩,rfl⟩;rcases AAO.mp hx with hx|hx
   .exact k.ed x hx u hu m i
   .rw [AAW.mp hx] at i;exact k.ed2 u hu m i
  .rintro C u N H τ R2 D ⟨ms,d,f,g,a,k,rfl⟩;have W:C.length<=6:=by have:=congrArg List.length H;simp[E6] at this;omega
   have hu:u∈E6 lo hi:=by rw[<-H];simp
   have X:=k.len;obtain⟨E,I,r⟩:=jW (B:=B) K L hu;have t:=r b (hc b m1);have sc:=r c (hc c m2);have j:=λm=> @fN (b,c) u m;have new:∀d f g a,R2 [some (.val (BJ cs)),some (.val (CM lo)),some (.val (CM hi)),some (.own (ms.map fr ++ [fr (b.1+(u.2-F9 u.1 b)/(F9 u.1 c-F9 u.1 b)*(c.1-b.1))])),some (.val (cor b)),some (.val (cor c)),some (.val (fr (c.1-b.1))),d,f,g,a] \/F9 u.1 c-F9 u.1 b=0:=λd f g a=>by
    by_cases w:F9 u.1 c-F9 u.1 b=0
    .exact .inr w
    .refine .inl (D _ ⟨ms ++ [b.1+(u.2-F9 u.1 b)/(F9 u.1 c-F9 u.1 b)*(c.1-b.1)],d,f,g,a,k.more ((G.add ((Bd.div w (I.sub t) (sc.sub t)).mul (M.sub G))).mono (by omega)) λm i=> ?_,by rw[AAT];rfl⟩);have z:=j m i;have o:=z.1;have l:=z.2.2.2;dsimp only at o l;rw[o] at l;exact l
   have n:∀d f g a,(∀m,¬eV (b,c) u m)->R2 [some (.val (BJ cs)),some (.val (CM lo)),some (.val (CM hi)),some (.own (ms.map fr)),some (.val (cor b)),some (.val (cor c)),some (.val (fr (c.1-b.1))),d,f,g,a] :=λd f g a O=>D _ ⟨ms,d,f,g,a,k.less O,rfl⟩;clear D s;unfold nK;ac_rfl;refine E c ?_;ac_rfl;refine E b ?_;ac_rfl
   .rename_i w;have w:F9 u.1 c-F9 u.1 b≠0:=λz=>w (by rw[z];rfl);have new:=λd f g a=>(new d f g a).resolve_right w;have P:=I.sub t;have b2:=sc.sub t;have Y:=Bd.div w P b2;refine E b ?_;ac_rfl
    .exact new _ _ _ _
    .rename_i h1 h2;refine n _ _ _ _ λm i=> ?_;obtain⟨o,l,F,_⟩:=j m i;rw[o] at F;exact h2 F
    .rename_i h1;refine n _ _ _ _ λm i=> ?_;obtain⟨o,l,F,_⟩:=j m i;rw[o] at l;exact h1 l
   .rename_i w;refine n _ _ _ _ λm i=> ?_;have:=i.2.2.1;have w:F9 u.1 c-F9 u.1 b=0:=Rat.num_eq_zero.mp w;dsimp only at this;grind
 .obtain ⟨c,S,rfl⟩:=AAN.mp i;exact(hc c S).m.mono (by omega)
def dv {cs:zy C4}{W:Nat}{lo hi:T3}{ms:zy Rat}(c:Jo cs)(h:ej W cs (FO cs) lo hi ms){p:C4×C4}(hp:p∈FO cs){m:Rat}(k:jL lo hi p m):m∈ms:=by
 obtain⟨m1,m2,m3⟩:=G5 c hp;rcases k with rfl|rfl|⟨h1,h2,k⟩
 .exact h.crn _ m1
 .exact h.crn _ m2
 .have go:∀u∈E6 lo hi,F9 u.1 p.1≠F9 u.1 p.2->F9 u.1 p.1+(m-p.1.1)/(p.2.1-p.1.1)*(F9 u.1 p.2-F9 u.1 p.1)=u.2->m∈ms:=λu hu a b=>h.ed p hp u hu m ⟨h1,h2,a,b⟩;rcases k with⟨n,k|k⟩|⟨n,k|k⟩|⟨n,k|k⟩
  .exact go (0,lo.1) (by simp[E6]) n k
  .exact go (3,hi.1) (by simp[E6]) n k
  .exact go (1,lo.2.1) (by simp[E6]) n k
  .exact go (4,hi.2.1) (by simp[E6]) n k
  .exact go (2,lo.2.2) (by simp[E6]) n k
  .exact go (5,hi.2.2) (by simp[E6]) n k
def sv (p:Int×Int):Rat:=(p.1:Rat)/(p.2:Rat)
section
variable {cs ds:zy C4}{d:Rat×Rat}{M W:Nat}
def Pz (cs ds:zy C4)(d:Rat×Rat)(m:Rat):Prop:=fF cs ds<=m/\m<fP cs ds/\mS (nV cs ds d m)<1
instance {m:Rat}:Decidable (Pz cs ds d m):=by unfold Pz;infer_instance
structure dX (cs ds:List C4) (d:Rat×Rat) (B:Nat) (ss:List BD):Prop where
 few:ss.length<=201
 ok:∀s∈ss,BR B s
 fin:∀s∈ss,∃x,s.2.2=some x
 sem:∀m,ss.any (Ap · (m,0))=true↔Pz cs ds d m
 pf:ss.length<=(ug cs ds d).length
end
def bS {ss:zy BD}(a:∀s∈ss,∃x,s.2.2=some x)(k:Rat):∃m,k<m/\ss.any (Ap · (m,0))=false:=by
 induction ss with
 | nil=>exact⟨k+1,by grind,rfl⟩
 | cons s ss ih=>
   obtain⟨x,hx⟩:=a s (by simp);have c:∀(b:zy BD),(∀s∈b,∃x,s.2.2=some x)->∃n:Rat,k<n/\∀s∈b,∀x,s.2.2=some x->x<n:=by
    intro b;induction b with
    | nil=>intro _;exact⟨k+1,by grind,by simp⟩
    | cons t b d=>
      intro e;obtain⟨n,h1,h2⟩:=d λs hs=>e s (by simp[hs]);obtain⟨y,hy⟩:=e t (by simp);by_cases z:y<n
      .refine ⟨n,h1,λs hs x hx=> ?_⟩;rcases AAF.mp hs with rfl|hs
       .rw [hy] at hx;cases hx;exact z
       .exact h2 s hs x hx
      .refine ⟨y+1,by grind,λs hs x hx=> ?_⟩;rcases AAF.mp hs with rfl|hs
       .rw [hy] at hx;cases hx;grind
       .have:=h2 s hs x hx;grind
   obtain⟨n,h1,h2⟩:=c (s::ss) a;refine⟨n,h1, ?_⟩;rw[ACv];intro t f z;obtain⟨y,hy⟩:=a t f;have:=h2 t f y hy;unfold Ap at z;rw[hy] at z;simp at z;grind
def Gw {B:Nat}{ss:zy BD}(ok:∀s∈ss,BR B s)(a:∀s∈ss,∃x,s.2.2=some x):∀r∈canon 1 ss,∃x,r.2.2=some x:=by
 intro r b;cases e:r.2.2 with
 | some x=>exact⟨x,rfl⟩
 | none=> exfalso;obtain⟨m,h1,h2⟩:=bS a r.1;rw[<-GS ok (p:=(m,0)) (.inl rfl)] at h2;rw[ACv] at h2;refine h2 r b ?_;unfold Ap;rw[e];simp;exact .inl h1
structure Told (P:Rat->Prop) (B:Nat) (cc:List BD):Prop where
 ok:∀s∈cc,BR B s
 fin:∀s∈cc,∃x,s.2.2=some x
 few:cc.length<=2000
 sem:∀m,cc.any (Ap · (m,0))=true↔P m
def dX.told {cs a:zy C4}{d:Rat×Rat}{B:Nat}{ss:zy BD}(n:dX cs a d B ss):Told (Pz cs a d) B (canon 1 ss):=
 ⟨GT n.ok,Gw n.ok n.fin,by have:=FZ (n:=1) (ss:=ss);have:=n.few;omega,λm=>by rw[GS n.ok (p:=(m,0)) (.inl rfl)];exact n.sem m⟩
def DR.sem {N:Nat}{lo hi:T3}{us:zy (C4×C4)}{ss:zy BD}(h:DR N lo hi us ss)(m:Rat):ss.any (Ap · (m,0))=true↔∃p∈us,JR lo hi p m:=by
 rw[AAh];constructor
 .rintro ⟨s,hs,k⟩;obtain⟨p,hp,o⟩:=h.ok s hs;exact⟨p,hp,(o.sem m).mp k⟩
 .rintro ⟨p,hp,k⟩;exact h.all p hp m k
def iF {qs:zy Rat}{In:Pl->zq}(mono:∀x∈qs,In (x,0)=true->In (x,1)=true)(c:∀us x d vs,us++x::d::vs=qs->In ((x+d)*(1/2:Rat),0)=In (x,1))(last:∀us x,us ++ [x] =qs->In (x,0)=false/\In (x,1)=false)(hl:qs.length<=1000){Q:PV->Prop}(q:Q (.tup ((D1 ((places qs).map λp=>(p,In p))).map BS))):BX [.lst (qs.map fr), .lst (qs.map λm=> .bl (In (m,0))), .lst ((II qs).map λm=> .bl (In (m,0)))] Q:=by
 have ep:((places qs).map λp=>(p,In p))=(qs.map λx=>((x,In (x,0),In (x,1)):Tr)).flatMap iS:=by unfold places;rw[List.map_flatMap,List.flatMap_map];rfl
 rw[ep] at q;have key:=Zq (T:=qs.map λx=>((x,In (x,0),In (x,1)):Tr)) (gs:=(II qs).map λm=>In (m,0)) ?_ ?_ (by rw[AAJ];omega) ?_ q
 .rw [AAc,AAc,AAc] at key;exact key
 .by_cases a:qs= []
  .exact .inl (by rw[a];rfl)
  .refine .inr ?_;rw[AAc];exact Rr (f:=λm=>In (m,0)) (g:=λx=>In (x,1)) qs a c λus x e=>(last us x e).2
 .intro t i h;obtain⟨x,hx,rfl⟩:=AAN.mp i;exact mono x hx h
 .by_cases a:qs= []
  .rw [a];rfl
  .obtain ⟨us,x,rfl⟩:∃us x,qs=us ++ [x] :=⟨qs.dropLast,qs.getLast a,(ACw a).symm⟩;obtain⟨f0,f1⟩:=last us x rfl;rw[AAT,AAK,ABc,Ms,f0,f1];generalize Eb _=st;obtain⟨A,b⟩:=st;cases b <;> rfl
def bT {s:BD}{B:Nat}(o:BR B s){x a:Rat}(j:x<a)(d:¬x<s.1\/¬s.1<a)(f:∀e,s.2.2=some e->¬x<e\/¬e<a):Ap s ((x+a)*(1/2:Rat),0)=Ap s (x,1):=by
 have m1:x<(x+a)*(1/2:Rat):=by grind
 have m2:(x+a)*(1/2:Rat)<a:=by grind
 generalize (x+a)*(1/2:Rat)=m at *;obtain⟨b,h,e⟩:=s;have l:h=0\/h=1:=o.h;have d:¬x<b\/¬b<a:=d;have g:(decide (b<m)||(decide (b=m)&&decide (0<h+0)))=(decide (b<x)||(decide (b=x)&&decide (0<h+1))):=by
  rw[AAz];simp only[ABV,AAf,ABe];have k:0<h+1:=by omega
  constructor
  .intro z;have:¬x<b:=by rcases z with z|z <;> grind
   by_cases c:b=x
   .exact .inr ⟨c,k⟩
   .exact .inl (by grind)
  .intro z;exact .inl (by rcases z with z|z <;> grind)
 cases e with
 | none=>simp only[Ap,g]
 | some e=>
   have f:=f e rfl;have i:decide (m<e)=decide (x<e):=by rw[ABS];constructor <;> intro z <;> grind
   simp only[Ap,g,i]
def Wb {ss:zy BD}{f g:BD->zq}(h:∀s∈ss,f s=g s):ss.any f=ss.any g:=by
 induction ss with
 | nil=>rfl
 | cons a r ih=>rw[ABG,ABG,h a (by simp),ih λs hs=>h s (by simp[hs])]
def fg {s:BD}{x:Rat}(h:Ap s (x,0)=true):Ap s (x,1)=true:=by
 simp only[Ap,AAf,ABV,ABe] at h ⊢;refine⟨?_,h.2⟩;rcases h.1 with h1|⟨h1,h2⟩
 .exact .inl h1
 .exact .inr ⟨h1,by omega⟩
def Zs {ss:zy BD}{ms:zy Rat}{B:Nat}(ok:∀s∈ss,BR B s)(a:∀s∈ss,∃x,s.2.2=some x)(sub:∀s∈ss,s.1∈ms/\∀e,s.2.2=some e->e∈ms)(hl:ms.length<=1000){Q:PV->Prop}(q:Q (.tup ((canon 1 ss).map BS))):BX [.lst ((BW ms).map fr), .lst ((BW ms).map λm=> .bl (ss.any (Ap · (m,0)))), .lst ((II (BW ms)).map λm=> .bl (ss.any (Ap · (m,0))))] Q:=by
 have j:=Db (xs:=ms);have b:=CB (xs:=ms);have d:canon 1 ss=D1 ((places (BW ms)).map λp=>(p,ss.any (Ap · p))):=by
  have f:BW ms=BW (ms++Bs ss):=NM λx=>by
   rw[AAO];refine⟨.inl,λh=>h.elim id λh=> ?_⟩;obtain⟨s,hs,k⟩:=ABW.mp h;rcases AAF.mp k with rfl|k
   .exact (sub s hs).1
   .exact (sub s hs).2 x (by simpa using k)
  rw[<-Fa (ms:=ms) ok (by decide),f];show D1 _=D1 _;congr 1;apply AA7;intro p _;rw[Fc]
 rw[d] at q;refine iF (In:=λp=>ss.any (Ap · p)) (λx _ h=> ?_) (λus x l vs e=> ?_) (λus x e=> ?_) (by omega) q
 .obtain ⟨s,hs,k⟩:=AAh.mp h;exact AAh.mpr ⟨s,hs,fg k⟩
 .obtain ⟨g,c⟩:=dF (e ▸ b);refine Wb λs hs=>bT (ok s hs) g (c _ (by rw[e];exact BI.mpr (sub s hs).1)) λz hz=>c _ (by rw[e];exact BI.mpr ((sub s hs).2 z hz))
 .have key:∀i:Int,ss.any (Ap · (x,i))=false:=λi=>by rw[ACv];intro s hs;obtain⟨ev,he⟩:=a s hs;have h1:=BI.mpr ((sub s hs).2 ev he);rw[<-e] at h1;have h2:=Z3 (e ▸ b) ev h1;simp only[Ap,he];simp[h2]
  exact⟨key 0,key 1⟩
def Py {qs:zy Rat}{W:Nat}(h:∀x∈qs,Bd W x):∀x∈II qs,Bd (2*W+4) x:=λx hx=>by obtain⟨p,hp,rfl⟩:=AAN.mp hx;have a:=h _ (ABD hp).1;have b2:=h _ (ADa (ABD hp).2);have b:Bd 3 (1/2:Rat):=⟨by decide +kernel,by decide +kernel⟩;exact((a.add b2).mul b).mono (by omega)
def M5 (qs:zy Rat):(II qs).length<=qs.length:=by unfold II;rw[AAJ,List.length_zip];omega
def DR.fin {N:Nat}{lo hi:T3}{us:zy (C4×C4)}{ss:zy BD}(h:DR N lo hi us ss):∀s∈ss,∃x,s.2.2=some x:=λs hs=>by obtain⟨p,hp,k⟩:=h.ok s hs;obtain⟨x,hx,_⟩:=k.fin;exact⟨x,hx⟩
def cz {a:zy BD}{W:Nat}(ok:∀s∈a,BR W s)(c:∀s∈a,∃x,s.2.2=some x)(f:W<=1900)(hl:a.length<=1000):Sh 3 13003000 (.tup (a.map BS)):=by refine(Sh.tup (d:=2) (n:=13000) λx hx=> ?_).mono (by decide) (by rw[AAJ];omega);obtain⟨s,hs,rfl⟩:=AAN.mp hx;obtain⟨ev,he⟩:=c s hs;have o:=ok s hs;have b2:=(o.e ev he).2;have hi:Sh 1 4000 (.int s.2.1):=(Sh.int (by rcases o.h with h|h <;> rw[h] <;> decide)).mono (by decide) (by decide);rw[show BS s= .tup [fr s.1, .int s.2.1,fr ev] by unfold BS;rw[he];rfl];exact(Sh.tup (cE (Sh.fr (o.b.mono f)) hi (Sh.fr (b2.mono f)))).mono (by decide) lz
def W9 {cs:zy C4}{lo hi:T3}{B:Nat}{ss:zy BD}(hs:DR (3*(6*B+205)+1) lo hi (FO cs) ss)(hc:∀c∈cs,FT B c)(f:Jo cs)(h2:2<=cs.length)(hl:cs.length<=100)(l:Du 100 lo)(n:Du 100 hi)(o:B<=140){Q:PV->Prop}(q:(∀s∈ss,BR (6*B+105) s)->Q (.tup ((canon 1 ss).map BS))):ET [BJ cs,CM lo,CM hi] Q:=by
 have w:(FO cs).length=cs.length-1:=by unfold FO;simp
 apply QN;ac_rfl;refine UL hc f h2 hl l n o λms a=> ?_;have sub:∀s∈ss,s.1∈ms/\∀e,s.2.2=some e->e∈ms:=λs d=>by obtain⟨p,hp,k⟩:=hs.ok s d;obtain⟨x,hx,r⟩:=k.fin;exact⟨dv f a hp k.bmk,λe he=>by rw[hx] at he;cases he;exact dv f a hp r⟩
 have g:=hs.fin;have y:=a.len;have i:∀s∈ss,BR (6*B+105) s:=λs d=>⟨a.bd _ (sub s d).1,(hs.st s d).h,λe he=>⟨((hs.st s d).e e he).1,a.bd _ ((sub s d).2 e he)⟩⟩;have t:=Zs hs.st g sub (by omega) (q i);have z:=Db (xs:=ms);have j:∀x∈BW ms,Bd 945 x:=λx hx=>(a.bd x (BI.mp hx)).mono (by omega);have u:=Py j;have v:=M5 (BW ms);have ins:∀m,Bd 1894 m->∀{R:PV->Prop},R (.bl (ss.any (Ap · (m,0))))->BP [BJ cs,CM lo,CM hi,fr m] R:=λm bm {R} h=>W2 hc f h2 (by omega) l n bm (by omega) λb hb=>by rw[show b=ss.any (Ap · (m,0)) by rw[AAz,hb,hs.sem]];exact h
 generalize BW ms=qs at *;ac_rfl;refine Cs fr PV.bl (λm=>ss.any (Ap · (m,0))) (Bd 945) (λm bm R2 h=> ?_) qs [] j ?_
 .ac_rfl;refine ins m (bm.mono (by decide)) ?_;ac_rfl;exact h
 rw[AA0];ac_rfl;refine J9 (by omega) (λx hx=>(j x hx).mono (by decide)) ?_;ac_rfl;refine Cs fr PV.bl (λm=>ss.any (Ap · (m,0))) (Bd 1894) (λm bm R2 h=> ?_) (II qs) [] u ?_
 .ac_rfl;refine ins m bm ?_;ac_rfl;exact h
 rw[AA0];ac_rfl;rw[AAc,AAc];exact t
end PL
namespace PL.K31
open PySem L2 PL PyProof.Rows
abbrev Jq:AS:=
 (AY (CF (Ax (AW Nh (AN 2 BB (AB (aV 0) (AB (aC (.int 2)) AM))) (aC (.int 0)))) (Aq (A2 (AB (A2 (AB (aC (.int 0)) (AB (aC (.int 1)) AM))) (AB (A2 (AB (aC (.int 0)) (AB (aC (.int 1)) AM))) (AB (A2 (AB (aC (.int 0)) (AB (aC (.int 1)) AM))) AM))))) BV)
   (Aq (A2 (AB (AW Ai (aV 1) (AN 2 BB (AB (aV 0) (AB (aC (.int 4)) AM)))) (AB (AW Ai (aV 1) (AN 2 BB (AB (aV 0) (AB (aC (.int 4)) AM)))) (AB (AW Ai (aV 1) (AN 2 BB (AB (aV 0) (AB (aC (.int 6)) AM)))) AM))))))
abbrev HU:AS:=
 (AY (Aj (Ej (DS (AB (A2 (AB (aC (.int 0)) (AB (aC (.int 1)) AM))) (AB (A2 (AB (aC (.int 1)) (AB (aC (.int 2)) AM))) (AB (A2 (AB (aC (.int 1)) (AB (aC (.int 1)) AM))) (AB (A2 (AB (aC (.int 1)) (AB (aC (.int 3)) AM))) (AB (A2 (AB (aC (.int 3)) (AB (aC (.int 1)) AM))) (AB (A2 (AB (aC (.int 40)) (AB (aC (.int 1)) AM))) AM)))))))) (Ak 1))
   Jq)
def C2:AF:=Am 2 HU
def Lf {a:PV}{Q:PV->Prop}(h:HU ⟨λ_=>Q .non,Q,λ_=>False,λ_=>False⟩ [some (.val a),none]):C2 [a] Q:=h
end PL.K31
namespace PL
open PySem L2 PyProof.Rows PL.K31
abbrev Fy:AS:=
 (Aq (FR (RU λbs=>bs.any id) (AB (Ej (Bz (Jy (aV 0)) 3 [1] (Hx 3 (AZ (Ak 0) (AZ (Ak 1) (AZ (Ak 2) Bq)))) Dd (RK (TR fR (AN 2 Ar (AB (aV 3) (AB (aV 0) AM)))) (RK (AN 2 Ar (AB (aV 3) (AB (aV 2) AM))) (lP (AW Nh (aV 1) (aC (.int 1))) (AW Ws (aV 3) (aV 0))))))) AM)))
def CN:AF:=Am 2 Fy
def Je {a b:PV}{Q:PV->Prop}(h:Fy ⟨λ_=>Q .non,Q,λ_=>False,λ_=>False⟩ [some (.val a),some (.val b)]):CN [a,b] Q:=h
abbrev Nj:AS:=
 (AY (Aj (FR DV (AB (Ej (Bz (JF (AB (aC (.int 3)) AM)) 1 [2,1] (Ak 0) Dd (AN 2 BQ (AB (AW Ai (AW Ai (aV 2) (aC (.int 1))) (aV 0)) (AB (AW Ai (aV 1) (aV 0)) AM))))) AM)) (Ak 3))
   (Aq (A2 (AB (aV 3) (AB (FR DV (AB (Ej (Bz (JF (AB (aC (.int 3)) AM)) 1 [2,1] (Ak 0) Dd (AN 2 A3 (AB (AW Ai (AW Ai (aV 2) (aC (.int 2))) (aV 0)) (AB (AW Ai (aV 1) (aV 0)) AM))))) AM)) AM)))))
abbrev L6:AS:=
 (AY (Aj (Ej (DS (AB (AW Ai (AW Ai (aV 0) (aC (.int 1))) (aC (.int 0))) (AB (AW Ai (AW Ai (aV 0) (aC (.int 1))) (aC (.int 0))) (AB (AW Ai (AW Ai (aV 0) (aC (.int 1))) (aC (.int 1))) AM))))) (Ak 2))
   Nj)
def EQ:AF:=Am 4 L6
def QK {a b:PV}{Q:PV->Prop}(h:L6 ⟨λ_=>Q .non,Q,λ_=>False,λ_=>False⟩ [some (.val a),some (.val b),none,none]):EQ [a,b] Q:=h
abbrev HV:AS:=
 (AY (ED (Jy (aV 0)) (Hx 3 (AZ (Ak 3) (AZ (Ak 4) (AZ (Ak 5) Bq)))) (CF (Er (Ax (AN 2 Ar (AB (AN 2 BQ (AB (aV 2) (AB (aV 1) AM))) (AB (aV 5) AM)))) (RM (Ax (AN 2 Ar (AB (aV 3) (AB (aV 2) AM)))) (Er (Ax (AW Nh (aV 4) (aC (.int 1)))) (Ax (AW Nh (aV 3) (aV 2)))))) (Aq (aC (.bl true))) BV))
   (Aq (aC (.bl false))))
def B2:AF:=Am 6 HV
def Lg {a b c:PV}{Q:PV->Prop}(h:HV ⟨λ_=>Q .non,Q,λ_=>False,λ_=>False⟩ [some (.val a),some (.val b),some (.val c),none,none,none]):B2 [a,b,c] Q:=h
abbrev HK:AS:=
 (AY (Aj (Ej (Bz (Jy (aV 5)) 1 [3,2] (Ak 0) Dd (AN 3 B2 (AB (aV 1) (AB (aV 2) (AB (aV 0) AM)))))) (Ak 6))
   (Aq (AN 3 BX (AB (aV 5) (AB (aV 6) (AB (Ej (Bz (Jy (AN 1 Bp (AB (aV 5) AM))) 1 [3,2] (Ak 0) Dd (AN 3 B2 (AB (aV 1) (AB (aV 2) (AB (aV 0) AM)))))) AM))))))
abbrev HJ:AS:=
 (AY (Aj (AN 1 BF (AB (aV 4) AM)) (Ak 5))
   HK)
abbrev HI:AS:=
 (AY (ED (Jy (aV 3)) (Hx 3 (AZ (Ak 9) (AZ (Ak 10) (AZ (Ak 11) Bq)))) (Aj (AW Bl (aV 4) (Ej (DS (AB (aV 9) (AB (aV 11) (AB (AN 2 A3 (AB (aV 9) (AB (aV 2) AM))) (AB (AN 2 A3 (AB (aV 11) (AB (aV 2) AM))) AM))))))) (Ak 4)))
   HJ)
abbrev HH:AS:=
 (AY (Aj (Ej (DS AM)) (Ak 4))
   HI)
abbrev HG:AS:=
 (AY (Aj (AN 3 ET (AB (AW Ai (aV 0) (aC (.int 0))) (AB (aV 7) (AB (aV 8) AM)))) (Ak 3))
   HH)
abbrev HF:AS:=
 (AY (Aj (AW Ai (AW Ai (aV 0) (aC (.int 1))) (aC (.int 2))) (Ak 2))
   HG)
abbrev FH:AS:=
 (AY (Aj (AN 2 EQ (AB (aV 0) (AB (aV 1) AM))) (Hx 2 (AZ (Ak 7) (AZ (Ak 8) Bq))))
   HF)
def CA:AF:=Am 12 FH
def IR {a b:PV}{Q:PV->Prop}(h:FH ⟨λ_=>Q .non,Q,λ_=>False,λ_=>False⟩ [some (.val a),some (.val b),none,none,none,none,none,none,none,none,none,none]):CA [a,b] Q:=h
def Mm {Q:PV->Prop}(q:∀b:T3,Du 8 b->0<=b.1->0<=b.2.1->0<=b.2.2->Q (CM b)):C2 [.tape] Q:=by
 apply Lf;have all:∀x∈ [(0:Rat),1/2,1,1/3,3,40],Bd 8 x/\0<=x:=by intro x hx;simp only[AAF,AAd,AAb] at hx;rcases hx with rfl|rfl|rfl|rfl|rfl|rfl <;> exact⟨i3,by decide +kernel⟩
 ac_rfl
 .exact q (0,0,0) ⟨i3,i3,i3⟩ (by decide) (by decide) (by decide)
 refine Fd (xs:= [(0:Rat),1/2,1,1/3,3,40]) (by omega) (by show _<(6:Int);omega) λx hx=> ?_;ac_rfl;refine Fd (xs:= [(0:Rat),1/2,1,1/3,3,40]) (by omega) (by show _<(6:Int);omega) λy hy=> ?_;ac_rfl;refine Fd (xs:= [(0:Rat),1/2,1,1/3,3,40]) (by omega) (by show _<(6:Int);omega) λz hz=> ?_;ac_rfl;exact q (x,y,z) ⟨(all x hx).1,(all y hy).1,(all z hz).1⟩ (all x hx).2 (all y hy).2 (all z hz).2
def cD (lo b:T3):T3:=(lo.1-b.1,lo.2.1-b.1,lo.2.2-b.2.1)
def bV (hi b:T3):T3:=(hi.1+b.1,hi.2.1+b.1,hi.2.2+b.2.1)
def fJ {cs:zy C4}{lo hi b:T3}{e f:PV}(a:Du 80 lo)(c:Du 80 hi)(d:Du 80 b){Q:PV->Prop}(q:Q (.tup [CM (cD lo b),CM (bV hi b)])):EQ [.tup [BJ cs,CM b], .tup [e,CM lo,CM hi,f]] Q:=by
 have g:=a.x;have h:=a.y;have i:=a.z;have j:=c.x;have k:=c.y;have l:=c.z;have m:=d.x;have n:=d.y;apply QK;unfold cD bV CM at *;repeat' array_get_dec
 show Cj _ _ _ _ _ [.int 0, .int 1, .int 2] [];repeat' array_get_dec
 show Cj _ _ _ _ _ [.int 0, .int 1, .int 2] [];repeat' array_get_dec
 exact q
def Vn {W:Nat}{s:BD}{x y m:Rat}(o:BR W s)(hx:s.2.2=some x):Ap (EE y s) (m,0)=(decide (m-y<x)&&(decide (s.1<m)||(decide (s.2.1=1)&&decide (s.1=m)))):=by
 have e:(EE y s).2.2=some (x+y):=by unfold EE;rw[hx];rfl
 have k:decide (0<s.2.1+0)=decide (s.2.1=1):=by rw[ABS];have:=o.h;omega
 unfold Ap;rw[e];show ((decide (s.1<m)||(decide (s.1=m)&&decide (0<s.2.1+0)))&&decide (m<x+y))=_;rw[k,show decide (m<x+y)=decide (m-y<x) by rw[ABS];constructor <;> intro z <;> grind];cases decide (s.1<m) <;> cases decide (s.1=m) <;> cases decide (s.2.1=1) <;> cases decide (m-y<x) <;> rfl
def gN {a:zy BD}{W:Nat}{y m:Rat}(ok:∀s∈a,BR W s)(i:∀s∈a,∃x,s.2.2=some x)(hl:a.length<=1000)(t:W<=3000)(bm:Bd 2000 m)(j:Bd 80 y){Q:PV->Prop}(q:Q (.bl ((a.map (EE y)).any (Ap · (m,0))))):B2 [.tup (a.map BS),fr y,fr m] Q:=by
 have bs:=bm.sub j;apply Lg;ac_rfl;refine Cu BS (λus vs τ=>(us.map (EE y)).any (Ap · (m,0))=false/\∃c d f,τ= [some (.val (.tup (a.map BS))),some (.val (fr y)),some (.val (fr m)),c,d,f]) ?_ ?_ ⟨rfl,_,_,_,rfl⟩
 .rintro τ ⟨h,c,d,f,rfl⟩;rw[h] at q;ac_rfl;exact q
 .rintro us s vs e τ R l ⟨h,c,d,f,rfl⟩;have n:s∈a:=by rw[<-e];simp
  obtain⟨x,hx⟩:=i s n;have o:=ok s n;have u:=o.b;have b2:=(o.e x hx).2;have r:=Vn (y:=y) (m:=m) o hx;have g:Ap (EE y s) (m,0)=true->Q (.bl true):=λk=>by rw[<-e,AAT,AAK,List.any_append,ABG,k,Bool.true_or,Bool.or_true] at q;exact q
  have p:Ap (EE y s) (m,0)=false->∀c d f,R [some (.val (.tup (a.map BS))),some (.val (fr y)),some (.val (fr m)),c,d,f] :=λk c d f=>l _ ⟨by rw[AAT,List.any_append,h];simp[k],c,d,f,rfl⟩;clear l q;rw[r] at g p;rw[show BS s= .tup [fr s.1, .int s.2.1,fr x] by unfold BS;rw[hx];rfl];ac_rfl;all_goals first
   | exact g (by simp_all)
   | exact p (by simp_all) _ _ _
def bq {d:zy BD}{W:Nat}{m:Rat}(ok:∀s∈d,BR W s)(f:∀s∈d,∃x,s.2.2=some x)(hl:d.length<=1000)(i:W<=3900)(bm:Bd 2000 m){Q:PV->Prop}(q:Q (.bl (d.any (Ap · (m,0))))):CN [.tup (d.map BS),fr m] Q:=by
 apply Je;ac_rfl;refine Cs BS PV.bl (λs=>Ap s (m,0)) (λs=>BR W s/\∃x,s.2.2=some x) (λs hs R h=> ?_) d [] (λs hs=>⟨ok s hs,f s hs⟩) ?_
 .obtain ⟨o,x,hx⟩:=hs;have j:=o.b;have b2:=(o.e x hx).2;have g:Ap s (m,0)=(!decide (m<s.1)&&(decide (m<x)&&(decide (s.2.1=1)||!decide (m=s.1)))):=by
   rw[AAz,Vd o hx];simp only[AAf,ABV,Bool.not_eq_true',ABe,decide_eq_false_iff_not];constructor
   .rintro ⟨a|⟨a,b⟩,c⟩
    .exact ⟨by grind,c, .inr (by grind)⟩
    .exact ⟨by grind,c, .inl b⟩
   .rintro ⟨a,c,b|b⟩
    .by_cases z:s.1=m
     .exact ⟨.inr ⟨z,b⟩,c⟩
     .exact ⟨.inl (by grind),c⟩
    .exact ⟨.inl (by grind),c⟩
  rw[g] at h;rw[show BS s= .tup [fr s.1, .int s.2.1,fr x] by unfold BS;rw[hx];rfl];ac_rfl;all_goals
   refine cast (congrArg (λz=>R (.bl z)) ?_) h
   simp_all
 .rw [AA0];ac_rfl;rw[AAc];refine d8 (VL (λs=>Ap s (m,0)) d) ?_;rw[List.any_map];exact q
def YM {cs:zy C4}{lo hi b:T3}{A C:PV}{B:Nat}{ss:zy BD}(hs:DR (3*(6*B+205)+1) (cD lo b) (bV hi b) (FO cs) ss)(hc:∀c∈cs,FT B c)(K:Jo cs)(h2:2<=cs.length)(hl:cs.length<=60)(r:Du 80 lo)(u:Du 80 hi)(g:Du 10 b)(G:0<=b.2.2)(T:B<=130){Q:PV->Prop}(q:(∀s∈ss,BR (6*B+105) s)->Q (.tup ((canon 1 (ss.map (EE b.2.2))).map BS))):CA [.tup [BJ cs,CM b], .tup [A,CM lo,CM hi,C]] Q:=by
 have l:Du 80 b:=⟨g.x.mono (by decide),g.y.mono (by decide),g.z.mono (by decide)⟩;have v:=g.z;have U:=hs.len;have W:(FO cs).length=cs.length-1:=by unfold FO;simp
 have cl:=FZ (n:=1) (ss:=ss);apply IR;ac_rfl;refine fJ r u l ?_;ac_rfl;refine W9 hs hc K h2 (by omega) ⟨(r.x.sub g.x).mono (by decide),(r.y.sub g.x).mono (by decide),(r.z.sub g.y).mono (by decide)⟩ ⟨(u.x.add g.x).mono (by decide),(u.y.add g.x).mono (by decide),(u.z.add g.y).mono (by decide)⟩ (by omega) λst=> ?_;have q:=q st;have j:=GT st;have f:=Gw hs.st hs.fin;rw[<-Yx st G v] at q;generalize canon 1 ss=cc at *;ac_rfl;refine Cu BS (λus vs τ=>∃(ms:zy Rat) (k a d:zt AV),ms.length=4*us.length/\(∀x∈ms,Bd 900 x)/\(∀s∈us.map (EE b.2.2),s.1∈ms/\∀e,s.2.2=some e->e∈ms)/\τ= [some (.val (.tup [BJ cs,CM b])),some (.val (.tup [A,CM lo,CM hi,C])),some (.val (fr b.2.2)),some (.val (.tup (cc.map BS))),some (.val (.lst (ms.map fr))),none,none,some (.val (CM (cD lo b))),some (.val (CM (bV hi b))),k,a,d]) ?_ ?_ ⟨[],none,none,none,rfl,by simp,by simp,rfl⟩
 .rintro τ ⟨ms,k,a,d,L,w,sub,rfl⟩;have D:∀s∈cc.map (EE b.2.2),BR (6*B+105+10+1) s:=λs hs=>by obtain⟨t,i,rfl⟩:=AAN.mp hs;exact Fe G v (j t i)
  have p:∀s∈cc.map (EE b.2.2),∃x,s.2.2=some x:=λs hs=>by obtain⟨t,i,rfl⟩:=AAN.mp hs;obtain⟨x,hx⟩:=f t i;exact⟨x+b.2.2,by unfold EE;rw[hx];rfl⟩
  have M:=Zs D p sub (by omega) q;have X:=Db (xs:=ms);have E:∀x∈BW ms,Bd 900 x:=λx hx=>w x (BI.mp hx);have N:=Py E;have O:=M5 (BW ms);have ins:∀m,Bd 2000 m->∀{R:PV->Prop},R (.bl ((cc.map (EE b.2.2)).any (Ap · (m,0))))->B2 [.tup (cc.map BS),fr b.2.2,fr m] R:=λm bm {R} h=>gN j f (by omega) (by omega) bm l.z h;ac_rfl;refine KI (B:=900) (by omega) w (by decide) ?_;generalize BW ms=qs at *;ac_rfl;refine Cs fr PV.bl (λm=>(cc.map (EE b.2.2)).any (Ap · (m,0))) (Bd 900) (λm bm R2 h=> ?_) qs [] E ?_
  .ac_rfl;refine ins m (bm.mono (by decide)) ?_;ac_rfl;exact h
  rw[AA0];ac_rfl;refine J9 (by omega) (λx hx=>(E x hx).mono (by decide)) ?_;ac_rfl;refine Cs fr PV.bl (λm=>(cc.map (EE b.2.2)).any (Ap · (m,0))) (Bd (2*900+4)) (λm bm R2 h=> ?_) (II qs) [] N ?_
  .ac_rfl;refine ins m (bm.mono (by decide)) ?_;ac_rfl;exact h
  rw[AA0];ac_rfl;rw[AAc,AAc];exact M
 .rintro us s vs e τ R H ⟨ms,k,a,d,L,w,sub,rfl⟩;have I:s∈cc:=by rw[<-e];simp
  obtain⟨x,hx⟩:=f s I;have o:=j s I;have J:=o.b;have b2:=(o.e x hx).2;have ul:us.length<=200:=by have:=congrArg List.length e;simp at this;omega
  have F:∀k a d,R [some (.val (.tup [BJ cs,CM b])),some (.val (.tup [A,CM lo,CM hi,C])),some (.val (fr b.2.2)),some (.val (.tup (cc.map BS))),some (.val (.lst (ms.map fr ++ [fr s.1,fr x,fr (s.1+b.2.2),fr (x+b.2.2)]))),none,none,some (.val (CM (cD lo b))),some (.val (CM (bV hi b))),k,a,d] :=λk a d=>H _ ⟨ms ++ [s.1,x,s.1+b.2.2,x+b.2.2],k,a,d,by simp;omega,λy hy=>by
   rcases AAO.mp hy with hy|hy
   .exact w y hy
   .simp only[AAF,AAd,AAb] at hy;rcases hy with rfl|rfl|rfl|rfl
    .exact J.mono (by omega)
    .exact b2.mono (by omega)
    .exact (J.add v).mono (by omega)
    .exact (b2.add v).mono (by omega),λt i=>by
   rw[AAT,AAK,ABc] at i;rcases AAO.mp i with i|i
   .obtain ⟨P,S⟩:=sub t i;exact⟨by simp[P],λe he=>by simp[S e he]⟩
   .rw [AAW.mp i];refine⟨by simp[EE],λe he=> ?_⟩;unfold EE at he;rw[hx] at he;cases he;simp,by rw[AAT];rfl⟩
  clear H;rw[show BS s= .tup [fr s.1, .int s.2.1,fr x] by unfold BS;rw[hx];rfl];ac_rfl;exact F _ _ _
end PL
namespace PL.K40
open PySem L2 PL PyProof.Rows
abbrev HA:AS:=
 (AY (Aj (aV 1) (Hx 4 (AZ (Ak 4) (AZ (Ak 5) (AZ (Ak 6) (AZ (Ak 7) Bq))))))
   (Aq (A2 (AB (Ej (DS (AB (Ej (Bz (Jy (aV 2)) 1 [] (Ak 0) Dd (Ej (Oa (AB (aV 0) AM))))) (AB (Ej (Oa (AB (aV 3) AM))) AM)))) (AB (Ej (DS (AB (aV 4) (AB (Ej (Oa (AB (aV 5) AM))) (AB (Ej (Oa (AB (aV 6) AM))) (AB (aV 7) AM)))))) AM)))))
abbrev FE:AS:=
 (AY (Aj (aV 0) (Hx 2 (AZ (Ak 2) (AZ (Ak 3) Bq))))
   HA)
def B8:AF:=Am 8 FE
def IP {a b:PV}{Q:PV->Prop}(h:FE ⟨λ_=>Q .non,Q,λ_=>False,λ_=>False⟩ [some (.val a),some (.val b),none,none,none,none,none,none]):B8 [a,b] Q:=h
def YS {cs:zy C4}(p:FY 9 40 cs):FY 9 101 (laterC (10^18) cs):=by
 have bk:Bd 60 ((10:Rat)^18):=⟨by decide +kernel,by decide +kernel⟩;have l:(laterC (10^18) cs).length=cs.length:=by unfold laterC;rw[AAJ]
 refine⟨by rw[l];exact p.two,by rw[l];exact p.few,FT.laterC p.bd bk, ?_⟩;unfold Jo laterC;rw[List.pairwise_map];exact p.ris.imp λh=>by dsimp only;grind
def Yw {cs:zy C4}{b lo hi:T3}{a:Str}{d:Int}(hl:cs.length<=9){Q:PV->Prop}(q:Q (.tup [.lst [.lst (cs.map corL), .lst [fr b.1,fr b.2.1,fr b.2.2]], .lst [.str a, .lst [fr lo.1,fr lo.2.1,fr lo.2.2], .lst [fr hi.1,fr hi.2.1,fr hi.2.2], .int d]])):B8 [.tup [BJ cs,CM b], .tup [.str a,CM lo,CM hi, .int d]] Q:=by
 unfold CM;apply IP;ac_rfl;refine Cs cor id corL (λ_=>True) ?_ _ _ (by simp) ?_
 .intro c _ R e;ac_rfl;exact e
 rw[List.map_id];ac_rfl;exact q
def cx {a:Str}(h:a="a" \/a="room" \/a="abcdefgh"):Sh 0 100 (.str a):=by rcases h with rfl|rfl|rfl <;> exact⟨by decide +kernel,rfl,by decide +kernel⟩
def Zu {t:T3}(h:Du 40 t):Sh 2 13000 (CM t)/\Sh 2 13000 (.lst [fr t.1,fr t.2.1,fr t.2.2]):=by have a:=Sh.fr (h.x.mono (n:=1900) (by decide));have b:=Sh.fr (h.y.mono (n:=1900) (by decide));have c:=Sh.fr (h.z.mono (n:=1900) (by decide));exact⟨(Sh.tup (cE a b c)).mono (by decide) lz,(Sh.lst (cE a b c)).mono (by decide) lz⟩
def kg {cs:zy C4}(p:FY 9 101 cs):Sh 3 160000 (BJ cs)/\Sh 3 160000 (.lst (cs.map corL)):=by
 have a:=p.few;constructor
 .refine (Sh.tup (d:=2) (n:=17000) λx hx=> ?_).mono (by decide) (by rw[AAJ];omega);obtain⟨c,hc,rfl⟩:=AAN.mp hx;exact .cor ((p.bd c hc).mono (by decide))
 .refine (Sh.lst (d:=2) (n:=17000) λx hx=> ?_).mono (by decide) (by rw[AAJ];omega);obtain⟨c,hc,rfl⟩:=AAN.mp hx;exact .corL ((p.bd c hc).mono (by decide))
end PL.K40
namespace PL.K41
open PySem L2 PL PyProof.Rows PL.K31 PL.K40
abbrev Hg:AS:=
 (AY (Aj (FR (RU λbs=>bs.all id) (AB (Ej (Bz (JF (AB (aC (.int 3)) AM)) 1 [12,2] (Ak 0) Dd (RK (AN 2 Ar (AB (AW Ai (AW Ai (aV 2) (aC (.int 1))) (aV 0)) (AB (AW Ai (aV 1) (aV 0)) AM))) (AN 2 Ar (AB (AW Ai (aV 1) (aV 0)) (AB (AW Ai (AW Ai (aV 2) (aC (.int 2))) (aV 0)) AM)))))) AM)) (Ak 13))
   (CF (Er (fC (aV 13)) (Ky (Ax (AN 2 CN (AB (aV 3) (AB (aV 9) AM)))))) (Aq (aC (.bl false))) BV))
abbrev Hf:AS:=
 (AY (Aj (AN 2 A3 (AB (aV 9) (AB (AN 2 BE (AB (AW Ai (aV 8) (aC (.int 2))) (AB (AW Ai (Ej (DS (AB (A2 (AB (aC (.int 0)) (AB (aC (.int 1)) AM))) (AB (A2 (AB (aC (.int 1)) (AB (aC (.int 1)) AM))) (AB (A2 (AB (aC (.int 1)) (AB (aC (.int 3)) AM))) AM))))) (AN 2 BB (AB (aV 0) (AB (aC (.int 3)) AM)))) AM))) AM))) (Ak 9))
   Hg)
abbrev He:AS:=
 (AY (Aj (Ej (Bz (JF (AB (aC (.int 3)) AM)) 1 [10,11] (Ak 0) Dd (AN 2 A3 (AB (AW Ai (aV 1) (aV 0)) (AB (AW Ai (aV 2) (aV 0)) AM))))) (Ak 12))
   Hf)
abbrev Hd:AS:=
 (AY (Aj (Ej (Bz (JF (AB (aC (.int 3)) AM)) 1 [8,0] (Ak 0) Dd (AN 2 BE (AB (AW Ai (aV 1) (AW Pb (aV 0) (aC (.int 2)))) (AB (AW Ai (Ej (DS (AB (A2 (AB (aC (.int 0)) (AB (aC (.int 1)) AM))) (AB (A2 (AB (aC (.int 1)) (AB (aC (.int 1)) AM))) (AB (A2 (AB (TR J0 (aC (.int 1))) (AB (aC (.int 1)) AM))) (AB (A2 (AB (aC (.int 1)) (AB (aC (.int 2)) AM))) AM)))))) (AN 2 BB (AB (aV 2) (AB (aC (.int 4)) AM)))) AM))))) (Ak 11))
   He)
abbrev Hc:AS:=
 (AY (Aj (AN 2 Dw (AB (aV 7) (AB (aV 9) AM))) (Ak 10))
   Hd)
abbrev Fx:AS:=
 (AY (Aj (AW Ai (aV 5) (AN 2 BB (AB (aV 0) (AB (FR IE (AB (aV 5) AM)) AM)))) (Ak 9))
   Hc)
abbrev LG:AS:=
 (AY (ED (JF (AB (aC (.int 6)) AM)) (Ak 6) Fx)
   (Aq (aC (.bl true))))
abbrev LF:AS:=
 (AY (Aj (AW Bl (X6 (aV 4) X7 (X8 (TR J0 (aC (.int 1))))) (AN 1 Bp (AB (aV 4) AM))) (Ak 5))
   LG)
abbrev LD:AS:=
 (AY (Aj (AN 1 BF (AB (Ej (Bz (Jy (aV 7)) 1 [] (Ak 0) Dd (AW Ai (aV 0) (aC (.int 0))))) AM)) (Ak 4))
   LF)
abbrev Ir:AS:=
 (AY (Aj (aV 1) (Hx 2 (AZ (Ak 7) (AZ (Ak 8) Bq))))
   LD)
def DO:AF:=Am 14 Ir
def NN {a b c d:PV}{Q:PV->Prop}(h:Ir ⟨λ_=>Q .non,Q,λ_=>False,λ_=>False⟩ [some (.val a),some (.val b),some (.val c),some (.val d),none,none,none,none,none,none,none,none,none,none]):DO [a,b,c,d] Q:=h
abbrev LS:AS:=
 (AY (CF (RM (Ky (Ax (AN 2 DP (AB (aV 8) (AB (AN 2 CA (AB (aV 4) (AB (aV 5) AM))) AM))))) (Ax (AW Ws (FR Mt (AB (aV 6) AM)) (aV 7)))) (Aq (aC (.bl false))) BV)
   (CF (Ky (Ax (AN 4 DO (AB (aV 2) (AB (aV 4) (AB (aV 5) (AB (aV 8) AM))))))) (Aq (aC (.bl false))) BV))
abbrev LR:AS:=
 (AY (Aj (AN 2 JD (AB (AW Ai (aV 6) (aC (.int 0))) (AB (AW Ai (aV 6) (aC (.int 1))) AM))) (Ak 8))
   LS)
abbrev F1:AS:=
 (AY (Aj (FR Mt (AB (aV 6) AM)) (Ak 7))
   LR)
abbrev LQ:AS:=
 (AY (CF (Ax (AW Nh (AN 2 BB (AB (aV 2) (AB (aC (.int 2)) AM))) (aC (.int 0)))) (Aj (AN 2 B8 (AB (aV 4) (AB (aV 5) AM))) (Ak 6)) BV)
   F1)
abbrev F0:AS:=
 (AY (Aj (A2 (AB (aV 4) (AB (aV 5) AM))) (Ak 6))
   LQ)
abbrev LP:AS:=
 (AY (Aj (AN 1 CO (AB (aV 2) AM)) (Ak 5))
   F0)
abbrev LO:AS:=
 (AY (Aj (A2 (AB (aV 3) (AB (AN 1 C2 (AB (aV 2) AM)) AM))) (Ak 4))
   LP)
abbrev LN:AS:=
 (AY (CF (Ax (AW Nh (AN 2 BB (AB (aV 2) (AB (aC (.int 6)) AM))) (aC (.int 0)))) (Aj (AN 1 ES (AB (aV 3) AM)) (Ak 3)) BV)
   LO)
abbrev LM:AS:=
 (AY (Aj (AN 1 Em (AB (aV 2) AM)) (Ak 3))
   LN)
abbrev PJ:AS:=
 (AY (Aj (AN 2 Mf (AB (aV 0) (AB (aV 1) AM))) (Ak 2))
   LM)
abbrev OT:AS:=
 (AY (ED (JF (AB (AW Bl (aC (.int 1)) (FR (fV min) (AB (aC (.int 8)) (AB (FR IE (AB (aV 0) AM)) AM)))) AM)) (Ak 1) PJ)
   (Aq (aC (.bl true))))
def EK:AF:=Am 9 OT
def SX {a:PV}{Q:PV->Prop}(h:OT ⟨λ_=>Q .non,Q,λ_=>False,λ_=>False⟩ [some (.val a),none,none,none,none,none,none,none,none]):EK [a] Q:=h
def W1 {cs:zy C4}{lo hi:T3}{m:Rat}{t:T3}{a l:C4}{r:zy C4}(e:Jo cs)(h2:2<=cs.length)(f:cs=a::r)(g:cs.getLast?=some l)(h:a.1<=m)(h1:m<l.1)(d:spotC cs m=some t)(k:VE lo hi t):∃p∈FO cs,JR lo hi p m:=by
 subst f;obtain⟨b,r,rfl⟩:∃b c,r=b::c:=by
  match r,h2 with
  | b::c,_=>exact⟨b,c,rfl⟩
 refine(WF (lo:=lo) (hi:=hi) (m:=m) r a b l e h g).mp ⟨⟨t, ?_,k⟩,h1⟩;rw[spotC,AAC (by grind)] at d;exact d
def cB {ss:zy BD}{W:Nat}{y z m:Rat}(ok:∀s∈ss,BR W s)(a:∀s∈ss,∃x,s.2.2=some x)(hy:0<=y)(b:Bd 10 y)(g:0<=z)(i:z<=y)(h:ss.any (Ap · (m,0))=true):(canon 1 (ss.map (EE y))).any (Ap · (m+z,0))=true:=by
 have c:∀s∈ss.map (EE y),BR (W+10+1) s:=λs hs=>by obtain⟨t,d,rfl⟩:=AAN.mp hs;exact Fe hy b (ok t d)
 rw[GS c (p:=(m+z,0)) (.inl rfl)];obtain⟨s,hs,k⟩:=AAh.mp h;refine AAh.mpr ⟨EE y s,AAN.mpr ⟨s,hs,rfl⟩, ?_⟩;obtain⟨x,hx⟩:=a s hs;have o:=ok s hs;rw[Vd o hx] at k;rw[Vn o hx];simp only[AAf,ABV,ABe];refine⟨by grind, ?_⟩;rcases k.1 with e|⟨e,f⟩
 .exact .inl (by grind)
 .by_cases j:z=0
  .exact .inr ⟨f,by grind⟩
  .exact .inl (by grind)
def gQ {lo hi t b:T3}{x y z:Rat}(a:0<=b.1)(b2:0<=b.2.1)(hx: -1<=x/\x<=1)(hy: -1<=y/\y<=1)(hz: -1<=z/\z<=1)(h:VE lo hi (t.1+b.1*x,t.2.1+b.1*y,t.2.2+b.2.1*z)):VE (cD lo b) (bV hi b) t:=by
 have key:∀c u:Rat,0<=c-> -1<=u/\u<=1-> -c<=c*u/\c*u<=c:=λc u hc hu=>by have d:=ADb hu.2 hc;have e:=ADb hu.1 hc;constructor <;> grind
 have f:=key _ _ a hx;have g:=key _ _ a hy;have i:=key _ _ b2 hz;unfold VE cD bV at *;dsimp only at *;obtain⟨⟨h1,h2⟩,⟨j,k⟩,l,m⟩:=h;refine⟨⟨?_, ?_⟩,⟨?_, ?_⟩, ?_, ?_⟩ <;> grind
def bH {cs:zy C4}{a l:C4}{r:zy C4}{lo hi b:T3}{X Y:PV}{B N:Nat}{ss:zy BD}{R bk:A7->Prop}{Q:PV->Prop}{ms:zy Rat}{C D E f g i j:zt AV}(hs:DR N (cD lo b) (bV hi b) (FO cs) ss)(st:∀s∈ss,BR 1000 s)(hc:∀c∈cs,FT B c)(F:Jo cs)(h2:2<=cs.length)(hl:cs.length<=60)(Z:cs=a::r)(G:cs.getLast?=some l)(H:Du 80 lo)(I:Du 80 hi)(J:Du 10 b)(b1:0<=b.1)(b2:0<=b.2.1)(o:0<=b.2.2)(hB:B<=110)(m0:ms≠ [])(ml:ms.length<=200)(hm:∀m∈ms,Bd 224 m/\a.1<=m/\m<l.1)(again:∀C D E f g i j,R [some (.val .tape),some (.val (.tup [BJ cs,CM b])),some (.val (.tup [X,CM lo,CM hi,Y])),some (.val (.tup ((canon 1 (ss.map (EE b.2.2))).map BS))),C,some (.val (.lst (ms.map fr))),D,some (.val (BJ cs)),some (.val (CM b)),E,f,g,i,j]):Fx {nx:=R,rt:=Q,bk:=bk,ct:=R} [some (.val .tape),some (.val (.tup [BJ cs,CM b])),some (.val (.tup [X,CM lo,CM hi,Y])),some (.val (.tup ((canon 1 (ss.map (EE b.2.2))).map BS))),C,some (.val (.lst (ms.map fr))),D,some (.val (BJ cs)),some (.val (CM b)),E,f,g,i,j] :=by
 have mp:0<ms.length:=List.length_pos_iff.mpr m0;have e:∀x∈ [(0:Rat),1, -1,1/2],Bd 8 x/\ -1<=x/\x<=1:=by intro x hx;simp only[AAF,AAd,AAb] at hx;rcases hx with rfl|rfl|rfl|rfl <;> exact⟨i3,by decide +kernel,by decide +kernel⟩
 have p:∀x∈ [(0:Rat),1,1/3],Bd 8 x/\0<=x/\x<=1:=by intro x hx;simp only[AAF,AAd,AAb] at hx;rcases hx with rfl|rfl|rfl <;> exact⟨i3,by decide +kernel,by decide +kernel⟩
 ac_rfl;rename_i _ _ _ m _ mm;obtain⟨bm,ma,K⟩:=hm m mm;have L:cs.length<=1000:=by omega
 refine GM hc F (by intro z;rw[z] at h2;simp at h2) L bm (by omega) ?_;obtain⟨t,M⟩:∃t,spotC cs m=some t:=by rw[Z] at h2 G ⊢;exact Uq (λz=>by rw[z] at h2;simp at h2) G ma (by grind)
 have O:=Du.spotC bm F hc t M;have t1:=O.x.mono (n:=900) (by omega);have t2:=O.y.mono (n:=900) (by omega);have t3:=O.z.mono (n:=900) (by omega);rw[M,show Sg (some t)=CM t from rfl];have c1:=J.x;have c2:=J.y;have A:=J.z;have l1:=H.x;have l2:=H.y;have l3:=H.z;have h1:=I.x;have fX:=I.y;have h3:=I.z;unfold CM;ac_rfl;show Cj _ _ _ _ _ [.int 0, .int 1, .int 2] [];repeat' array_get_dec
 refine⟨⟨by decide +kernel,by decide +kernel⟩, ?_⟩;rw[show Int.fdiv 0 2=0 from rfl];repeat' array_get_dec
 refine Fd (xs:= [(0:Rat),1, -1,1/2]) (by omega) (by show _<(4:Int);omega) λx hx=> ?_;have px:=e x hx;have P:=px.1;repeat' array_get_dec
 refine⟨⟨by decide +kernel,by decide +kernel⟩, ?_⟩;rw[show Int.fdiv 1 2=0 from rfl];repeat' array_get_dec
 refine Fd (xs:= [(0:Rat),1, -1,1/2]) (by omega) (by show _<(4:Int);omega) λy hy=> ?_;have py:=e y hy;have S:=py.1;repeat' array_get_dec
 refine⟨⟨by decide +kernel,by decide +kernel⟩, ?_⟩;rw[show Int.fdiv 2 2=1 from rfl];repeat' array_get_dec
 refine Fd (xs:= [(0:Rat),1, -1,1/2]) (by omega) (by show _<(4:Int);omega) λz hz=> ?_;have pz:=e z hz;have T:=pz.1;repeat' array_get_dec
 show Cj _ _ _ _ _ [.int 0, .int 1, .int 2] [];have e1:=c1.mul P;have e2:=c1.mul S;have e3:=c2.mul T;repeat' array_get_dec
 refine Fd (xs:= [(0:Rat),1,1/3]) (by omega) (by show _<(3:Int);omega) λd hd=> ?_;have pd:=p d hd;have U:=pd.1;have e4:=A.mul U;repeat' array_get_dec
 have g1:=t1.add e1;have g2:=t2.add e2;have g3:=t3.add e3;have gm:=bm.add e4;have seen:VE lo hi (t.1+b.1*x,t.2.1+b.1*y,t.2.2+b.2.1*z)->(canon 1 (ss.map (EE b.2.2))).any (Ap · (m+b.2.2*d,0))=true:=λk=>by refine cB st hs.fin o A (Rat.mul_nonneg o pd.2.1) ?_ ((hs.sem m).mpr (W1 F h2 Z G ma K M (gQ b1 b2 px.2 py.2 pz.2 k)));have:=ADb pd.2.2 o;grind
 unfold VE at seen;dsimp only at seen;generalize t.1+b.1*x=u1 at *;generalize t.2.1+b.1*y=u2 at *;generalize t.2.2+b.2.1*z=u3 at *;generalize m+b.2.2*d=m' at *;refine Cs (λk:Int×Rat×Rat×Rat=> .int k.1) PV.bl (λk=>decide (k.2.1<k.2.2.1)&&decide (k.2.2.1<k.2.2.2)) (λk=>k=(0,lo.1,u1,hi.1)\/k=(1,lo.2.1,u2,hi.2.1)\/k=(2,lo.2.2,u3,hi.2.2)) (λk hk R' h=> ?_) [(0,lo.1,u1,hi.1),(1,lo.2.1,u2,hi.2.1),(2,lo.2.2,u3,hi.2.2)] [] (by simp) ?_
 .rcases hk with rfl|rfl|rfl;all_goals
   repeat' array_get_dec
   all_goals
    refine cast (congrArg (λz=>R' (.bl z)) ?_) h
    simp_all
 rw[AA0,AAc];have W:∀s∈canon 1 (ss.map (EE b.2.2)),BR (1000+10+1) s:=GT λs hs=>by obtain⟨t,u,rfl⟩:=AAN.mp hs;exact Fe o A (st t u)
 have v:∀s∈canon 1 (ss.map (EE b.2.2)),∃x,s.2.2=some x:=Gw (B:=1000+10+1) (λs hs=>by
  obtain⟨t,u,rfl⟩:=AAN.mp hs;exact Fe o A (st t u)) λs Sv=>by obtain⟨t,u,rfl⟩:=AAN.mp Sv;obtain⟨x,hx⟩:=hs.fin t u;exact⟨x+b.2.2,by unfold EE;rw[hx];rfl⟩
 have w:(canon 1 (ss.map (EE b.2.2))).length<=1000:=by
  have:=FZ (n:=1) (ss:=ss.map (EE b.2.2));have:=hs.len;have pl:(FO cs).length=cs.length-1:=by unfold FO;simp
  rw[AAJ] at *;omega
 ac_rfl;split
 .rename_i h;have k:=seen (by simpa[and_assoc] using h);ac_rfl;refine bq W v w (by decide) (gm.mono (by decide)) ?_;rw[k];ac_rfl;exact again _ _ _ _ _ _ _
 .ac_rfl;exact again _ _ _ _ _ _ _
def dG {qs:zy Rat}(h:RI qs):∀p∈qs.zip (qs.drop 1),p.1<p.2:=by
 induction qs with
 | nil=>simp
 | cons a r ih=>
   cases r with
   | nil=>simp
   | cons b r=>
     intro p hp;rcases AAF.mp hp with rfl|hp
     .exact (AAL.mp h).1 b (by simp)
     .exact ih (AAL.mp h).2 p hp
def YE {cs:zy C4}{lo hi b:T3}{K L:PV}{B N:Nat}{ss:zy BD}(hs:DR N (cD lo b) (bV hi b) (FO cs) ss)(st:∀s∈ss,BR 1000 s)(hc:∀c∈cs,FT B c)(k:Jo cs)(h2:2<=cs.length)(hl:cs.length<=60)(X:Du 80 lo)(Y:Du 80 hi)(Z:Du 10 b)(b1:0<=b.1)(b2:0<=b.2.1)(b3:0<=b.2.2)(M:B<=110){Q:PV->Prop}(q:Q (.bl true)):DO [.tape, .tup [BJ cs,CM b], .tup [K,CM lo,CM hi,L], .tup ((canon 1 (ss.map (EE b.2.2))).map BS)] Q:=by
 apply NN;ac_rfl;refine Cs cor fr (λc=>c.1) (λ_=>True) (λc _ R E=> ?_) cs [] (λ_ _=>True.intro) ?_
 .ac_rfl;exact E
 rw[AA0];have O:∀x∈cs.map (·.1),Bd 110 x:=λx hx=>by obtain⟨c,o,rfl⟩:=AAN.mp hx;exact(hc c o).m.mono M
 have rl:=Db (xs:=cs.map (·.1));have F:∀x∈BW (cs.map (·.1)),Bd 110 x:=λx hx=>O x (BI.mp hx);rw[AAJ] at rl;ac_rfl;refine KI (B:=110) (by simp;omega) O (by decide) ?_;have G:=CB (xs:=cs.map (·.1));have C:∀x,x∈BW (cs.map (·.1))↔x∈cs.map (·.1):=λx=>BI;generalize BW (cs.map (·.1))=qs at *;ac_rfl;refine J9 (by omega) (λx hx=>(F x hx).mono (by decide)) ?_;have mm:=Py F;have mll:=M5 qs;ac_rfl;rw[fK,<-List.map_dropLast];have dl:qs.dropLast.length<=qs.length:=by rw[List.length_dropLast];omega
 refine⟨AB0 (Yy (n:=200) (by simp;omega) (by decide)), ?_⟩;rw[<-AAT];ac_rfl;have H:∃l,cs.getLast?=some l:=⟨_,ABv (by intro z;rw[z] at h2;simp at h2)⟩;obtain⟨l,P⟩:=H;obtain⟨a,r,t⟩:∃a r,cs=a::r:=by
  match cs,h2 with
  | a::r,_=>exact⟨a,r,rfl⟩
 have u:∀x∈qs,a.1<=x:=λx hx=>by
  obtain⟨c,o,rfl⟩:=AAN.mp ((C x).mp hx);rw[t] at o k;rcases AAF.mp o with rfl|h
  .exact ACL
  .have:=(AAL.mp k).1 c h;grind
 have S:∀x∈qs,x<=l.1:=λx hx=>by obtain⟨c,o,rfl⟩:=AAN.mp ((C x).mp hx);exact Lq k P c o
 have T:qs.length ≥ 2:=by
  obtain⟨b,D,rfl⟩:∃b D,r=b::D:=by
   rw[t] at h2;match r,h2 with
   | b::D,_=>exact⟨b,D,rfl⟩
  have h1:=(C a.1).mpr (by rw[t];simp);have fX:=(C b.1).mpr (by rw[t];simp);rw[t] at k;have U:=(AAL.mp k).1 b (by simp);match qs,h1,fX with
  | [],h1,_=>simp at h1
  | [x],h1,h3=> rw[AAW] at h1 h3;grind
  | x::y::z,_,_=>simp
 have I:∀m∈qs.dropLast++II qs,Bd 224 m/\a.1<=m/\m<l.1:=λm I=>by
  rcases AAO.mp I with h|h
  .have W:=(List.dropLast_sublist qs).mem h;refine⟨(F m W).mono (by decide),u m W, ?_⟩;have J:qs≠ [] :=by intro z;rw[z] at T;simp at T
   have e:=ACw J;rw[<-e] at G;have U:=(ACD.mp G).2.2 m h (qs.getLast J) (by simp);have:=S _ (List.getLast_mem J);grind
  .refine ⟨mm m h, ?_⟩;obtain⟨p,hp,rfl⟩:=AAN.mp h;have p1:=(ABD hp).1;have p2:=ADa (ABD hp).2;have U:=dG G p hp;have:=u _ p1;have:=S _ p2;constructor <;> grind
 refine VZ (λi τ=>∃v w A d f g j,τ= [some (.val .tape),some (.val (.tup [BJ cs,CM b])),some (.val (.tup [K,CM lo,CM hi,L])),some (.val (.tup ((canon 1 (ss.map (EE b.2.2))).map BS))),v,some (.val (.lst ((qs.dropLast++II qs).map fr))),w,some (.val (BJ cs)),some (.val (CM b)),A,d,f,g,j]) ?_ ?_ ⟨_,_,_,_,_,_,_,rfl⟩
 .rintro τ ⟨v,w,A,d,f,g,j,rfl⟩;repeat' array_get_dec
  exact q
 .rintro i hi τ R E ⟨v,w,A,d,f,g,j,rfl⟩;refine bH hs st hc k h2 hl t P X Y Z b1 b2 b3 M ?_ (by simp;omega) I λv w A d f g j=>E _ ⟨v,w,A,d,f,g,j,rfl⟩;intro z;have:=congrArg List.length z;simp at this;omega
def YN {u:zy Int}{i v w:PV}{A:Str}{B:Int}{cs:zy C4}{lo hi b:T3}{R bk:A7->Prop}{g j:zt AV}(p:FY 9 101 cs)(l:Du 40 lo)(o:Du 40 hi)(e:Du 8 b)(D:0<=b.1)(b2:0<=b.2.1)(f:0<=b.2.2)(hv:av cs b v)(hw:Xy lo hi w)(M:PR (.tup [v,w]))(again:∀E F G H I J g j,R [some (.val (.scr u)),E,F,G,H,I,J,g,j]):F1 {nx:=R,rt:=λx=>x= .bl true,bk:=bk,ct:=R} [some (.val (.scr u)),some (.val i),some (.val .tape),some (.val (BJ cs)),some (.val (.tup [BJ cs,CM b])),some (.val (.tup [.str A,CM lo,CM hi, .int B])),some (.val (.tup [v,w])),g,j] :=by
 have K:=p.few;have a:∀{n m:Nat} {t:T3},Du n t->n<=m->Du m t:=λh k=>⟨h.x.mono k,h.y.mono k,h.z.mono k⟩;ac_rfl;refine aB hv hw p.bd p.ris p.two (by omega) (a l (by decide)) (a o (by decide)) (a e (by decide)) f (by decide) λss hs=> ?_;ac_rfl;refine YM hs p.bd p.ris p.two (by omega) (a l (by decide)) (a o (by decide)) (a e (by decide)) f (by decide) λst=> ?_;have N:=hs.len;have O:(FO cs).length=cs.length-1:=by unfold FO;simp
 have cl:=FZ (n:=1) (ss:=ss.map (EE b.2.2));rw[AAJ] at cl;have c:∀s∈ss.map (EE b.2.2),BR (6*101+105+10+1) s:=λs hs=>by obtain⟨t,r,rfl⟩:=AAN.mp hs;exact Fe (C:=10) f (e.z.mono (by decide)) (st t r)
 have d:∀s∈ss.map (EE b.2.2),∃x,s.2.2=some x:=λs L=>by obtain⟨t,r,rfl⟩:=AAN.mp L;obtain⟨x,hx⟩:=hs.fin t r;exact⟨x+b.2.2,by unfold EE;rw[hx];rfl⟩
 have sc:=(cz (GT c) (Gw c d) (by decide) (by omega)).go (by decide) (by decide);ac_rfl;refine Zj sc rfl ?_;ac_rfl;refine YE hs (λs hs=>(st s hs).mono (by decide)) p.bd p.ris p.two (by omega) (a l (by decide)) (a o (by decide)) (a e (by decide)) D b2 f (by decide) ?_;ac_rfl;exact again _ _ _ _ _ _ _ _
def V3 {l:zy Int}{i:PV}{c:Str}{a:Int}{cs:zy C4}{lo hi b:T3}{R bk:A7->Prop}{f g h:zt AV}(p:FY 9 101 cs)(j:Du 40 lo)(k:Du 40 hi)(d:Du 8 b)(n:0<=b.1)(b2:0<=b.2.1)(o:0<=b.2.2)(u:c="a" \/c="room" \/c="abcdefgh")(m1:1<=a)(m2:a<=4)(again:∀v w A B C f g h,R [some (.val (.scr l)),v,w,A,B,C,f,g,h]):F0 {nx:=R,rt:=λx=>x= .bl true,bk:=bk,ct:=R} [some (.val (.scr l)),some (.val i),some (.val .tape),some (.val (BJ cs)),some (.val (.tup [BJ cs,CM b])),some (.val (.tup [.str c,CM lo,CM hi, .int a])),f,g,h] :=by
 have D:=p.few;obtain⟨E,F⟩:=kg p;obtain⟨G,H⟩:=Zu j;obtain⟨h1,h2⟩:=Zu k;obtain⟨I,J⟩:=Zu (t:=b) ⟨d.x.mono (by decide),d.y.mono (by decide),d.z.mono (by decide)⟩;have r:=(cx u).mono (e:=2) (m:=13000) (by decide) (by decide);have s:Sh 2 13000 (.int a):=(Sh.int (i:=a) (AAV (show a.natAbs<2^10 by omega) (ADK (by decide) (by decide)))).mono (by decide) (by decide);have f1:Sh 4 400000 (.tup [BJ cs,CM b]):=(Sh.tup (Y1 E (I.mono (by decide) (by decide)))).mono (by decide) (by simp);have K:Sh 4 400000 (.lst [.lst (cs.map corL), .lst [fr b.1,fr b.2.1,fr b.2.2]]):=(Sh.lst (Y1 F (J.mono (by decide) (by decide)))).mono (by decide) (by simp);have L:Sh 4 400000 (.tup [.str c,CM lo,CM hi, .int a]):=(Sh.tup (cF r G h1 s)).mono (by decide) (by simp);have M:Sh 4 400000 (.lst [.str c, .lst [fr lo.1,fr lo.2.1,fr lo.2.2], .lst [fr hi.1,fr hi.2.1,fr hi.2.2], .int a]):=(Sh.lst (cF r H h2 s)).mono (by decide) (by simp);ac_rfl
 .refine Yw (by omega) ?_;exact YN p j k d n b2 o ⟨_,_,⟨corL, .inr rfl, .inr rfl⟩, .inr rfl, .inr rfl⟩ ⟨_,_,_,_, .inr rfl, .inr rfl, .inr rfl⟩ ((Sh.tup (Y1 K M)).go (by decide) (by simp)) again
 .exact YN p j k d n b2 o ⟨_,_,⟨cor, .inl rfl, .inl rfl⟩, .inl rfl, .inl rfl⟩ ⟨_,_,_,_, .inl rfl, .inl rfl, .inl rfl⟩ ((Sh.tup (Y1 f1 L)).go (by decide) (by simp)) again
def Yv (m:zy Int)(z:m.length<=63):EK [.scr m] λx=>x= .bl true:=by
 apply SX;repeat' array_get_dec
 refine VZ (λi τ=>∃a d e f g h j k,τ= [some (.val (.scr m)),a,d,e,f,g,h,j,k]) ?_ ?_ ⟨_,_,_,_,_,_,_,_,rfl⟩
 .rintro τ ⟨a,d,e,f,g,h,j,k,rfl⟩;repeat' array_get_dec
 .rintro i hi τ R u ⟨a,d,e,f,g,h,j,k,rfl⟩;have again:∀a d e f g h j k,R [some (.val (.scr m)),a,d,e,f,g,h,j,k] :=λa d e f g h j k=>u _ ⟨a,d,e,f,g,h,j,k,rfl⟩;clear u;ac_rfl;refine Mc λcs v=> ?_;have l:FY 9 40 cs:=v.ok (by decide) (by decide);ac_rfl
  .refine fS (B:=40) (by have:=l.few;omega) l.bd (by decide) ?_;ac_rfl;refine Mm λb n o b2 p=> ?_;ac_rfl;exact V5 λw lo hi y r s t m1 m2=>V3 (YS l) s t n o b2 p r m1 m2 again
  .refine Mm λb n o b2 p=> ?_;ac_rfl;exact V5 λw lo hi y r s t m1 m2=>V3 ⟨l.two,l.few,λc hc=>(l.bd c hc).mono (by decide),l.ris⟩ s t n o b2 p r m1 m2 again
end PL.K41
section
namespace K41
open PySem L2 PL PL.K41 PL.K31 PL.K40 PyProof.Rows
def DK {N Q:zy Str}{s:Scope}(a:s.kind= .function:=by rfl)(b:s.isCoroutine=false:=by rfl)(c:s.isGenerator=false:=by rfl)(d:N.Nodup:=by decide +kernel)(e:N.take Q.length=Q:=by rfl)(f:∀x∈Q,s.names.lookup x=some .local\/s.names.lookup x=some .cell:=by decide +kernel)(g:∀y∈s.names,y.2≠ .free:=by decide +kernel):EC N Q s:=⟨a,b,c,d,e,f,g⟩
section
variable (P:zp)(w:zm)(K:AAB)(Z:Str->zt zx)(Y:zl)(n:Nat)
abbrev Ck:=Has P w K Z Y n "_law_draw" ["_law_tape_here","_law_many"] (Cq K 2 BB)
abbrev N9:=Has P w K Z Y n "_law_bounds" ["_law_tape_here"] (Cq K 1 C2)
abbrev Cm:=Has P w K Z Y n "_law_less" ["_law_one","_law_other"] (Cq K 2 Ar)
abbrev Pj:=Has P w K Z Y n "_law_is_in" ["_law_stretches","_law_m"] (Cq K 2 CN)
abbrev DH:=Has P w K Z Y n "_law_part" ["_law_top","_law_bottom"] (Cq K 2 Aw)
abbrev DW:=Has P w K Z Y n "_law_product" ["_law_one","_law_other"] (Cq K 2 BE)
abbrev CG:=Has P w K Z Y n "_law_sum" ["_law_one","_law_other"] (Cq K 2 A3)
abbrev Ec:=Has P w K Z Y n "_law_middles" ["_law_marks_here"] (Cq K 1 Bp)
abbrev E3:=Has P w K Z Y n "_law_rising" ["_law_some"] (Cq K 1 BF)
abbrev Ed:=Has P w K Z Y n "_law_off" ["_law_one","_law_other"] (Cq K 2 BQ)
abbrev JP:=Has P w K Z Y n "_law_ratio" ["_law_one","_law_other"] (Cq K 2 Cr)
abbrev K1:=Has P w K Z Y n "_law_spot" ["_law_plan_here","_law_m"] (Cq K 2 Dw)
abbrev Pi:=Has P w K Z Y n "_law_comes" ["_law_tape_here","_law_flight","_law_room_here","_law_told"] (Cq K 4 DO)
abbrev Tl:=Has P w K Z Y n "_law_far" ["_law_plan_here"] (Cq K 1 ES)
abbrev Pk:=Has P w K Z Y n "_law_lists" ["_law_flight","_law_room_here"] (Cq K 2 B8)
abbrev JO:=Has P w K Z Y n "_law_place" ["_law_tape_here"] (Cq K 1 A6)
abbrev K0:=Has P w K Z Y n "_law_span" ["_law_tape_here"] (Cq K 1 Ch)
abbrev RY:=Has P w K Z Y n "_law_plan" ["_law_tape_here"] (Cq K 1 Em)
abbrev RZ:=Has P w K Z Y n "_law_room" ["_law_tape_here"] (Cq K 1 CO)
abbrev Ra:=Has P w K Z Y n "_law_same" ["_law_found","_law_due"] (Cq K 2 DP)
abbrev Tk:=Has P w K Z Y n "_law_box" ["_law_flight","_law_room_here"] (Cq K 2 EQ)
abbrev OA:=Has P w K Z Y n "_law_may_be" ["_law_own_here","_law_late","_law_m"] (Cq K 3 B2)
abbrev J2:=Has P w K Z Y n "_law_is_inside" ["_law_plan_here","_law_low","_law_high","_law_m"] (Cq K 4 BP)
abbrev Pm:=Has P w K Z Y n "_law_marks" ["_law_plan_here","_law_low","_law_high"] (Cq K 3 B9)
abbrev Mx:=Has P w K Z Y n "_law_set" ["_law_marks_here","_law_here","_law_gaps"] (Cq K 3 BX)
abbrev Tn:=Has P w K Z Y n "_law_own" ["_law_plan_here","_law_low","_law_high"] (Cq K 3 ET)
abbrev J3:=Has P w K Z Y n "_law_stays_due" ["_law_flight","_law_room_here"] (Cq K 2 CA)
abbrev Rb:=Has P w K Z Y n "_law_tape" ["_law_script","_law_k"] (Cq K 2 Mf)
abbrev Re:=Has P w K Z Y n "common" ["one","other"] (Cq K 2 GN)
abbrev My:=Has P w K Z Y n "part" ["top","bottom"] (Cq K 2 FV)
abbrev Yb:=Has P w K Z Y n "plus" ["one","other"] (Cq K 2 Jw)
abbrev Rc:=Has P w K Z Y n "before" ["one","other"] (Cq K 2 Ar)
abbrev OB:=Has P w K Z Y n "count_below" ["numbers","number"] (Cq K 2 C5)
abbrev Yc:=Has P w K Z Y n "rising" ["numbers"] (Cq K 1 GP)
abbrev Tw:=Has P w K Z Y n "steps_of" ["stretches"] (Cq K 1 Gu)
abbrev Ya:=Has P w K Z Y n "levels" ["stretches"] (Cq K 1 GO)
abbrev Ww:=Has P w K Z Y n "counted" ["stretches","n"] (Cq K 2 EJ)
abbrev Tx:=Has P w K Z Y n "told_set" ["stretches"] (Cq K 1 EX)
abbrev Tq:=Has P w K Z Y n "later_by" ["stretches","by"] (Cq K 2 EV)
abbrev Yd:=Has P w K Z Y n "summed" ["one","many","other","more"] (Cq K 4 GQ)
abbrev Wx:=Has P w K Z Y n "crossed" ["low","high","at"] (Cq K 3 FJ)
abbrev Tp:=Has P w K Z Y n "is_never" ["plane"] (Cq K 1 Dh)
abbrev Op:=Has P w K Z Y n "turn_of" ["plane","at"] (Cq K 2 DG)
abbrev Pn:=Has P w K Z Y n "is_tighter" ["plane","other","at"] (Cq K 3 DQ)
abbrev Mz:=Has P w K Z Y n "tightest" ["planes","at","sign"] (Cq K 3 Ci)
abbrev To:=Has P w K Z Y n "fault_in" ["planes","at"] (Cq K 2 EU)
abbrev Po:=Has P w K Z Y n "minus" ["one","other"] (Cq K 2 Dt)
abbrev fZ:=Has P w K Z Y n "over" ["one","other"] (Cq K 2 Me)
abbrev bQ:=Has P w K Z Y n "times" ["one","other"] (Cq K 2 JE)
abbrev La:=Has P w K Z Y n "piece_between" ["former","latter"] (Cq K 2 Bw)
abbrev Rg:=Has P w K Z Y n "pieces_of" ["plan"] (Cq K 1 Dy)
abbrev Tt:=Has P w K Z Y n "negative" ["number"] (Cq K 1 Di)
abbrev Lb:=Has P w K Z Y n "shared_bottom" ["numbers"] (Cq K 1 CP)
abbrev Tu:=Has P w K Z Y n "plane_of" ["form","strict","number"] (Cq K 3 CD)
abbrev Rh:=Has P w K Z Y n "planes_in" ["piece","walls"] (Cq K 2 Dz)
abbrev Tv:=Has P w K Z Y n "range_in" ["planes","at"] (Cq K 2 EW)
abbrev Rf:=Has P w K Z Y n "own_stays" ["plan","walls"] (Cq K 2 Dx)
abbrev Wy:=Has P w K Z Y n "size_of" ["apart","side"] (Cq K 2 EM)
abbrev Tz:=Has P w K Z Y n "walls_of" ["room","bounds"] (Cq K 2 EY)
abbrev bP:=Has P w K Z Y n "stays" ["flight","room"] (Cq K 2 JD)
end
section
variable {P:zp}{w:zm}{K:AAB}{Z:Str->zt zx}{Y:zl}{n m:Nat}{f:zu}{U:FuncData}
theorem Ji:EC ["_law_tape_here","_law_many","_law_once","_law_found"] ["_law_tape_here","_law_many"] (BG Ew):=DK
theorem P1 (F:TC K "_law_draw" "_law_draw" Ew f U):EZ P w K Z Y Q9 (n+1) f U ["_law_tape_here","_law_many"] (Cq K 2 BB):=by
 have k:=Ji.nd;refine F.ok Ji (λvs H Q E h=> ?_) (λu A outer s H vs Q E J h=> ?_)
 .obtain ⟨T,M,xs,v,_,_,r,hl,_⟩:=h;rw[r.length,hl] <;> rfl
 obtain⟨T,M,xs,v,va,_,r,hl,hF,hQ⟩:=h;unfold BB at hF;split at hF <;> first | exact hF.elim|skip
 rename_i m;obtain⟨⟨m0,m1⟩,hF⟩:=hF;cases r with
 | cons r j=>
 cases j with
 | cons y j=>
 cases j;cases y;cases r with
 | tape tp=>
 rename_i p;obtain⟨d,x,hp,l,z,B⟩:=va.tp p tp;refine⟨_,(Be (Vw (Lx dz (K6 Et (pv 0) A0 (λ_ _=>rfl)) A0 (CU _)) (Be (E5 (i:=3) k rfl (Or.inl rfl) (B0 Fg (K6 Et (pv 0) A0 (λ_ _=>rfl)) (pv 1)))
  (Be (UW (B0 Y9 (K6 Et (pv 0) A0 (λ_ _=>rfl)) (pv 1)) (ZK (pv 0) A0 Sd))
  (EG (NI (pv 3))))) Lw)
  (Be (UW (B0 Fg (B0 GW (B0 G3 (K6 Et (pv 0) A0 (λ_ _=>rfl)) A0) A0) A0) (ZK (pv 0) A0 Sd))
  (Be (E5 (i:=2) k rfl (Or.inl rfl) (B0 Fg (B0 G3 (K6 Et (pv 0) A0 (λ_ _=>rfl)) (B0 GW (B0 Fg (K6 Et (pv 0) A0 (λ_ _=>rfl)) A0) A0)) A0))
  (EG (NI (B0 Fg (B0 Fg (B0 G3 (pv 2) (B0 GW (B0 Fg (pv 2) A0) A0)) A0) (pv 1))))))), ?_⟩
 have e:∀(r d' g:Int),0<=r->r<m->0<=d'->0<=g->g<2147483647->Q (.int r) (upd H p (.lst [.int d', .int g])):=λr d' g C D a b c=>
  hQ _ (.int r) T _ (aM va.tp tp a b c) (.int r) (hF r C D)
 refine⟨_,rfl,p,_,_,_,rfl,rfl,Ep.of hp,rfl,_,_,rfl,rfl,_,rfl, ?_⟩;refine jw (λc=> ?_) (λc=> ?_)
 .refine ⟨_,rfl,p,_,_,_,rfl,rfl,Ep.of hp,rfl,_,rfl,_,_,rfl,rfl,m0, ?_⟩;refine⟨_,rfl,p,_,_,_,rfl,rfl,Ep.of hp,rfl,_,rfl,_,_,rfl,rfl,⟨m0,by omega⟩, ?_⟩;refine⟨_,rfl,p,_,_,_,rfl,rfl,hp,rfl, ?_⟩;exact⟨_,rfl,e _ _ _ (ACN _ (by omega)) (ACO _ m0) (Int.ediv_nonneg l (by omega)) z B⟩
 .refine ⟨_,rfl,p,_,_,_,rfl,rfl,Ep.of hp,rfl,_,_,rfl,rfl, .inl (.inr ⟨by decide,by decide⟩),_,_,rfl,rfl,_,_,rfl,rfl,(show (0:Int)<2147483647 by decide), ?_⟩;refine⟨_,rfl,p,_,_,_,rfl,rfl,hp,rfl, ?_⟩;have o:0<=(x*48271+12345) % 2147483647:=ACN _ (by decide);have y1:(x*48271+12345) % 2147483647<2147483647:=ACO _ (by decide);have t:upd H p (.lst ([V.int d,V.int x].set (Int.toNat 1) (V.int ((x*48271+12345) % 2147483647)))) p=some (.lst [.int d, .int ((x*48271+12345) % 2147483647)]):=Ab;have G:0<=(x*48271+12345) % 2147483647*((x*48271+12345) % 2147483647 % 1009+3) % 2147483629:=ACN _ (by decide);have I:(x*48271+12345) % 2147483647*((x*48271+12345) % 2147483647 % 1009+3) % 2147483629<2147483629:=ACO _ (by decide);refine⟨_,rfl,p,_,_,_,rfl,rfl,Ep.of t,rfl,_,rfl,p,_,_,_,rfl,rfl,Ep.of t,rfl,_,_,rfl,rfl,(show (0:Int)<1009 by decide),_,_,rfl,rfl,_,_,rfl,rfl, .inl (.inl (NX o y1)),_,_,rfl,rfl,(show (0:Int)<2147483629 by decide), ?_⟩;refine⟨_,rfl,_,rfl,_,_,rfl,rfl,(show (0:Int)<997 by decide),_,_,rfl,rfl,_,_,rfl,rfl, .inl (.inl (NX G (Int.lt_trans I (by decide)))),_,_,rfl,rfl,(show (0:Int)<998244353 by decide),_,rfl,_,_,rfl,rfl,m0, ?_⟩;exact e _ _ _ (ACN _ (by omega)) (ACO _ m0) l o y1
theorem Dc {P:zp}{w:zm}{K:AAB}{Z:Str->zt zx}{Y:zl}{x q:Str}{st:Stmt}{f:zu}{U:FuncData}{N:zy Str}{k n:Nat}{b:AS}(F:TC K x q st f U)(S:EC N (N.take n) (BG st))(a:n=(N.take n).length)(h:∀(v:zx) (A:zk) (o:zy Env) (s:zw) (H:Hp) (E:XK),Room k (A.deeper (envOfC q (BG st) s.heap.objs.size f v))->N.Nodup->Xg (RR Q9 P w K Z Y N q (BG st) f v A o s H E).nox (Dv st) b):EZ P w K Z Y Q9 (k+1) f U (N.take n) (Cq K n (Am N.length b)):=
 bK F S a λv A o s H E r=>h v A o s H E r S.nd
abbrev Z1 (K:AAB)(x:Str)(s:Stmt)(f:zu)(d:FuncData):=TC K x x s f d
abbrev Z2 (P:zp)(w:zm)(K:AAB)(Z:Str->zt zx)(b:zl)(n:Nat)(f:zu)(d:FuncData)(N:zy Str)(k:Nat)(F:AF):=EZ P w K Z b Q9 (n+1) f d (N.take k) (Cq K k F)
theorem NA (F:Z1 K "_law_bounds" E7 f U)(b:Ck P w K Z Y n):Z2 P w K Z Y n f U ["_law_tape_here","_law_some"] 1 C2:=Dc F DK rfl λ_ _ _ _ _ _ a c=>(AL (CY 1 c (CJ (BU (B7 (Ae (Al AH AH)) (B7 (Ae (Al AH AH)) (B7 (Ae (Al AH AH)) (Ek (Ae (Al AH AH)) (Ae (Al AH AH)) (Ae (Al AH AH))))))))) (AL (BN (FQ (EB a) (AK b a rfl (Al (AJ 0) AH)) AH) (AR (AX (Ae (Ek (Ae (Al AH AH)) (Ae (Al AH AH)) (Ae (Al AH AH)))))) A1) (AR (AX (Ae (Ek (AU (AJ 1) (AK b a rfl (Al (AJ 0) AH))) (AU (AJ 1) (AK b a rfl (Al (AJ 0) AH))) (AU (AJ 1) (AK b a rfl (Al (AJ 0) AH)))))))))
theorem P2 (F:Z1 K "_law_less" GZ f U):Z2 P w K Z Y n f U ["_law_one","_law_other"] 2 Ar:=Dc F DK rfl λ_ _ _ _ _ _ _ _=>(AR (AX (Ds Gj (Ag A8 (AU (AJ 0) AH) (AU (AJ 1) AH)) (Ag A8 (AU (AJ 1) AH) (AU (AJ 0) AH)) (CU _))))
theorem OE (F:Z1 K "_law_is_in" Fi f U)(c:Cm P w K Z Y n)(d:Z "any" =none):Z2 P w K Z Y n f U ["_law_stretches","_law_m"] 2 CN:=by
 have a:(["_law_begin","_law_held","_law_end","_law_m"] :zy Str).Nodup:=by decide +kernel
 exact Dc F DK rfl λ_ _ _ _ _ _ b _=>(AR (AX (BM (hX rfl) rfl d boot_any (Bf (CJ (Bi rfl (D6 (AJ 0)) (Br (own:=3) (ix:= [1]) (N:= ["_law_begin","_law_held" ,"_law_end" ,"_law_m" ]) rfl rfl rfl rfl rfl rfl (λ_ _ _ _ _ _=>(NV (n:=3) rfl (Cp (Jl 0 a) (Cp (Jl 1 a) (Cp (Jl 2 a) Jm))))) (λ_ _ _ _ _ _=>BK) (λ_ _ _ _ _ _=>(KU (iE (AK c b rfl (Al (AJ 3) (AJ 0)))) (KU (AK c b rfl (Al (AJ 3) (AJ 2))) (Ij (d9 (Ds (EB b) (AJ 1) AH (CU _)) (Ij (Ds (O1 b) (AJ 3) (AJ 0) (CU _)))))))))))))))
theorem P3 (F:Z1 K "_law_part" Ga f U)(b:Z "abs" =none)(c:Z "int" =none):Z2 P w K Z Y n f U ["_law_top","_law_bottom","_law_sign","_law_one","_law_other"] 2 Aw:=Dc F DK rfl λ_ _ _ _ _ _ _ a=>(AL (Us (i:=3) (j:=4) rfl a rfl rfl (by decide) rfl rfl (Al (BM Qb rfl b boot_abs (Bf (AJ 0))) (BM Qb rfl b boot_abs (Bf (AJ 1)))) rfl) (AL (Gk AAQ (FQ K9 (AJ 4) AH) (AR (Us (i:=3) (j:=4) rfl a rfl rfl (by decide) rfl rfl (Al (AJ 4) (Ag NY (AJ 3) (AJ 4))) rfl))) (AL (CY 2 a (Ag DF AH (Ag A8 AH (BL hZ rfl c boot_int (Bf (Ds Gj (AJ 1) AH (CU _))))))) (AR (AX (Ae (Al (Ag Ey (Ag A8 (AJ 2) (AJ 0)) (AJ 3)) (Ag Ey (Ag A8 (AJ 2) (AJ 1)) (AJ 3)))))))))
theorem Le (F:Z1 K "_law_product" Ef f U)(a:DH P w K Z Y n):Z2 P w K Z Y n f U ["_law_one","_law_other"] 2 BE:=Dc F DK rfl λ_ _ _ _ _ _ b _=>(AR (AX (AK a b rfl (Al (Ag A8 (AU (AJ 0) AH) (AU (AJ 1) AH)) (Ag A8 (AU (AJ 0) AH) (AU (AJ 1) AH))))))
theorem R3 (F:Z1 K "_law_sum" IX f U)(a:DH P w K Z Y n):Z2 P w K Z Y n f U ["_law_one","_law_other"] 2 A3:=Dc F DK rfl λ_ _ _ _ _ _ b _=>(AR (AX (AK a b rfl (Al (Ag BA (Ag A8 (AU (AJ 0) AH) (AU (AJ 1) AH)) (Ag A8 (AU (AJ 1) AH) (AU (AJ 0) AH))) (Ag A8 (AU (AJ 0) AH) (AU (AJ 1) AH))))))
theorem Ld (F:Z1 K "_law_middles" Ee f U)(c:DW P w K Z Y n)(d:CG P w K Z Y n)(e:Z "zip" =none):Z2 P w K Z Y n f U ["_law_marks_here"] 1 Bp:=by
 have a:(["_law_one","_law_other"] :zy Str).Nodup:=by decide +kernel
 exact Dc F DK rfl λ_ _ _ _ _ _ b _=>(AR (AX (CJ (Bi rfl (XW rfl e (Al (AJ 0) (Jk (AJ 0) (dE AH) dD))) (Br (own:=2) (ix:= []) (N:= ["_law_one","_law_other" ]) rfl rfl rfl rfl rfl rfl (λ_ _ _ _ _ _=>(NV (n:=2) rfl (Cp (Jl 0 a) (Cp (Jl 1 a) Jm)))) (λ_ _ _ _ _ _=>BK) (λ_ _ _ _ _ _=>(AK c b rfl (Al (AK d b rfl (Al (AJ 0) (AJ 1))) (Ae (Al AH AH))))))))))
theorem NC (F:Z1 K "_law_rising" E9 f U)(c:Cm P w K Z Y n)(d:Z "len" =none):Z2 P w K Z Y n f U ["_law_some","_law_found","_law_one","_law_at"] 1 BF:=Dc F DK rfl λ_ _ _ _ _ _ b a=>(AL (D8 (i:=1) a rfl (Or.inl rfl) (BU D4)) (AL (Bu AAQ rfl (D6 (AJ 0)) (D5 2 a) (AL (CY 3 a (Qe (BM Fq rfl d AA8 (Bf (AJ 1))))) (AL (Gk AAQ (GA (D9 (FQ K9 (AJ 3) AH) (DD (B3 (AK c b rfl (Al (AJ 2) (AU (AJ 1) (Ag DF (AJ 3) AH)))))))) (AR (CY 3 a (Ag DF (AJ 3) AH)))) (AR (BN (Z8 (GA (O4 (FQ (EB b) (AJ 3) AH) (Kg (FQ (O1 b) (AU (AJ 1) (Ag DF (AJ 3) AH)) (AJ 2)))))) (AR (CL (i:=1) ADu ADv O0 (Al (AJ 3) (AJ 2)))) A1))))) (AR (AX (AJ 1)))))
theorem Rz (F:Z1 K "_law_off" IU f U)(a:DH P w K Z Y n):Z2 P w K Z Y n f U ["_law_one","_law_other"] 2 BQ:=Dc F DK rfl λ_ _ _ _ _ _ b _=>(AR (AX (AK a b rfl (Al (Ag DF (Ag A8 (AU (AJ 0) AH) (AU (AJ 1) AH)) (Ag A8 (AU (AJ 1) AH) (AU (AJ 0) AH))) (Ag A8 (AU (AJ 0) AH) (AU (AJ 1) AH))))))
theorem OI (F:Z1 K "_law_ratio" Fn f U)(a:DH P w K Z Y n):Z2 P w K Z Y n f U ["_law_one","_law_other"] 2 Cr:=Dc F DK rfl λ_ _ _ _ _ _ b _=>(AR (AX (AK a b rfl (Al (Ag A8 (AU (AJ 0) AH) (AU (AJ 1) AH)) (Ag A8 (AU (AJ 0) AH) (AU (AJ 1) AH))))))
theorem P8 (F:Z1 K "_law_spot" Gf f U)(c:Cm P w K Z Y n)(d:Ed P w K Z Y n)(h:DW P w K Z Y n)(j:JP P w K Z Y n)(k:CG P w K Z Y n)(l:Z "range" =none)(o:Z "tuple" =none)(p:Z "zip" =none):Z2 P w K Z Y n f U ["_law_plan_here","_law_m","_law_one","_law_other","_law_share","_law_gone"] 2 Dw:=by
 have e:(["_law_k","_law_share","_law_other","_law_one"] :zy Str).Nodup:=by decide +kernel
 have g:(["_law_k","_law_one","_law_gone"] :zy Str).Nodup:=by decide +kernel
 exact Dc F DK rfl λ_ _ _ _ _ _ a b=>(AL (BN (GA (O4 (B3 (AK c a rfl (Al (AJ 1) (AU (AU (AJ 0) AH) AH)))) (Kg (B3 (AK c a rfl (Al (AU (AU (AJ 0) (Eg AH)) AH) (AJ 1))))))) (AR (AX Bh)) A1) (AL (Bu AAQ rfl (XW rfl p (Al (AJ 0) (Jk (AJ 0) (dE AH) dD))) (CK (n:=2) rfl (Aa (L1 (i:=2) b rfl (Or.inr rfl)) (Aa (L1 (i:=3) b rfl (Or.inr rfl)) Bj))) (AR (BN (KZ (B3 (AK c a rfl (Al (AU (AJ 3) AH) (AJ 1))))) (AL (Ei (i:=4) b rfl (Or.inr rfl) (AK j a rfl (Al (AK d a rfl (Al (AJ 1) (AU (AJ 2) AH))) (AK d a rfl (Al (AU (AJ 3) AH) (AU (AJ 2) AH)))))) (AL (Ei (i:=5) b rfl (Or.inr rfl) (CJ (Bi rfl (D6 (Ae (Ek AH AH AH))) (Br (own:=1) (ix:= [4,3,2]) (N:= ["_law_k","_law_share" ,"_law_other" ,"_law_one" ]) rfl rfl rfl rfl rfl rfl (λ_ _ _ _ _ _=>(Jl 0 e)) (λ_ _ _ _ _ _=>BK) (λ_ _ _ _ _ _=>(AK h a rfl (Al (AJ 1) (AK d a rfl (Al (AU (AJ 2) (AJ 0)) (AU (AJ 3) (AJ 0))))))))))) (AR (AX (BL Co rfl o AA4 (Bf (CJ (Bi rfl (F7 rfl l (Bf AH)) (Br (own:=1) (ix:= [2,5]) (N:= ["_law_k","_law_one" ,"_law_gone" ]) rfl rfl rfl rfl rfl rfl (λ_ _ _ _ _ _=>(Jl 0 g)) (λ_ _ _ _ _ _=>BK) (λ_ _ _ _ _ _=>(AK k a rfl (Al (AU (AJ 1) (Ag BA (AJ 0) AH)) (AU (AJ 2) (AJ 0)))))))))))))) A1))) (AR (AX Bh))))
theorem OD (F:Z1 K "_law_comes" Fh f U)(d:Ck P w K Z Y n)(p:Pj P w K Z Y n)(k:Cm P w K Z Y n)(r:Ec P w K Z Y n)(l:DW P w K Z Y n)(s:E3 P w K Z Y n)(t:K1 P w K Z Y n)(o:CG P w K Z Y n)(u:Z "all" =none)(v:Z "len" =none)(c:Z "range" =none):Z2 P w K Z Y n f U ["_law_tape_here","_law_flight","_law_room_here","_law_told","_law_marks_here","_law_some","_law_turn","_law_plan_here","_law_bounds_here","_law_m","_law_spot_here","_law_off_here","_law_here","_law_inside"] 4 DO:=by
 have e:(["_law_corner"] :zy Str).Nodup:=by decide +kernel
 have g:(["_law_k","_law_bounds_here","_law_tape_here"] :zy Str).Nodup:=by decide +kernel
 have h:(["_law_k","_law_spot_here","_law_off_here"] :zy Str).Nodup:=by decide +kernel
 have j:(["_law_k","_law_here","_law_room_here"] :zy Str).Nodup:=by decide +kernel
 exact Dc F DK rfl λ_ _ _ _ _ _ a b=>(AL (KY (AJ 1) (CK (n:=2) rfl (Aa (D5 7 b) (Aa (L1 (i:=8) b rfl (Or.inr rfl)) Bj)))) (AL (CY 4 b (AK s a rfl (Bf (CJ (Bi rfl (D6 (AJ 7)) (Br (own:=1) (ix:= []) (N:= ["_law_corner"]) rfl rfl rfl rfl rfl rfl (λ_ _ _ _ _ _=>(Jl 0 e)) (λ_ _ _ _ _ _=>BK) (λ_ _ _ _ _ _=>(AU (AJ 0) AH)))))))) (AL (CY 5 b (Ag BA (Jk (AJ 4) dD (dE (Eg AH))) (AK r a rfl (Bf (AJ 4))))) (AL (Bu AAQ rfl (F7 rfl c (Bf AH)) (D5 6 b) (AL (CY 9 b (AU (AJ 5) (AK d a rfl (Al (AJ 0) (BM Fq rfl v AA8 (Bf (AJ 5))))))) (AL (Ei (i:=10) b rfl (Or.inr rfl) (AK t a rfl (Al (AJ 7) (AJ 9)))) (AL (Ei (i:=11) b rfl (Or.inr rfl) (CJ (Bi rfl (F7 rfl c (Bf AH)) (Br (own:=1) (ix:= [8,0]) (N:= ["_law_k","_law_bounds_here" ,"_law_tape_here" ]) rfl rfl rfl rfl rfl rfl (λ_ _ _ _ _ _=>(Jl 0 g)) (λ_ _ _ _ _ _=>BK) (λ_ _ _ _ _ _=>(AK l a rfl (Al (AU (AJ 1) (Ag Ey (AJ 0) AH)) (AU (CJ (BU (B7 (Ae (Al AH AH)) (Ek (Ae (Al AH AH)) (Ae (Al (Eg AH) AH)) (Ae (Al AH AH)))))) (AK d a rfl (Al (AJ 2) AH)))))))))) (AL (Ei (i:=12) b rfl (Or.inr rfl) (CJ (Bi rfl (F7 rfl c (Bf AH)) (Br (own:=1) (ix:= [10,11]) (N:= ["_law_k","_law_spot_here" ,"_law_off_here" ]) rfl rfl rfl rfl rfl rfl (λ_ _ _ _ _ _=>(Jl 0 h)) (λ_ _ _ _ _ _=>BK) (λ_ _ _ _ _ _=>(AK o a rfl (Al (AU (AJ 1) (AJ 0)) (AU (AJ 2) (AJ 0))))))))) (AL (CY 9 b (AK o a rfl (Al (AJ 9) (AK l a rfl (Al (AU (AJ 8) AH) (AU (CJ (BU (Ek (Ae (Al AH AH)) (Ae (Al AH AH)) (Ae (Al AH AH))))) (AK d a rfl (Al (AJ 0) AH)))))))) (AL (CY 13 b (BM (Zk rfl) rfl u boot_all (Bf (CJ (Bi rfl (F7 rfl c (Bf AH)) (Br (own:=1) (ix:= [12,2]) (N:= ["_law_k","_law_here" ,"_law_room_here" ]) rfl rfl rfl rfl rfl rfl (λ_ _ _ _ _ _=>(Jl 0 j)) (λ_ _ _ _ _ _=>BK) (λ_ _ _ _ _ _=>(KU (AK k a rfl (Al (AU (AU (AJ 2) AH) (AJ 0)) (AU (AJ 1) (AJ 0)))) (Ij (AK k a rfl (Al (AU (AJ 1) (AJ 0)) (AU (AU (AJ 2) AH) (AJ 0))))))))))))) (AR (BN (GA (D9 (iM (AJ 13)) (DD (KZ (B3 (AK p a rfl (Al (AJ 3) (AJ 9)))))))) (AR (AX Ha)) A1))))))))) (AR (AX Ha))))))
theorem Ry (F:Z1 K "_law_far" IT f U)(b:CG P w K Z Y n)(c:Z "tuple" =none):Z2 P w K Z Y n f U ["_law_plan_here"] 1 ES:=by
 have a:(["_law_corner"] :zy Str).Nodup:=by decide +kernel
 exact Dc F DK rfl λ_ _ _ _ _ _ d _=>(AR (AX (BL Co rfl c AA4 (Bf (CJ (Bi rfl (D6 (AJ 0)) (Br (own:=1) (ix:= []) (N:= ["_law_corner"]) rfl rfl rfl rfl rfl rfl (λ_ _ _ _ _ _=>(Jl 0 a)) (λ_ _ _ _ _ _=>BK) (λ_ _ _ _ _ _=>(Ag BA (Ae (Bf (AK b d rfl (Al (AU (AJ 0) AH) (Ae (Al (Ag iJ AH AH) AH)))))) (Jk (AJ 0) (dE AH) dD))))))))))
theorem OF (F:Z1 K "_law_lists" Fj f U)(b:Z "list" =none):Z2 P w K Z Y n f U ["_law_flight","_law_room_here","_law_plan_here","_law_bounds_here","_law_name","_law_low","_law_high","_law_most"] 2 B8:=by
 have c:(["_law_corner"] :zy Str).Nodup:=by decide +kernel
 exact Dc F DK rfl λ_ _ _ _ _ _ _ a=>(AL (KY (AJ 0) (CK (n:=2) rfl (Aa (D5 2 a) (Aa (D5 3 a) Bj)))) (AL (KY (AJ 1) (CK (n:=4) rfl (Aa (D5 4 a) (Aa (D5 5 a) (Aa (D5 6 a) (Aa (D5 7 a) Bj)))))) (AR (AX (Ae (Al (CJ (BU (Al (CJ (Bi rfl (D6 (AJ 2)) (Br (own:=1) (ix:= []) (N:= ["_law_corner"]) rfl rfl rfl rfl rfl rfl (λ_ _ _ _ _ _=>(Jl 0 c)) (λ_ _ _ _ _ _=>BK) (λ_ _ _ _ _ _=>(CJ (L0 rfl b boot_list (Bf (AJ 0)))))))) (CJ (L0 rfl b boot_list (Bf (AJ 3))))))) (CJ (BU (B7 (AJ 4) (Ek (CJ (L0 rfl b boot_list (Bf (AJ 5)))) (CJ (L0 rfl b boot_list (Bf (AJ 6)))) (AJ 7)))))))))))
theorem OH (F:Z1 K "_law_place" Fl f U)(b:Ck P w K Z Y n)(c:DH P w K Z Y n):Z2 P w K Z Y n f U ["_law_tape_here","_law_kind"] 1 A6:=Dc F DK rfl λ_ _ _ _ _ _ a d=>(AL (CY 1 d (AK b a rfl (Al (AJ 0) AH))) (AL (BN (FQ Gj (AJ 1) AH) (AR (AX (Ae (Al (Ag DF (AK b a rfl (Al (AJ 0) AH)) AH) AH)))) A1) (AL (BN (FQ (EB a) (AJ 1) AH) (AR (AX (AK c a rfl (Al (Ag DF (AK b a rfl (Al (AJ 0) AH)) AH) AH)))) A1) (AR (AX (AK c a rfl (Al (Ag DF (AK b a rfl (Al (AJ 0) AH)) AH) AH)))))))
theorem P7 (F:Z1 K "_law_span" Ge f U)(b:Ck P w K Z Y n)(c:DH P w K Z Y n):Z2 P w K Z Y n f U ["_law_tape_here","_law_way"] 1 Ch:=Dc F DK rfl λ_ _ _ _ _ _ a d=>(AL (CY 1 d (AK b a rfl (Al (AJ 0) AH))) (AL (BN (FQ Gj (AJ 1) AH) (AR (AX (Ae (Al (Ag BA AH (AK b a rfl (Al (AJ 0) AH))) AH)))) A1) (AR (AX (AK c a rfl (Al (Ag BA AH (AK b a rfl (Al (AJ 0) AH))) (Ag DF (AJ 1) AH)))))))
theorem P4 (F:Z1 K "_law_plan" Gb f U)(d:Ck P w K Z Y n)(c:JO P w K Z Y n)(e:K0 P w K Z Y n)(g:CG P w K Z Y n)(h:Z "len" =none)(j:Z "tuple" =none):Z2 P w K Z Y n f U ["_law_tape_here","_law_many","_law_m","_law_spot_here","_law_corners","_law_way"] 1 Em:=Dc F DK rfl λ_ _ _ _ _ _ a b=>(AL (CY 1 b (Ag BA AH (AK d a rfl (Al (AJ 0) AH)))) (AL (BN (FQ (EB a) (AK d a rfl (Al (AJ 0) AH)) AH) (AR (CY 1 b (Ag BA AH (AK d a rfl (Al (AJ 0) AH))))) A1) (AL (CY 2 b (Ae (Al (AK d a rfl (Al (AJ 0) AH)) AH))) (AL (CY 3 b (CJ (BU (Ek (AK c a rfl (Bf (AJ 0))) (AK c a rfl (Bf (AJ 0))) (AK c a rfl (Bf (AJ 0))))))) (AL (D8 (i:=4) b rfl (Or.inl rfl) (BU (Bf (Ae (B7 (AJ 2) (Ek (AU (AJ 3) AH) (AU (AJ 3) AH) (AU (AJ 3) AH))))))) (AL (Gk AAQ (FQ Gj (BM Fq rfl h AA8 (Bf (AJ 4))) (AJ 1)) (AL (CY 2 b (AK g a rfl (Al (AJ 2) (AK e a rfl (Bf (AJ 0)))))) (AL (CY 5 b (AK d a rfl (Al (AJ 0) AH))) (AL (BN (FQ K9 (AJ 5) AH) (AR (CY 3 b (CJ (BU (Ek (AK c a rfl (Bf (AJ 0))) (AK c a rfl (Bf (AJ 0))) (AK c a rfl (Bf (AJ 0)))))))) (AR (BN (FQ K9 (AJ 5) AH) (AR (CY 3 b (Ag BA (Ag BA (Jk (AJ 3) dD (dE (Ag DF (AJ 5) AH))) (CJ (BU (Bf (AK c a rfl (Bf (AJ 0))))))) (Jk (AJ 3) (dE (AJ 5)) dD)))) A1))) (AR (CL (i:=4) AAt AAu Bo (Bf (Ae (B7 (AJ 2) (Ek (AU (AJ 3) AH) (AU (AJ 3) AH) (AU (AJ 3) AH))))))))))) (AR (AX (BL Co rfl j AA4 (Bf (AJ 4)))))))))))
theorem P5 (F:Z1 K "_law_room" Gc f U)(b:Ck P w K Z Y n)(h:Ed P w K Z Y n)(j:JO P w K Z Y n)(k:K0 P w K Z Y n)(e:CG P w K Z Y n)(l:Z "range" =none)(g:Z "tuple" =none):Z2 P w K Z Y n f U ["_law_tape_here","_law_low","_law_high","_law_one","_law_wide"] 1 CO:=by
 have d:(["_law_k","_law_tape_here"] :zy Str).Nodup:=by decide +kernel
 exact Dc F DK rfl λ_ _ _ _ _ _ a c=>(AL (Nb (i:=1) rfl c rfl (Or.inl rfl) (F7 rfl l (Bf AH)) (Br (own:=1) (ix:= [0]) (N:= ["_law_k","_law_tape_here" ]) rfl rfl rfl rfl rfl rfl (λ_ _ _ _ _ _=>(Jl 0 d)) (λ_ _ _ _ _ _=>BK) (λ_ _ _ _ _ _=>(AK h a rfl (Al (AK j a rfl (Bf (AJ 1))) (AU (CJ (BU (Ek (Ae (Al AH AH)) (Ae (Al AH AH)) (Ae (Al AH AH))))) (AK b a rfl (Al (AJ 1) AH)))))))) (AL (D8 (i:=2) c rfl (Or.inl rfl) (BU D4)) (AL (Bu AAQ rfl (D6 (AJ 1)) (D5 3 c) (AL (CY 4 c (AK e a rfl (Al (AK k a rfl (Bf (AJ 0))) (AU (CJ (BU (Ek (Ae (Al AH AH)) (Ae (Al AH AH)) (Ae (Al AH AH))))) (AK b a rfl (Al (AJ 0) AH)))))) (AR (CL (i:=2) AAt AAu Bo (Bf (AK e a rfl (Al (AJ 3) (AJ 4)))))))) (AR (AX (Ae (B7 (AU (CJ (BU (Ek Uk Uk Uk))) (AK b a rfl (Al (AJ 0) AH))) (Ek (BL Co rfl g AA4 (Bf (AJ 1))) (BL Co rfl g AA4 (Bf (AJ 2))) (Ag BA AH (AK b a rfl (Al (AJ 0) AH)))))))))))
theorem P6 (F:Z1 K "_law_same" Gd f U)(b:Z "str" =none):Z2 P w K Z Y n f U ["_law_found","_law_due"] 2 DP:=Dc F DK rfl λ_ _ _ _ _ _ a _=>(AR (AX (KU (Ds (EB a) (AJ 0) (AJ 1) (CU _)) (Ij (Ds (EB a) (BL (Qc a) rfl b boot_str (Bf (AJ 0))) (BL (Qc a) rfl b boot_str (Bf (AJ 1))) (CU _))))))
theorem Rx (F:Z1 K "_law_box" IS f U)(h:Ed P w K Z Y n)(j:CG P w K Z Y n)(c:Z "range" =none)(d:Z "tuple" =none):Z2 P w K Z Y n f U ["_law_flight","_law_room_here","_law_off_here","_law_low"] 2 EQ:=by
 have a:(["_law_k","_law_off_here","_law_room_here"] :zy Str).Nodup:=by decide +kernel
 have b:(["_law_k","_law_off_here","_law_room_here"] :zy Str).Nodup:=by decide +kernel
 exact Dc F DK rfl λ_ _ _ _ _ _ e g=>(AL (Ei (i:=2) g rfl (Or.inr rfl) (CJ (BU (Ek (AU (AU (AJ 0) AH) AH) (AU (AU (AJ 0) AH) AH) (AU (AU (AJ 0) AH) AH))))) (AL (CY 3 g (BL Co rfl d AA4 (Bf (CJ (Bi rfl (F7 rfl c (Bf AH)) (Br (own:=1) (ix:= [2,1]) (N:= ["_law_k","_law_off_here" ,"_law_room_here" ]) rfl rfl rfl rfl rfl rfl (λ_ _ _ _ _ _=>(Jl 0 a)) (λ_ _ _ _ _ _=>BK) (λ_ _ _ _ _ _=>(AK h e rfl (Al (AU (AU (AJ 2) AH) (AJ 0)) (AU (AJ 1) (AJ 0))))))))))) (AR (AX (Ae (Al (AJ 3) (BL Co rfl d AA4 (Bf (CJ (Bi rfl (F7 rfl c (Bf AH)) (Br (own:=1) (ix:= [2,1]) (N:= ["_law_k","_law_off_here" ,"_law_room_here" ]) rfl rfl rfl rfl rfl rfl (λ_ _ _ _ _ _=>(Jl 0 b)) (λ_ _ _ _ _ _=>BK) (λ_ _ _ _ _ _=>(AK j e rfl (Al (AU (AU (AJ 2) AH) (AJ 0)) (AU (AJ 1) (AJ 0))))))))))))))))
theorem NB (F:Z1 K "_law_may_be" E8 f U)(c:Cm P w K Z Y n)(d:Ed P w K Z Y n):Z2 P w K Z Y n f U ["_law_own_here","_law_late","_law_m","_law_begin","_law_held","_law_end"] 3 B2:=Dc F DK rfl λ_ _ _ _ _ _ a b=>(AL (Bu AAQ rfl (D6 (AJ 0)) (CK (n:=3) rfl (Aa (D5 3 b) (Aa (D5 4 b) (Aa (D5 5 b) Bj)))) (AR (BN (GA (D9 (B3 (AK c a rfl (Al (AK d a rfl (Al (AJ 2) (AJ 1))) (AJ 5)))) (DD (GA (O4 (B3 (AK c a rfl (Al (AJ 3) (AJ 2)))) (Kg (GA (D9 (FQ (EB a) (AJ 4) AH) (DD (FQ (EB a) (AJ 3) (AJ 2))))))))))) (AR (AX Ha)) A1))) (AR (AX Ha)))
theorem JW (F:Z1 K "_law_is_inside" Dq f U)(b:Cm P w K Z Y n)(d:K1 P w K Z Y n)(e:Z "all" =none)(g:Z "range" =none):Z2 P w K Z Y n f U ["_law_plan_here","_law_low","_law_high","_law_m","_law_spot_here"] 4 BP:=by
 have c:(["_law_k","_law_low","_law_spot_here","_law_high"] :zy Str).Nodup:=by decide +kernel
 exact Dc F DK rfl λ_ _ _ _ _ _ a h=>(AL (BN (KZ (B3 (AK b a rfl (Al (AJ 3) (AU (AU (AJ 0) (Eg AH)) AH))))) (AR (AX Ha)) A1) (AL (Ei (i:=4) h rfl (Or.inr rfl) (AK d a rfl (Al (AJ 0) (AJ 3)))) (AL (BN (FQ Ft (AJ 4) Bh) (AR (AX Ha)) A1) (AR (AX (BM (Zk rfl) rfl e boot_all (Bf (CJ (Bi rfl (F7 rfl g (Bf AH)) (Br (own:=1) (ix:= [1,4,2]) (N:= ["_law_k","_law_low" ,"_law_spot_here" ,"_law_high" ]) rfl rfl rfl rfl rfl rfl (λ_ _ _ _ _ _=>(Jl 0 c)) (λ_ _ _ _ _ _=>BK) (λ_ _ _ _ _ _=>(KU (AK b a rfl (Al (AU (AJ 1) (AJ 0)) (AU (AJ 2) (AJ 0)))) (Ij (AK b a rfl (Al (AU (AJ 2) (AJ 0)) (AU (AJ 3) (AJ 0)))))))))))))))))
theorem OG (F:Z1 K "_law_marks" Fk f U)(e:Cm P w K Z Y n)(c:Ed P w K Z Y n)(g:DW P w K Z Y n)(h:JP P w K Z Y n)(j:E3 P w K Z Y n)(k:CG P w K Z Y n)(l:Z "enumerate" =none)(o:Z "zip" =none):Z2 P w K Z Y n f U ["_law_plan_here","_law_low","_law_high","_law_some","_law_one","_law_other","_law_span_here","_law_k","_law_edge","_law_way","_law_share"] 3 B9:=by
 have d:(["_law_corner"] :zy Str).Nodup:=by decide +kernel
 exact Dc F DK rfl λ_ _ _ _ _ _ a b=>(AL (Z5 (i:=3) rfl b rfl (Or.inl rfl) (D6 (AJ 0)) (Br (own:=1) (ix:= []) (N:= ["_law_corner"]) rfl rfl rfl rfl rfl rfl (λ_ _ _ _ _ _=>(Jl 0 d)) (λ_ _ _ _ _ _=>BK) (λ_ _ _ _ _ _=>(AU (AJ 0) AH)))) (AL (Bu AAQ rfl (XW rfl o (Al (AJ 0) (Jk (AJ 0) (dE AH) dD))) (CK (n:=2) rfl (Aa (D5 4 b) (Aa (D5 5 b) Bj))) (AL (CY 6 b (AK c a rfl (Al (AU (AJ 5) AH) (AU (AJ 4) AH)))) (AR (Bu AAQ rfl (kh rfl l (Bf (Ag BA (AJ 1) (AJ 2)))) (CK (n:=2) rfl (Aa (D5 7 b) (Aa (D5 8 b) Bj))) (AL (CY 9 b (AK c a rfl (Al (AU (AJ 5) (Ag BA (Ag NY (AJ 7) AH) AH)) (AU (AJ 4) (Ag BA (Ag NY (AJ 7) AH) AH))))) (AR (BN (FQ (O1 a) (AU (AJ 9) AH) AH) (AL (CY 10 b (AK h a rfl (Al (AK c a rfl (Al (AJ 8) (AU (AJ 4) (Ag BA (Ag NY (AJ 7) AH) AH)))) (AJ 9)))) (AR (BN (GA (D9 (B3 (AK e a rfl (Al (Ae (Al AH AH)) (AJ 10)))) (DD (B3 (AK e a rfl (Al (AJ 10) (Ae (Al AH AH)))))))) (AR (CL (i:=3) AAt AAu Bo (Bf (AK k a rfl (Al (AU (AJ 4) AH) (AK g a rfl (Al (AJ 10) (AJ 6)))))))) A1))) A1))))))) (AR (AX (AK j a rfl (Bf (AJ 3)))))))
theorem R1 (F:Z1 K "_law_set" IW f U)(b:Z "enumerate" =none)(c:Z "tuple" =none):Z2 P w K Z Y n f U ["_law_marks_here","_law_here","_law_gaps","_law_found","_law_begun","_law_k","_law_m"] 3 BX:=Dc F DK rfl λ_ _ _ _ _ _ _ a=>(AL (D8 (i:=3) a rfl (Or.inl rfl) (BU D4)) (AL (CY 4 a Bh) (AL (Bu AAQ rfl (nj rfl b (Bf (AJ 0))) (CK (n:=2) rfl (Aa (D5 5 a) (Aa (D5 6 a) Bj))) (AL (BN (GA (D9 (FQ Qm (AJ 4) Bh) (DD (KZ (B3 (AU (AJ 1) (AJ 5))))))) (AL (CL (i:=3) AAt AAu Bo (Bf (Ag BA (AJ 4) (Ae (Bf (AJ 6)))))) (AR (CY 4 a Bh))) A1) (AL (BN (GA (D9 (FQ Ft (AJ 4) Bh) (DD (B3 (AU (AJ 1) (AJ 5)))))) (AR (CY 4 a (Ae (Al (AJ 6) AH)))) A1) (AR (BN (GA (D9 (FQ Ft (AJ 4) Bh) (DD (B3 (AU (Ag BA (AJ 2) (CJ (BU (Bf Ha)))) (AJ 5)))))) (AR (CY 4 a (Ae (Al (AJ 6) AH)))) A1))))) (AR (AX (BL Co rfl c AA4 (Bf (AJ 3))))))))
theorem R0 (F:Z1 K "_law_own" IV f U)(d:J2 P w K Z Y n)(g:Pm P w K Z Y n)(h:Ec P w K Z Y n)(j:Mx P w K Z Y n):Z2 P w K Z Y n f U ["_law_plan_here","_law_low","_law_high","_law_marks_here","_law_here"] 3 ET:=by
 have b:(["_law_m","_law_plan_here","_law_low","_law_high"] :zy Str).Nodup:=by decide +kernel
 have c:(["_law_m","_law_plan_here","_law_low","_law_high"] :zy Str).Nodup:=by decide +kernel
 exact Dc F DK rfl λ_ _ _ _ _ _ a e=>(AL (CY 3 e (AK g a rfl (Ek (AJ 0) (AJ 1) (AJ 2)))) (AL (Nb (i:=4) rfl e rfl (Or.inl rfl) (D6 (AJ 3)) (Br (own:=1) (ix:= [0,1,2]) (N:= ["_law_m","_law_plan_here" ,"_law_low" ,"_law_high" ]) rfl rfl rfl rfl rfl rfl (λ_ _ _ _ _ _=>(Jl 0 b)) (λ_ _ _ _ _ _=>BK) (λ_ _ _ _ _ _=>(AK d a rfl (B7 (AJ 1) (Ek (AJ 2) (AJ 3) (AJ 0))))))) (AR (AX (AK j a rfl (Ek (AJ 3) (AJ 4) (CJ (Bi rfl (D6 (AK h a rfl (Bf (AJ 3)))) (Br (own:=1) (ix:= [0,1,2]) (N:= ["_law_m","_law_plan_here" ,"_law_low" ,"_law_high" ]) rfl rfl rfl rfl rfl rfl (λ_ _ _ _ _ _=>(Jl 0 c)) (λ_ _ _ _ _ _=>BK) (λ_ _ _ _ _ _=>(AK d a rfl (B7 (AJ 1) (Ek (AJ 2) (AJ 3) (AJ 0))))))))))))))
theorem JX (F:Z1 K "_law_stays_due" Dr f U)(h:Tk P w K Z Y n)(e:OA P w K Z Y n)(j:Ec P w K Z Y n)(k:Tn P w K Z Y n)(l:E3 P w K Z Y n)(o:Mx P w K Z Y n)(g:CG P w K Z Y n):Z2 P w K Z Y n f U ["_law_flight","_law_room_here","_law_late","_law_own_here","_law_some","_law_marks_here","_law_here","_law_low","_law_high","_law_begin","_law_held","_law_end"] 2 CA:=by
 have c:(["_law_m","_law_own_here","_law_late"] :zy Str).Nodup:=by decide +kernel
 have d:(["_law_m","_law_own_here","_law_late"] :zy Str).Nodup:=by decide +kernel
 exact Dc F DK rfl λ_ _ _ _ _ _ b a=>(AL (KY (AK h b rfl (Al (AJ 0) (AJ 1))) (CK (n:=2) rfl (Aa (D5 7 a) (Aa (D5 8 a) Bj)))) (AL (Ei (i:=2) a rfl (Or.inr rfl) (AU (AU (AJ 0) AH) AH)) (AL (Ei (i:=3) a rfl (Or.inr rfl) (AK k b rfl (Ek (AU (AJ 0) AH) (AJ 7) (AJ 8)))) (AL (CY 4 a (CJ (BU D4))) (AL (Bu AAQ rfl (D6 (AJ 3)) (CK (n:=3) rfl (Aa (D5 9 a) (Aa (D5 10 a) (Aa (D5 11 a) Bj)))) (AR (CY 4 a (Ag BA (AJ 4) (CJ (BU (B7 (AJ 9) (Ek (AJ 11) (AK g b rfl (Al (AJ 9) (AJ 2))) (AK g b rfl (Al (AJ 11) (AJ 2))))))))))) (AL (CY 5 a (AK l b rfl (Bf (AJ 4)))) (AL (Nb (i:=6) rfl a rfl (Or.inl rfl) (D6 (AJ 5)) (Br (own:=1) (ix:= [3,2]) (N:= ["_law_m","_law_own_here" ,"_law_late" ]) rfl rfl rfl rfl rfl rfl (λ_ _ _ _ _ _=>(Jl 0 c)) (λ_ _ _ _ _ _=>BK) (λ_ _ _ _ _ _=>(AK e b rfl (Ek (AJ 1) (AJ 2) (AJ 0)))))) (AR (AX (AK o b rfl (Ek (AJ 5) (AJ 6) (CJ (Bi rfl (D6 (AK j b rfl (Bf (AJ 5)))) (Br (own:=1) (ix:= [3,2]) (N:= ["_law_m","_law_own_here" ,"_law_late" ]) rfl rfl rfl rfl rfl rfl (λ_ _ _ _ _ _=>(Jl 0 d)) (λ_ _ _ _ _ _=>BK) (λ_ _ _ _ _ _=>(AK e b rfl (Ek (AJ 1) (AJ 2) (AJ 0))))))))))))))))))
theorem Jj:EC ["_law_script","_law_k","_law_cell","_law_digits"] ["_law_script","_law_k"] (BG Ex):=DK
theorem P9 (F:TC K "_law_tape" "_law_tape" Ex f U)(l:Z "abs" =none)(t:Z "int" =none)(u:Z "len" =none):EZ P w K Z Y Q9 (n+1) f U ["_law_script","_law_k"] (Cq K 2 Mf):=by
 have g:=Jj.nd;refine F.ok Jj (λvs H Q E h=> ?_) (λv A outer s H vs Q E B h=> ?_)
 .obtain ⟨T,M,xs,x,_,_,r,hl,_⟩:=h;rw[r.length,hl] <;> rfl
 obtain⟨T,M,xs,x,va,_,r,hl,hF,hQ⟩:=h;unfold Mf at hF;split at hF <;> first | exact hF.elim|skip
 rename_i d k;obtain⟨⟨C,D⟩,hF⟩:=hF;cases r with
 | cons r j=>
 cases j with
 | cons y j=>
 cases j;cases y;obtain⟨a,rfl,o⟩:=Zo r;refine⟨_,(Be (E5 (i:=2) g rfl (Or.inl rfl) A0)
  (Be (Vw (Lx d3 (pv 1) (JZ JK rfl u AA8 (CH (pv 0) E4)) (CU _)) (EG (E5 (i:=2) g rfl (Or.inl rfl) (K6 Et (pv 0) (pv 1) (λ_ _=>rfl)))) Lw)
  (Be (E5 (i:=3) g rfl (Or.inl rfl) (B0 G3 (JZ Mn rfl l boot_abs (CH (pv 2) E4)) (G4 Of rfl t PyProof.Rows.boot_int (CH (Vs dy (JZ Mn rfl l boot_abs (CH (pv 2) E4)) (B0 ZB A0 A0) (CU _)) E4))))
  (EG (NI (ZH (CH (pv 3) (CH (B0 Fg (B0 G3 (B0 Fg (B0 GW (B0 GW (pv 2) (B0 G3 A0 (pv 1))) A0) A0) A0) A0) E4)))))))), ?_⟩
 have hl:(d.map V.int).length=d.length:=AAJ _;have e:∀(c:Int) (p:zu),H p=none->Q (.ref p) (upd H p (.lst [.int ((if c<0 then -c else c)*(if decide ((10:Int)^18<=(if c<0 then -c else c)) then 1 else 0)), .int ((c+7919*k+1) % 2147483647*48271 % 2147483647)])):=λc p hp=>
  hQ _ .tape (λb=>T b\/b=p) _ (aK va.tp hp (Int.mul_nonneg (by split <;> omega) (tN _)) (ACN _ (by decide)) (ACO _ (by decide))) (.tape (.inr rfl)) hF
 refine⟨_,rfl,_,rfl,a,_,rfl, .inl o,_,_,rfl,rfl,_,rfl, ?_⟩;refine jw (λc=> ?_) (λc=> ?_)
 .have z:k<(((d.map V.int).length:Nat):Int):=ABQ c;rw[hl] at z;have hk:k.toNat<d.length:=by omega
  have hv:Jp (d.map V.int) k=some (.int d[k.toNat]):=by
   have q:Jp (d.map V.int) ((k.toNat:Nat):Int)=some (.int d[k.toNat]):=DB (by rw[AAm,AAU hk] <;> rfl)
   rwa [show ((k.toNat:Nat):Int)=k by omega] at q
  refine⟨_,rfl,_,rfl,a,_,_,_,rfl,rfl,o,hv, ?_⟩;refine⟨_,rfl,_,rfl,_,rfl,_,rfl,_,_,rfl,rfl,⟨by decide,by decide,by decide⟩,_,_,rfl,rfl, .inr ⟨_,rfl,_,_,rfl,rfl, .inl (.inr (pW _)), ?_⟩⟩;exact⟨_,rfl,_,rfl,_,rfl,_,_,rfl,rfl, .inl (.inl ⟨by decide,by decide⟩),_,_,rfl,rfl,_,_,rfl,rfl,_,_,rfl,rfl,(show (0:Int)<2147483647 by decide),_,_,rfl,rfl, .inl (.inr ⟨by decide,by decide⟩),_,_,rfl,rfl,(show (0:Int)<2147483647 by decide),(show 2<=sizeLine by decide),λp hp=>e _ p hp⟩
 .refine ⟨_,rfl,_,rfl,_,rfl,_,rfl,_,_,rfl,rfl,⟨by decide,by decide,by decide⟩,_,_,rfl,rfl, .inr ⟨_,rfl,_,_,rfl,rfl, .inl (.inr (pW _)), ?_⟩⟩;exact⟨_,rfl,_,rfl,_,rfl,_,_,rfl,rfl, .inl (.inl ⟨by decide,by decide⟩),_,_,rfl,rfl,_,_,rfl,rfl,_,_,rfl,rfl,(show (0:Int)<2147483647 by decide),_,_,rfl,rfl, .inl (.inr ⟨by decide,by decide⟩),_,_,rfl,rfl,(show (0:Int)<2147483647 by decide),(show 2<=sizeLine by decide),λp hp=>e 0 p hp⟩
theorem XG (F:Z1 K "common" NQ f U):Z2 P w K Z Y n f U ["one","other"] 2 GN:=Dc F DK rfl λ_ _ _ _ _ _ a b=>(AL (Gk AAQ (FQ (O1 a) (AJ 1) AH) (AR (Us (i:=0) (j:=1) rfl b rfl rfl (by decide) rfl rfl (Al (AJ 1) (Ag NY (AJ 0) (AJ 1))) rfl))) (AR (AX (AJ 0))))
theorem cK (F:Z1 K "part" Uh f U)(c:Re P w K Z Y n)(a:Z "abs" =none):Z2 P w K Z Y n f U ["top","bottom","shared"] 2 FV:=Dc F DK rfl λ_ _ _ _ _ _ d b=>(AL (CY 2 b (AK c d rfl (Al (BM Qb rfl a boot_abs (Bf (AJ 0))) (BM Qb rfl a boot_abs (Bf (AJ 1)))))) (AL (BN (FQ Gj (AJ 1) AH) (AR (CY 2 b (Eg (AJ 2)))) A1) (AR (AX (Ae (Al (Ag Ey (AJ 0) (AJ 2)) (Ag Ey (AJ 1) (AJ 2))))))))
theorem cM (F:Z1 K "plus" Ui f U)(a:My P w K Z Y n):Z2 P w K Z Y n f U ["one","other"] 2 Jw:=Dc F DK rfl λ_ _ _ _ _ _ b _=>(AR (AX (AK a b rfl (Al (Ag BA (Ag A8 (AU (AJ 0) AH) (AU (AJ 1) AH)) (Ag A8 (AU (AJ 1) AH) (AU (AJ 0) AH))) (Ag A8 (AU (AJ 0) AH) (AU (AJ 1) AH))))))
theorem XF (F:Z1 K "before" NP f U):Z2 P w K Z Y n f U ["one","other"] 2 Ar:=Dc F DK rfl λ_ _ _ _ _ _ _ _=>(AR (AX (Ds Gj (Ag A8 (AU (AJ 0) AH) (AU (AJ 1) AH)) (Ag A8 (AU (AJ 1) AH) (AU (AJ 0) AH)) (CU _))))
theorem ND (F:Z1 K "count_below" FA f U)(b:Rc P w K Z Y n)(c:Z "len" =none):Z2 P w K Z Y n f U ["numbers","number","low","high","middle"] 2 C5:=Dc F DK rfl λ_ _ _ _ _ _ d a=>(AL (CY 2 a AH) (AL (CY 3 a (BM Fq rfl c AA8 (Bf (AJ 0)))) (AL (Gk AAQ (FQ Gj (AJ 2) (AJ 3)) (AL (CY 4 a (Ag Ey (Ag BA (AJ 2) (AJ 3)) AH)) (AR (BN (B3 (AK b d rfl (Al (AU (AJ 0) (AJ 4)) (AJ 1)))) (AR (CY 2 a (Ag BA (AJ 4) AH))) (AR (CY 3 a (AJ 4))))))) (AR (AX (AJ 2))))))
theorem XI (F:Z1 K "rising" NS f U)(c:OB P w K Z Y n)(d:Z "len" =none):Z2 P w K Z Y n f U ["numbers","told","number","at"] 1 GP:=Dc F DK rfl λ_ _ _ _ _ _ a b=>(AL (D8 (i:=1) b rfl (Or.inl rfl) (BU D4)) (AL (Bu AAQ rfl (D6 (AJ 0)) (D5 2 b) (AL (CY 3 b (Qe (AK c a rfl (Al (AJ 1) (AJ 2))))) (AR (BN (Z8 (GA (O4 (FQ (EB a) (AJ 3) (BM Fq rfl d AA8 (Bf (AJ 1)))) (Kg (FQ (O1 a) (AU (AJ 1) (AJ 3)) (AJ 2)))))) (AR (CL (i:=1) ADu ADv O0 (Al (AJ 3) (AJ 2)))) A1)))) (AR (AX (AJ 1)))))
theorem K7:EC ["stretches","steps","begin","held","end","first","last"] ["stretches"] (BG Fp):=DK
theorem SB (F:TC K "steps_of" "steps_of" Fp f U):EZ P w K Z Y Q9 (n+1) f U ["stretches"] (Cq K 1 Gu):=by
 have a:=K7.nd;refine F.ok K7 (λvs H Q E h=> ?_) (λb A outer s H vs Q E c h=> ?_)
 .obtain ⟨T,M,xs,d,_,_,r,hl,_⟩:=h;rw[r.length,hl] <;> rfl
 obtain⟨T,M,xs,d,va,_,r,hl,hF,hQ⟩:=h;have hu:=cu c;obtain⟨x,ys,m,rfl,hx,hz,e,hq⟩:=S9 hF;cases r with
 | cons r g=> cases g;refine⟨_,(Be (E5 (i:=1) a rfl (Or.inl rfl) cV) (Be (UX AAQ rfl (ZM (pv 0)) (NG rfl (DY (EF (i:=2) a rfl (Or.inl rfl)) (DY (EF (i:=3) a rfl (Or.inl rfl)) (DY (EF (i:=4) a rfl (Or.inl rfl)) Ja)))) (Be (E5 (i:=5) a rfl (Or.inl rfl) (NF (CH (pv 2) (CH (B0 UT A0 (pv 3)) E4)))) (Be (Vx hu (pv 1) (pv 5) (B0 GW (SM hu (pv 1) (pv 5) A0 ⟨rfl,rfl,rfl,rfl⟩) A0) rfl) (EG (Vw (Lx Vr (pv 4) ZI (CU _)) (Be (E5 (i:=6) a rfl (Or.inl rfl) (NF (CH (pv 4) (CH A0 E4)))) (EG (Vx hu (pv 1) (pv 6) (B0 UT (SM hu (pv 1) (pv 6) A0 ⟨rfl,rfl,rfl,rfl⟩) A0) rfl))) Lw))))) (EG (NI (pv 1))))), ?_⟩;exact Uw va r hx hz e λp j ex k hp=>hQ _ (.dct m) T j (WI va ex) (cr va k hp) hq
theorem XH (F:Z1 K "levels" NR f U)(d:Yc P w K Z Y n)(e:Tw P w K Z Y n)(g:Z "list" =none):Z2 P w K Z Y n f U ["stretches","steps","told","count","moment","side"] 1 GO:=by
 have b:(["moment","side"] :zy Str).Nodup:=by decide +kernel
 exact Dc F DK rfl λ_ _ _ _ _ _ c a=>(AL (CY 1 a (AK e c rfl (Bf (AJ 0)))) (AL (D8 (i:=2) a rfl (Or.inl rfl) (BU D4)) (AL (CY 3 a AH) (AL (Bu AAQ rfl (D6 (AK d c rfl (Bf (CJ (Bi rfl (D6 (CJ (Zt c rfl g boot_list (Bf (AJ 1))))) (Br (own:=2) (ix:= []) (N:= ["moment","side" ]) rfl rfl rfl rfl rfl rfl (λ_ _ _ _ _ _=>(NV (n:=2) rfl (Cp (Jl 0 b) (Cp (Jl 1 b) Jm)))) (λ_ _ _ _ _ _=>BK) (λ_ _ _ _ _ _=>(AJ 0)))))))) (D5 4 a) (AR (Bu AAQ rfl (D6 (Ae (Al AH AH))) (D5 5 a) (AR (BN (iL c (AJ 4) (AJ 5) (AJ 1)) (AL (Z4 (i:=3) a rfl (Or.inl rfl) (cw c (AJ 1) (AJ 4) (AJ 5) (λ_ _=>rfl)) iG) (AR (CL (i:=2) AAt AAu Bo (Bf (Ae (Ek (AJ 4) (AJ 5) (AJ 3))))))) A1))))) (AR (AX (AJ 2)))))))
theorem UO (F:Z1 K "counted" KO f U)(b:Ya P w K Z Y n)(c:Z "tuple" =none):Z2 P w K Z Y n f U ["stretches","n","told","begin","moment","side","count"] 2 EJ:=Dc F DK rfl λ_ _ _ _ _ _ d a=>(AL (D8 (i:=2) a rfl (Or.inl rfl) (BU D4)) (AL (CY 3 a Bh) (AL (Bu AAQ rfl (D6 (AK b d rfl (Bf (AJ 0)))) (CK (n:=3) rfl (Aa (D5 4 a) (Aa (D5 5 a) (Aa (D5 6 a) Bj)))) (AR (BN (GA (D9 (FQ Ft (AJ 3) Bh) (DD (FQ ko (AJ 6) (AJ 1))))) (AR (CY 3 a (Ae (Al (AJ 4) (Ag DF AH (AJ 5)))))) (AR (BN (GA (D9 (FQ Qm (AJ 3) Bh) (DD (FQ Gj (AJ 6) (AJ 1))))) (AL (CL (i:=2) AAt AAu Bo (Bf (Ae (Ek (AU (AJ 3) AH) (AU (AJ 3) AH) (AJ 4))))) (AR (CY 3 a Bh))) A1))))) (AL (BN (FQ Qm (AJ 3) Bh) (AR (CL (i:=2) AAt AAu Bo (Bf (Ae (Ek (AU (AJ 3) AH) (AU (AJ 3) AH) Bh))))) A1) (AR (AX (BL Co rfl c AA4 (Bf (AJ 2)))))))))
theorem SD (F:Z1 K "told_set" Ih f U)(a:Ww P w K Z Y n):Z2 P w K Z Y n f U ["stretches"] 1 EX:=Dc F DK rfl λ_ _ _ _ _ _ b _=>(AR (AX (AK a b rfl (Al (AJ 0) AH))))
theorem R6 (F:Z1 K "later_by" Ia f U)(c:Yb P w K Z Y n)(d:Tx P w K Z Y n):Z2 P w K Z Y n f U ["stretches","by","longer","begin","held","end"] 2 EV:=Dc F DK rfl λ_ _ _ _ _ _ b a=>(AL (D8 (i:=2) a rfl (Or.inl rfl) (BU D4)) (AL (Bu AAQ rfl (D6 (AJ 0)) (CK (n:=3) rfl (Aa (D5 3 a) (Aa (D5 4 a) (Aa (D5 5 a) Bj)))) (AR (CL (i:=2) AAt AAu Bo (Bf (Ae (Ek (AJ 3) (AJ 4) (V8 (FQ Ft (AJ 5) Bh) Bh (AK c b rfl (Al (AJ 5) (AJ 1)))))))))) (AR (AX (AK d b rfl (Bf (AJ 2)))))))
theorem XJ (F:Z1 K "summed" NT f U)(g:Z "max" =none)(h:Z "tuple" =none)(j:Z "zip" =none):Z2 P w K Z Y n f U ["one","many","other","more","numbers","weights","number","weight"] 4 GQ:=by
 have a:(["former","latter","many","more"] :zy Str).Nodup:=by decide +kernel
 have b:(["number","weight","many"] :zy Str).Nodup:=by decide +kernel
 exact Dc F DK rfl λ_ _ _ _ _ _ e c=>(AL (CY 4 c (BL Co rfl h AA4 (Bf (CJ (Bi rfl (XW rfl j (Al (AU (AJ 0) AH) (AU (AJ 2) AH))) (Br (own:=2) (ix:= [1,3]) (N:= ["former","latter" ,"many" ,"more" ]) rfl rfl rfl rfl rfl rfl (λ_ _ _ _ _ _=>(NV (n:=2) rfl (Cp (Jl 0 a) (Cp (Jl 1 a) Jm)))) (λ_ _ _ _ _ _=>BK) (λ_ _ _ _ _ _=>(Ag BA (Ag A8 (AJ 2) (AJ 0)) (Ag A8 (AJ 3) (AJ 1)))))))))) (Z6 (by decide) (by decide) (by decide) (by decide) (by decide) (by decide) (AU (AJ 0) AH) (AU (AJ 2) AH) (λk d=>ZR (i:=5) rfl c rfl (Or.inl rfl) (SN d rfl rfl rfl rfl) (VQ (own:=2) (ix:= [1]) (N:= ["number","weight" ,"many" ]) rfl rfl rfl rfl rfl rfl (YY (Mw (Pg (by decide)) Ln (Mw (Pg (by decide)) Ln Vb Ph) (RX Ln Ph))) (λ_ _ _ _ _ _=>(NG rfl (DY (EF (i:=0) b rfl (Or.inl rfl)) (DY (EF (i:=1) b rfl (Or.inl rfl)) Ja)))) (λ_ _ _ _ _ _=>Vt) (λ_ _ _ _ _ _=>(pv 0))) (λ_ _ _ _ _ _=>(B0 QF (pv 2) (pv 1)))) (λk d=>UX AAQ rfl (SN d rfl rfl rfl rfl) (NG rfl (DY (EF (i:=6) c rfl (Or.inl rfl)) (DY (EF (i:=7) c rfl (Or.inl rfl)) Ja))) (EG (cg (qW e) (pv 5) (pv 6) (B0 GW (ZE (qW e) (pv 5) (pv 6) A0 ⟨rfl,rfl,rfl,rfl⟩) (B0 QF (pv 3) (pv 7))) rfl))) (AR (AX (Ae (Ek (AJ 4) (BM (h9 rfl) rfl g boot_max (Al (AU (AJ 0) AH) (AU (AJ 2) AH))) (AJ 5)))))))
theorem UP (F:Z1 K "crossed" KP f U)(a:Yd P w K Z Y n):Z2 P w K Z Y n f U ["low","high","at"] 3 FJ:=Dc F DK rfl λ_ _ _ _ _ _ b _=>(AR (AX (AK a b rfl (B7 (AJ 0) (Ek (Eg (AU (AU (AJ 1) AH) (AJ 2))) (AJ 1) (AU (AU (AJ 0) AH) (AJ 2)))))))
theorem R5 (F:Z1 K "is_never" IZ f U):Z2 P w K Z Y n f U ["plane","total"] 1 Dh:=Dc F DK rfl λ_ _ _ _ _ _ a b=>(AL (CY 1 b (AU (AU (AJ 0) AH) AH)) (AR (AX (d9 (Ds Gj (AJ 1) AH (CU _)) (Ij (KU (Ds (EB a) (AJ 1) AH (CU _)) (Ij (Ds (EB a) (AU (AJ 0) AH) AH (CU _)))))))))
theorem UR (F:Z1 K "turn_of" KS f U):Z2 P w K Z Y n f U ["plane","at","total","factor"] 2 DG:=Dc F DK rfl λ_ _ _ _ _ _ _ a=>(AL (CY 2 a (AU (AU (AJ 0) AH) AH)) (AL (CY 3 a (AU (AU (AJ 0) AH) (AJ 1))) (AR (AX (V8 (FQ K9 (AJ 3) AH) (Ae (Al (Eg (AJ 2)) (AJ 3))) (Ae (Al (AJ 2) (Eg (AJ 3)))))))))
theorem OJ (F:Z1 K "is_tighter" Fo f U)(b:Rc P w K Z Y n)(c:Op P w K Z Y n):Z2 P w K Z Y n f U ["plane","other","at","here","there"] 3 DQ:=Dc F DK rfl λ_ _ _ _ _ _ a d=>(AL (CY 3 d (AK c a rfl (Al (AJ 0) (AJ 2)))) (AL (CY 4 d (AK c a rfl (Al (AJ 1) (AJ 2)))) (AL (BN (B3 (AK b a rfl (Al (AJ 3) (AJ 4)))) (AR (AX (Ds Gj (AU (AU (AJ 0) AH) (AJ 2)) AH (CU _)))) A1) (AL (BN (B3 (AK b a rfl (Al (AJ 4) (AJ 3)))) (AR (AX (Ds K9 (AU (AU (AJ 0) AH) (AJ 2)) AH (CU _)))) A1) (AR (AX (Ds K9 (AU (AJ 0) AH) (AU (AJ 1) AH) (CU _))))))))
theorem SC (F:Z1 K "tightest" Ig f U)(b:Pn P w K Z Y n):Z2 P w K Z Y n f U ["planes","at","sign","told","plane"] 3 Ci:=Dc F DK rfl λ_ _ _ _ _ _ c a=>(AL (CY 3 a Bh) (AL (Bu AAQ rfl (D6 (AJ 0)) (D5 4 a) (AR (BN (GA (D9 (FQ K9 (Ag A8 (AU (AU (AJ 4) AH) (AJ 1)) (AJ 2)) AH) (DD (GA (O4 (FQ Ft (AJ 3) Bh) (Kg (B3 (AK b c rfl (Ek (AJ 4) (AJ 3) (AJ 1)))))))))) (AR (CY 3 a (AJ 4))) A1))) (AR (AX (AJ 3)))))
theorem R4 (F:Z1 K "fault_in" IY f U)(e:Wx P w K Z Y n)(c:Tp P w K Z Y n)(d:Mz P w K Z Y n):Z2 P w K Z Y n f U ["planes","at","plane","high","both"] 2 EU:=Dc F DK rfl λ_ _ _ _ _ _ a b=>(AL (Bu AAQ rfl (D6 (AJ 0)) (D5 2 b) (AR (BN (GA (D9 (FQ (EB a) (AU (AU (AJ 2) AH) (AJ 1)) AH) (DD (B3 (AK c a rfl (Bf (AJ 2))))))) (AR (AX (AJ 2))) A1))) (AL (CY 3 b (AK d a rfl (Ek (AJ 0) (AJ 1) (Eg AH)))) (AL (BN (FQ Ft (AJ 3) Bh) (AR (AX Bh)) A1) (AL (CY 4 b (AK e a rfl (Ek (AK d a rfl (Ek (AJ 0) (AJ 1) AH)) (AJ 3) (AJ 1)))) (AR (AX (V8 (B3 (AK c a rfl (Bf (AJ 4)))) (AJ 4) Bh)))))))
theorem Y4 (F:Z1 K "minus" QY f U)(a:My P w K Z Y n):Z2 P w K Z Y n f U ["one","other"] 2 Dt:=Dc F DK rfl λ_ _ _ _ _ _ b _=>(AR (AX (AK a b rfl (Al (Ag DF (Ag A8 (AU (AJ 0) AH) (AU (AJ 1) AH)) (Ag A8 (AU (AJ 1) AH) (AU (AJ 0) AH))) (Ag A8 (AU (AJ 0) AH) (AU (AJ 1) AH))))))
theorem cJ (F:Z1 K "over" Ug f U)(a:My P w K Z Y n):Z2 P w K Z Y n f U ["one","other"] 2 Me:=Dc F DK rfl λ_ _ _ _ _ _ b _=>(AR (AX (AK a b rfl (Al (Ag A8 (AU (AJ 0) AH) (AU (AJ 1) AH)) (Ag A8 (AU (AJ 0) AH) (AU (AJ 1) AH))))))
theorem Y6 (F:Z1 K "times" Qa f U)(a:My P w K Z Y n):Z2 P w K Z Y n f U ["one","other"] 2 JE:=Dc F DK rfl λ_ _ _ _ _ _ b _=>(AR (AX (AK a b rfl (Al (Ag A8 (AU (AJ 0) AH) (AU (AJ 1) AH)) (Ag A8 (AU (AJ 0) AH) (AU (AJ 1) AH))))))
theorem KF (F:Z1 K "piece_between" D2 f U)(c:Po P w K Z Y n)(d:fZ P w K Z Y n)(e:bQ P w K Z Y n)(g:Z "zip" =none):Z2 P w K Z Y n f U ["former","latter","span","lines","low","high","slope"] 2 Bw:=Dc F DK rfl λ_ _ _ _ _ _ a b=>(AL (CY 2 b (AK c a rfl (Al (AU (AJ 1) AH) (AU (AJ 0) AH)))) (AL (D8 (i:=3) b rfl (Or.inl rfl) (BU D4)) (AL (Bu AAQ rfl (XW rfl g (Al (Jk (AJ 0) (dE AH) dD) (Jk (AJ 1) (dE AH) dD))) (CK (n:=2) rfl (Aa (D5 4 b) (Aa (D5 5 b) Bj))) (AL (CY 6 b (AK d a rfl (Al (AK c a rfl (Al (AJ 5) (AJ 4))) (AJ 2)))) (AR (CL (i:=3) AAt AAu Bo (Bf (Ae (Al (AK c a rfl (Al (AJ 4) (AK e a rfl (Al (AJ 6) (AU (AJ 0) AH))))) (AJ 6)))))))) (AR (AX (Ae (Ek (AU (AJ 0) AH) (AU (AJ 1) AH) (AJ 3))))))))
theorem QC (F:Z1 K "pieces_of" Gh f U)(b:La P w K Z Y n)(c:Z "len" =none)(d:Z "range" =none):Z2 P w K Z Y n f U ["plan"] 1 Dy:=by
 have a:(["at","plan"] :zy Str).Nodup:=by decide +kernel
 exact Dc F DK rfl λ_ _ _ _ _ _ e _=>(AR (AX (CJ (Bi rfl (F7 rfl d (Bf (Ag DF (BM Fq rfl c AA8 (Bf (AJ 0))) AH))) (Br (own:=1) (ix:= [0]) (N:= ["at","plan" ]) rfl rfl rfl rfl rfl rfl (λ_ _ _ _ _ _=>(Jl 0 a)) (λ_ _ _ _ _ _=>BK) (λ_ _ _ _ _ _=>(AK b e rfl (Al (AU (AJ 1) (AJ 0)) (AU (AJ 1) (Ag BA (AJ 0) AH))))))))))
theorem R7 (F:Z1 K "negative" Ib f U):Z2 P w K Z Y n f U ["number"] 1 Di:=Dc F DK rfl λ_ _ _ _ _ _ _ _=>(AR (AX (Ae (Al (Eg (AU (AJ 0) AH)) (AU (AJ 0) AH)))))
theorem KG (F:Z1 K "shared_bottom" D3 f U)(b:Re P w K Z Y n):Z2 P w K Z Y n f U ["numbers","told","top","bottom"] 1 CP:=Dc F DK rfl λ_ _ _ _ _ _ c a=>(AL (CY 1 a AH) (AL (Bu AAQ rfl (D6 (AJ 0)) (CK (n:=2) rfl (Aa (D5 2 a) (Aa (D5 3 a) Bj))) (AR (Z4 (i:=1) a rfl (Or.inl rfl) (Ag Ey (AJ 3) (AK b c rfl (Al (AJ 1) (AJ 3)))) iH))) (AR (AX (AJ 1)))))
theorem R8 (F:Z1 K "plane_of" Ic f U)(c:Lb P w K Z Y n)(d:Z "tuple" =none):Z2 P w K Z Y n f U ["form","strict","number","shared","numbers"] 3 CD:=by
 have a:(["top","bottom","shared"] :zy Str).Nodup:=by decide +kernel
 exact Dc F DK rfl λ_ _ _ _ _ _ e b=>(AL (Ei (i:=3) b rfl (Or.inr rfl) (AK c e rfl (Bf (AJ 0)))) (AL (CY 4 b (BL Co rfl d AA4 (Bf (CJ (Bi rfl (D6 (AJ 0)) (Br (own:=2) (ix:= [3]) (N:= ["top","bottom" ,"shared" ]) rfl rfl rfl rfl rfl rfl (λ_ _ _ _ _ _=>(NV (n:=2) rfl (Cp (Jl 0 a) (Cp (Jl 1 a) Jm)))) (λ_ _ _ _ _ _=>BK) (λ_ _ _ _ _ _=>(Ag A8 (AJ 0) (Ag Ey (AJ 2) (AJ 1)))))))))) (AR (AX (Ae (Ek (AJ 4) (AJ 1) (iD (AJ 2) (AJ 3))))))))
theorem QD (F:Z1 K "planes_in" Gi f U)(g:Po P w K Z Y n)(h:Tt P w K Z Y n)(e:Tu P w K Z Y n)(j:Z "len" =none)(k:Z "zip" =none)(a:Kc K Z "BACK" (.tup [(.int (-1)),(.int 1)]))(b:Kc K Z "ONCE" (.tup [(.int 1),(.int 1)])):Z2 P w K Z Y n f U ["piece","walls","planes","begin","end","lines","base","slope","low","high"] 2 Dz:=Dc F DK rfl λ_ _ _ _ _ _ c d=>(AL (KY (AJ 0) (CK (n:=3) rfl (Aa (D5 3 d) (Aa (D5 4 d) (Aa (D5 5 d) Bj))))) (AL (D8 (i:=2) d rfl (Or.inl rfl) (BU (Al (AK e c rfl (Ek (Ae (Al (AK h c rfl (Bf (AJ 3))) (Sc b rfl))) AH AH)) (AK e c rfl (Ek (Ae (Al (AJ 4) (Sc a rfl))) AH AH))))) (AL (Bu AAQ rfl (XW rfl k (Al (AJ 5) (AJ 1))) (CK (n:=2) rfl (Aa (CK (n:=2) rfl (Aa (D5 6 d) (Aa (D5 7 d) Bj))) (Aa (CK (n:=2) rfl (Aa (D5 8 d) (Aa (D5 9 d) Bj))) Bj))) (AL (CL (i:=2) AAt AAu Bo (Bf (Qe (AK e c rfl (Ek (Ae (Al (AK g c rfl (Al (AJ 6) (AJ 8))) (AJ 7))) AH (BM Fq rfl j AA8 (Bf (AJ 2)))))))) (AR (CL (i:=2) AAt AAu Bo (Bf (Qe (AK e c rfl (Ek (Ae (Al (AK g c rfl (Al (AJ 9) (AJ 6))) (AK h c rfl (Bf (AJ 7))))) AH (BM Fq rfl j AA8 (Bf (AJ 2))))))))))) (AR (AX (AJ 2))))))
theorem R9 (F:Z1 K "range_in" Ie f U)(c:My P w K Z Y n)(d:Mz P w K Z Y n)(e:Op P w K Z Y n):Z2 P w K Z Y n f U ["planes","at","low","least","high","greatest"] 2 EW:=Dc F DK rfl λ_ _ _ _ _ _ a b=>(AL (CY 2 b (AK d a rfl (Ek (AJ 0) (AJ 1) AH))) (AL (CY 3 b (AK e a rfl (Al (AJ 2) (AJ 1)))) (AL (CY 3 b (AK c a rfl (Al (AU (AJ 3) AH) (AU (AJ 3) AH)))) (AL (CY 4 b (AK d a rfl (Ek (AJ 0) (AJ 1) (Eg AH)))) (AL (BN (FQ Ft (AJ 4) Bh) (AR (AX (Ae (Ek (AJ 3) (Ag DF AH (AU (AJ 2) AH)) Bh)))) A1) (AL (CY 5 b (AK e a rfl (Al (AJ 4) (AJ 1)))) (AR (AX (Ae (Ek (AJ 3) (Ag DF AH (AU (AJ 2) AH)) (AK c a rfl (Al (AU (AJ 5) AH) (AU (AJ 5) AH)))))))))))))
theorem QA (F:Z1 K "own_stays" Gg f U)(c:To P w K Z Y n)(d:Rg P w K Z Y n)(e:Rh P w K Z Y n)(g:Tv P w K Z Y n):Z2 P w K Z Y n f U ["plan","walls","told","piece","planes"] 2 Dx:=Dc F DK rfl λ_ _ _ _ _ _ a b=>(AL (D8 (i:=2) b rfl (Or.inl rfl) (BU D4)) (AL (Bu AAQ rfl (D6 (AK d a rfl (Bf (AJ 0)))) (D5 3 b) (AL (CY 4 b (AK e a rfl (Al (AJ 3) (AJ 1)))) (AR (BN (FQ Ft (AK c a rfl (Al (AJ 4) AH)) Bh) (AR (CL (i:=2) AAt AAu Bo (Bf (AK g a rfl (Al (AJ 4) AH))))) A1)))) (AR (AX (AJ 2)))))
theorem UQ (F:Z1 K "size_of" KQ f U):Z2 P w K Z Y n f U ["apart","side"] 2 EM:=Dc F DK rfl λ_ _ _ _ _ _ a _=>(AR (AX (V8 (FQ (EB a) (AJ 1) AH) (AU (AJ 0) AH) (AU (AJ 0) AH))))
theorem SH (F:Z1 K "walls_of" Ii f U)(c:Po P w K Z Y n)(d:Yb P w K Z Y n)(e:Wy P w K Z Y n)(g:Z "range" =none):Z2 P w K Z Y n f U ["room","bounds","told","side","off"] 2 EY:=Dc F DK rfl λ_ _ _ _ _ _ a b=>(AL (D8 (i:=2) b rfl (Or.inl rfl) (BU D4)) (AL (Bu AAQ rfl (F7 rfl g (Bf AH)) (D5 3 b) (AL (CY 4 b (AK e a rfl (Al (AJ 1) (AJ 3)))) (AR (CL (i:=2) AAt AAu Bo (Bf (Ae (Al (AK c a rfl (Al (AU (AU (AJ 0) AH) (AJ 3)) (AJ 4))) (AK d a rfl (Al (AU (AU (AJ 0) AH) (AJ 3)) (AJ 4)))))))))) (AR (AX (AJ 2)))))
theorem Y5 (F:Z1 K "stays" QZ f U)(c:Tq P w K Z Y n)(d:Rf P w K Z Y n)(e:Tz P w K Z Y n):Z2 P w K Z Y n f U ["flight","room","plan","bounds"] 2 JD:=Dc F DK rfl λ_ _ _ _ _ _ a b=>(AL (KY (AJ 0) (CK (n:=2) rfl (Aa (D5 2 b) (Aa (D5 3 b) Bj)))) (AR (AX (AK c a rfl (Al (AK d a rfl (Al (AJ 2) (AK e a rfl (Al (AJ 1) (AJ 3))))) (AU (AJ 3) AH))))))
theorem gR (F:Z1 K "law" Oy f U)(e:N9 P w K Z Y n)(g:Pi P w K Z Y n)(c:Ck P w K Z Y n)(h:Tl P w K Z Y n)(i:Pk P w K Z Y n)(j:RY P w K Z Y n)(k:RZ P w K Z Y n)(l:Ra P w K Z Y n)(o:J3 P w K Z Y n)(p:Rb P w K Z Y n)(r:bP P w K Z Y n)(s:Z "len" =none)(t:Z "min" =none)(u:Z "range" =none)(d:Z "str" =none):Z2 P w K Z Y n f U ["_law_script","_law_k","_law_tape_here","_law_plan_here","_law_flight","_law_room_here","_law_handed","_law_kept","_law_found"] 1 EK:=Dc F DK rfl λ_ _ _ _ _ _ a b=>(AL (Bu AAQ rfl (F7 rfl u (Bf (Ag BA AH (BM (iA rfl) rfl t boot_min (Al AH (BM Fq rfl s AA8 (Bf (AJ 0)))))))) (D5 1 b) (AL (CY 2 b (AK p a rfl (Al (AJ 0) (AJ 1)))) (AL (CY 3 b (AK j a rfl (Bf (AJ 2)))) (AL (BN (FQ (EB a) (AK c a rfl (Al (AJ 2) AH)) AH) (AR (CY 3 b (AK h a rfl (Bf (AJ 3))))) A1) (AL (CY 4 b (Ae (Al (AJ 3) (AK e a rfl (Bf (AJ 2)))))) (AL (CY 5 b (AK k a rfl (Bf (AJ 2)))) (AL (CY 6 b (Ae (Al (AJ 4) (AJ 5)))) (AL (BN (FQ (EB a) (AK c a rfl (Al (AJ 2) AH)) AH) (AR (CY 6 b (AK i a rfl (Al (AJ 4) (AJ 5))))) A1) (AL (CY 7 b (BL (Qc a) rfl d boot_str (Bf (AJ 6)))) (AL (CY 8 b (AK r a rfl (Al (AU (AJ 6) AH) (AU (AJ 6) AH)))) (AL (BN (GA (O4 (KZ (B3 (AK l a rfl (Al (AJ 8) (AK o a rfl (Al (AJ 4) (AJ 5))))))) (Kg (FQ (O1 a) (BL (Qc a) rfl d boot_str (Bf (AJ 6))) (AJ 7))))) (AR (AX Ha)) A1) (AR (BN (KZ (B3 (AK g a rfl (B7 (AJ 2) (Ek (AJ 4) (AJ 5) (AJ 8)))))) (AR (AX Ha)) A1))))))))))))) (AR (AX Ha)))
end
def fb {P:zp}{w:zm}{K:AAB}{Z:Str->zt zx}{Y:zl}{k:Nat}{x:Str}{st:Stmt}{a:zy Str}{sp:Sp}{f:zu}{U:FuncData}(F:TC K x x st f U)(b:Binds K U a [])(m:Z x=some (.ref f))(G:EZ P w K Z Y Q9 k f U a sp):Has P w K Z Y k x a sp:=⟨f,U,m,F.kp,b,G⟩
def jy {us:zy zx}(hl:us.length=1):∃a:zx,us= [a] :=by match us,hl with | [a],_=>exact⟨_,rfl⟩
def jz {us:zy zx}(hl:us.length=2):∃a b:zx,us= [a,b] :=by match us,hl with | [a,b],_=>exact⟨_,_,rfl⟩
def j0 {us:zy zx}(hl:us.length=3):∃a b c:zx,us= [a,b,c] :=by match us,hl with | [a,b,c],_=>exact⟨_,_,_,rfl⟩
def j3 {us:zy zx}(hl:us.length=4):∃a b c d:zx,us= [a,b,c,d] :=by match us,hl with | [a,b,c,d],_=>exact⟨_,_,_,_,rfl⟩
def DA (K:AAB)(x:Str)(st:Stmt)(f:zu):Prop:=PySem.W.nsIn K mainGlobals x=some (some (.ref f))/\∃U,TC K x x st f U
def tM {K:AAB}{x:Str}{st:Stmt}{f:zu}{g:zx}{h i:zt zu}{d:Array (zt zx)}{kV e j b ct:zx}(a:PySem.W.nsIn K mainGlobals x=some (some (.ref f)))(l:K.lookup f=some ⟨g,h, .func (PySem.W.fnOf x x (Fb st) (Dv st) (BG st) .none kV e j i b ct),d⟩)(c:PySem.W.codeIn K b x=true)(k:PySem.W.keepIn K (.ref f)=true):DA K x st f:=⟨a,_,YW l c k⟩
def mX {P:zp}{w:zm}{K:AAB}{h Y:zl}{Z:Str->zt zx}{k:Nat}{x:Str}{st:Stmt}{c:zy Str}{sp:Sp}{f:zu}(A:DA K x st f)(X:K.In h)(G:h.Ns mainGlobals Z)(g:∀U,TC K x x st f U->Binds K U c [] ->Z x=some (.ref f)->EZ P w K Z Y Q9 k f U c sp)(b:∀U,TC K x x st f U->Binds K U c [] :=by exact λ_ F=>F.binds λ_ _ _ _ _ _ us hl=>by first | (obtain⟨_,rfl⟩:=jy hl;rfl)|(obtain⟨_,_,rfl⟩:=jz hl;rfl)|(obtain⟨_,_,_,rfl⟩:=j0 hl;rfl)|(obtain⟨_,_,_,_,rfl⟩:=j3 hl;rfl)):Has P w K Z Y k x c sp:=
 let ⟨a,U,F⟩:=A;fb F (b U F) (ACP X G a) (g U F (b U F) (ACP X G a))
def all_mk {l:PySem.W.OpenLaw}{w:zm}{K:AAB}{h:zl}{Z:Str->zt zx}{fa f1 f2 f3 f4 f5 f6 f7 f8 f9 L M N O P Q R S T f19 f20 f21 f22 f23 f24 f25 f26 f27 f28 f29 f30 f31 f32 f33 f34 f35 f36 f37 f38 f39 f40 f41 f42 f43 f44 f45 f46 f47 f48 f49 f50 f51 f52 f53 f54 f55 f56 f57 f58 f59 f60 f61:zu}(X:K.In h)(G:h.Ns mainGlobals Z)(t7:Z "law" =some (.ref fa))(a1:DA K "_law_draw" Ew f1)(a2:DA K "_law_bounds" E7 f2)(a3:DA K "_law_less" GZ f3)(a4:DA K "_law_is_in" Fi f4)(a5:DA K "_law_part" Ga f5)(a6:DA K "_law_product" Ef f6)(a7:DA K "_law_sum" IX f7)(a8:DA K "_law_middles" Ee f8)(a9:DA K "_law_rising" E9 f9)(a10:DA K "_law_off" IU L)(a11:DA K "_law_ratio" Fn M)(a12:DA K "_law_spot" Gf N)(a13:DA K "_law_comes" Fh O)(a14:DA K "_law_far" IT P)(a15:DA K "_law_lists" Fj Q)(a16:DA K "_law_place" Fl R)(a17:DA K "_law_span" Ge S)(a18:DA K "_law_plan" Gb T)(a19:DA K "_law_room" Gc f19)(a20:DA K "_law_same" Gd f20)(a21:DA K "_law_box" IS f21)(a22:DA K "_law_may_be" E8 f22)(a23:DA K "_law_is_inside" Dq f23)(a24:DA K "_law_marks" Fk f24)(a25:DA K "_law_set" IW f25)(a26:DA K "_law_own" IV f26)(a27:DA K "_law_stays_due" Dr f27)(a28:DA K "_law_tape" Ex f28)(a29:DA K "common" NQ f29)(a30:DA K "part" Uh f30)(a31:DA K "plus" Ui f31)(a32:DA K "before" NP f32)(a33:DA K "count_below" FA f33)(a34:DA K "rising" NS f34)(a35:DA K "steps_of" Fp f35)(a36:DA K "levels" NR f36)(a37:DA K "counted" KO f37)(a38:DA K "told_set" Ih f38)(a39:DA K "later_by" Ia f39)(a40:DA K "summed" NT f40)(a41:DA K "crossed" KP f41)(a42:DA K "is_never" IZ f42)(a43:DA K "turn_of" KS f43)(a44:DA K "is_tighter" Fo f44)(a45:DA K "tightest" Ig f45)(a46:DA K "fault_in" IY f46)(a47:DA K "minus" QY f47)(a48:DA K "over" Ug f48)(a49:DA K "times" Qa f49)(a50:DA K "piece_between" D2 f50)(a51:DA K "pieces_of" Gh f51)(a52:DA K "negative" Ib f52)(a53:DA K "shared_bottom" D3 f53)(a54:DA K "plane_of" Ic f54)(a55:DA K "planes_in" Gi f55)(a56:DA K "range_in" Ie f56)(a57:DA K "own_stays" Gg f57)(a58:DA K "size_of" KQ f58)(a59:DA K "walls_of" Ii f59)(a60:DA K "stays" QZ f60)(E:DA K "law" Oy f61)(o:PySem.W.nsIn K mainGlobals "abs" =some none)(p:PySem.W.nsIn K mainGlobals "all" =some none)(r:PySem.W.nsIn K mainGlobals "any" =some none)(a:PySem.W.nsIn K mainGlobals "enumerate" =some none)(t:PySem.W.nsIn K mainGlobals "int" =some none)(u:PySem.W.nsIn K mainGlobals "len" =some none)(d:PySem.W.nsIn K mainGlobals "list" =some none)(x:PySem.W.nsIn K mainGlobals "max" =some none)(y:PySem.W.nsIn K mainGlobals "min" =some none)(b:PySem.W.nsIn K mainGlobals "range" =some none)(z:PySem.W.nsIn K mainGlobals "str" =some none)(c:PySem.W.nsIn K mainGlobals "tuple" =some none)(A:PySem.W.nsIn K mainGlobals "zip" =some none){qBACK_2:Tok}{qBACK_3:Tok}{qBACK_1:zu}{qBACK_1n:Nat}{qBACK_1d:zt zu}{qBACK_1s:Array (zt zx)}{qONCE_5:Tok}{qONCE_6:Tok}{qONCE_4:zu}{qONCE_4n:Nat}{qONCE_4d:zt zu}{qONCE_4s:Array (zt zx)}(a_ONCE:PySem.W.nsIn K mainGlobals "ONCE" =some (some (.ref qONCE_4)))(a_BACK:PySem.W.nsIn K mainGlobals "BACK" =some (some (.ref qBACK_1)))(h_qBACK_1:K.lookup qBACK_1=some ⟨.type "tuple",qBACK_1d, .seq (List.toArray [(.int (-1) qBACK_2),(.int 1 qBACK_3)]) qBACK_1n,qBACK_1s⟩)(h_qONCE_4:K.lookup qONCE_4=some ⟨.type "tuple",qONCE_4d, .seq (List.toArray [(.int 1 qONCE_5),(.int 1 qONCE_6)]) qONCE_4n,qONCE_4s⟩):∃U:FuncData,(∀(s:zw) (v:zx),BindsTo s U ⟨[v], []⟩ [("_law_script",v)])/\∀Y:zl,K.In Y->Y.Ns mainGlobals Z->EZ l.prog w K Z Y Q9 9 fa U ["_law_script"] (Cq K 1 EK):=by have e:=t7.symm.trans (ACP X G E.1);cases e;obtain⟨aL,fdL,FL⟩:=E;obtain⟨⟨oc,od,kV,doc,pm,an,cdv,ct,osl,eL,lL,cL⟩,kL⟩:=FL;subst eL;have FL:=YW lL cL kL;have F8:=AAv X G o;have O7:=AAv X G p;have aT:=AAv X G r;have DJ:=AAv X G a;have O8:=AAv X G t;have f:=AAv X G u;have Fw:=AAv X G d;have aU:=AAv X G x;have aW:=AAv X G y;have m:=AAv X G b;have LC:=AAv X G z;have g:=AAv X G c;have C:=AAv X G A;have i:Kc K Z "BACK" (.tup [(.int (-1)),(.int 1)]):=du (ACP X G a_BACK) (V1 h_qBACK_1 (.cons Ly (.cons Ly .nil)));have j:Kc K Z "ONCE" (.tup [(.int 1),(.int 1)]):=du (ACP X G a_ONCE) (V1 h_qONCE_4 (.cons Ly (.cons Ly .nil)));refine⟨PySem.W.fnOf "law" "law" (Fb Oy) (Dv Oy) (BG Oy) .none kV doc pm an cdv ct,λs v=> .of_eq rfl,λY _ _=> ?_⟩;have hs:= @mX l.prog w K h Y Z;have H1:=hs a1 X G λ_ F _ _=>P1 (n:=0) F;have H2:=hs a2 X G λ_ F _ _=>NA (n:=1) F (BO H1);have B:=hs a3 X G λ_ F _ _=>P2 (n:=0) F;have H4:=hs a4 X G λ_ F _ _=>OE (n:=1) F (BO B) aT;have D:=hs a5 X G λ_ F _ _=>P3 (n:=0) F F8 O8;have J:=hs a6 X G λ_ F _ _=>Le (n:=1) F (BO D);have k:=hs a7 X G λ_ F _ _=>R3 (n:=1) F (BO D);have H8:=hs a8 X G λ_ F _ _=>Ld (n:=2) F (BO J) (BO k) C;have H9:=hs a9 X G λ_ F _ _=>NC (n:=1) F (BO B) f;have H:=hs a10 X G λ_ F _ _=>Rz (n:=1) F (BO D);have pJ:=hs a11 X G λ_ F _ _=>OI (n:=1) F (BO D);have pK:=hs a12 X G λ_ F _ _=>P8 (n:=2) F (BO B) (BO H) (BO J) (BO pJ) (BO k) m g C;have rm:=hs a13 X G λ_ F _ _=>OD (n:=3) F (BO H1) (BO H4) (BO B) (BO H8) (BO J) (BO H9) (BO pK) (BO k) O7 f m;have rp:=hs a14 X G λ_ F _ _=>Ry (n:=2) F (BO k) g;have rq:=hs a15 X G λ_ F _ _=>OF (n:=0) F Fw;have pL:=hs a16 X G λ_ F _ _=>OH (n:=1) F (BO H1) (BO D);have pM:=hs a17 X G λ_ F _ _=>P7 (n:=1) F (BO H1) (BO D);have sA:=hs a18 X G λ_ F _ _=>P4 (n:=2) F (BO H1) (BO pL) (BO pM) (BO k) f g;have sB:=hs a19 X G λ_ F _ _=>P5 (n:=2) F (BO H1) (BO H) (BO pL) (BO pM) (BO k) m g;have sC:=hs a20 X G λ_ F _ _=>P6 (n:=0) F LC;have sD:=hs a21 X G λ_ F _ _=>Rx (n:=2) F (BO H) (BO k) m g;have sE:=hs a22 X G λ_ F _ _=>NB (n:=2) F (BO B) (BO H);have sF:=hs a23 X G λ_ F _ _=>JW (n:=3) F (BO B) (BO pK) O7 m;have sG:=hs a24 X G λ_ F _ _=>OG (n:=2) F (BO B) (BO H) (BO J) (BO pJ) (BO H9) (BO k) DJ C;have pN:=hs a25 X G λ_ F _ _=>R1 (n:=0) F DJ g;have sH:=hs a26 X G λ_ F _ _=>R0 (n:=4) F (BO sF) (BO sG) (BO H8) (BO pN);have sI:=hs a27 X G λ_ F _ _=>JX (n:=5) F (BO sD) (BO sE) (BO H8) (BO sH) (BO H9) (BO pN) (BO k);have sJ:=hs a28 X G λ_ F _ _=>P9 (n:=0) F F8 O8 f;have pO:=hs a29 X G λ_ F _ _=>XG (n:=0) F;have I:=hs a30 X G λ_ F _ _=>cK (n:=1) F (BO pO) F8;have pP:=hs a31 X G λ_ F _ _=>cM (n:=2) F (BO I);have pQ:=hs a32 X G λ_ F _ _=>XF (n:=0) F;have sK:=hs a33 X G λ_ F _ _=>ND (n:=1) F (BO pQ) f;have sL:=hs a34 X G λ_ F _ _=>XI (n:=2) F (BO sK) f;have sM:=hs a35 X G λ_ F _ _=>SB (n:=0) F;have sN:=hs a36 X G λ_ F _ _=>XH (n:=3) F (BO sL) (BO sM) Fw;have sO:=hs a37 X G λ_ F _ _=>UO (n:=4) F (BO sN) g;have sP:=hs a38 X G λ_ F _ _=>SD (n:=5) F (BO sO);have sQ:=hs a39 X G λ_ F _ _=>R6 (n:=6) F (BO pP) (BO sP);have sR:=hs a40 X G λ_ F _ _=>XJ (n:=0) F aU g C;have sS:=hs a41 X G λ_ F _ _=>UP (n:=1) F (BO sR);have sT:=hs a42 X G λ_ F _ _=>R5 (n:=0) F;have pR:=hs a43 X G λ_ F _ _=>UR (n:=0) F;have sU:=hs a44 X G λ_ F _ _=>OJ (n:=1) F (BO pQ) (BO pR);have pS:=hs a45 X G λ_ F _ _=>SC (n:=2) F (BO sU);have sV:=hs a46 X G λ_ F _ _=>R4 (n:=3) F (BO sS) (BO sT) (BO pS);have l9:=hs a47 X G λ_ F _ _=>Y4 (n:=2) F (BO I);have sW:=hs a48 X G λ_ F _ _=>cJ (n:=2) F (BO I);have sX:=hs a49 X G λ_ F _ _=>Y6 (n:=2) F (BO I);have sY:=hs a50 X G λ_ F _ _=>KF (n:=3) F (BO l9) (BO sW) (BO sX) C;have sZ:=hs a51 X G λ_ F _ _=>QC (n:=4) F (BO sY) f m;have sd:=hs a52 X G λ_ F _ _=>R7 (n:=0) F;have sf:=hs a53 X G λ_ F _ _=>KG (n:=1) F (BO pO);have sj:=hs a54 X G λ_ F _ _=>R8 (n:=2) F (BO sf) g;have sw:=hs a55 X G λ_ F _ _=>QD (n:=3) F (BO l9) (BO sd) (BO sj) f C i j;have tE:=hs a56 X G λ_ F _ _=>R9 (n:=3) F (BO I) (BO pS) (BO pR);have tF:=hs a57 X G λ_ F _ _=>QA (n:=5) F (BO sV) (BO sZ) (BO sw) (BO tE);have tG:=hs a58 X G λ_ F _ _=>UQ (n:=0) F;have tH:=hs a59 X G λ_ F _ _=>SH (n:=3) F (BO l9) (BO pP) (BO tG) m;have tI:=hs a60 X G λ_ F _ _=>Y5 (n:=7) F (BO sQ) (BO tF) (BO tH);exact gR (n:=8) FL (BO H2) (BO rm) (BO H1) (BO rp) (BO rq) (BO sA) (BO sB) (BO sC) (BO sI) (BO sJ) (BO tI) f aW m LC
def walk {l:PySem.W.OpenLaw}{q:zp}{loose:zy Str}{XP:(Str->zt zx)->zl->Prop}{YP:zm->zl->Prop}{d:DefRec}{K:Params->AAB}(c:l.most=some 63)(e:d.params.defaults= [])(g:∀(w:zm) (h:zl),YP w h->(K w.params).In h)(F:∀(w:zm) (Z:Str->zt zx) (b:zu) (h:zl),(K w.params).In h->h.Ns mainGlobals Z->Z d.name=some (.ref b)-> ∃U:FuncData,(∀(s:zw) (u:zx),BindsTo s U ⟨[u], []⟩ [("_law_script",u)])/\∀Y:zl,(K w.params).In Y->Y.Ns mainGlobals Z->EZ l.prog w (K w.params) Z Y Q9 9 b U ["_law_script"] (Cq (K w.params) 1 EK)):PySem.W.WalkO q loose XP YP l.row.toRowW d [] (λf vs=>PySem.call f vs):=
 L2.walk_of (n:=63) (k:=9) (x:="_law_script") (CX:=λ_=>Q9) (sp:=λw=>Cq (K w.params) 1 EK) c (by decide) e ⟨rfl,by decide,by decide,rfl⟩ g F (λ_ _ a i hl _ j=>PL.law_sp j (Yv i hl)) λ_ _ _ _ _ z=>z
def atK {K:AAB}{x:String}{s:Stmt}(m:String)(i c f:Nat)(a:PySem.W.nsIn K mainGlobals (Str.ofString x)=some (some (.ref f)):=by kernel_rfl)(l:K.lookup f=some (fO x s m i c):=by kernel_rfl)(d:PySem.W.codeIn K (.ref c) (Str.ofString x)=true:=by kernel_rfl)(k:PySem.W.keepIn K (.ref f)=true:=by kernel_rfl):DA K (Str.ofString x) s f:=tM a l d k
end K41
open PySem PySem.W PyProof.Rows
def K41.lg:LeftO K41.pwA K41.q [] (λs=>xlAt K41.q [] s&&recOk [] s) (λs=>K41.KA.map s.heap.get?) (λw=>(K41.KK w.params).map λp=>some p.2) 6000:=λw=>PL.map_pair (PL.map5 (K41.l0 w) (K41.l1 w) (K41.l2 w) (K41.l3 w) (K41.l4 w)) (K41.l5 w)
theorem PySem.Challenge.cw_skylanes_k41_stays_between_bounds_holds : PySem.Challenge.rw_skylanes_k41_stays_between_bounds.Holds := by
 refine ⟨K41.w1, ?_⟩
 refine PySem.W.holds_open (q:=K41.q) (loose:= []) (Xt:=λs=>xlAt K41.q [] s&&recOk [] s) (XP:=XL K41.q []) (YP:=InK K41.KK) (N:=6000) K41.lg (InK.of (as:=K41.KA) λ_=>by kernel_rfl) InK.keeps (λs e=>xl_of s (Bool.and_eq_true_iff.mp e).1) XL.keeps (by rfl) (by rfl) (by rfl) (λs e=>recFacts_of (Bool.and_eq_true_iff.mp e).2) (by rfl) K41.w0 (by decide +kernel) ⟨rfl,rfl,rfl,rfl,rfl,by decide +kernel⟩ ?hw ?hc
 (case hw=>w_witness2)
 case hc=>
 refine K41.walk (l:=PySem.Challenge.rw_skylanes_k41_stays_between_bounds) (K:=K41.KK) rfl rfl (λw h Y=>Y) ?F
 intro w mg fa h KX G jk
 refine' K41.all_mk KX G jk (K41.atK K41.m0 511 245 246) (K41.atK K41.m0 511 315 316) (K41.atK K41.m0 511 259 260) (K41.atK K41.m0 511 369 370) (K41.atK K41.m0 511 252 253) (K41.atK K41.m0 511 280 281) (K41.atK K41.m0 511 266 267) (K41.atK K41.m0 511 352 353) (K41.atK K41.m0 511 337 338) (K41.atK K41.m0 511 273 274) (K41.atK K41.m0 511 287 288) (K41.atK K41.m0 511 325 326) (K41.atK K41.m0 511 396 397) (K41.atK K41.m0 511 320 321) (K41.atK K41.m0 511 374 375) (K41.atK K41.m0 511 294 295) (K41.atK K41.m0 511 301 302) (K41.atK K41.m0 511 308 309) (K41.atK K41.m0 511 330 331) (K41.atK K41.m0 511 403 404) (K41.atK K41.m0 511 379 380) (K41.atK K41.m0 511 386 387) (K41.atK K41.m0 511 347 348) (K41.atK K41.m0 511 342 343) (K41.atK K41.m0 511 359 360) (K41.atK K41.m0 511 364 365) (K41.atK K41.m0 511 391 392) (K41.atK K41.m0 511 238 239) (K41.atK K41.m1 187 20 21) (K41.atK K41.m1 187 27 28) (K41.atK K41.m1 187 34 35) (K41.atK K41.m1 187 62 63) (K41.atK K41.m1 187 76 77) (K41.atK K41.m1 187 83 84) (K41.atK K41.m2 277 90 91) (K41.atK K41.m2 277 95 96) (K41.atK K41.m2 277 102 103) (K41.atK K41.m2 277 109 110) (K41.atK K41.m2 277 116 117) (K41.atK K41.m3 340 133 134) (K41.atK K41.m3 340 140 141) (K41.atK K41.m3 340 147 148) (K41.atK K41.m3 340 154 155) (K41.atK K41.m3 340 161 162) (K41.atK K41.m3 340 168 169) (K41.atK K41.m3 340 175 176) (K41.atK K41.m1 187 41 42) (K41.atK K41.m1 187 55 56) (K41.atK K41.m1 187 48 49) (K41.atK K41.m4 426 198 199) (K41.atK K41.m4 426 203 204) (K41.atK K41.m4 426 191 192) (K41.atK K41.m1 187 69 70) (K41.atK K41.m3 340 128 129) (K41.atK K41.m5 461 217 218) (K41.atK K41.m3 340 182 183) (K41.atK K41.m5 461 224 225) (K41.atK K41.m6 330 123 124) (K41.atK K41.m5 461 210 211) (K41.atK K41.m5 461 231 232) (K41.atK K41.m0 511 410 411) (by kernel_rfl) (by kernel_rfl) (by kernel_rfl) (by kernel_rfl) (by kernel_rfl) (by kernel_rfl) (by kernel_rfl) (by kernel_rfl) (by kernel_rfl) (by kernel_rfl) (by kernel_rfl) (by kernel_rfl) (by kernel_rfl) ?a_ONCE ?a_BACK ?h_qBACK_1 ?h_qONCE_4 (qBACK_1:=185) (qBACK_1n:=0) (qBACK_1d:=none) (qBACK_1s:= #[]) (qBACK_2:=432) (qBACK_3:=433) (qONCE_4:=184) (qONCE_4n:=0) (qONCE_4d:=none) (qONCE_4s:= #[]) (qONCE_5:=428) (qONCE_6:=429)
 (case a_ONCE=>kernel_rfl)
 (case a_BACK=>kernel_rfl)
 (case h_qBACK_1=>kernel_rfl)
 (case h_qONCE_4=>kernel_rfl)
end
