import PyProof.Rows.All
import KE.KItem
import KE.IntBitsLaws
import PySem.Challenge.RW_skylanes_k40_stays
set_option Elab.async false
set_option linter.all false
set_option maxRecDepth 100000
set_option maxHeartbeats 0
abbrev zy:=@List
abbrev zx:=PySem.Value
abbrev zw:=PySem.Shared
abbrev zu:=PySem.Addr
abbrev zt:=@Option
abbrev zr:=PySem.Expr
abbrev zq:=Bool
abbrev zp:=PySem.Program
abbrev zm:=PySem.World
abbrev zl:=PySem.Heap
abbrev zk:=PySem.Around
abbrev AAA:=@PySem.wpAny_bind
abbrev AAB:=PySem.W.Frag
abbrev AAC:=@if_neg
abbrev AAD:=@PySem.wpAny_pure
abbrev AAE:=@if_pos
abbrev AAF:=@List.mem_cons
abbrev AAG:=@PySem.Heap.lt_size
abbrev AAH:=@PySem.Heap.get?_push_of_some
abbrev AAI:=@Nat.le_refl
abbrev AAJ:=@List.length_map
abbrev AAK:=@List.pairwise_cons
abbrev AAL:=@List.map_cons
abbrev AAM:=@Nat.ne_of_lt
abbrev AAN:=@Bool.false_ne_true
abbrev AAO:=@List.mem_append
abbrev AAP:=@PySem.Heap.get?_push_size
abbrev AAQ:=@List.size_toArray
abbrev AAR:=@PySem.PassesOwn.never
abbrev AAS:=@Nat.lt_of_lt_of_le
abbrev AAT:=@List.getElem?_eq_getElem
abbrev AAU:=@List.map_append
abbrev AAV:=@Option.some.inj
abbrev AAW:=@List.getElem?_set_ne
abbrev AAX:=@if_false
abbrev AAY:=@decide_eq_false
abbrev AAZ:=@List.length_cons
abbrev AAa:=@List.mem_singleton
abbrev AAb:=@Ne.symm
abbrev AAc:=@List.mem_map
abbrev AAd:=@or_false
abbrev AAe:=@Nat.le_trans
abbrev AAf:=@List.mem_append_right
abbrev AAg:=@List.not_mem_nil
abbrev AAh:=@Bool.false_eq_true
abbrev AAi:=@decide_eq_true
abbrev AAj:=@PySem.wpAny_holding
abbrev AAk:=@List.getElem?_map
abbrev AAl:=@PySem.wpAny_field
abbrev AAm:=@Nat.le_of_ble_eq_true
abbrev AAn:=@Bool.and_eq_true
abbrev AAo:=@List.map_map
abbrev AAp:=@List.getElem?_eq_some_iff
abbrev AAq:=@Nat.zero_le
abbrev AAr:=@List.length_append
abbrev AAs:=@Nat.lt_of_le_of_lt
abbrev AAt:=@PySem.F.slot_list_append
abbrev AAu:=@PySem.F.type_list_append
abbrev AAv:=@PySem.wpAny_call_entry
abbrev AAw:=@PySem.wpAny_newObj_type
abbrev AAx:=@Nat.ne_of_gt
abbrev AAy:=@List.any_cons
abbrev AAz:=@PySem.W.mg_none_of
abbrev AA0:=@PySem.wpAny_seqItems
abbrev AA1:=@List.map_congr_left
abbrev AA2:=@List.foldl_cons
abbrev AA3:=@if_true
abbrev AA4:=@PySem.wpAny_mono
abbrev AA5:=@Bool.eq_iff_iff
abbrev AA6:=@List.getElem?_append_right
abbrev AA7:=@Bool.not_true
abbrev AA8:=@List.mem_cons_of_mem
abbrev AA9:=@Nat.lt_irrefl
abbrev ABA:=@PySem.Heap.size_push
abbrev ABB:=@List.getElem?_append_left
abbrev ABC:=@Rat.num_divInt_den
abbrev ABD:=@List.filter_cons
abbrev ABE:=@PyProof.Rows.boot_tuple
abbrev ABF:=@PySem.boot_len
abbrev ABG:=@PySem.wpAny_rule
abbrev ABH:=@PySem.wpAny_standAt
abbrev ABI:=@List.getElem?_replicate
abbrev ABJ:=@List.length_replicate
abbrev ABK:=@PySem.wpAny_callSpecial?_slot
abbrev ABL:=@Int.fdiv_eq_ediv_of_nonneg
abbrev ABM:=@of_decide_eq_true
abbrev ABN:=@of_decide_eq_false
abbrev ABO:=@List.nil_append
abbrev ABP:=@List.find?_cons
abbrev ABQ:=@List.foldl_append
abbrev ABR:=@List.mem_flatMap
abbrev ABS:=@PySem.wpAny_specialOf
abbrev ABT:=@Array.length_toList
abbrev ABU:=@List.mem_cons_self
abbrev ABV:=@PySem.wpAny_passesOwn
abbrev ABW:=@List.of_mem_zip
abbrev ABX:=@List.mem_of_getElem?
abbrev ABY:=@Nat.div_le_self
abbrev ABZ:=@Int.natCast_ediv
abbrev ABa:=@Option.map_eq_some_iff
abbrev ABb:=@PySem.wpAny_isInstance
abbrev ABc:=@PySem.wpAny_truthy_bool
abbrev ABd:=@List.mem_filter
abbrev ABe:=@List.getElem?_set_self
abbrev ABf:=@Int.toNat_natCast
abbrev ABg:=@PyProof.Rows.slot_tuple_getitem
abbrev ABh:=@PySem.Heap.get?_update_self
abbrev ABi:=@List.map_nil
abbrev ABj:=@List.all_eq_true
abbrev ABk:=@List.getElem_mem
abbrev ABl:=@List.take_of_length_le
abbrev ABm:=@PySem.wpAny_setField_rec
abbrev ABn:=@Int.natAbs_neg
abbrev ABo:=@Nat.gcd_comm
abbrev ABp:=@Nat.gcd_pos_of_pos_right
abbrev ABq:=@decide_eq_decide
abbrev ABr:=@List.getLast?_eq_some_getLast
abbrev ABs:=@List.getLast?_cons_cons
abbrev ABt:=@List.mem_of_getLast?
abbrev ABu:=@List.any_eq_true
abbrev ABv:=@Int.natAbs_natCast
abbrev ABw:=@Rat.mul_pos_iff_of_pos_left
abbrev ABx:=@PySem.Paired.length
abbrev ABy:=@PyProof.Rows.callWith_type1
abbrev ABz:=@PySem.Calls.spliced_cons
abbrev AB0:=@List.append_nil
abbrev AB1:=@PySem.mem_of_lookup
abbrev AB2:=@Prod.ext
abbrev AB3:=@PySem.wpAny_typeOf
abbrev AB4:=@PySem.Heap.get?_update_other
abbrev AB5:=@decide_eq_true_eq
abbrev AB6:=@List.drop_eq_getElem_cons
abbrev AB7:=@Rat.div_def
abbrev AB8:=@Nat.gcd_dvd_right
abbrev AB9:=@List.sum_cons
abbrev ACA:=@List.map_drop
abbrev ACB:=@Option.isSome_map
abbrev ACC:=@PySem.F.slot_dict_get
abbrev ACD:=@PySem.F.slot_dict_keyiterator_next
abbrev ACE:=@Nat.zero_add
abbrev ACF:=@Bool.or_eq_true
abbrev ACG:=@Rat.mul_eq_zero
abbrev ACH:=@Int.emod_nonneg
abbrev ACI:=@Int.emod_lt_of_pos
abbrev ACJ:=@PySem.W.mg_of
abbrev ACK:=@PySem.F.slot_tuple_hash
abbrev ACL:=@PySem.wpAny_forIn_list
abbrev ACN:=@PySem.F.slot_tuple_eq
abbrev ACO:=@beq_eq_false_iff_ne
abbrev ACP:=@List.mem_range
abbrev ACQ:=@Nat.le_of_lt
abbrev ACR:=@PySem.wpAny_execs_nil
abbrev ACS:=@List.any_eq_false
abbrev ACT:=@List.nodup_cons
abbrev ACU:=@PySem.Calls.callWith_builtin
abbrev ACV:=@List.reverse_cons
abbrev ACW:=@List.forIn_cons
abbrev ACX:=@Nat.lt_trans
abbrev ACY:=@PySem.wpAny_pyIter_list
abbrev ACZ:=@PySem.F.slot_tuple_iterator_next
abbrev ACa:=@PySem.wpAny_setField
abbrev ACb:=@PySem.Heap.SameBut.update
abbrev ACc:=@PySem.Obj.data_mapFields
abbrev ACd:=@PySem.wpAny_onRaise
abbrev ACe:=@PySem.wpAny_letGo
abbrev ACf:=@PySem.wpAny_attempt
abbrev ACg:=@PySem.F.slot_zip_next
abbrev ACh:=@List.getElem?_set
abbrev ACi:=@Rat.num_divInt
abbrev ACj:=@Nat.le_of_dvd
abbrev ACk:=@Int.natCast_mul
abbrev ACl:=@List.pairwise_append
abbrev ACm:=@List.cons_append
abbrev ACn:=@List.length_nil
abbrev ACo:=@PySem.call_meetsIn
abbrev ACp:=@PySem.wpAny_typeNameOfWhole_keyiter
abbrev ACq:=@List.getElem?_drop
abbrev ACr:=@PySem.wpAny_pyIter_enum
abbrev ACs:=@decide_eq_true_iff
abbrev ACt:=@List.flatMap_cons
abbrev ACu:=@List.dropLast_concat_getLast
abbrev ACv:=@Rat.intCast_mul
abbrev ACw:=@Rat.intCast_lt_intCast
abbrev ACx:=@Rat.le_refl
abbrev ACy:=@PySem.wpAny_tupleItemsOf
abbrev ACz:=@Array.forIn_toList
abbrev AC0:=@Nat.add_assoc
abbrev AC1:=@PySem.isSubtype_tuple_tuple
abbrev AC2:=@List.getElem?_eq_none_iff
abbrev AC3:=@List.filterMap_cons
abbrev AC4:=@List.mem_append_left
abbrev AC5:=@PySem.wpAny_assign_Name
abbrev AC6:=@Int.fmod_eq_emod_of_nonneg
abbrev AC7:=@PySem.Calls.spliced_nil
abbrev AC8:=@PySem.wpAny_Call_Name_kw
abbrev AC9:=@List.length_take
abbrev ADA:=@PySem.noFill_tuple_add
abbrev ADB:=@PySem.F.slot_tuple_add
abbrev ADC:=@PySem.F.entry_tuple_add
abbrev ADD:=@PySem.F.args_tuple_add_2
abbrev ADE:=@PySem.Calls.evalArgs_plain
abbrev ADF:=@List.lookup_cons
abbrev ADG:=@PySem.wpAny_comprehension_free
abbrev ADH:=@List.getD_eq_getElem?_getD
abbrev ADI:=@PySem.wpAny_updateSeq_pair
abbrev ADJ:=@List.drop_eq_nil_of_le
abbrev ADK:=@List.take_succ_cons
abbrev ADL:=@Nat.pow_le_pow_right
abbrev ADM:=@Int.natAbs_mul
abbrev ADN:=@Rat.den_divInt
abbrev ADO:=@Int.sign_eq_one_of_pos
abbrev ADP:=@PySem.F.entry_dict_get
abbrev ADQ:=@PySem.F.args_dict_get_3
abbrev ADR:=@PySem.wpAny_Call_method
abbrev ADS:=@PySem.F.plainAttrs_dict
abbrev ADT:=@PySem.wpAny_dictEntries
abbrev ADU:=@PySem.wpAny_dictEpoch
abbrev ADV:=@PySem.wpAny_updateSeq
abbrev ADW:=@Option.bind_eq_some_iff
abbrev ADX:=@List.map_take
abbrev ADY:=@Prod.mk.injEq
abbrev ADZ:=@List.length_eq_zero_iff
abbrev ADa:=@Rat.intCast_zero
abbrev ADb:=@PySem.W.cellsFrom_some
abbrev ADc:=@PyProof.noPylong_of_log2
abbrev ADd:=@PySem.F.entry_tuple_iterator_next
abbrev ADe:=@PySem.F.args_tuple_iterator_next_1
abbrev ADf:=@Rat.divInt_add_divInt
abbrev ADg:=@Rat.divInt_mul_divInt
abbrev ADh:=@Int.gcd_eq_natAbs_gcd_natAbs
abbrev ADi:=@Int.fdiv_eq_ediv_of_dvd
abbrev ADj:=@Int.sign_eq_neg_one_of_neg
abbrev ADk:=@Rat.divInt_eq_divInt_iff
abbrev ADl:=@PySem.F.type_dict_get
abbrev ADm:=@PySem.F.entry_dict_keyiterator_next
abbrev ADn:=@PySem.F.args_dict_keyiterator_next_1
abbrev ADo:=@Array.getElem?_eq_getElem
abbrev ADp:=@PySem.F.slot_dict_itemiterator_iter
abbrev ADq:=@PySem.F.slot_dict_items
abbrev ADr:=@List.getElem?_zip_eq_some
abbrev ADs:=@PySem.F.slot_list_insert
abbrev ADt:=@PySem.F.type_list_insert
section
namespace L2
open PySem
def E3 (s:Stmt):Arguments:=match s with
 | .FunctionDef _ a _ _ _ _ _ _ _ _=>a
 | _=>{posonlyargs:= [],args:= [],vararg:=none,kwonlyargs:= [],kw_defaults:= [],kwarg:=none,defaults:= [] }
def DS (s:Stmt):zy Stmt:=match s with
 | .FunctionDef _ _ b _ _ _ _ _ _ _=>b
 | _=> []
def A6 (s:Stmt):Scope:=match s with
 | .FunctionDef _ _ _ _ _ _ sc _ _ _=>sc
 | _=>{kind:= .function,names:= [],isGenerator:=false,isCoroutine:=false}
end L2
namespace K40
open PySem L2 PyProof.Rows
abbrev pwA:=PySem.Challenge.pw_skylanes_k40_stays
def top (i:Nat):Stmt:=K40.pwA.main.body.getD i (.Pass ⟨0,0,0,0⟩)
abbrev ET:Stmt:=top 42
abbrev F7:Stmt:=top 43
abbrev HY:Stmt:=top 45
abbrev HU:Stmt:=top 52
abbrev E8:Stmt:=top 61
abbrev F6:Stmt:=top 44
abbrev HV:Stmt:=top 46
abbrev EE:Stmt:=top 47
abbrev FB:Stmt:=top 48
abbrev GC:Stmt:=top 53
abbrev DQ:Stmt:=top 57
abbrev Eb:Stmt:=top 55
abbrev E9:Stmt:=top 56
abbrev ED:Stmt:=top 58
abbrev HX:Stmt:=top 59
abbrev HW:Stmt:=top 60
abbrev FA:Stmt:=top 49
abbrev GB:Stmt:=top 50
abbrev F8:Stmt:=top 51
abbrev F9:Stmt:=top 54
abbrev GA:Stmt:=top 62
abbrev EU:Stmt:=top 41
abbrev MH:Stmt:=top 1
abbrev Ta:Stmt:=top 2
abbrev Tc:Stmt:=top 3
abbrev MG:Stmt:=top 7
abbrev Ec:Stmt:=top 9
abbrev MJ:Stmt:=top 10
abbrev FD:Stmt:=top 12
abbrev MI:Stmt:=top 13
abbrev JJ:Stmt:=top 14
abbrev Hh:Stmt:=top 15
abbrev Hc:Stmt:=top 16
abbrev MK:Stmt:=top 21
abbrev JK:Stmt:=top 22
abbrev Ha:Stmt:=top 23
abbrev JM:Stmt:=top 24
abbrev FC:Stmt:=top 25
abbrev Hg:Stmt:=top 26
abbrev HZ:Stmt:=top 27
abbrev PB:Stmt:=top 4
abbrev TZ:Stmt:=top 6
abbrev PF:Stmt:=top 5
abbrev Df:Stmt:=top 33
abbrev GE:Stmt:=top 34
abbrev Hd:Stmt:=top 32
abbrev Dg:Stmt:=top 8
abbrev He:Stmt:=top 20
abbrev GF:Stmt:=top 37
abbrev Hf:Stmt:=top 28
abbrev GD:Stmt:=top 38
abbrev JL:Stmt:=top 18
abbrev Hi:Stmt:=top 36
abbrev PD:Stmt:=top 39
abbrev Nr:Stmt:=top 63
def m0:String:="law_skylanes_k40_stays"
def m1:String:="skylanes.fractions"
def m2:String:="skylanes.stretches"
def m3:String:="skylanes.planes"
def m4:String:="skylanes.wedges"
def m5:String:="skylanes.rooms"
def m6:String:="skylanes.nearness"
def eN (P:Params)(x:String)(i:Nat)(v:zx):DictEntry:=⟨PyData.keyHash P (Str.ofString x), .str (Str.ofString x) i,v⟩
abbrev eR (P:Params)(x:String)(i f:Nat):=eN P x i (.ref f)
def fO (x:String)(s:Stmt)(m:String)(i c:Nat):Obj:=⟨.type "function",none, .func (PySem.W.fnOf (Str.ofString x) (Str.ofString x) (E3 s) (DS s) (A6 s) .none .none .none (.str (Str.ofString m) i) none (.ref c) .none), #[]⟩
def rV:Nat->zx
 | 0=> .none
 | n+1=> .ref (n+1)
def fc (x:String)(s:Stmt)(m:String)(a c f i l n g b d e h j u:Nat)(r:AAB):AAB:=
 (c,⟨.type "code",none, .fields #[.str (Str.ofString x) i, .str (Str.ofString x) (i+1), .str (Str.ofString "/claim/cut.py") (i+2), .int l 0, .int n 0, .int 0 0, .int 0 0, .int g 0,rV b, .bool true, .int 181 0,rV d, .none,rV e,rV h,rV j, .int u 0, .int l 0, .str (Str.ofString "/claim/cut.py") (u+1)], #[]⟩) ::
 (f,fO x s m a c)::r
def mW (P:Params):Obj:=⟨.type "dict",none, .dict #[eN P "__name__" 165 (.str (Str.ofString "law_skylanes_k40_stays") 511),eN P "__doc__" 166 .none,eN P "__package__" 167 .none,eN P "__loader__" 168 (.builtin "__main__.__loader__#opaque"),eN P "__spec__" 169 .none,eR P "__annotations__" 170 6,eR P "__builtins__" 171 4,eN P "__file__" 173 (.str (Str.ofString "/claim/cut.py") 172),eN P "__cached__" 174 .none,eR P "common" 196 21,eR P "part" 205 28,eR P "plus" 213 35,eR P "minus" 221 42,eR P "times" 229 49,eR P "over" 237 56,eR P "before" 245 63,eR P "shared_bottom" 255 70,eR P "count_below" 266 77,eR P "rising" 276 84,eR P "steps_of" 291 91,eR P "levels" 297 96,eR P "counted" 310 103,eR P "told_set" 317 110,eR P "later_by" 329 117,eR P "size_of" 339 124,eR P "plane_of" 347 129,eR P "summed" 353 134,eR P "crossed" 362 141,eR P "is_never" 370 148,eR P "turn_of" 380 155,eR P "is_tighter" 391 162,eR P "tightest" 402 169,eR P "fault_in" 413 176,eR P "range_in" 425 183,eR P "ONCE" 430 184,eR P "BACK" 434 185,eR P "negative" 441 192,eR P "piece_between" 454 199,eR P "pieces_of" 460 204,eR P "walls_of" 473 211,eR P "planes_in" 489 218,eR P "own_stays" 500 225,eR P "stays" 510 232,eR P "_law_tape" 522 239,eR P "_law_draw" 532 246,eR P "_law_part" 543 253,eR P "_law_less" 551 260,eR P "_law_sum" 559 267,eR P "_law_off" 567 274,eR P "_law_product" 575 281,eR P "_law_ratio" 583 288,eR P "_law_place" 591 295,eR P "_law_span" 599 302,eR P "_law_plan" 611 309,eR P "_law_far" 617 314,eR P "_law_spot" 623 319,eR P "_law_room" 629 324,eR P "_law_rising" 639 331,eR P "_law_marks" 645 336,eR P "_law_is_inside" 651 341,eR P "_law_middles" 657 346,eR P "_law_set" 670 353,eR P "_law_own" 676 358,eR P "_law_lists" 682 363,eR P "_law_same" 690 370,eR P "law" 705 377] 66, #[]⟩
def KK (P:Params):AAB:=(3,mW P)::(fc "_law_draw" ET m0 511 245 246 523 182 2 3 240 241 242 243 244 530 <| fc "_law_part" F7 m0 511 252 253 533 190 2 3 247 248 249 250 251 541 <| fc "_law_sum" HY m0 511 266 267 552 198 2 3 261 262 263 264 265 557 <| fc "_law_far" HU m0 511 313 314 612 234 1 3 310 311 0 0 312 615 <| fc "_law_lists" E8 m0 511 362 363 677 297 2 3 359 360 0 0 361 680 <| fc "_law_less" F6 m0 511 259 260 544 196 2 3 254 255 256 257 258 549 <| fc "_law_off" HV m0 511 273 274 560 200 2 3 268 269 270 271 272 565 <| fc "_law_product" EE m0 511 280 281 568 202 2 3 275 276 277 278 279 573 <| fc "_law_ratio" FB m0 511 287 288 576 204 2 3 282 283 284 285 286 581 <| fc "_law_spot" GC m0 511 318 319 618 236 2 3 315 316 0 0 317 621 <| fc "_law_is_inside" DQ m0 511 340 341 646 272 4 3 337 338 0 0 339 649 <| fc "_law_rising" Eb m0 511 330 331 630 252 1 3 325 326 327 328 329 637 <| fc "_law_marks" E9 m0 511 335 336 640 261 3 3 332 333 0 0 334 643 <| fc "_law_middles" ED m0 511 345 346 652 279 1 3 342 343 0 0 344 655 <| fc "_law_set" HX m0 511 352 353 658 281 3 3 347 348 349 350 351 668 <| fc "_law_own" HW m0 511 357 358 671 293 3 3 354 355 0 0 356 674 <| fc "_law_place" FA m0 511 294 295 584 206 1 3 289 290 291 292 293 589 <| fc "_law_span" GB m0 511 301 302 592 213 1 3 296 297 298 299 300 597 <| fc "_law_plan" F8 m0 511 308 309 600 218 1 3 303 304 305 306 307 609 <| fc "_law_room" F9 m0 511 323 324 624 245 1 3 320 321 0 0 322 627 <| fc "_law_same" GA m0 511 369 370 683 301 2 3 364 365 366 367 368 688 <| fc "_law_tape" EU m0 511 238 239 513 176 2 3 233 234 235 236 237 520 <| fc "common" MH m1 187 20 21 189 2 2 3 15 16 17 18 19 194 <| fc "part" Ta m1 187 27 28 197 6 2 3 22 23 24 25 26 203 <| fc "plus" Tc m1 187 34 35 206 11 2 3 29 30 31 32 33 211 <| fc "before" MG m1 187 62 63 238 19 2 3 57 58 59 60 61 243 <| fc "count_below" Ec m1 187 76 77 256 26 2 3 71 72 73 74 75 264 <| fc "rising" MJ m1 187 83 84 267 36 1 3 78 79 80 81 82 274 <| fc "steps_of" FD m2 277 90 91 279 44 1 3 85 86 87 88 89 289 <| fc "levels" MI m2 277 95 96 292 53 1 3 92 93 0 0 94 295 <| fc "counted" JJ m2 277 102 103 298 63 2 3 97 98 99 100 101 308 <| fc "told_set" Hh m2 277 109 110 311 75 1 3 104 105 106 107 108 315 <| fc "later_by" Hc m2 277 116 117 318 77 2 3 111 112 113 114 115 327 <| fc "summed" MK m3 340 133 134 348 90 4 3 130 131 0 0 132 351 <| fc "crossed" JK m3 340 140 141 354 96 3 3 135 136 137 138 139 360 <| fc "is_never" Ha m3 340 147 148 363 98 1 3 142 143 144 145 146 368 <| fc "turn_of" JM m3 340 154 155 371 101 2 3 149 150 151 152 153 378 <| fc "is_tighter" FC m3 340 161 162 381 105 3 3 156 157 158 159 160 389 <| fc "tightest" Hg m3 340 168 169 392 113 3 3 163 164 165 166 167 400 <| fc "fault_in" HZ m3 340 175 176 403 119 2 3 170 171 172 173 174 411 <| fc "minus" PB m1 187 41 42 214 13 2 3 36 37 38 39 40 219 <| fc "over" TZ m1 187 55 56 230 17 2 3 50 51 52 53 54 235 <| fc "times" PF m1 187 48 49 222 15 2 3 43 44 45 46 47 227 <| fc "piece_between" Df m4 426 198 199 442 142 2 3 193 194 195 196 197 452 <| fc "pieces_of" GE m4 426 203 204 455 149 1 3 200 201 0 0 202 458 <| fc "negative" Hd m4 426 191 192 435 140 1 3 186 187 188 189 190 439 <| fc "shared_bottom" Dg m1 187 69 70 246 21 1 3 64 65 66 67 68 253 <| fc "plane_of" He m3 340 128 129 342 86 3 3 125 126 0 0 127 345 <| fc "planes_in" GF m5 461 217 218 474 158 2 3 212 213 214 215 216 487 <| fc "range_in" Hf m3 340 182 183 414 128 2 3 177 178 179 180 181 423 <| fc "own_stays" GD m5 461 224 225 490 165 2 3 219 220 221 222 223 498 <| fc "size_of" JL m6 330 123 124 332 83 2 3 118 119 120 121 122 337 <| fc "walls_of" Hi m5 461 210 211 463 152 2 3 205 206 207 208 209 471 <| fc "stays" PD m5 461 231 232 501 172 2 3 226 227 228 229 230 508 <| fc "law" Nr m0 511 376 377 691 303 1 3 371 372 373 374 375 703 <| [(184,⟨.type "tuple",none, .seq #[(.int 1 428),(.int 1 429)] 0, #[]⟩),(185,⟨.type "tuple",none, .seq #[(.int (-1) 432),(.int 1 433)] 0, #[]⟩)])
def KA:zy zu:= [3,245,246,252,253,266,267,313,314,362,363,259,260,273,274,280,281,287,288,318,319,340,341,330,331,335,336,345,346,352,353,357,358,294,295,301,302,308,309,323,324,369,370,238,239,20,21,27,28,34,35,62,63,76,77,83,84,90,91,95,96,102,103,109,110,116,117,133,134,140,141,147,148,154,155,161,162,168,169,175,176,41,42,55,56,48,49,198,199,203,204,191,192,69,70,128,129,217,218,182,183,224,225,123,124,210,211,231,232,376,377,184,185]
def q:zp:={K40.pwA with main:={K40.pwA.main with body:= [top 1,top 2,top 3,top 4,top 5,top 6,top 7,top 8,top 9,top 10,top 12,top 13,top 14,top 15,top 16,top 18,top 20,top 21,top 22,top 23,top 24,top 25,top 26,top 27,top 28,top 30,top 31,top 32,top 33,top 34,top 36,top 37,top 38,top 39,top 41,top 42,top 43,top 44,top 45,top 46,top 47,top 48,top 49,top 50,top 51,top 52,top 53,top 54,top 55,top 56,top 57,top 58,top 59,top 60,top 61,top 62,top 63] }}
end K40
open PySem PySem.W PyProof.Rows
def K40.se (s:zw):=openSeen K40.q [] (importedModules (K40.pwA).main.body) (λs=>xlAt K40.q [] s&&recOk [] s) true s
def K40.go:=openGood K40.q []
def K40.rn (w:zm):=openEnds treeTable K40.pwA w 6000
def K40.l0:∀w,(K40.rn w).map (λs=>(K40.se s).1)=some (K40.go.1):=by intro w;kernel_rfl
def K40.l1:∀w,(K40.rn w).map (λs=>(K40.se s).2.1)=some (K40.go.2.1):=by intro w;kernel_rfl
def K40.l2:∀w,(K40.rn w).map (λs=>(K40.se s).2.2.1)=some (K40.go.2.2.1):=by intro w;kernel_rfl
def K40.l3:∀w,(K40.rn w).map (λs=>(K40.se s).2.2.2.1)=some (K40.go.2.2.2.1):=by intro w;kernel_rfl
def K40.l4:∀w,(K40.rn w).map (λs=>(K40.se s).2.2.2.2)=some (K40.go.2.2.2.2):=by intro w;kernel_rfl
def K40.l5:∀w,(K40.rn w).map (λs=>K40.KA.map s.heap.get?)=some ((K40.KK w.params).map λp=>some p.2):=by intro w;kernel_rfl
def K40.w1:PySem.Challenge.rw_skylanes_k40_stays.wellSaid=true:=by
 kernel_rfl
def K40.w0:PySem.Challenge.rw_skylanes_k40_stays.row.wellSaid=true:=by
 kernel_rfl
end
namespace PySem
open Sem (wp)
abbrev FK:=(Int×Int)×Int
section
variable {prog:zp}{w:zm}
def G5 (prog:zp)(w:zm)(h:zl)(k:FK)(a:zu):Prop:=∃o items n b u,h.get? a=some o/\o.cls= .type "tuple" /\o.data= .seq items n/\items.toList= [.ref b, .int k.2 u] /\IsTupleKey (intKind prog w) h [k.1.1,k.1.2] b
def G5.typeIs {s:zw}{k:FK}{a:zu}(x:G5 prog w s.heap k a):s.TypeIs (.ref a) "tuple" :=let ⟨o,_,_,_,_,b,hc,_⟩:=x;⟨o,b,hc⟩
def G5.inj {h:zl}{a:zu}{x y:FK}(hx:G5 prog w h x a)(hy:G5 prog w h y a):x=y:=by obtain⟨o,items,n,b,u,i,_,hd,hi,hk⟩:=hx;obtain⟨j,c,m,p,r,k,_,e,f,l⟩:=hy;obtain rfl:o=j:=AAV (i.symm.trans k);rw[hd] at e;injection e with h1 _;subst h1;rw[hi] at f;injection f with h1 h2;injection h1 with h1;subst h1;injection h2 with h2 _;injection h2 with h2 _;have:=hk.inj l;obtain⟨⟨s,t⟩,v⟩:=x;obtain⟨⟨y1,y2⟩,y3⟩:=y;injection this with g d;injection d with d _;simp only at h2 g d;subst h2;subst g;subst d;rfl
def G5.keeps {h h':zl}{k:FK}{a d:zu}{o:Obj}{es ep}(x:G5 prog w h k a)(e:h.get? d=some o)(hd:o.data= .dict es ep)(hs:Heap.SameBut d h h'):G5 prog w h' k a:=by
 obtain⟨f,items,n,b,u,g,hc,c,hi,hk⟩:=x;have i:a≠d:=by rintro rfl;obtain rfl:f=o:=AAV (g.symm.trans e);rw[hd] at c;exact nomatch c
 exact⟨f,items,n,b,u,(hs.2 a i).trans g,hc,c,hi,hk.keeps e hd hs⟩
def SV (prog:zp)(w:zm)(k:FK):Int:=reduceHash (Builtin.Tuple.tupleHashOf [tupleKeyHash (intKind prog w) [k.1.1,k.1.2],hashInt k.2])
variable {A:zk}{E:zx->zw->Prop}{s:zw}
def KH {k:FK}{a:zu}{Q:Int->zw->Prop}(hu:A.units+1<cLine)(hk:G5 prog w s.heap k a)(h:Q (SV prog w k) {s with toks:=s.toks+5}):wpAny (model prog w) A (pyHash (.ref a)) Q E s:=by
 have f:=hk.typeIs;obtain⟨o,items,n,b,u,i,_,hd,hi,j⟩:=hk;unfold pyHash;first | unfold pyHashByItsType|skip
 first | refine AAA (wpAny_cRoomFor_or (.inr (by omega)) ?_)|skip
 refine AAA (ABS f ACK.lookup ?_);show wpAny _ _ (if (some (Value.builtin "tuple.__hash__")==some Value.none)=true then _ else _) Q E s;rw[AAC (by rw[beq_builtin_none];exact AAN)];refine AAA (ABS f ACK.lookup ?_);show wpAny _ _ (callSpecialIfBoundUnlessNone? (.ref a) "__hash__" _ >>= _) Q E s;refine AAA (wpAny_callSpecialIfBoundUnlessNone?_slot f ACK (AAv ACK f F.entry_tuple_hash ?_ (F.args_tuple_hash_1 _)));show wpAny _ _ (Builtin.Tuple.tupleItemsOf (.ref a) >>= _) _ _ s;refine AAA (ACy i hd ?_);refine AAA ?_;rw[<-ACz,hi];refine ACL _
  (λrest (r:Array Int) d=>(rest= [.ref b, .int k.2 u] /\r.toList= [] /\d=s)\/(rest= [.int k.2 u] /\r.toList= [tupleKeyHash (intKind prog w) [k.1.1,k.1.2]] /\d={s with toks:=s.toks+3})\/
    (rest= [] /\r.toList= [tupleKeyHash (intKind prog w) [k.1.1,k.1.2],hashInt k.2] /\d={s with toks:=s.toks+4}))
  _ ?_ ?_ _ _ (.inl ⟨rfl,rfl,rfl⟩)
 .rintro x rest r d (⟨c,e,rfl⟩|⟨c,e,rfl⟩|⟨c,_⟩)
  .cases c;refine AAA (wpAny_pyHash_tuple (knd:=intKind prog w) (by first | exact hu|omega) j ?_);exact AAD (.inr (.inl ⟨rfl,by simp[e],rfl⟩))
  .cases c;refine AAA (wpAny_pyHash_int ?_);exact AAD (.inr (.inr ⟨rfl,by simp[e],by simp[AC0]⟩))
  .cases c
 .rintro r d (⟨c,_⟩|⟨c,_⟩|⟨_,e,rfl⟩)
  .cases c
  .cases c
  .show wpAny _ _ (retInt (Builtin.Tuple.tupleHashOf r.toList)) _ _ _;rw[e];refine wpAny_ret_mkInt ?_;show wpAny _ _ (if (decide (-(2:Int)^63<=Builtin.Tuple.tupleHashOf [tupleKeyHash (intKind prog w) [k.1.1,k.1.2],hashInt k.2])&&decide (Builtin.Tuple.tupleHashOf [tupleKeyHash (intKind prog w) [k.1.1,k.1.2],hashInt k.2] < 2^63))=true then _ else _) Q E _;unfold SV reduceHash at h;by_cases g:(decide (-(2:Int)^63<=Builtin.Tuple.tupleHashOf [tupleKeyHash (intKind prog w) [k.1.1,k.1.2],hashInt k.2])&&decide (Builtin.Tuple.tupleHashOf [tupleKeyHash (intKind prog w) [k.1.1,k.1.2],hashInt k.2] < 2^63))=true
   .rw [AAE g];rw[AAE g] at h;exact AAD (by simpa[AC0] using h)
   .rw [AAC g];rw[AAC g] at h;exact AAA (ABG (AAD (by simpa[AC0] using h)))
def SX {x y:FK}{a b:zu}{P:Fin->zw->Prop}(hu:A.units<cLine)(hx:G5 prog w s.heap x a)(hy:G5 prog w s.heap y b)(h:P (.done (.ret (.bool (decide (x=y))))) s):wpAny (model prog w) A (Builtin.«tuple.__eq__» ⟨[.ref a, .ref b], []⟩) P E s:=by
 have B:=hy.typeIs;obtain⟨Q,xs,R,C,n,D,_,F,o,G⟩:=hx;obtain⟨S,ys,T,H,p,I,_,hdb,t,J⟩:=hy;have K:xs.size=2:=by rw[<-ABT,o];rfl
 have L:ys.size=2:=by rw[<-ABT,t];rfl
 obtain⟨⟨e,f⟩,c⟩:=x;obtain⟨⟨y1,y2⟩,y3⟩:=y;show wpAny _ _ (isInstance (.ref b) (.type "tuple") >>= _) _ _ s;refine AAA (ABb B AC1 ?_);simp only[AA7,AAh,AAX];refine AAA (ACy D F ?_);refine AAA (ACy I hdb ?_);refine AAA ?_;rw[o,t];refine ACL _
  (λrest r g=>r.1=none/\g=s/\(rest= [(.ref C, .ref H),(.int c n, .int y3 p)] \/(rest= [(.int c n, .int y3 p)] /\e=y1/\f=y2)\/(rest= [] /\e=y1/\f=y2/\c=y3)))
  _ ?_ ?_ _ _ ⟨rfl,rfl, .inl rfl⟩
 .rintro ⟨u,v⟩ rest r g ⟨j,rfl,(hz|⟨hz,k,l⟩|⟨hz,_⟩)⟩
  .cases hz;refine AAA (wpAny_eqBool_tuple (knd:=intKind prog w) (by first | exact hu|omega) G J ?_);by_cases hk:e=y1/\f=y2
   .rw [AAi (by rw[hk.1,hk.2])];simp only[AA7,AAh,AAX];exact AAD ⟨rfl,rfl, .inr (.inl ⟨by first | trivial|rfl,hk⟩)⟩
   .rw [AAY (by intro z;injection z with i d;injection d with d _;exact hk ⟨i,d⟩)];simp only[Bool.not_false,AA3];have m:decide ((((e,f),c):FK)=((y1,y2),y3))=false:=by apply AAY;intro z;injection z with i d;injection i with M N;exact hk ⟨M,N⟩
    rw[m] at h;exact AAA (AAD (AAD (AAD h)))
  .cases hz;refine AAA (wpAny_eqBool_int ?_);by_cases hk:c=y3
   .rw [show (c==y3)=true by simp[hk]];simp only[AA7,AAh,AAX];exact AAD ⟨rfl,rfl, .inr (.inr ⟨by first | trivial|rfl,k,l,hk⟩)⟩
   .rw [show (c==y3)=false by simp[hk]];simp only[Bool.not_false,AA3];have m:decide ((((e,f),c):FK)=((y1,y2),y3))=false:=by apply AAY;intro z;injection z with i d;exact hk d
    rw[m] at h;exact AAA (AAD (AAD (AAD h)))
  .cases hz
 .rintro ⟨U,W⟩ g ⟨j,rfl,(hz|⟨hz,_⟩|⟨_,k,l,O⟩)⟩
  .cases hz
  .cases hz
  .simp only at j;subst j;refine AAD ?_;show P (.done (.ret (.bool (xs.size==ys.size)))) g;rw[K,L];rw[AAi (by rw[k,l,O])] at h;exact h
def KG {x y:FK}{a b:zu}{Q:zq->zw->Prop}(hu:A.units+1<cLine)(hx:G5 prog w s.heap x a)(hy:G5 prog w s.heap y b)(h:Q (decide (x=y)) s):wpAny (model prog w) A (eqBool (.ref a) (.ref b)) Q E s:=by
 unfold eqBool;try with_reducible refine AAj ?_
 show wpAny _ _ (if (Value.ref a==Value.ref b)=true then _ else _) Q E s;by_cases c:(Value.ref a==Value.ref b)=true
 .rw [AAE c];have e:a=b:=by have:=eq_of_beq c;injection this
  subst e;obtain rfl:=hx.inj hy;exact AAA (ABG (AAD (by simpa using h)))
 .rw [AAC c];exact AAA (wpAny_richCompare_same_room (op:= .Eq) hx.typeIs hy.typeIs ACN
   (AAv ACN hx.typeIs F.entry_tuple_eq (SX (by first | exact hu|omega) hx hy ⟨_,rfl,(λe=>nomatch e),ABc h⟩) (F.args_tuple_eq_2 _ _)) (by omega))
def FP {K:Type}[DecidableEq K]{knd:KeyKind prog w K}{f:zy K}{a:zu}{Q:zq->zw->Prop}(m:Nat)(hk:IsTupleKey knd s.heap f a)(h:Q true s):wpAny (model prog w) A (eqIsQuiet (m+1) (.ref a)) Q E s:=by
 have d:=hk.typeIs;obtain⟨o,items,n,g,_,hd,hi⟩:=hk;unfold eqIsQuiet;refine AAA (ABS d ACN.lookup ?_);show wpAny _ _ (isInstance (.ref a) (.type "tuple") >>= _) _ _ s;refine AAA (ABb d AC1 ?_);simp only[AA7,AAh,AAX];refine AAA (AA0 g hd ?_);refine AAA ?_;show wpAny _ _ (forIn items _ _) _ _ s;rw[<-ACz];refine ACL _ (λrest r b=>r.1=none/\b=s/\∀v∈rest,carriedByValue v=true) _ ?_ ?_ _ _ ⟨rfl,rfl,hi.byValue⟩
 .rintro v rest r b ⟨c,rfl,e⟩;rw[eqIsQuiet_byValue _ (e v ABU)];refine AAA (AAD ?_);simp only[AA7,AAh,AAX];exact AAD ⟨rfl,rfl,λu i=>e u (AA8 _ i)⟩
 .rintro ⟨j,k⟩ b ⟨c,rfl,_⟩;simp only at c;subst c;exact AAD h
def Ho {k:FK}{a:zu}{Q:zq->zw->Prop}(hk:G5 prog w s.heap k a)(h:Q true s):wpAny (model prog w) A (eqIsQuiet 8 (.ref a)) Q E s:=by
 have e:=hk.typeIs;obtain⟨o,items,n,b,u,f,_,hd,hi,g⟩:=hk;unfold eqIsQuiet;refine AAA (ABS e ACN.lookup ?_);show wpAny _ _ (isInstance (.ref a) (.type "tuple") >>= _) _ _ s;refine AAA (ABb e AC1 ?_);simp only[AA7,AAh,AAX];refine AAA (AA0 f hd ?_);refine AAA ?_;show wpAny _ _ (forIn items _ _) _ _ s;rw[<-ACz,hi];refine ACL _ (λrest r c=>r.1=none/\c=s/\(rest= [.ref b, .int k.2 u] \/rest= [.int k.2 u] \/rest= [])) _ ?_ ?_ _ _ ⟨rfl,rfl, .inl rfl⟩
 .rintro v rest r c ⟨d,rfl,(hz|hz|hz)⟩
  .cases hz;refine AAA (FP (knd:=intKind prog w) 6 g ?_);simp only[AA7,AAh,AAX];exact AAD ⟨rfl,rfl, .inr (.inl (by first | trivial|rfl))⟩
  .cases hz;rw[eqIsQuiet_byValue _ rfl];refine AAA (AAD ?_);simp only[AA7,AAh,AAX];exact AAD ⟨rfl,rfl, .inr (.inr (by first | trivial|rfl))⟩
  .cases hz
 .rintro ⟨i,j⟩ c ⟨d,rfl,_⟩;simp only at d;subst d;exact AAD h
end
def fkKind (prog:zp)(w:zm):HeapKind prog w FK where
 is:=G5 prog w
 hash:=SV prog w
 draws:=λ_=>5
 room:=λA=>A.units+1<cLine
 inj:=λhx hy=>hx.inj hy
 keeps:=λx a hd hs=>x.keeps a hd hs
 pyHash:=λhu hk h=>KH hu hk h
 eqBool:=λhu hx hy h=>KG hu hx hy h
 quiet:=λhk h=>Ho hk h
def Co {prog:zp}{w:zm}{A:zk}(h:A.units+2<cLine):(fkKind prog w).room A.in1:=by show A.units+1+1<cLine;omega
end PySem
namespace L2
open PySem PySem.Spec PyProof.Rows
abbrev CK:=Sum Int Str
def Nm:CK->zx->zq
 | .inl k,v=>Value.isInt k v
 | .inr x,v=>Value.isStrOf x v
def mC (w:zm):CK->Int
 | .inl k=>hashInt k
 | .inr x=>hashStr w x
def BP:∀{k:CK} {v:zx},Nm k v=true->(∃i t,k=Sum.inl i/\v=Value.int i t)\/(∃x t,k=Sum.inr x/\v=Value.str x t)
 | .inl i,v,h=>by obtain⟨t,e⟩:=Value.isInt_shape (k:=i) (v:=v) h;exact .inl ⟨i,t,rfl,e⟩
 | .inr x,v,h=>by obtain⟨t,e⟩:=Value.isStrOf_shape (x:=x) (v:=v) h;exact .inr ⟨x,t,rfl,e⟩
def V2 (i:Int)(t:Tok):Nm (.inl i) (.int i t)=true:=by simp[Nm,Value.isInt]
def V3 (x:Str)(t:Tok):Nm (.inr x) (.str x t)=true:=by simp[Nm,Value.isStrOf]
def eT (a b:Int):decide ((Sum.inl a:CK)=Sum.inl b)=(a==b):=by
 by_cases e:a=b
 .subst e;simp
 .have h:¬(Sum.inl a:CK)=Sum.inl b:=λq=>e (Sum.inl.inj q);rw[AAY h];exact(ACO.mpr e).symm
def eY (a b:Str):decide ((Sum.inr a:CK)=Sum.inr b)=decide (a=b):=by
 by_cases e:a=b
 .subst e;simp
 .have h:¬(Sum.inr a:CK)=Sum.inr b:=λq=>e (Sum.inr.inj q);rw[AAY h,AAY e]
def eU (a:Int)(b:Str):decide ((Sum.inl a:CK)=Sum.inr b)=false:=AAY (λq=>nomatch q)
def eV (a:Str)(b:Int):decide ((Sum.inr a:CK)=Sum.inl b)=false:=AAY (λq=>nomatch q)
def A0 (prog:zp)(w:zm):PySem.KeyKind prog w CK where
 is:=Nm
 hash:=mC w
 inj:=λv a b ha hb=>by
  rcases BP ha with⟨i,t,rfl,rfl⟩|⟨x,t,rfl,rfl⟩
  .rcases BP hb with⟨j,u,rfl,e⟩|⟨y,u,rfl,e⟩
   .injection e with c _;rw[c]
   .exact nomatch e
  .rcases BP hb with⟨j,u,rfl,e⟩|⟨y,u,rfl,e⟩
   .exact nomatch e
   .injection e with c _;rw[c]
 byValue:=λk v h=>by rcases BP h with⟨i,t,rfl,rfl⟩|⟨x,t,rfl,rfl⟩ <;> rfl
 pyHash:=λhv h=>by
  rcases BP hv with⟨i,t,rfl,rfl⟩|⟨x,t,rfl,rfl⟩
  .exact wpAny_pyHash_int h
  .exact wpAny_pyHash_str h
 eqBool:=λhu hv h=>by
  rcases BP hu with⟨i,t,rfl,rfl⟩|⟨x,t,rfl,rfl⟩
  .rcases BP hv with⟨j,u,rfl,rfl⟩|⟨y,u,rfl,rfl⟩
   .rw [eT] at h;exact wpAny_eqBool_int h
   .rw [eU] at h;exact SeqAt.EqAt.int_str i t y u _ _ _ _ h
  .rcases BP hv with⟨j,u,rfl,rfl⟩|⟨y,u,rfl,rfl⟩
   .rw [eV] at h;exact SeqAt.EqAt.str_int x t j u _ _ _ _ h
   .rw [eY] at h;exact wpAny_eqBool_str h
 «strs»:=λk x t v h=>by
  rcases BP h with⟨i,u,rfl,e⟩|⟨y,u,rfl,e⟩
  .exact nomatch e
  .injection e with c _;subst c;cases v <;> rfl
def Qs (prog:zp)(w:zm)(i:Int)(t:Tok):(A0 prog w).is (.inl i) (.int i t)=true:=V2 i t
def Qt (prog:zp)(w:zm)(x:Str)(t:Tok):(A0 prog w).is (.inr x) (.str x t)=true:=V3 x t
inductive V where
 | non|bl (b:Bool)|int (i:Int)|str (x:Str)|byt (b:Array UInt8)|flt (b:UInt64)|ref (a:Addr)|ty (n:String)
 deriving DecidableEq
def RelV:V->zx->Prop
 | .non,u=>u=Value.none
 | .bl b,u=>u=Value.bool b
 | .int i,u=>∃t,u=Value.int i t
 | .str x,u=>∃t,u=Value.str x t
 | .byt b,u=>∃t,u=Value.bytes b t
 | .flt b,u=>∃t,u=Value.float b t
 | .ref a,u=>u=Value.ref a
 | .ty n,u=>u=Value.type n
abbrev Aj:zy V->zy zx->Prop:=Paired RelV
def Aj.length {xs:zy V}{us:zy zx}(r:Aj xs us):xs.length=us.length:=ABx r
theorem Aj.get:∀{xs:zy V} {us:zy zx} {i:Nat} {x:V},Aj xs us->xs[i]? =some x->∃u,us[i]? =some u/\RelV x u
 | _,_,_,_, .nil,e=>by simp at e
 | _,_,0,_, .cons r _,e=>by simp at e;subst e;exact⟨_,rfl,r⟩
 | _,_,i+1,x, .cons _ t,e=>by obtain⟨u,h1,h2⟩:=Aj.get (i:=i) (x:=x) t (by simpa using e);exact⟨u,by simpa using h1,h2⟩
theorem Aj.set {x:V}{u:zx}(r:RelV x u):∀{xs:zy V} {us:zy zx} (i:Nat),Aj xs us->Aj (xs.set i x) (us.set i u)
 | _,_,_, .nil=> .nil
 | _,_,0, .cons _ t=> .cons r t
 | _,_,i+1, .cons q t=> .cons q (Aj.set r i t)
theorem Aj.append:∀{xs ys:zy V} {us a:zy zx},Aj xs us->Aj ys a->Aj (xs++ys) (us++a)
 | _,_,_,_, .nil,s=>s
 | _,_,_,_, .cons r t,s=> .cons r (Aj.append t s)
theorem Aj.take:∀{xs:zy V} {us:zy zx} (n:Nat),Aj xs us->Aj (xs.take n) (us.take n)
 | _,_,0,_=> .nil
 | _,_,_+1, .nil=> .nil
 | _,_,n+1, .cons r t=> .cons r (Aj.take n t)
theorem Aj.drop:∀{xs:zy V} {us:zy zx} (n:Nat),Aj xs us->Aj (xs.drop n) (us.drop n)
 | _,_,0,r=>r
 | _,_,_+1, .nil=> .nil
 | _,_,n+1, .cons _ t=>Aj.drop n t
def Aj.none_of:∀{xs:zy V} {us:zy zx} {i:Nat},Aj xs us->xs[i]? =none->us[i]? =none:=λ{xs us i} r e=>by have h1:=r.length;have h2:xs.length<=i:=AC2.mp e;exact AC2.mpr (by omega)
def IB:zt V->zt zx->Prop
 | some v,some u=>RelV v u
 | none,none=>True
 | _,_=>False
def KV {a:Type}:zy (a×V)->zy (a×zx)->Prop:=Paired λ(p:a×V) (q:a×zx)=>p.1=q.1/\RelV p.2 q.2
def kV:CK->V
 | .inl i=> .int i
 | .inr x=> .str x
inductive HO where
 | lst (xs:List V)
 | tup (xs:List V)
 | dK (kvs:List (CK×V))|dT (kvs:List (List CK×V))|dN (K:AAB) (kvs:List (PySem.FK×V))
 | set (S:Int->Bool) (n:Nat)
 | ins (C dx:Addr) (fs:List (Str×V))
 | own (x:Addr)
 | xd (fs:List (Str×V))
 | met (f x:Addr)
 | rng (lo hi:Int)
 | frz (o:Obj) (u:HO)
 | tbl (ps:Array Value)
 | ext (φ:Heap->Prop)
abbrev Hp:=zu->zt HO
def upd (H:Hp)(a:zu)(o:HO):Hp:=λb=>if b=a then some o else H b
def AX {H:Hp}{a:zu}{o:HO}:upd H a o a=some o:=by unfold upd;rw[AAE rfl]
def AZ {H:Hp}{a b:zu}{o:HO}(h:b≠a):upd H a o b=H b:=by unfold upd;rw[AAC h]
def cr {H:Hp}{a b:zu}{o u:HO}(h:H a=some o)(h':H b=some u)(d:o≠u):a≠b:=by intro e;subst e;rw[h] at h';exact d (AAV h')
def Af {H:Hp}{a b:zu}{o:HO}(h:H a=some o)(h':H b=none):a≠b:=by intro e;subst e;rw[h] at h';cases h'
def W4 (K:AAB)(H:Hp)(b:zu)(t d:Int):Prop:=H b=some (.tup [.int t, .int d])\/∃(o:Obj) (a:Array zx) (n:Nat),K.lookup b=some o/\o.cls= .type "tuple" /\o.data= .seq a n/\Aj [.int t, .int d] a.toList
def Ey (K:AAB)(H:Hp)(a:zu)(k:PySem.FK):Prop:=∃b,H a=some (.tup [.ref b, .int k.2])/\W4 K H b k.1.1 k.1.2
def Ey.stay {K:AAB}{H c:Hp}{a:zu}{k:PySem.FK}(x:Ey K H a k)(d:∀b xs,H b=some (.tup xs)->c b=some (.tup xs)):Ey K c a k:=let ⟨b,h1,h2⟩:=x;⟨b,d _ _ h1,h2.elim (λz=> .inl (d _ _ z)) .inr⟩
section
variable (P:zp)(w:zm)
def Bn (H:Hp)(h:zl)(a:zu):HO->Prop
 | .lst xs=>xs.length<=sizeLine/\∃(b:zy zx) (n:Nat),Aj xs b/\h.get? a=some {cls:= .type "list",data:= .seq b.toArray n}
 | .tup xs=>xs.length<=sizeLine/\∃b:zy zx,Aj xs b/\IsTup h a b.toArray
 | .dK kvs=>kvs.length<=sizeLine/\(a==sysModules)=false/\∃vs,KV kvs vs/\h.DictOf (A0 P w) a vs
 | .dT kvs=>kvs.length<=sizeLine/\(a==sysModules)=false/\∃xs:zy (zy CK×zu×zx),
     Paired (λ(p:zy CK×V) (q:zy CK×zu×zx)=>p.1=q.1/\H q.2.1=some (.tup (p.1.map kV))/\RelV p.2 q.2.2) kvs xs/\
     ∃o es ep,h.get? a=some o/\o.ExactDict/\o.data= .dict es ep/\es.toList=xs.map (entryOfKey (tupleKind (A0 P w)))/\(xs.map (·.1)).Nodup
 | .dN K kvs=>kvs.length<=sizeLine/\(a==sysModules)=false/\∃xs:zy (PySem.FK×zu×zx),Paired (λ(p:PySem.FK×V) (q:PySem.FK×zu×zx)=>p.1=q.1/\Ey K H q.2.1 p.1/\RelV p.2 q.2.2) kvs xs/\∃o es ep,h.get? a=some o/\o.ExactDict/\o.data= .dict es ep/\es.toList=xs.map (entryOfKey (PySem.fkKind P w))/\(xs.map (·.1)).Nodup
 | .set S n=>h.SetOf (intKind P w) a S n
 | .ins C e d=>H e=some (.own a)/\d.length<=1000/\e≠a/\h.get? a=some (PySem.W.instObj C e)/\
     ∃c,h.Ns1 e c/\(∀f,IB (d.lookup f) (c f))/\PySem.Within c (d.map (·.1))
 | .own _=>∃o,h.get? a=some o
 | .xd d=>∃c,h.Ns1 a c/\∀f,IB (d.lookup f) (c f)
 | .rng lo hi=>∃t u v,h.get? a=some {cls:= .type "range",data:= .fields #[.int lo t, .int hi u, .int 1 v] }
 | .frz o u=>h.get? a=some o/\Bn H h a u
 | .tbl i=>h.get? a=some {cls:= .none,data:= .fields i}
 | .met f x=>h.get? a=some (PySem.W.methodObj (.ref f) (.ref x))
 | .ext g=>g h/\(∃o,h.get? a=some o)/\∀h1 h2:zl,g h1->(∀o,h1.get? a=some o->h2.get? a=some o)->g h2
def G4 (H:Hp)(h:zl):Prop:=∀a o,H a=some o->Bn P w H h a o
end
section
variable {P:zp}{w:zm}{H H':Hp}{h h':zl}{a:zu}{o:HO}
def Bn.lt (x:Bn P w H h a o):a<h.objs.size:=by
 cases o with
 | lst xs=>obtain⟨_,_,_,_,e⟩:=x;exact AAG e
 | tup xs=>obtain⟨_,_,_,p⟩:=x;exact p.lt
 | dK kvs=>obtain⟨_,_,_,_,o,_,_,e,_⟩:=x;exact AAG e
 | dT kvs=>obtain⟨_,_,_,_,o,_,_,e,_⟩:=x;exact AAG e
 | dN K kvs=>obtain⟨_,_,_,_,o,_,_,e,_⟩:=x;exact AAG e
 | set S n=>obtain⟨o,_,_,_,e,_⟩:=x;exact AAG e
 | ins C c b=>obtain⟨_,_,_,e,_⟩:=x;exact AAG e
 | own y=>obtain⟨_,e⟩:=x;exact AAG e
 | xd b=>obtain⟨_,⟨_,_,_,e,_⟩,_⟩:=x;exact AAG e
 | rng lo hi=>obtain⟨_,_,_,e⟩:=x;exact AAG e
 | frz d u=>obtain⟨e,_⟩:=x;exact AAG e
 | tbl g=>exact AAG (show h.get? a=some _ from x)
 | met f y=>exact AAG (show h.get? a=some _ from x)
 | ext i=>obtain⟨_,⟨_,e⟩,_⟩:=x;exact AAG e
theorem Paired.mapP {d e:Type}{F G:d->e->Prop}:∀{l₁:zy d} {c:zy e},Paired F l₁ c->(∀a b,F a b->G a b)->Paired G l₁ c
 | _,_, .nil,_=> .nil
 | _,_, .cons r t,f=> .cons (f _ _ r) (Paired.mapP t f)
def Bn.stay (x:Bn P w H h a o)(k:∀b u,(b=a\/H b=some (.own a))->h.get? b=some u->h'.get? b=some u)(A:∀b,H b=some (.own a)->H' b=some (.own a))(m:∀b xs,H b=some (.tup xs)->H' b=some (.tup xs)):Bn P w H' h' a o:=by
 induction o with
 | lst xs=>obtain⟨z,i,n,r,e⟩:=x;exact⟨z,i,n,r,k _ _ (.inl rfl) e⟩
 | tup xs=>obtain⟨z,i,r,g,e,c⟩:=x;exact⟨z,i,r,g,k _ _ (.inl rfl) e,c⟩
 | dK kvs=>obtain⟨z,y,vs,r,g,es,ep,e,c⟩:=x;exact⟨z,y,vs,r,g,es,ep,k _ _ (.inl rfl) e,c⟩
 | dT kvs=> obtain⟨z,y,xs,r,g,es,ep,e,c⟩:=x;exact⟨z,y,xs,Paired.mapP r λp q z=>⟨z.1,m _ _ z.2.1,z.2.2⟩,g,es,ep,k _ _ (.inl rfl) e,c⟩
 | dN K kvs=> obtain⟨z,y,xs,r,g,es,ep,e,c⟩:=x;exact⟨z,y,xs,Paired.mapP r λp q z=>⟨z.1,z.2.1.stay m,z.2.2⟩,g,es,ep,k _ _ (.inl rfl) e,c⟩
 | set S n=>obtain⟨g,es,ep,t,e,c⟩:=x;exact⟨g,es,ep,t,k _ _ (.inl rfl) e,c⟩
 | ins C F B=> obtain⟨d,z,D,e,j,⟨l,es,ep,E,c⟩,r⟩:=x;exact⟨A _ d,z,D,k _ _ (.inl rfl) e,j,⟨l,es,ep,k _ _ (.inr d) E,c⟩,r⟩
 | own y=>obtain⟨g,e⟩:=x;exact⟨g,k _ _ (.inl rfl) e⟩
 | xd B=>obtain⟨j,⟨l,es,ep,e,c⟩,r⟩:=x;exact⟨j,⟨l,es,ep,k _ _ (.inl rfl) e,c⟩,r⟩
 | rng lo hi=>obtain⟨t,u,v,e⟩:=x;exact⟨t,u,v,k _ _ (.inl rfl) e⟩
 | frz g u ih=>obtain⟨e,q⟩:=x;exact⟨k _ _ (.inl rfl) e,ih q⟩
 | tbl s=> have e:h.get? a=some {cls:= .none,data:= .fields s}:=x;show h'.get? a=some {cls:= .none,data:= .fields s};exact k a _ (.inl rfl) e
 | met f y=> have e:h.get? a=some (PySem.W.methodObj (.ref f) (.ref y)):=x;show h'.get? a=some (PySem.W.methodObj (.ref f) (.ref y));exact k a _ (.inl rfl) e
 | ext G=>obtain⟨p,⟨o,e⟩,st⟩:=x;exact⟨st _ _ p λo q=>k _ _ (.inl rfl) q,⟨o,k _ _ (.inl rfl) e⟩,st⟩
def G4.lt (x:G4 P w H h)(e:H a=some o):a<h.objs.size:=(x a o e).lt
def G4.fresh (x:G4 P w H h)(e:h.objs.size<=a):H a=none:=by
 cases q:H a with
 | none=>rfl
 | some u=>exact absurd (AAS (x.lt q) e) (AA9 _)
def G4.kept (x:G4 P w H h)(k:∀b u,h.get? b=some u->h'.get? b=some u):G4 P w H h':=λa o e=>
 (x a o e).stay (λb u _ q=>k b u q) (λ_ q=>q) λ_ _ q=>q
def G4.laid (x:G4 P w H h)(k:∀b u,h.get? b=some u->h'.get? b=some u)(hp:h.objs.size<=a)(new:Bn P w (upd H a o) h' a o):G4 P w (upd H a o) h':=λb u e=>by
 have d:=x.fresh hp;by_cases hb:b=a
 .subst hb;rw[AX] at e;cases e;exact new
 .rw [AZ hb] at e;exact(x b u e).stay (λc v _ q=>k c v q) (λc q=>by rw[AZ (Af q d)];exact q) λc xs q=>by rw[AZ (Af q d)];exact q
end
def Rd (H:Hp)(a:zu)(u:HO):Prop:=H a=some u\/∃o,H a=some (.frz o u)
def Rd.of {H:Hp}{a:zu}{u:HO}(h:H a=some u):Rd H a u:= .inl h
def Rd.ok {P:zp}{w:zm}{H:Hp}{h:zl}{a:zu}{u:HO}(r:Rd H a u)(x:G4 P w H h):Bn P w H h a u:=by
 rcases r with r|⟨o,r⟩
 .exact x a u r
 .obtain ⟨_,q⟩:=x a _ r;exact q
def iC:zt HO->Prop
 | some (.lst _)=>True
 | some (.dK _)=>True
 | some (.dT _)=>True
 | some (.dN _ _)=>True
 | some (.set _ _)=>True
 | some (.ins _ _ _)=>True
 | some (.ext _)=>True
 | _=>False
section
variable {P:zp}{w:zm}{H:Hp}{h h':zl}{x e:zu}{o':HO}
def G4.write (ok:G4 P w H h)(f:iC (H x))(he:e=x\/H e=some (.own x))(k:∀b u,b≠e->h.get? b=some u->h'.get? b=some u)(j:∃u,h'.get? e=some u)(new:Bn P w (upd H x o') h' x o'):G4 P w (upd H x o') h':=λb u q=>by
 have a:∀c y,H c=some (.own y)->c≠x:=λc y r z=>by subst z;rw[r] at f;exact f
 have d:∀c xs,H c=some (.tup xs)->c≠x:=λc xs r z=>by subst z;rw[r] at f;exact f
 by_cases hb:b=x
 .subst hb;rw[AX] at q;cases q;exact new
 .rw [AZ hb] at q;by_cases g:b=e
  .have i:H b=some (.own x):=by
    rcases he with z|z
    .exact absurd (g.trans z) hb
    .rw [g];exact z
   rw[q] at i;cases i;obtain⟨v,hv⟩:=j;exact⟨v,by rw[g];exact hv⟩
  .refine (ok b u q).stay (λc v hc r=>k c v ?_ r) (λc r=>by rw[AZ (a c b r)];exact r) λc xs r=>by rw[AZ (d c xs r)];exact r
   rcases hc with rfl|hc
   .exact g
   .rintro rfl;rcases he with z|z
    .exact a c b hc z
    .rw [hc] at z;cases z;exact hb rfl
end
structure Un (fs ex:List Addr) (H H':Hp) (h h':Heap):Prop where
 keep:∀b o,h.get? b=some o->H b=none->b ∉ fs->b ∉ ex->h'.get? b=some o
 slot:∀b o,h.get? b=some o->H b=none->b∈fs->b ∉ ex->∃sl,h'.get? b=some {o with slots:=sl}
 free:∀b o,h.get? b=some o->H b=none->b ∉ ex->H' b=none
 there:∀b o,h.get? b=some o->b ∉ ex->∃o',h'.get? b=some o'
 tups:∀b xs,H b=some (.tup xs)->H' b=some (.tup xs)
 frzs:∀b o u,H b=some (.frz o u)->H' b=some (.frz o u)
 tbls:∀b ps,H b=some (.tbl ps)->∃more,H' b=some (.tbl (ps++more))
section
variable {fs fs' ex ex':zy zu}{H H1 H2:Hp}{h h1 h2 h':zl}{a x e:zu}{o:HO}
def Un.any (u:Un fs ex H H1 h h1){b:zu}{c:Obj}(q:h.get? b=some c)(n:H b=none)(hx:b ∉ ex):∃d,h1.get? b=some {c with slots:=d}:=by
 by_cases hb:b∈fs
 .exact u.slot b c q n hb hx
 .exact ⟨c.slots,u.keep b c q n hb hx⟩
def Un.trans (a:Un fs ex H H1 h h1)(b:Un fs ex H1 H2 h1 h2):Un fs ex H H2 h h2 where
 keep:=λc d q n hc hx=>b.keep c d (a.keep c d q n hc hx) (a.free c d q n hx) hc hx
 slot:=λc d q n hc hx=>by obtain⟨l,f⟩:=a.slot c d q n hc hx;obtain⟨g,i⟩:=b.slot c _ f (a.free c d q n hx) hc hx;exact⟨g,i⟩
 free:=λc d q n hx=>by obtain⟨j,f⟩:=a.there c d q hx;exact b.free c j f (a.free c d q n hx) hx
 there:=λc d q hx=>by obtain⟨j,f⟩:=a.there c d q hx;exact b.there c j f hx
 tups:=λc xs q=>b.tups c xs (a.tups c xs q)
 frzs:=λc d xs q=>b.frzs c d xs (a.frzs c d xs q)
 tbls:=λc k q=>by obtain⟨m1,f⟩:=a.tbls c k q;obtain⟨m2,i⟩:=b.tbls c _ f;exact⟨m1++m2,by rw[i,Array.append_assoc]⟩
def Un.kept (k:∀b u,h.get? b=some u->h'.get? b=some u):Un fs ex H H h h':=
 ⟨λb c q _ _ _=>k b c q,λb c q _ _ _=>⟨c.slots,k b c q⟩,λ_ _ _ n _=>n,λb c q _=>⟨c,k b c q⟩,λ_ _ q=>q,λ_ _ _ q=>q,λ_ d q=>⟨#[],by rw[q];simp⟩⟩
def Un.refl:Un fs ex H H h h:=Un.kept λ_ _ q=>q
def Un.laid (k:∀b u,h.get? b=some u->h'.get? b=some u)(hp:h.objs.size<=a)(c:H a=none):Un fs ex H (upd H a o) h h' where
 keep:=λb u q _ _ _=>k b u q
 slot:=λb u q _ _ _=>⟨u.slots,k b u q⟩
 free:=λb u q n _=>by rw[AZ (AAM (AAS (AAG q) hp))];exact n
 there:=λb u q _=>⟨u,k b u q⟩
 tups:=λb xs q=>by rw[AZ (Af q c)];exact q
 frzs:=λb u xs q=>by rw[AZ (Af q c)];exact q
 tbls:=λb d q=>⟨#[],by rw[AZ (Af q c),q];simp⟩
def Un.write (c:iC (H x))(he:e=x\/H e=some (.own x))(k:∀b u,b≠e->h.get? b=some u->h'.get? b=some u)(g:∃u,h'.get? e=some u):Un fs ex H (upd H x o) h h':=by
 have hx:∀b,H b=none->b≠x:=λb n z=>by subst z;rw[n] at c;exact c
 have hb:∀b,H b=none->b≠e:=λb n z=>by
  subst z;rcases he with r|r
  .exact hx b n r
  .rw [n] at r;cases r
 have d:∀b u,H b=some u->¬iC (some u)->b≠x:=λb u q i z=>by subst z;rw[q] at c;exact i c
 refine⟨λb u q n _ _=>k b u (hb b n) q,λb u q n _ _=>⟨u.slots,k b u (hb b n) q⟩,λb u q n _=>by rw[AZ (hx b n)];exact n,λb u q _=> ?_,
  λb xs q=>by rw[AZ (d b _ q λz=>z)];exact q,λb u xs q=>by rw[AZ (d b _ q λz=>z)];exact q,λb j q=>⟨#[],by rw[AZ (d b _ q λz=>z),q];simp⟩⟩
 by_cases f:b=e
 .subst f;exact g
 .exact ⟨u,k b u f q⟩
def Un.mono (u:Un fs ex H H1 h h1)(hs:∀b∈fs,b∈fs')(hx:∀b∈ex,b∈ex'):Un fs' ex' H H1 h h1:=
 ⟨λb c q n hb he=>u.keep b c q n (λz=>hb (hs b z)) λz=>he (hx b z),λ_ _ q n _ he=>u.any q n λz=>he (hx _ z),λb c q n he=>u.free b c q n λz=>he (hx b z),λb c q he=>u.there b c q λz=>he (hx b z),u.tups,u.frzs,u.tbls⟩
end
def kF (h:zl)(H:Hp):zy zu:=(List.range h.objs.size).filter λa=>(H a).isSome
def OT (h:zl)(H:Hp):zl:=PySem.W.hideAll h (kF h H)
def Vv (h:zl)(H:Hp):(OT h H).objs.size=h.objs.size:=PySem.W.hideAll_size _ _
def Xi {h:zl}{H:Hp}{b:zu}{o:Obj}(e:h.get? b=some o)(n:H b=none):(OT h H).get? b=some o:=
 PySem.W.hideAll_get _ e λa=>by have q:(H b).isSome=true:=(ABd.mp a).2;rw[n] at q;simp at q
def am {h:zl}{H:Hp}{b:zu}{o:Obj}(e:(OT h H).get? b=some o):h.get? b=some o/\H b=none:=by
 have a:h.get? b=some o:=PySem.W.of_hideAll (kF h H) e;refine⟨a, ?_⟩;cases q:H b with
 | none=>rfl
 | some x=> have c:b∈kF h H:=ABd.mpr ⟨ACP.mpr (AAG a),by simp[q]⟩;have z:(OT h H).get? b=none:=PySem.W.hideAll_none (kF h H) c;rw[z] at e;cases e
def Z4 (g h:zl)(L:zu):zy (zu×Obj):=(List.range h.objs.size).filterMap λa=>if a=L\/(g.get? a).isSome=true then none else (h.get? a).map λo=>(a,o)
def rest (g h:zl)(L d:zu):zy (zu×Obj):=(Z4 g h L).filter λp=>decide (p.1≠d)
structure Mod (K:AAB) (mg:Str->Option Value) (base:Heap):Prop where
 kin:K.In base
 glob:base.Ns mainGlobals mg
 blt:∃mb,base.Ns builtinsNs mb/\∀x:Str,x≠"__name__" ->mb x=bootBuiltins x
 nolimit:base.NoLimit
structure Cx where
 prog:Program
 w:World
 K:AAB
 mg:Str->Option Value
 base:Heap
 A:Around
 N:List Str
 s₀:Shared
 H₀:Hp
 env:Env
 outer:List Env
 stack:List Env
 ex:List Addr
 fn:Str->Bool
 calm:Bool
 pn:List (Addr×Obj)
 xe:Value->Shared->Prop
def Wg (l:zy Env):zy zu:=l.filterMap (·.frame)
abbrev Cx.fs (X:Cx):zy zu:=Wg X.outer
def gZ (sc:Scope)(x:Str):Prop:=sc.names.lookup x=some .local\/sc.names.lookup x=some .cell\/sc.names.lookup x=some .free
def Loc (sc:Scope)(x:Str):Prop:=sc.names.lookup x=some .local\/sc.names.lookup x=some .cell
def Look (env:Env)(h:zl)(m:Str->zt zx)(x:Str)(u:zx):Prop:=
 (env.kindOf x=some .local/\m x=some u)\/((env.kindOf x=some .cell\/env.kindOf x=some .free)/\∃c,env.cells.lookup x=some c/\h.IsCell c (some u))
structure Cx.Ok (X:Cx):Prop where
 mod:Mod X.K X.mg X.base
 kind:X.env.scope.kind= .function
 glob:X.env.globals=mainGlobals
 blt:X.env.builtins=builtinsNs
 above:X.s₀.heap.objs.size<=X.env.locals
 inj:∀x y c,X.env.cells.lookup x=some c->X.env.cells.lookup y=some c->x=y
 has:∀x,(X.env.kindOf x=some .cell\/X.env.kindOf x=some .free)->∃c,X.env.cells.lookup x=some c
 cab:∀x c,X.fn x=true->X.env.cells.lookup x=some c->X.s₀.heap.objs.size<=c
 hd:X.calm=true->X.A.handled=none
 frames:X.A.frames=some X.stack
 stk:X.stack=X.outer\/(X.stack=X.env::X.outer/\X.env.frame=some X.env.locals)
 exf:∀b∈X.ex,b≠X.env.locals/\∀x c,X.env.cells.lookup x=some c->c≠b
 bs:∀b o,X.base.get? b=some o->X.s₀.heap.get? b=some o/\X.H₀ b=none
 bsz:X.base.objs.size<=X.s₀.heap.objs.size
 noex:∀b o,X.base.get? b=some o->b ∉ X.ex
 exfs:∀b∈X.ex,b ∉ X.fs
 funs:X.s₀.heap.FunFrames X.base X.outer
 frf:∀b∈X.fs,X.H₀ b=none
structure Inv (X:Cx) (zj:List (Addr×Obj)) (σ:List (Option V)) (H:Hp) (s:Shared):Prop where
 ok:X.Ok
 os:s.os=X.s₀.os
 bare:AllBare s.gens
 base:Un X.fs X.ex X.H₀ H X.s₀.heap s.heap
 loc:∃m,s.heap.Ns X.env.locals m/\∀(i:Nat) (x:Str) (v:V),X.N[i]? =some x->σ[i]? =some (some v)->gZ X.env.scope x->∃u,RelV v u/\Look X.env s.heap m x u
 cell:∀x c,X.env.cells.lookup x=some c->∃v,s.heap.IsCell c v
 free:H X.env.locals=none
 freeC:∀x c,X.env.cells.lookup x=some c->H c=none
 pin:∀p∈X.pn++zj,s.heap.get? p.1=some p.2/\H p.1=none/\p.1≠X.env.locals/\p.1 ∉ X.fs/\∀v,p.2.data≠ .cell v
 hok:G4 X.prog X.w H s.heap
 len:σ.length=X.N.length
section
variable {X:Cx}{zj:zy (zu×Obj)}{σ:zy (zt V)}{H H':Hp}{s:zw}{h':zl}
def Cx.Ok.nofr (ok:X.Ok){b:zu}{o:Obj}(e:X.base.get? b=some o):b ∉ X.fs:=λhb=>by have:=(ok.funs.mem hb).1;rw[e] at this;cases this
def Inv.bs (I:Inv X zj σ H s):∀b o,X.base.get? b=some o->s.heap.get? b=some o/\H b=none:=λb o e=>
 ⟨I.base.keep b o (I.ok.bs b o e).1 (I.ok.bs b o e).2 (I.ok.nofr e) (I.ok.noex b o e),I.base.free b o (I.ok.bs b o e).1 (I.ok.bs b o e).2 (I.ok.noex b o e)⟩
def Inv.bk (I:Inv X zj σ H s):∀b o,X.base.get? b=some o->s.heap.get? b=some o:=λb o e=>(I.bs b o e).1
def Inv.mod (I:Inv X zj σ H s):Mod X.K X.mg X.base:=I.ok.mod
def Inv.kIn (I:Inv X zj σ H s):X.K.In s.heap:=I.ok.mod.kin.keeps I.bk
def Inv.nolimit (I:Inv X zj σ H s):s.heap.NoLimit:=I.ok.mod.nolimit.keeps I.bk
def Inv.fr (I:Inv X zj σ H s):∃m,Fr X.base X.env.locals s.heap m:=
 let ⟨m,a,_⟩:=I.loc
 ⟨m,a,I.bk,AAe I.ok.bsz I.ok.above⟩
def Inv.lt (I:Inv X zj σ H s):X.env.locals<s.heap.objs.size:=let ⟨_,a,_⟩:=I.loc;a.lt
def Inv.sz (I:Inv X zj σ H s):X.s₀.heap.objs.size<=s.heap.objs.size:=AAe I.ok.above (ACQ I.lt)
def Inv.nofs (I:Inv X zj σ H s){a:zu}(h:s.heap.objs.size<=a):a ∉ X.fs:=λhb=>by obtain⟨_,o,b,_⟩:=I.ok.funs.mem hb;exact absurd (AAS (AAG b) (AAe I.sz h)) (AA9 _)
def Inv.cne (I:Inv X zj σ H s):∀x c,X.env.cells.lookup x=some c->c≠X.env.locals:=λx c e z=>by obtain⟨v,o,a,hd⟩:=I.cell x c e;obtain⟨m,⟨f,es,ep,b,d,_⟩,_⟩:=I.loc;rw[z,b] at a;cases a;rw[d] at hd;cases hd
def Inv.funs (I:Inv X zj σ H s):s.heap.FunFrames X.base X.outer:=by
 have all:∀(l:zy Env),(∀b∈Wg l,b∈X.fs)->X.s₀.heap.FunFrames X.base l->s.heap.FunFrames X.base l:=by
  intro l;induction l with
  | nil=>intro _ _;trivial
  | cons env r ih=> intro hs hl;obtain⟨hk,⟨L,o,a,d,f,hd⟩,g⟩:=hl;have c:L∈X.fs:=hs L (by unfold Wg;rw[AC3,a];exact ABU);obtain⟨h,e⟩:=I.base.slot L o f (I.ok.frf L c) c λz=>I.ok.exfs L z c;exact⟨hk,⟨L,_,a,d,e,hd⟩,ih (λb hb=>hs b (by unfold Wg;rw[AC3,a];exact AA8 _ hb)) g⟩
 exact all X.outer (λ_ hb=>hb) I.ok.funs
def Inv.stack (I:Inv X zj σ H s):s.heap.FunFrames X.base X.stack:=by
 rcases I.ok.stk with e|⟨e,a⟩
 .rw [e];exact I.funs
 .rw [e];obtain⟨m,b,_⟩:=I.loc;refine .cons (by rw[I.ok.kind];decide) a b ?_ I.funs;exact Heap.get?_none_of_le (AAe I.ok.bsz I.ok.above)
def Inv.stkSub (I:Inv X zj σ H s):∀b∈Wg X.stack,b∈X.env.locals::X.fs:=λb hb=>by
 rcases I.ok.stk with e|⟨e,a⟩
 .rw [e] at hb;exact AA8 _ hb
 .rw [e] at hb;unfold Wg at hb;rw[AC3,a] at hb;exact hb
def Inv.stkFree (I:Inv X zj σ H s):∀b∈Wg X.stack,H b=none:=λb hb=>by
 rcases AAF.mp (I.stkSub b hb) with e|hb
 .rw [e];exact I.free
 .obtain ⟨_,o,a,_⟩:=I.ok.funs.mem hb;exact I.base.free b o a (I.ok.frf b hb) λz=>I.ok.exfs b z hb
def Inv.step {g':Array GenState}{t':Nat}{d':Drawn}{ch:zy zu}(I:Inv X zj σ H s)(j:∀b∈ch,(b∈X.ex\/X.s₀.heap.objs.size<=b)/\b≠X.env.locals/\(∀x c,X.env.cells.lookup x=some c->c≠b)/\∀p∈X.pn++zj,p.1≠b)(keep:∀b o,b≠X.env.locals->b ∉ X.fs->b ∉ ch->s.heap.get? b=some o->H b=none->h'.get? b=some o)(slot:∀b o,b≠X.env.locals->b∈X.fs->b ∉ ch->s.heap.get? b=some o->H b=none->∃C,h'.get? b=some {o with slots:=C})(free:∀b o,b ∉ ch->s.heap.get? b=some o->H b=none->H' b=none)(there:∀b o,b ∉ ch->s.heap.get? b=some o->∃t,h'.get? b=some t)(tups:∀b xs,H b=some (.tup xs)->H' b=some (.tup xs))(frzs:∀b o u,H b=some (.frz o u)->H' b=some (.frz o u))(tbls:∀b B,H b=some (.tbl B)->∃more,H' b=some (.tbl (B++more)))(G:∀m,s.heap.Ns X.env.locals m->h'.Ns X.env.locals m)(hok:G4 X.prog X.w H' h')(J:AllBare g'):Inv X zj σ H' {s with heap:=h',gens:=g',drawn:=d',toks:=t'}:=by
 have y:∀b o,X.s₀.heap.get? b=some o->b≠X.env.locals:=λb o e=>AAM (AAS (AAG e) I.ok.above);have f:∀b o,X.s₀.heap.get? b=some o->b ∉ X.ex->b ∉ ch:=λb o e hx hb=>by
  rcases (j b hb).1 with z|z
  .exact hx z
  .exact absurd (AAS (AAG e) z) (AA9 _)
 have cellK:∀x c,X.env.cells.lookup x=some c->∀v,s.heap.IsCell c v->h'.IsCell c v:=λx c e v ⟨o,h,hd⟩=>by
  have a:c ∉ ch:=λz=>(j c z).2.2.1 x c e rfl;by_cases hc:c∈X.fs
  .obtain ⟨C,q⟩:=slot c o (I.cne x c e) hc a h (I.freeC x c e);exact⟨_,q,hd⟩
  .exact ⟨o,keep c o (I.cne x c e) hc a h (I.freeC x c e),hd⟩
 refine⟨I.ok,I.os,J,⟨λb o e n hb hx=> ?_,λb o e n hb hx=> ?_,λb o e n hx=> ?_,λb o e hx=> ?_,λb xs e=>tups b xs (I.base.tups b xs e),λb o xs e=>frzs b o xs (I.base.frzs b o xs e),λb B e=> ?_⟩, ?_,λx c e=> ?_, ?_,λx c e=> ?_,λp hp=> ?_,hok,I.len⟩
 .exact keep b o (y b o e) hb (f b o e hx) (I.base.keep b o e n hb hx) (I.base.free b o e n hx)
 .obtain ⟨C,g⟩:=I.base.slot b o e n hb hx;obtain⟨D,A⟩:=slot b _ (y b o e) hb (f b o e hx) g (I.base.free b o e n hx);exact⟨D,A⟩
 .obtain ⟨t,g⟩:=I.base.there b o e hx;exact free b t (f b o e hx) g (I.base.free b o e n hx)
 .obtain ⟨t,g⟩:=I.base.there b o e hx;exact there b t (f b o e hx) g
 .obtain ⟨m1,g⟩:=I.base.tbls b B e;obtain⟨m2,A⟩:=tbls b _ g;exact⟨m1++m2,by rw[A,Array.append_assoc]⟩
 .obtain ⟨m,K,hl⟩:=I.loc;refine⟨m,G m K,λi x v g A L=> ?_⟩;obtain⟨u,r,l⟩:=hl i x v g A L;refine⟨u,r, ?_⟩;rcases l with l|⟨k,c,e,z⟩
  .exact .inl l
  .exact .inr ⟨k,c,e,cellK x c e _ z⟩
 .obtain ⟨v,z⟩:=I.cell x c e;exact⟨v,cellK x c e v z⟩
 .obtain ⟨m,⟨o,_,_,h,_⟩,_⟩:=I.loc;exact free _ o (λz=>(j _ z).2.1 rfl) h I.free
 .obtain ⟨v,o,h,hd⟩:=I.cell x c e;exact free c o (λz=>(j c z).2.2.1 x c e rfl) h (I.freeC x c e)
 .obtain ⟨e,n,E,F,d⟩:=I.pin p hp;have a:p.1 ∉ ch:=λz=>(j p.1 z).2.2.2 p hp rfl;exact⟨keep p.1 p.2 E F a e n,free p.1 p.2 a e n,E,F,d⟩
def Inv.un {t':Nat}(I:Inv X zj σ H s)(u:Un X.fs [] H H' s.heap h')(hok:G4 X.prog X.w H' h'):Inv X zj σ H' {s with heap:=h',toks:=t'}:=by
 obtain⟨m,⟨o,es,ep,d,r⟩,_⟩:=id I.loc;obtain⟨j,g⟩:=u.any d I.free (by simp);exact I.step (g':=s.gens) (d':=s.drawn) (ch:= []) (λ_ z=>nomatch z) (λb o _ hb _ e n=>u.keep b o e n hb (by simp)) (λb o _ hb _ e n=>u.slot b o e n hb (by simp)) (λb o _ e n=>u.free b o e n (by simp)) (λb o _ e=>u.there b o e (by simp)) u.tups u.frzs u.tbls (λk h=>by
  obtain⟨l,a,c,f,i⟩:=h;rw[d] at f;cases f;exact⟨_,a,c,g,i⟩) hok I.bare
def Inv.call {g':Array GenState}{t':Nat}{d':Drawn}{ch:zy zu}(I:Inv X zj σ H s)(u:Un (Wg X.stack) ch H H' s.heap h')(hok:G4 X.prog X.w H' h')(j:AllBare g')(g:∀b∈ch,(b∈X.ex\/X.s₀.heap.objs.size<=b)/\b≠X.env.locals/\(∀x c,X.env.cells.lookup x=some c->c≠b)/\∀p∈X.pn++zj,p.1≠b):Inv X zj σ H' {s with heap:=h',gens:=g',drawn:=d',toks:=t'}:=by
 obtain⟨m,⟨o,es,ep,h,r⟩,_⟩:=id I.loc;obtain⟨t,a⟩:=u.any h I.free λz=>(g _ z).2.1 rfl;exact I.step (ch:=ch) g (λb o a hb hc e n=>u.keep b o e n (λz=>(AAF.mp (I.stkSub b z)).elim a hb) hc) (λb o _ _ hc e n=>u.any e n hc) (λb o hc e n=>u.free b o e n hc) (λb o hc e=>u.there b o e hc) u.tups u.frzs u.tbls (λv k=>by
  obtain⟨y,d,f,i,l⟩:=k;rw[h] at i;cases i;exact⟨_,d,f,a,l⟩) hok j
def Inv.turned {t':Nat}{it:zu}(I:Inv X zj σ H s)(k:∀b o,b≠it->s.heap.get? b=some o->h'.get? b=some o)(f:H it=none)(d:it≠X.env.locals)(h1:it∈X.ex\/X.s₀.heap.objs.size<=it)(h2:∀x c,X.env.cells.lookup x=some c->c≠it)(g:∀p∈X.pn++zj,p.1≠it):Inv X zj σ H {s with heap:=h',toks:=t'}:=by
 have a:∀b u,H b=some u->b≠it:=λb u e z=>by rw[z,f] at e;cases e
 refine I.step (g':=s.gens) (d':=s.drawn) (ch:= [it]) (λb hb=> ?_) (λb o _ _ hc e _=>k b o (λz=>hc (by simp[z])) e) (λb o _ _ hc e _=>⟨o.slots,k b o (λz=>hc (by simp[z])) e⟩) (λ_ _ _ _ n=>n)
  (λb o hc e=>⟨o,k b o (λz=>hc (by simp[z])) e⟩) (λ_ _ e=>e) (λ_ _ _ e=>e) (λb j e=>⟨#[],by rw[e];simp⟩) (λm h=> ?_) (λb u e=> ?_) I.bare
 .have e:b=it:=by simpa using hb
  subst e;exact⟨h1,d,h2,g⟩
 .obtain ⟨o,es,ep,i,r⟩:=h;exact⟨o,es,ep,k _ o (AAb d) i,r⟩
 .refine (I.hok b u e).stay (λc v hc q=>k c v ?_ q) (λ_ q=>q) λ_ _ q=>q;rcases hc with z|z
  .rw [z];exact a b u e
  .exact a c _ z
def Inv.tok (I:Inv X zj σ H s)(t:Nat):Inv X zj σ H {s with toks:=t}:=I.un (h':=s.heap) (t':=t) Un.refl I.hok
def Inv.kept {t':Nat}(I:Inv X zj σ H s)(k:∀b u,s.heap.get? b=some u->h'.get? b=some u):Inv X zj σ H {s with heap:=h',toks:=t'}:=I.un (Un.kept k) (I.hok.kept k)
def Inv.laid {a:zu}{o:HO}{t':Nat}(I:Inv X zj σ H s)(k:∀b u,s.heap.get? b=some u->h'.get? b=some u)(hp:s.heap.objs.size<=a)(new:Bn X.prog X.w (upd H a o) h' a o):Inv X zj σ (upd H a o) {s with heap:=h',toks:=t'}:=I.un (Un.laid k hp (I.hok.fresh hp)) (I.hok.laid k hp new)
def Inv.write {x e:zu}{o:HO}{t':Nat}(I:Inv X zj σ H s)(a:iC (H x))(he:e=x\/H e=some (.own x))(k:∀b u,b≠e->s.heap.get? b=some u->h'.get? b=some u)(c:∃u,h'.get? e=some u)(new:Bn X.prog X.w (upd H x o) h' x o):Inv X zj σ (upd H x o) {s with heap:=h',toks:=t'}:=I.un (Un.write a he k c) (I.hok.write a he k c new)
def Inv.weak {σ':zy (zt V)}(I:Inv X zj σ H s)(hl:σ'.length=σ.length)(w:∀(i:Nat) v,σ'[i]? =some (some v)->σ[i]? =some (some v)):Inv X zj σ' H s:=
 ⟨I.ok,I.os,I.bare,I.base,let ⟨m,a,b⟩:=I.loc;⟨m,a,λi x v c d e=>b i x v c (w i v d) e⟩,I.cell,I.free,I.freeC,I.pin,I.hok,hl.trans I.len⟩
def Inv.pins_of {a:zy (zu×Obj)}(I:Inv X zj σ H s)(h:∀p∈a,s.heap.get? p.1=some p.2/\H p.1=none/\p.1≠X.env.locals/\p.1 ∉ X.fs/\∀v,p.2.data≠ .cell v):Inv X a σ H s:=
 ⟨I.ok,I.os,I.bare,I.base,I.loc,I.cell,I.free,I.freeC,λp hp=>(AAO.mp hp).elim (λz=>I.pin p (AC4 _ z)) (h p),I.hok,I.len⟩
def Qv {N:zy Str}(hN:N.Nodup){i j:Nat}{x:Str}(a:N[i]? =some x)(b:N[j]? =some x):i=j:=by obtain⟨h1,c⟩:=AAp.mp a;obtain⟨h2,d⟩:=AAp.mp b;exact(List.getElem_inj hN).mp (c.trans d.symm)
def JQ {M:Model}{A:zk}{E:zx->zw->Prop}{i:Nat}{x:Str}{v:V}{u:zx}{Q:Unit->zw->Prop}(I:Inv X zj σ H s)(hN:X.N.Nodup)(hi:X.N[i]? =some x)(hx:Loc X.env.scope x)(r:RelV v u)(h:∀F,Inv X zj (σ.set i (some v)) H F->(∃a,Heap.SameBut a s.heap F.heap/\(a=X.env.locals\/X.env.cells.lookup x=some a))->Q () F)(hf:X.fn x=true\/X.env.scope.names.lookup x=some .local:=by first | exact .inl rfl|exact .inr rfl|assumption):wpAny M A (storeName X.env x u) Q E s:=by
 obtain⟨m,G,hl⟩:=id I.loc;have lN:(X.env.scope.kind == .class||(X.env.scope.kind == .module&&X.env.locals != X.env.globals))=false:=by rw[I.ok.kind];rfl
 have l:i<σ.length:=by rw[I.len];exact(AAp.mp hi).1
 have t:=I.cne;have tracked:∀{a:zu} {h':zl},(∃o,s.heap.get? a=some o/\H a=none)->Heap.SameBut a s.heap h'->G4 X.prog X.w H h':=λ{a h'} ha hs b ob e=>by
  obtain⟨_,_,U⟩:=ha;refine(I.hok b ob e).stay (λc B hc q=>(hs.2 c ?_).trans q) (λ_ q=>q) λ_ _ q=>q;rintro rfl;rcases hc with rfl|hc
  .rw [U] at e;cases e
  .rw [U] at hc;cases hc
 rcases hx with hk|hk
 .refine wpAny_storeName_local hk G (λh' sN hs=> ?_) lN;obtain⟨oL,_,_,sP,_⟩:=id G;refine h _ ⟨I.ok,I.os,I.bare,⟨λb o e n hb hx=> ?_,λb o e n hb hx=> ?_,I.base.free,λb o e hx=> ?_,I.base.tups,I.base.frzs,I.base.tbls⟩,⟨_,sN,λj y J f g K=> ?_⟩,λy c e=> ?_,I.free,I.freeC,λp hp=> ?_,tracked ⟨oL,sP,I.free⟩ hs,by simpa using I.len⟩ ⟨_,hs, .inl rfl⟩
  .exact (hs.2 b (AAM (AAS (AAG e) I.ok.above))).trans (I.base.keep b o e n hb hx)
  .obtain ⟨L,f⟩:=I.base.slot b o e n hb hx;exact⟨L,(hs.2 b (AAM (AAS (AAG e) I.ok.above))).trans f⟩
  .obtain ⟨O,f⟩:=I.base.there b o e hx;exact⟨O,(hs.2 b (AAM (AAS (AAG e) I.ok.above))).trans f⟩
  .by_cases hj:j=i
   .subst hj;rw[hi] at f;cases f;rw[ABe l] at g;cases g;exact⟨u,r, .inl ⟨hk,by simp⟩⟩
   .rw [AAW (AAb hj)] at g;obtain⟨P,R,q⟩:=hl j y J f g K;refine⟨P,R, ?_⟩;rcases q with⟨k,e⟩|⟨k,c,e,z⟩
    .refine .inl ⟨k, ?_⟩;have:y≠x:=λe=>hj (Qv hN f (e ▸ hi));simp[this,e]
    .exact .inr ⟨k,c,e,z.sameBut hs (t y c e)⟩
  .obtain ⟨B,z⟩:=I.cell y c e;exact⟨B,z.sameBut hs (t y c e)⟩
  .obtain ⟨e,n,C,S,d⟩:=I.pin p hp;exact⟨(hs.2 p.1 C).trans e,n,C,S,d⟩
 .have T:X.fn x=true:=by
   rcases hf with z|z
   .exact z
   .rw [z] at hk;cases hk
  obtain⟨c,hc⟩:=I.ok.has x (.inl hk);obtain⟨B,z⟩:=I.cell x c hc;refine wpAny_storeName_cell I.ok.kind hk hc z (λh' W hs=> ?_);obtain⟨Y,Z,lY⟩:=id z;refine h {s with heap:=h'} ⟨I.ok,I.os,I.bare,⟨λb o e n hb hx=> ?_,λb o e n hb hx=> ?_,I.base.free,λb o e hx=> ?_,I.base.tups,I.base.frzs,I.base.tbls⟩,⟨m,G.sameBut hs (AAb (t x c hc)),λj y J f g K=> ?_⟩,λy D e=> ?_,I.free,I.freeC,λp hp=> ?_,tracked ⟨Y,Z,I.freeC x c hc⟩ hs,by simpa using I.len⟩ ⟨c,hs, .inr hc⟩
  .exact (hs.2 b (AAM (AAS (AAG e) (I.ok.cab x c T hc)))).trans (I.base.keep b o e n hb hx)
  .obtain ⟨L,f⟩:=I.base.slot b o e n hb hx;exact⟨L,(hs.2 b (AAM (AAS (AAG e) (I.ok.cab x c T hc)))).trans f⟩
  .obtain ⟨O,f⟩:=I.base.there b o e hx;exact⟨O,(hs.2 b (AAM (AAS (AAG e) (I.ok.cab x c T hc)))).trans f⟩
  .by_cases hj:j=i
   .subst hj;rw[hi] at f;cases f;rw[ABe l] at g;cases g;exact⟨u,r, .inr ⟨.inl hk,c,hc,W⟩⟩
   .rw [AAW (AAb hj)] at g;obtain⟨P,R,q⟩:=hl j y J f g K;refine⟨P,R, ?_⟩;rcases q with q|⟨k,D,e,z'⟩
    .exact .inl q
    .refine .inr ⟨k,D,e,z'.sameBut hs ?_⟩;rintro rfl;exact hj (Qv hN f (I.ok.inj _ _ _ e hc ▸ hi))
  .by_cases oQ:D=c
   .subst oQ;exact⟨_,W⟩
   .obtain ⟨w2,z2⟩:=I.cell y D e;exact⟨w2,z2.sameBut hs oQ⟩
  .obtain ⟨e,n,C,S,d⟩:=I.pin p hp;refine⟨(hs.2 p.1 ?_).trans e,n,C,S,d⟩;intro q;rw[q,Z] at e;have q':Y=p.2:=AAV e;exact d B (by rw[<-q'];exact lY)
def GJ {M:Model}{A:zk}{E:zx->zw->Prop}{i:Nat}{x:Str}{v:V}{u:zx}{Q:Unit->zw->Prop}(I:Inv X zj σ H s)(hN:X.N.Nodup)(hi:X.N[i]? =some x)(hx:Loc X.env.scope x)(r:RelV v u)(h:∀a,Inv X zj (σ.set i (some v)) H a->Q () a)(b:X.fn x=true\/X.env.scope.names.lookup x=some .local:=by first | exact .inl rfl|exact .inr rfl|assumption):wpAny M A (storeName X.env x u) Q E s:=
 JQ I hN hi hx r (λa c _=>h a c) b
def Inv.call' {a:zw}{ch:zy zu}(I:Inv X zj σ H s)(d:a.os=s.os)(u:Un (Wg X.stack) ch H H' s.heap a.heap)(hok:G4 X.prog X.w H' a.heap)(f:AllBare a.gens)(g:∀b∈ch,(b∈X.ex\/X.s₀.heap.objs.size<=b)/\b≠X.env.locals/\(∀x c,X.env.cells.lookup x=some c->c≠b)/\∀p∈X.pn++zj,p.1≠b):Inv X zj σ H' a:=by obtain⟨h',g',d',t',h⟩:=a;have e:h=s.os:=d;subst e;exact I.call (g':=g') (t':=t') (d':=d') u hok f g
end
abbrev XK:=zx->zt zu->Hp->Prop
abbrev St:=zy (zt V)
abbrev VK:=V->Hp->Prop
abbrev TE:=St->Hp->VK->Prop
abbrev TT:=St->Hp->(zq->Hp->Prop)->Prop
abbrev TA:=St->Hp->(zy V->Hp->Prop)->Prop
structure J1 where
 nx:St->Hp->Prop
 rt:VK
 bk:St->Hp->Prop:=λ_ _=>False
 ct:St->Hp->Prop:=λ_ _=>False
abbrev TS:=J1->St->Hp->Prop
def EP (X:Cx)(b:zy (zu×Obj))(c:St)(Q:VK)(u:zx)(d:zw):Prop:=∃v a,Inv X b c a d/\RelV v u/\Q v a
def TP (X:Cx)(c:zy (zu×Obj))(d:St)(Q:zq->Hp->Prop)(b:zq)(e:zw):Prop:=∃a,Inv X c d a e/\Q b a
def AP (X:Cx)(b:zy (zu×Obj))(c:St)(Q:zy V->Hp->Prop)(us:zy zx)(d:zw):Prop:=∃vs a,Inv X b c a d/\Aj vs us/\Q vs a
def SP (X:Cx)(b:zy (zu×Obj))(D:J1)(f:Flow)(c:zw):Prop:=
 match f with
 | .next=>∃σ' a,Inv X b σ' a c/\D.nx σ' a
 | .brk=>∃σ' a,Inv X b σ' a c/\D.bk σ' a
 | .cont=>∃σ' a,Inv X b σ' a c/\D.ct σ' a
 | .ret u=>∃v σ' a,Inv X b σ' a c/\RelV v u/\D.rt v a
def PE (X:Cx)(e:zr)(t:TE):Prop:=
 ∀(b:zy (zu×Obj)) (s:zw) (a:St) (H:Hp) (Q:VK),Inv X b a H s->t a H Q->wpAny (model X.prog X.w) X.A (eval e X.env) (EP X b a Q) X.xe s
def PT (X:Cx)(e:zr)(t:TT):Prop:=
 ∀(b:zy (zu×Obj)) (s:zw) (a:St) (H:Hp) (Q:zq->Hp->Prop),Inv X b a H s->t a H Q->wpAny (model X.prog X.w) X.A (isTrue e X.env (eval e X.env)) (TP X b a Q) X.xe s
def PW (X:Cx)(e:zr)(t:TT):Prop:=
 ∀(whole:Sem zx) (b:zy (zu×Obj)) (s:zw) (a:St) (H:Hp) (Q:zq->Hp->Prop),Inv X b a H s->t a H Q->wpAny (model X.prog X.w) X.A (isTrue e X.env whole) (TP X b a Q) X.xe s
def PW.pt {X:Cx}{e:zr}{t:TT}(h:PW X e t):PT X e t:=h _
def PA (X:Cx)(es:zy zr)(t:TA):Prop:=
 ∀(a:Pos) (c:zy (zu×Obj)) (s:zw) (b:St) (H:Hp) (Q:zy V->Hp->Prop),Inv X c b H s->t b H Q->wpAny (model X.prog X.w) X.A (spliced (backTo a (starEach es X.env))) (AP X c b Q) X.xe s
def PS (X:Cx)(st:Stmt)(t:TS):Prop:=
 ∀(a:zy (zu×Obj)) (s:zw) (b:St) (H:Hp) (D:J1),Inv X a b H s->t D b H->wpAny (model X.prog X.w) X.A (exec st X.env) (SP X a D) X.xe s
def Rf (X:Cx)(st:zy Stmt)(t:TS):Prop:=
 ∀(a:zy (zu×Obj)) (s:zw) (b:St) (H:Hp) (D:J1),Inv X a b H s->t D b H->wpAny (model X.prog X.w) X.A (execs st X.env) (SP X a D) X.xe s
def BJ {b:Type}{t:Sem b}{Q c:b->zw->Prop}{M:Model}{A:zk}{E:zx->zw->Prop}{s:zw}(h:wpAny M A t Q E s)(hQ:∀a s,Q a s->c a s):wpAny M A t c E s:=AA4 h hQ λ_ _ x=>x
section
variable {X:Cx}
def Cm (i:Nat):TE:=λa H Q=>∃v,a[i]? =some (some v)/\Q v H
def tC (v:V):TE:=λ_ H Q=>Q v H
def TL {i:Nat}{x:Str}{b:Pos}(hN:X.N[i]? =some x)(hv:gZ X.env.scope x)(hd:(x==("__debug__" :Str))=false:=by decide)(f:(x==("__classdict__" :Str))=false:=by decide):PE X (.Name x b) (Cm i):=by
 intro g s j H Q I h;obtain⟨v,e,h⟩:=h;obtain⟨m,k,hl⟩:=I.loc;obtain⟨u,r,l⟩:=hl i x v hN e hv;have a:EP X g j Q u s:=⟨v,H,I,r,h⟩;rcases l with⟨hk,n⟩|⟨hk,c,hc,d⟩
 .exact wpAny_Name (wpAny_loadName_local I.ok.kind hk k n a) hd
 .rcases hk with hk|hk
  .exact wpAny_Name (wpAny_loadName_cell I.ok.kind hk hc d a) hd
  .exact wpAny_Name (wpAny_loadName_free I.ok.kind hk hc d a f) hd
def As {i j pos}:PE X (.Constant (.int i) j pos) (tC (.int i)):=λ_ _ _ H _ I h=>wpAny_Constant_int ⟨.int i,H,I.tok _,⟨_,rfl⟩,h⟩
def jD {b j pos}:PE X (.Constant (.bool b) j pos) (tC (.bl b)):=λ_ _ _ H _ I h=>Constant_bool ⟨.bl b,H,I,rfl,h⟩
def YN {j pos}:PE X (.Constant .none j pos) (tC .non):=λ_ _ _ H _ I h=>Constant_none ⟨.non,H,I,rfl,h⟩
def fR {x j pos}:PE X (.Constant (.str x) j pos) (tC (.str x)):=λ_ _ _ H _ I h=>Calls.Constant_str ⟨.str x,H,I.tok _,⟨_,rfl⟩,h⟩
def Gl (X:Cx)(x:Str):Prop:=X.env.kindOf x=some .globalImplicit
def Um {E:zx->zw->Prop}{b:zy (zu×Obj)}{s:zw}{c:St}{H:Hp}{x:Str}{u:zx}{a:Pos}{Q:zx->zw->Prop}(I:Inv X b c H s)(d:Gl X x)(e:X.mg x=some u)(h:Q u s)(hd:(x==("__debug__" :Str))=false:=by decide):wpAny (model X.prog X.w) X.A (eval (.Name x a) X.env) Q E s:=
 Calls.Name_function_global I.ok.kind d (Calls.loadGlobal_global (by rw[I.ok.glob];exact I.mod.glob.keeps I.bk) e h) hd
def Iy {E:zx->zw->Prop}{b:zy (zu×Obj)}{s:zw}{c:St}{H:Hp}{x:Str}{u:zx}{a:Pos}{Q:zx->zw->Prop}(I:Inv X b c H s)(d:Gl X x)(e:X.mg x=none)(hv:bootBuiltins x=some u)(h:Q u s)(f:x≠"__name__" :=by decide)(hd:(x==("__debug__" :Str))=false:=by decide):wpAny (model X.prog X.w) X.A (eval (.Name x a) X.env) Q E s:=by obtain⟨g,h1,h2⟩:=I.mod.blt;exact Calls.Name_function_global I.ok.kind d (Calls.loadGlobal_builtin (by rw[I.ok.glob];exact I.mod.glob.keeps I.bk) e (by rw[I.ok.blt];exact h1.keeps I.bk) ((h2 x f).trans hv) h) hd
def bC {x:Str}{v:V}{u:zx}{a:Pos}(b:Gl X x)(c:X.mg x=some u)(r:RelV v u)(hd:(x==("__debug__" :Str))=false:=by decide):PE X (.Name x a) (tC v):=
 λ_ _ _ H _ I h=>Um I b c ⟨v,H,I,r,h⟩ hd
variable {a b:zr}{ta tb:TE}{pos:Pos}
def PC (X:Cx)(op:CmpOp)(a b:zr)(t:TE):Prop:=
 ∀(f:zy (zu×Obj)) (s:zw) (e:St) (H:Hp) (Q:VK),Inv X f e H s->t e H Q->
  wpAny (model X.prog X.w) X.A (eval a X.env) (λv c=>wpAny (model X.prog X.w) X.A (eval b X.env) (λu d=>wpAny (model X.prog X.w) X.A (compareOp op v u) (EP X f e Q) X.xe d) X.xe c) X.xe s
def X7 (b:zr){op:CmpOp}(h:op≠ .In)(h2:op≠ .NotIn):behindInMarks op b=false:=by
 have c:(op==CmpOp.In)=false:=by cases op <;> first | rfl|exact absurd rfl h
 have d:(op==CmpOp.NotIn)=false:=by cases op <;> first | rfl|exact absurd rfl h2
 cases b <;> simp[behindInMarks,c,d]
def tB (t:TE):TT:=λd H Q=>t d H λx H1=>∃c,x= .bl c/\Q c H1
def fV {op:CmpOp}{t:TE}(h:PC X op a b t)(h1:behindInMarks op b=false:=by first | exact X7 _ (by decide) (by decide)|rfl):PT X (.Compare a [op] [b] pos) (tB t):=by intro e s f H Q I hw;refine wpAny_isTrue_Compare1 (BJ (h e s f H _ I hw) λv k h1=>BJ h1 λu l h2=>BJ h2 λc m ⟨x,H1,g,i,j⟩=> ?_) h1;obtain⟨d,rfl,q⟩:=j;cases i;exact ABc ⟨H1,g,q⟩
def fX {e:zr}{t:TE}(h:PE X e t)(he:∀whole,isTrue e X.env whole=(do let v <-whole;standAt e.pos;holding [v] (truthy v)):=by intro _;rfl):PT X e (tB t):=by intro c s f H Q I hw;refine isTrue_plain (BJ (h c s f H _ I hw) λv k ⟨x,H1,g,i,j⟩=> ?_) (he _);obtain⟨d,rfl,q⟩:=j;cases i;exact ABc ⟨H1,g,q⟩
variable {tA tB':TT}{rest:zy zr}
def mO (t u:TT):TT:=λd H Q=>t d H λc H1=>if c=true then u d H1 Q else Q false H1
def tM (t u:TT):TT:=λd H Q=>t d H λc H1=>if c=true then Q true H1 else u d H1 Q
def mS (t:TT):TT:=λd H Q=>t d H λc H1=>Q (!c) H1
def bP (ha:PT X a tA):PW X (.BoolOp .And [a] pos) tA:=by
 intro g d s f H Q I h;refine isTrue_and (BJ (ha d s f H Q I h) λc i e=> ?_);cases c with
 | true=>exact isTrue_and_nil e
 | false=>exact e
def fZ (ha:PT X a tA):PW X (.BoolOp .Or [a] pos) tA:=by
 intro g d s f H Q I h;refine isTrue_or (BJ (ha d s f H Q I h) λc i e=> ?_);cases c with
 | false=>exact isTrue_or_nil e
 | true=>exact e
def fY (ha:PT X a tA)(hb:PW X (.BoolOp .And (b::rest) pos) tB'):PW X (.BoolOp .And (a::b::rest) pos) (mO tA tB'):=by
 intro i d s e H Q I h;refine isTrue_and (BJ (ha d s e H _ I h) λc j ⟨H1,f,g⟩=> ?_);cases c with
 | true=>exact hb i d j e H1 Q f g
 | false=>exact⟨H1,f,g⟩
def jH (ha:PT X a tA)(hb:PW X (.BoolOp .Or (b::rest) pos) tB'):PW X (.BoolOp .Or (a::b::rest) pos) (tM tA tB'):=by
 intro i d s e H Q I h;refine isTrue_or (BJ (ha d s e H _ I h) λc j ⟨H1,f,g⟩=> ?_);cases c with
 | true=>exact⟨H1,f,g⟩
 | false=>exact hb i d j e H1 Q f g
def fW (ha:PT X a tA):PT X (.UnaryOp .Not a pos) (mS tA):=by intro d s e H Q I h;exact isTrue_not (ha d s e H (λc H1=>Q (!c) H1) I h)
def jg (ta tb:TE):TE:=λd H Q=>ta d H λx H1=>∃c,x= .bl c/\if c=true then tb d H1 Q else Q (.bl false) H1
def mU (ta tb:TE):TE:=λd H Q=>ta d H λx H1=>∃c,x= .bl c/\if c=true then Q (.bl true) H1 else tb d H1 Q
def fQ {op}{t:TE}(h:PE X a t):PE X (.BoolOp op [a] pos) t:=λc s d H Q I hw=>BoolOp_one (h c s d H Q I hw)
def fN (ha:PE X a ta)(hb:PE X (.BoolOp .And (b::rest) pos) tb):PE X (.BoolOp .And (a::b::rest) pos) (jg ta tb):=by
 intro e s f H Q I h;refine BoolOp_and (BJ (ha e s f H _ I h) λv i ⟨x,H1,g,j,d⟩=> ?_);obtain⟨c,rfl,d⟩:=d;cases j;refine ABc ?_;cases c with
 | true=>exact hb e i f H1 Q g d
 | false=>exact⟨.bl false,H1,g,rfl,d⟩
def jF (ha:PE X a ta)(hb:PE X (.BoolOp .Or (b::rest) pos) tb):PE X (.BoolOp .Or (a::b::rest) pos) (mU ta tb):=by
 intro e s f H Q I h;refine BoolOp_or (BJ (ha e s f H _ I h) λv i ⟨x,H1,g,j,d⟩=> ?_);obtain⟨c,rfl,d⟩:=d;cases j;refine ABc ?_;cases c with
 | false=>exact hb e i f H1 Q g d
 | true=>exact⟨.bl true,H1,g,rfl,d⟩
def tL (t:TT)(ta tb:TE):TE:=λd H Q=>t d H λc H1=>if c=true then ta d H1 Q else tb d H1 Q
def YL {c:zr}(hc:PT X c tA)(ha:PE X a ta)(hb:PE X b tb):PE X (.IfExp c a b pos) (tL tA ta tb):=by
 intro e s f H Q I h;refine wpAny_IfExp (BJ (hc e s f H _ I h) λd g ⟨H1,i,j⟩=> ?_);cases d with
 | true=>exact ha e g f H1 Q i j
 | false=>exact hb e g f H1 Q i j
end
def Ee (K:AAB)(H:Hp)(a:zu)(xs:zy V):Prop:=
 Rd H a (.lst xs)\/
  ∃(o:Obj) (b:Array zx) (n:Nat),K.lookup a=some o/\o.cls= .type "list" /\o.dict=none/\o.data= .seq b n/\b.size<=sizeLine/\Aj xs b.toList
def JZ (K:AAB)(H:Hp)(a:zu)(xs:zy V):Prop:=
 Rd H a (.tup xs)\/
  ∃(o:Obj) (b:Array zx) (n:Nat),K.lookup a=some o/\o.cls= .type "tuple" /\o.data= .seq b n/\b.size<=sizeLine/\Aj xs b.toList
def ku:zx->zt V
 | .none=>some .non
 | .bool b=>some (.bl b)
 | .int i _=>some (.int i)
 | .str x _=>some (.str x)
 | .bytes b _=>some (.byt b)
 | .float b _=>some (.flt b)
 | .ref a=>some (.ref a)
 | .type n=>some (.ty n)
 | _=>none
def RelV.abs {x:V}{u:zx}(r:RelV x u):ku u=some x:=by
 cases x with
 | non=>cases r;rfl
 | bl _=>cases r;rfl
 | int _=>obtain⟨t,rfl⟩:=r;rfl
 | str _=>obtain⟨t,rfl⟩:=r;rfl
 | byt _=>obtain⟨t,rfl⟩:=r;rfl
 | flt _=>obtain⟨t,rfl⟩:=r;rfl
 | ref _=>cases r;rfl
 | ty _=>cases r;rfl
def RelV.inj {x y:V}{u:zx}(r:RelV x u)(q:RelV y u):x=y:=AAV (r.abs.symm.trans q.abs)
theorem Aj.inj:∀{xs ys:zy V} {us:zy zx},Aj xs us->Aj ys us->xs=ys
 | _,_,_, .nil, .nil=>rfl
 | _,_,_, .cons r t, .cons a t'=>by rw[r.inj a,Aj.inj t t']
section
variable {X:Cx}{zj:zy (zu×Obj)}{σ:St}{H:Hp}{s:zw}{a:zu}{xs ys:zy V}
def Ee.of {K:AAB}(h:H a=some (.lst xs)):Ee K H a xs:= .inl (.inl h)
def JZ.of {K:AAB}(h:H a=some (.tup xs)):JZ K H a xs:= .inl (.inl h)
def Inv.list (I:Inv X zj σ H s)(h:Ee X.K H a xs):∃b:zy zx,Aj xs b/\PlainL s.heap a b.toArray/\xs.length<=sizeLine:=by
 rcases h with h|⟨o,b,n,hk,hc,hd,hs,hz,r⟩
 .obtain ⟨z,b,n,r,e⟩:=h.ok I.hok;exact⟨b,r,⟨_,n,e,rfl,rfl,rfl⟩,z⟩
 .refine ⟨b.toList,r,⟨o,n,I.kIn a o hk,hc,hd,by simpa using hs⟩, ?_⟩;have e:=r.length;simp only[ABT] at e;omega
def Inv.tuple (I:Inv X zj σ H s)(h:JZ X.K H a xs):∃b:zy zx,Aj xs b/\IsTup s.heap a b.toArray/\xs.length<=sizeLine:=by
 rcases h with h|⟨o,b,n,hk,hc,hs,hz,r⟩
 .obtain ⟨z,b,r,p⟩:=h.ok I.hok;exact⟨b,r,p,z⟩
 .refine ⟨b.toList,r,⟨o,I.kIn a o hk,hc,n,by simpa using hs⟩, ?_⟩;have e:=r.length;simp only[ABT] at e;omega
def Inv.list_inj (I:Inv X zj σ H s)(h:Ee X.K H a xs)(h':Ee X.K H a ys):xs=ys:=by
 obtain⟨b,r,⟨o,n,e,_,_,d⟩,_⟩:=I.list h;obtain⟨its',f,⟨i,j,c,_,_,d'⟩,_⟩:=I.list h';rw[e] at c;cases c;rw[d] at d';injection d' with g _;have:b=its':=by simpa using congrArg Array.toList g
 subst this;exact r.inj f
def Inv.tuple_inj (I:Inv X zj σ H s)(h:JZ X.K H a xs)(h':JZ X.K H a ys):xs=ys:=by
 obtain⟨b,r,⟨o,e,_,n,d⟩,_⟩:=I.tuple h;obtain⟨its',f,⟨i,c,_,j,d'⟩,_⟩:=I.tuple h';rw[e] at c;cases c;rw[d] at d';injection d' with g _;have:b=its':=by simpa using congrArg Array.toList g
 subst this;exact r.inj f
end
abbrev Cx.wish (X:Cx)(E:zx->zw->Prop):Cx:={X with xe:=E}
abbrev Cx.nox (X:Cx):Cx:=X.wish λ_ _=>False
def Cx.Ok.wish {X:Cx}(ok:X.Ok)(E:zx->zw->Prop):(X.wish E).Ok:=
 ⟨ok.mod,ok.kind,ok.glob,ok.blt,ok.above,ok.inj,ok.has,ok.cab,ok.hd,ok.frames,ok.stk,ok.exf,ok.bs,ok.bsz,ok.noex,ok.exfs,ok.funs,ok.frf⟩
def Cx.Ok.unwish {X:Cx}{E:zx->zw->Prop}(ok:(X.wish E).Ok):X.Ok:=
 ⟨ok.mod,ok.kind,ok.glob,ok.blt,ok.above,ok.inj,ok.has,ok.cab,ok.hd,ok.frames,ok.stk,ok.exf,ok.bs,ok.bsz,ok.noex,ok.exfs,ok.funs,ok.frf⟩
section
variable {X:Cx}{zj:zy (zu×Obj)}{σ:St}{H:Hp}{s:zw}{E:zx->zw->Prop}
def Inv.wish (I:Inv X zj σ H s)(E:zx->zw->Prop):Inv (X.wish E) zj σ H s:=⟨I.ok.wish E,I.os,I.bare,I.base,I.loc,I.cell,I.free,I.freeC,I.pin,I.hok,I.len⟩
def Inv.unwish (I:Inv (X.wish E) zj σ H s):Inv X zj σ H s:=⟨I.ok.unwish,I.os,I.bare,I.base,I.loc,I.cell,I.free,I.freeC,I.pin,I.hok,I.len⟩
def SP.unwish {D:J1}{f:Flow}{b:zw}(h:SP (X.wish E) zj D f b):SP X zj D f b:=by
 cases f with
 | next=>obtain⟨σ',a,I,q⟩:=h;exact⟨σ',a,I.unwish,q⟩
 | brk=>obtain⟨σ',a,I,q⟩:=h;exact⟨σ',a,I.unwish,q⟩
 | cont=>obtain⟨σ',a,I,q⟩:=h;exact⟨σ',a,I.unwish,q⟩
 | ret u=>obtain⟨v,σ',a,I,r,q⟩:=h;exact⟨v,σ',a,I.unwish,r,q⟩
def PE.nox {e:zr}{t:TE}(h:PE X.nox e t):PE X e t:=λzj s σ H Q I hw=>
 AA4 (h zj s σ H Q (I.wish _) hw) (λ_ _ ⟨v,a,b,r,q⟩=>⟨v,a,b.unwish,r,q⟩) λ_ _ z=>False.elim z
def PT.nox {e:zr}{t:TT}(h:PT X.nox e t):PT X e t:=λzj s σ H Q I hw=>
 AA4 (h zj s σ H Q (I.wish _) hw) (λ_ _ ⟨a,b,q⟩=>⟨a,b.unwish,q⟩) λ_ _ z=>False.elim z
def Rf.nox {st:zy Stmt}{t:TS}(h:Rf X.nox st t):Rf X st t:=λzj s σ H D I hw=>
 AA4 (h zj s σ H D (I.wish _) hw) (λ_ _ q=>q.unwish) λ_ _ z=>False.elim z
end
section
variable {X:Cx}{st:Stmt}{rest:zy Stmt}{t u:TS}{e:zr}{te:TE}{pos:Pos}
def dA:TS:=λD a H=>D.nx a H
def Tw (t u:TS):TS:=λD a H=>t {D with nx:=u D} a H
def KY:Rf X [] dA:=λ_ _ a H _ I h=>ACR ⟨a,H,I,h⟩
def BM (h1:PS X st t)(h2:Rf X rest u):Rf X (st::rest) (Tw t u):=by
 intro a s b H D I h;refine wpAny_execs_cons (BJ (h1 a s b H {D with nx:=u D} I h) λf c q=> ?_);cases f with
 | next=> obtain⟨σ',d,g,q⟩:=q;exact h2 a c σ' d D g q
 | ret v=>exact q
 | brk=>exact q
 | cont=>exact q
def Dq (h1:PS X st t):Rf X [st] t:=by
 intro a s b H D I h;refine wpAny_execs_cons (BJ (h1 a s b H D I h) λf c q=> ?_);cases f with
 | next=>exact ACR q
 | ret v=>exact q
 | brk=>exact q
 | cont=>exact q
def Inv.quiet {a:zy (zu×Obj)}{b:St}{H:Hp}{s:zw}(I:Inv X a b H s):interactive X.env=false:=by simp[interactive,I.ok.kind]
def c8 (te:TE):TS:=λD a H=>te a H λ_ H1=>D.nx a H1
def bN (he:PE X e te)(hs:swapsWith e none pos.line X.env=pure false:=by rfl):PS X (.Expr e pos) (c8 te):=by intro b s a H D I h;exact wpAny_Expr_any (BJ (he b s a H _ I h) λv f ⟨x,H1,c,g,d⟩=>⟨a,H1,c,d⟩) I.quiet hs
def ZE (te:TE):TS:=λD a H=>te a H D.rt
def MA (he:PE X e te):PS X (.Return (some e) pos) (ZE te):=by intro b s a H D I h;exact wpAny_Return_some (BJ (he b s a H _ I h) λv g ⟨x,H1,c,d,f⟩=>⟨x,a,H1,c,d,f⟩)
def jh (c:TT)(t u:TS):TS:=λD a H=>c a H λb H1=>if b=true then t D a H1 else u D a H1
def Uv {c:zr}{a b:zy Stmt}{i:TT}(hc:PT X c i)(ha:Rf X a t)(hb:Rf X b u):PS X (.If c a b pos) (jh i t u):=by
 intro f s g H D I h;refine wpAny_If (BJ (hc f s g H _ I h) λd j ⟨H1,k,l⟩=> ?_);cases d with
 | true=>exact ha f j g H1 D k l
 | false=>exact hb f j g H1 D k l
end
abbrev TG:=V->St->Hp->(St->Hp->Prop)->Prop
abbrev R1:=zy V->St->Hp->(St->Hp->Prop)->Prop
def PG (X:Cx)(target:zr)(t:TG):Prop:=
 ∀(a:zy (zu×Obj)) (s:zw) (b:St) (H:Hp) (v:V) (u:zx) (Q:St->Hp->Prop),Inv X a b H s->RelV v u->t v b H Q->
  wpAny (model X.prog X.w) X.A (assign target X.env u) (λ_ d=>∃σ' c,Inv X a σ' c d/\Q σ' c) X.xe s
def gX (X:Cx)(d:zy zr)(t:R1):Prop:=
 ∀(a:zy (zu×Obj)) (s:zw) (b:St) (H:Hp) (vs:zy V) (us:zy zx) (Q:St->Hp->Prop),Inv X a b H s->Aj vs us->t vs b H Q->
  wpAny (model X.prog X.w) X.A (assignInOrder ((assignEach d X.env).map (·.2)) us) (λ_ e=>∃σ' c,Inv X a σ' c e/\Q σ' c) X.xe s
abbrev dX:=V->V->V->Hp->(Hp->Prop)->Prop
def iD (X:Cx)(t:dX):Prop:=
 ∀(a:zy (zu×Obj)) (s:zw) (b:St) (H:Hp) (o i v:V) (c d u:zx) (Q:Hp->Prop),Inv X a b H s->RelV o c->RelV i d->RelV v u->t o i v H Q->
  wpAny (model X.prog X.w) X.A (setItem c d u) (λ_ f=>∃e,Inv X a b e f/\Q e) X.xe s
abbrev iE:=V->V->Hp->VK->Prop
def gY (X:Cx)(op:Operator)(t:iE):Prop:=
 ∀(a:zy (zu×Obj)) (s:zw) (b:St) (H:Hp) (x y:V) (v u:zx) (Q:VK),Inv X a b H s->RelV x v->RelV y u->t x y H Q->
  wpAny (model X.prog X.w) X.A (inplaceOp op v u) (EP X a b Q) X.xe s
section
variable {X:Cx}{pos:Pos}
def BL (i:Nat):TG:=λv a H Q=>Q (a.set i (some v)) H
def Dp {i:Nat}{x:Str}(hN:X.N.Nodup)(hi:X.N[i]? =some x)(hx:Loc X.env.scope x)(a:X.fn x=true\/X.env.scope.names.lookup x=some .local:=by first | exact .inl rfl|exact .inr rfl|assumption):PG X (.Name x pos) (BL i):=by intro c s d H v u Q I r h;exact AC5 (GJ I hN hi hx r (λe b=>⟨_,H,b,h⟩) a)
def J6:R1:=λvs a H Q=>vs= [] /\Q a H
def CY (t:TG)(u:R1):R1:=λvs a H Q=>∃v r,vs=v::r/\t v a H λσ' b=>u r σ' b Q
def IU:gX X [] J6:=by intro b s a H vs us Q I r h;obtain⟨e,h⟩:=h;subst e;cases r;exact assignInOrder_nil ⟨a,H,I,h⟩
def DA {e:zr}{es:zy zr}{t:TG}{u:R1}(h1:PG X e t)(h2:gX X es u)(hs:(assignEach (e::es) X.env).map (·.2)=assign e X.env::(assignEach es X.env).map (·.2):=by rfl):gX X (e::es) (CY t u):=by
 intro b s c H vs us Q I r h;obtain⟨v,k,d,h⟩:=h;subst d;cases r with
 | cons r f=> rw[hs];refine assignInOrder_cons (BJ (h1 b s c H _ _ _ I r h) λ_ g ⟨a,H1,i,j⟩=> ?_);exact h2 b g a H1 _ _ Q i f j
def lD (b c:TE)(t:dX):TG:=λv a H Q=>b a H λo H1=>c a H1 λi d=>t o i v d λe=>Q a e
def YQ {o i:zr}{e f:TE}{t:dX}(g:PE X o e)(hi:PE X i f)(hs:iD X t)(ha:∀v,assign (.Subscript o i pos) X.env v=(do
   let a <-holding [v] (eval o X.env);let b <-holding [v,a] (eval i X.env)
   standAt pos
   holding [v,a,b] (setItem a b v)
   release [v,a,b] []):=by intro _;rfl):PG X (.Subscript o i pos) (lD e f t):=by intro d s c H v u Q I r h;rw[ha];refine AAA (AAj (BJ (g d s c H _ I h) λa j ⟨x,H1,k,l,m⟩=> ?_));refine AAA (AAj (BJ (hi d j c H1 _ k m) λb n ⟨y,p,w,z,A⟩=> ?_));refine AAA (ABH (AAA (AAj (BJ (hs d n c p x y v a b u _ w l z r A) λ_ E ⟨B,C,D⟩=> ?_))));exact wpAny_release ⟨c,B,C,D⟩
def NL (b:TE)(g:TG):TS:=λD a H=>b a H λx H1=>g x a H1 D.nx
def TN {a e:zr}{b:TE}{g:TG}(he:PE X e b)(f:PG X a g)(hs:swapsWithSole [a] e pos.line X.env=pure false:=by rfl)(hw:swappedStores [a] e X.env=pure none:=by rfl)(h1:(assignEach [a] X.env).map (·.2)= [assign a X.env] :=by rfl):PS X (.Assign [a] e pos) (NL b g):=by intro c s d H D I h;refine wpAny_Assign_stores (BJ (he c s d H _ I h) λv i ⟨x,H1,j,k,l⟩=> ?_) hs hw;rw[h1];exact BJ (f c i d H1 x v _ j k l) λ_ m q=>q
def Ea {i:Nat}{x:Str}{e:zr}{a:TE}{pos':Pos}(hN:X.N.Nodup)(hi:X.N[i]? =some x)(hx:Loc X.env.scope x)(he:PE X e a)(hs:swapsWith e (some (.Name x pos')) pos.line X.env=pure false:=by rfl)(b:X.fn x=true\/X.env.scope.names.lookup x=some .local:=by first | exact .inl rfl|exact .inr rfl|assumption):PS X (.Assign [.Name x pos'] e pos) (NL a (BL i)):=by intro c s d H D I h;refine wpAny_Assign_Name (BJ (he c s d H _ I h) λv l ⟨y,H1,f,g,j⟩=> ?_) hs;exact GJ f hN hi hx g (λm k=>⟨_,H1,k,j⟩) b
def mV (i j:Nat)(b:TA):TS:=λD a H=>b a H λvs H1=>∃v w,vs= [v,w] /\D.nx ((a.set i (some v)).set j (some w)) H1
def fU {i j:Nat}{x y:Str}{a b:zr}{r:TA}{g k l:Pos}{kt k2 pt2}(hc:X.calm=true)(hN:X.N.Nodup)(hi:X.N[i]? =some x)(hj:X.N[j]? =some y)(B:i≠j)(hx:X.env.scope.names.lookup x=some .local)(hy:X.env.scope.names.lookup y=some .local)(ha:PA X [a,b] r)(hw:swappedStores [.Tuple [.Name x g, .Name y k] kt l] (.Tuple [a,b] k2 pt2) X.env=pure (some [x,y]))(hs:swapsWithSole [.Tuple [.Name x g, .Name y k] kt l] (.Tuple [a,b] k2 pt2) pos.line X.env=pure false:=by rfl):PS X (.Assign [.Tuple [.Name x g, .Name y k] kt l] (.Tuple [a,b] k2 pt2) pos) (mV i j r):=by
 intro t s u H D I h;rw[exec_Assign_arm];refine AAA (ABH ?_);rw[hs];refine AAA (AAD ?_);rw[AAC (by decide)];refine AAA (Tuple_ (BJ (ha _ t s u H _ I h) λus c ⟨vs,H1,C,E,m⟩=> ?_));obtain⟨v,w,F,m⟩:=m;subst F;obtain⟨d,f,rfl,rv,n⟩:∃d f,us= [d,f] /\RelV v d/\RelV w f:=by
  cases E with
  | cons p q=>
    cases q with
    | cons G J=> cases J;exact⟨_,_,rfl,p,G⟩
 refine AAw ?_ (by show 2<=sizeLine;decide);have K:Inv X t u H1 {c with heap:=c.heap.push {cls:= .type "tuple",data:= .seq [d,f].toArray}}:=C.kept (t':=c.toks) λb o e=>AAH _ e;rw[hw];refine AAA (AAD ?_);show wpAny (model X.prog X.w) X.A (do rule "assign.swapped-stores";let items <-unpackItems (.ref c.heap.objs.size) 2 none;assignInOrder [λv=>bindName X.env y v,λv=>bindName X.env x v] items.reverse;pure Flow.next) _ _ _;refine AAA (ABG (AAA (unpackItems_tuple (items:= #[d,f]) (I.ok.hd hc) (IsTup.new c.heap _) λh' L=> ?_)));have M:=K.kept (h':=h') (t':=c.toks) λb o e=>L b o (AAM (AAG e)) e;show wpAny _ _ (assignInOrder [λv=>bindName X.env y v,λv=>bindName X.env x v] [f,d] >>= λ_=>pure Flow.next) _ _ _;refine AAA (assignInOrder_cons (wpAny_bindName (GJ M hN hj (.inl hy) n (λP O=> ?_) (.inr hy))));refine assignInOrder_cons (wpAny_bindName (GJ O hN hi (.inl hx) rv (λQ z=>assignInOrder_nil (AAD ?_)) (.inr hx)));rw[List.set_comm _ _ (AAb B)] at z;exact⟨_,H1,z,m⟩
def mP (i:Nat)(b:TE)(c:iE):TS:=λD a H=>∃x,a[i]? =some (some x)/\b a H λy H1=>c x y H1 λz d=>D.nx (a.set i (some z)) d
def fT {i:Nat}{x:Str}{e:zr}{g:TE}{op:Operator}{j:iE}{pos':Pos}(hN:X.N.Nodup)(hi:X.N[i]? =some x)(hx:Loc X.env.scope x)(he:PE X e g)(o:gY X op j)(p:X.fn x=true\/X.env.scope.names.lookup x=some .local:=by first | exact .inl rfl|exact .inr rfl|assumption):PS X (.AugAssign (.Name x pos') op e pos) (mP i g j):=by
 intro d s n H D I h;obtain⟨v,t,h⟩:=h;obtain⟨m,B,hl⟩:=I.loc;have f:gZ X.env.scope x:=by rcases hx with k|k;exact .inl k;exact .inr (.inl k)
 obtain⟨u,r,l⟩:=hl i x v hi t f;refine wpAny_AugAssign_Name ?_;have go:wpAny (model X.prog X.w) X.A (eval e X.env) (λw a=>wpAny (model X.prog X.w) X.A (inplaceOp op u w) (λr b=>wpAny (model X.prog X.w) X.A (storeName X.env x r) (λ_=>SP X d D .next) X.xe b) X.xe a) X.xe s:=by refine BJ (he d s n H _ I h) λw C ⟨y,H1,E,F,G⟩=> ?_;refine BJ (o d C n H1 v y u w _ E r F G) λz R ⟨S,J,K,L,M⟩=> ?_;exact GJ K hN hi hx L (λT O=>⟨_,J,O,M⟩) p
 rcases l with⟨hk,P⟩|⟨hk,c,hc,Q⟩
 .exact wpAny_loadName_local I.ok.kind hk B P go
 .rcases hk with hk|hk
  .exact wpAny_loadName_cell I.ok.kind hk hc Q go
  .rcases hx with k|k
   .have:X.env.scope.names.lookup x=some .free:=hk;rw[k] at this;cases this
   .have:X.env.scope.names.lookup x=some .free:=hk;rw[k] at this;cases this
def lw (f:Int->Int->Int):iE:=λx y H Q=>∃i j,x= .int i/\y= .int j/\Q (.int (f i j)) H
def eI:gY X .Add (lw λi j=>i+j):=by intro e s f H x y v u Q I a b h;obtain⟨i,j,c,d,q⟩:=h;subst c;subst d;obtain⟨t,rfl⟩:=a;obtain⟨t',rfl⟩:=b;exact iadd_int ⟨.int _,H,I.tok _,⟨_,rfl⟩,q⟩
def gM (c:TT)(f:TS):TS:=λD a H=>∃W:Nat->St->Hp->Prop,(∃m,W m a H)/\∀m a H,W m a H->
 c a H λb H1=>if b=true then ∃N:St->Hp->Prop,(∀σ' d,N σ' d->∃e,e<m/\W e σ' d)/\f {D with nx:=N,ct:=N,bk:=D.nx} a H1 else D.nx a H1
def YZ {c:zr}{body:zy Stmt}{r:TT}{t:TS}(hp:PassesOwn (model X.prog X.w) X.A X.env X.xe)(hc:PT X c r)(hb:Rf X body t):PS X (.While c body [] pos) (gM r t):=by
 intro j s z H D I h;obtain⟨W,⟨m0,B⟩,turn⟩:=h;refine wpAny_While (codeAny_whileLoop (λn C=>∃σ' u,Inv X j σ' u C/\W n σ' u) ?_ m0 ⟨z,H,I,B⟩);rintro n E ⟨d,H1,F,G⟩;refine ABV hp (BJ (hc j E d H1 _ F (turn n d H1 G)) λb J ⟨x,y,g⟩=> ?_);cases b with
 | true=>
   obtain⟨N,hN,g⟩:=g;rw[AAE rfl];refine ABV hp (BJ (hb j J d x _ y g) λf K i=> ?_);cases f with
   | next=> obtain⟨a,e,k,l⟩:=i;obtain⟨m,o,p⟩:=hN a e l;exact⟨m,o,a,e,k,p⟩
   | cont=> obtain⟨a,e,k,l⟩:=i;obtain⟨m,o,p⟩:=hN a e l;exact⟨m,o,a,e,k,p⟩
   | brk=>exact i
   | ret v=>exact i
 | false=> rw[AAC AAN];exact ACR ⟨d,x,y,g⟩
end
structure It where
 go:Nat->Hp->Prop
 yld:Nat->Hp->V->Hp->Prop
 stop:Nat->Hp->Prop
def Ex (X:Cx)(a:zy (zu×Obj))(H:Hp)(b:zu):Prop:=
 H b=none/\b≠X.env.locals/\b ∉ X.fs/\(b∈X.ex\/X.s₀.heap.objs.size<=b)/\(∀x c,X.env.cells.lookup x=some c->c≠b)/\∀p∈X.pn++a,p.1≠b
def Inv.fpOk {X:Cx}{a:zy (zu×Obj)}{f:St}{H d:Hp}{s:zw}{b:zu}(I:Inv X a f H s)(hb:s.heap.objs.size<=b)(g:d b=none):Ex X a d b:=by
 refine⟨g,AAx (AAS I.lt hb),I.nofs hb, .inr (AAe I.sz hb),λx c e z=> ?_,λp hp z=> ?_⟩
 .obtain ⟨v,q⟩:=I.cell x c e;exact absurd (AAS q.lt (by rw[z];exact hb)) (AA9 _)
 .exact absurd (AAS (AAG (I.pin p hp).1) (by rw[z];exact hb)) (AA9 _)
structure J5 (P:Program) (w:World) (K:AAB) (tg:Expr) (J:It) (fp:List Addr) (it:Addr) (tn:Nat->Heap->Prop):Prop where
 mem:it∈fp
 obj:∀i h,tn i h->∀b∈fp,∃o,h.get? b=some o/\∀v,o.data≠ .cell v
 keep:∀i h h',tn i h->(∀b∈fp,∀o,h.get? b=some o->h'.get? b=some o)->tn i h'
 item:∀(X:Cx),X.prog=P->X.w=w->X.K=K->X.calm=true->∀(i:Nat) (zj:List (Addr×Obj)) (s:Shared) (σ:St) (H:Hp) (E:Value->Shared->Prop),Inv X zj σ H s->(∀b∈fp,Ex X zj H b)->tn i s.heap->J.go i H->
  wpAny (model P w) X.A (pyNext (.ref it)) (λr s1=>∃u,r=some u/\
   wpAny (model P w) X.A (letOwnedTupleGo tg (.ref it) u) (λ_ s2=>∃x H',Inv X zj σ H' s2/\RelV x u/\J.yld i H x H'/\tn (i+1) s2.heap/\∀b∈fp,H' b=none) E s1) E s
 done:∀(X:Cx),X.prog=P->X.w=w->X.K=K->X.calm=true->∀(i:Nat) (zj:List (Addr×Obj)) (s:Shared) (σ:St) (H:Hp) (E:Value->Shared->Prop),Inv X zj σ H s->(∀b∈fp,Ex X zj H b)->tn i s.heap->J.stop i H->
  wpAny (model P w) X.A (pyNext (.ref it)) (λr s1=>r=none/\Inv X zj σ H s1) E s
 self:∀(A:Around) (i:Nat) (s:Shared) (Q:Value->Shared->Prop) (E:Value->Shared->Prop),tn i s.heap->Q (.ref it) s->wpAny (model P w) A (pyIter (.ref it)) Q E s
abbrev TI:=St->Hp->(It->Hp->Prop)->Prop
def oB (X:Cx)(d:zy (zu×Obj))(f:St)(g:zr)(R:It->Hp->Prop)(a:zx)(e:zw):Prop:=
 ∃(it:zu) (fp:zy zu) (tn:Nat->zl->Prop) (J:It) (c:Hp),a= .ref it/\Inv X d f c e/\J5 X.prog X.w X.K g J fp it tn/\tn 0 e.heap/\(∀b∈fp,Ex X d c b)/\R J c
def PI (X:Cx)(c iter:zr)(d:TI):Prop:=
 ∀(b:zy (zu×Obj)) (s:zw) (a:St) (H:Hp) (R:It->Hp->Prop),Inv X b a H s->d a H R->
  wpAny (model X.prog X.w) X.A (eval iter X.env) (λv e=>wpAny (model X.prog X.w) X.A (pyIter v) (oB X b a c R) X.xe e) X.xe s
def Xb {M:Model}{A:zk}{E:zx->zw->Prop}{s:zw}{a:zr}{it:zu}{u:zx}{o:Obj}{n:String}{vs:Array zx}{Q:Unit->zw->Prop}(b:s.heap.get? it=some o)(hc:o.cls= .type n)(hd:o.data= .fields vs)(c: ["enumerate","zip","dict_itemiterator","dict_reverseitemiterator","odict_iterator","itertools.zip_longest","itertools.pairwise"].contains n=false)(hQ:Q () s):wpAny M A (letOwnedTupleGo a (.ref it) u) Q E s:=by
 unfold letOwnedTupleGo;cases a <;> first
  | exact AAD hQ
  | (cases u <;> first
      | exact AAD hQ
      | (refine AAA (wpAny_load b ?_)
         rw[hc,hd];show wpAny M A (if (["enumerate","zip","dict_itemiterator","dict_reverseitemiterator","odict_iterator","itertools.zip_longest","itertools.pairwise"].contains n&&vs[0]?==some (rawInt _))=true then _ else _) Q E s;rw[AAC (by intro h;rw[c,Bool.false_and] at h;cases h)];exact AAD hQ))
def kY (K:AAB)(a:zu):It:=
 ⟨λi H=>∃xs x,Ee K H a xs/\xs[i]? =some x,λi H x b=>b=H/\∀xs,Ee K H a xs->xs[i]? =some x,λi H=>∃xs,Ee K H a xs/\xs.length<=i⟩
def kZ (K:AAB)(a:zu):It:=
 ⟨λi H=>∃xs x,JZ K H a xs/\xs[i]? =some x,λi H x b=>b=H/\∀xs,JZ K H a xs->xs[i]? =some x,λi H=>∃xs,JZ K H a xs/\xs.length<=i⟩
def js (lo:Int)(n:Nat):It:=⟨λi _=>i<n,λi H x a=>a=H/\x= .int (lo+i),λi _=>n<=i⟩
def WY {P:zp}{w:zm}{K:AAB}{C:zr}(a it:zu):J5 P w K C (kY K a) [it] it (λi h=>h.IsListIter it a i) where
 mem:=by simp
 obj:=λi h st b hb=>by
  have e:b=it:=by simpa using hb
  subst e;obtain⟨o,e,c,d⟩:=st;exact⟨o,e,λv z=>by rw[d] at z;cases z⟩
 keep:=λi h h' st k=>st.at λo e=>k it (by simp) o e
 item:=by intro X j hw l hc i A s B H E I g st m;subst j hw l;obtain⟨xs,x,hq,hx⟩:=m;obtain⟨n,rv,p,hz⟩:=I.list hq;obtain⟨u,hu,D⟩:=rv.get hx;obtain⟨f0,f1,F,r,t,y⟩:=g it (by simp);refine wpAny_pyNext_list_item st p.isList (x:=u) (by simpa using hu) λh' f G=> ?_;have J:Inv X A B H {s with heap:=h'}:=I.turned (t':=s.toks) (λb o hb e=>(G.2 b hb).trans e) f0 f1 r t y;obtain⟨o,e,c,d⟩:=id f;exact⟨u,rfl,Xb (s:={s with heap:=h'}) e c d (by decide) ⟨x,H,J,D,⟨rfl,λys hy=>by rw[I.list_inj hy hq];exact hx⟩,f,λb hb=>(g b hb).1⟩⟩
 done:=by intro X j hw l hc i A s B H E I g st m;subst j hw l;obtain⟨xs,hq,hx⟩:=m;obtain⟨n,rv,p,hz⟩:=I.list hq;obtain⟨f0,f1,F,r,t,y⟩:=g it (by simp);have hl:=rv.length;exact wpAny_pyNext_list_end (I.ok.hd hc) st p.isList (by simp;omega) λh' L=>⟨rfl,I.turned (t':=s.toks) (λb o hb e=>L b o hb e) f0 f1 r t y⟩
 self:=λ_ _ _ _ _ st h=>wpAny_pyIter_listiter st h
def UB {P:zp}{w:zm}{K:AAB}{C:zr}(a it:zu):J5 P w K C (kZ K a) [it] it (λi h=>h.IsTupleIter it a i) where
 mem:=by simp
 obj:=λi h st b hb=>by
  have e:b=it:=by simpa using hb
  subst e;obtain⟨o,e,c,d⟩:=st;exact⟨o,e,λv z=>by rw[d] at z;cases z⟩
 keep:=λi h h' st k=>st.at λo e=>k it (by simp) o e
 item:=by intro X l hw m hc i A s B H E I j st n;subst l hw m;obtain⟨xs,x,hq,hx⟩:=n;obtain⟨f,rv,p,hz⟩:=I.tuple hq;obtain⟨u,hu,D⟩:=rv.get hx;obtain⟨f0,f1,F,r,t,y⟩:=j it (by simp);refine wpAny_pyNext_tuple_item st (show s.heap.IsTuple a f.toArray from p) (x:=u) (by simpa using hu) λh' g G=> ?_;have J:Inv X A B H {s with heap:=h'}:=I.turned (t':=s.toks) (λb o hb e=>(G.2 b hb).trans e) f0 f1 r t y;obtain⟨o,e,c,d⟩:=id g;exact⟨u,rfl,Xb (s:={s with heap:=h'}) e c d (by decide) ⟨x,H,J,D,⟨rfl,λys hy=>by rw[I.tuple_inj hy hq];exact hx⟩,g,λb hb=>(j b hb).1⟩⟩
 done:=by intro X l hw m hc i A s B H E I j st n;subst l hw m;obtain⟨xs,hq,hx⟩:=n;obtain⟨f,rv,p,hz⟩:=I.tuple hq;obtain⟨f0,f1,F,r,t,y⟩:=j it (by simp);have hl:=rv.length;exact wpAny_pyNext_tuple_end (I.ok.hd hc) st (show s.heap.IsTuple a f.toArray from p) (by simp;omega) λh' L=>⟨rfl,I.turned (t':=s.toks) (λb o hb e=>L b o hb e) f0 f1 r t y⟩
 self:=λ_ _ _ _ _ st h=>wpAny_pyIter_tupleiter st h
def UA {P:zp}{w:zm}{K:AAB}{x:zr}(it:zu)(lo:Int)(n:Nat):J5 P w K x (js lo n) [it] it (λi h=>IsRangeIter h it (lo+(i:Nat)*1) ((n:Int)-(i:Nat)) 1) where
 mem:=by simp
 obj:=λi h st b hb=>by
  have e:b=it:=by simpa using hb
  subst e;exact⟨_,st,λv z=>by
   have y:Data.fields _=Data.cell v:=z;cases y⟩
 keep:=λi h h' st k=>k it (by simp) _ st
 item:=by intro X d hw f hc i p s r H E I c st g;subst d hw f;obtain⟨f0,f1,A,j,l,m⟩:=c it (by simp);have W:=Walks.range (prog:=X.prog) (w:=X.w) (I.ok.hd hc) it lo 1 n;refine W.item i s _ _ g st λv h' u hv a B=> ?_;obtain⟨t,rfl⟩:=hv;have C:Inv X p r H {s with heap:=h',toks:=u}:=I.turned (λb o hb e=>B b o (by simpa using hb) e) f0 f1 j l m;refine⟨_,rfl,Xb (s:={s with heap:=h',toks:=u}) (n:="range_iterator") a rfl rfl (by decide) ⟨.int (lo+i),H,C,⟨t, ?_⟩,⟨rfl,rfl⟩,a,λb hb=>(c b hb).1⟩⟩;rw[Int.mul_one]
 done:=by intro X d hw f hc i p s r H E I c st g;subst d hw f;obtain⟨f0,f1,A,j,l,m⟩:=c it (by simp);exact wpAny_pyNext_range_end (I.ok.hd hc) st (by have:n<=i:=g;omega) λh' D=>⟨rfl,I.turned (t':=s.toks) (λb o hb e=>D b o hb e) f0 f1 j l m⟩
 self:=λ_ _ _ _ _ st h=>wpAny_pyIter_rangeiter st h
section
variable {X:Cx}{tg:zr}
def Ye {a:zy (zu×Obj)}{c:St}{H:Hp}{s:zw}{R:It->Hp->Prop}{E:zx->zw->Prop}{lo hi:Int}{t u v:Tok}{d:Nat}(I:Inv X a c H s)(h1: -(2^62)<=lo)(h2:lo<2^62)(g: -(2^62)<=hi)(h:hi<2^62)(q:R (js lo (hi-lo).toNat) H):wpAny (model X.prog X.w) X.A (pyIter (.ref s.heap.objs.size)) (oB X a c tg R) E {s with heap:=s.heap.push {cls:= .type "range",data:= .fields #[.int lo t, .int hi u, .int 1 v] },toks:=d}:=by
 refine wpAny_pyIter_range (IsRange.new ..) (small_one h1 h2 g h) ?_;have f:Inv X a c H {s with heap:=s.heap.push {cls:= .type "range",data:= .fields #[.int lo t, .int hi u, .int 1 v] },toks:=d}:=I.kept λb o e=>AAH _ e;refine⟨(s.heap.push {cls:= .type "range",data:= .fields #[.int lo t, .int hi u, .int 1 v] }).objs.size, [(s.heap.push {cls:= .type "range",data:= .fields #[.int lo t, .int hi u, .int 1 v] }).objs.size],_,_,H,rfl,
  f.kept (t':=d) λb o e=>AAH _ e,UA _ lo (hi-lo).toNat, ?_,λb hb=> ?_,q⟩
 .have i:lo+((0:Nat):Int)*1=lo:=by simp
  have j:(((hi-lo).toNat:Nat):Int)-((0:Nat):Int)=Builtin.Range.rangeSize lo hi 1:=by rw[rangeSize_one];split <;> omega
  show IsRangeIter _ _ (lo+((0:Nat):Int)*1) ((((hi-lo).toNat:Nat):Int)-((0:Nat):Int)) 1;rw[i,j];exact AAP _ rfl
 .have e:b=(s.heap.push {cls:= .type "range",data:= .fields #[.int lo t, .int hi u, .int 1 v] }).objs.size:=by simpa using hb
  subst e;exact f.fpOk (AAI _) (f.hok.fresh (AAI _))
def ig (a:TA):TI:=λb H R=>a b H λvs H1=>∃j:Int,vs= [.int j] /\ -(2^62)<=j/\j<2^62/\R (js 0 j.toNat) H1
def WI {a:zr}{d:TA}{p b:Pos}(f:Gl X "range")(g:X.mg "range" =none)(ha:PA X [a] d)(hs:starEach [a] X.env= [(false,eval a X.env)] :=by rfl):PI X tg (.Call (.Name "range" p) [a] [] b) (ig d):=by
 intro i s k H R I h;refine Call_ (Iy I f g boot_range (ABy (BJ (ha b i s k H _ I h) λus u ⟨vs,H1,l,m,c⟩=> ?_) hs rfl));obtain⟨j,e,c,n,q⟩:=c;subst e;cases m with
 | cons r o=> cases o;obtain⟨t,rfl⟩:=r;exact call_range_1 (Ye l (by omega) (by omega) c n (by simpa using q))
def gK (e:TI)(g:TG)(f:TS):TS:=λD a H=>e a H λJ H1=>∃W:Nat->Nat->St->Hp->Prop,(∃m,W 0 m a H1)/\∀i m a H,W i m a H->
 (J.stop i H/\D.nx a H)\/(J.go i H/\∃N:St->Hp->Prop,(∀σ' b,N σ' b->∃d,d<m/\W (i+1) d σ' b)/\∀x b,J.yld i H x b->g x a b λc h=>f {D with nx:=N,ct:=N,bk:=D.nx} c h)
def JF (fp:zy zu)(h:zl):zy (zu×Obj):=fp.filterMap λb=>(h.get? b).map λo=>(b,o)
def DN {fp:zy zu}{h:zl}{b:zu}{o:Obj}(hb:b∈fp)(e:h.get? b=some o):(b,o)∈JF fp h:=List.mem_filterMap.mpr ⟨b,hb,by rw[e];rfl⟩
def WC {fp:zy zu}{h:zl}{p:zu×Obj}(hp:p∈JF fp h):p.1∈fp/\h.get? p.1=some p.2:=by
 obtain⟨b,hb,e⟩:=List.mem_filterMap.mp hp;cases q:h.get? b with
 | none=>rw[q] at e;cases e
 | some o=> rw[q] at e;have a:(b,o)=p:=AAV e;subst a;exact⟨hb,q⟩
def Inv.pinned {a:zy (zu×Obj)}{c:St}{H:Hp}{s:zw}{fp:zy zu}(I:Inv X a c H s)(g:∀b∈fp,Ex X a H b)(h:∀b∈fp,∃o,s.heap.get? b=some o/\∀v,o.data≠ .cell v):Inv X (a++JF fp s.heap) c H s:=
 I.pins_of λp hp=>(AAO.mp hp).elim (λz=>I.pin p (AAf _ z)) λz=>by obtain⟨hb,e⟩:=WC z;obtain⟨f0,f1,i,_⟩:=g p.1 hb;obtain⟨o,f,d⟩:=h p.1 hb;rw[e] at f;cases f;exact⟨e,f0,f1,i,d⟩
def Inv.unpinned {a c:zy (zu×Obj)}{b:St}{H:Hp}{s:zw}(I:Inv X (a++c) b H s):Inv X a b H s:=I.pins_of λp hp=>I.pin p (AAf _ (AC4 _ hp))
def TQ {iter:zr}{body:zy Stmt}{R:TI}{g:TG}{S:TS}{G:Pos}(hp:PassesOwn (model X.prog X.w) X.A X.env X.xe)(hc:X.calm=true)(hi:PI X tg iter R)(hg:PG X tg g)(hb:Rf X body S)(hs:∀x,foldedSetIterable iter X.env x=pure x:=by intro _;rfl):PS X (.For tg iter body [] G) (gK R g S):=by
 intro y s U H D I h;refine wpAny_For (BJ (hi y s U H _ I h) λv s1 h1=>BJ h1 λitv s2 h2=> ?_) hs;obtain⟨it,fp,tn,J,H2,e,I2,T,K,Y,W,⟨m0,w0⟩,turn⟩:=h2;subst e;have c:∀{p:Hp},(∀b∈fp,p b=none)->∀b∈fp,Ex X y p b:=λhn b hb=>⟨hn b hb,(Y b hb).2⟩;refine codeAny_forLoop_any (λn Z=>∃i σ' p,Inv X y σ' p Z/\tn i Z.heap/\(∀b∈fp,p b=none)/\W i n σ' p) ?_ m0 ⟨0,U,H2,I2,K,λb hb=>(Y b hb).1,w0⟩;rintro n s3 ⟨i,j,F,I3,B,C,w3⟩;rcases turn i n j F w3 with⟨stop,qn⟩|⟨go,N,hN,step⟩
 .refine ABV hp (BJ (T.done X rfl rfl rfl hc i y s3 j F X.xe I3 (c C) B stop) λr s4 ⟨L,I4⟩=> ?_);subst L;exact ACR ⟨j,F,I4,qn⟩
 .refine ABV hp (BJ (T.item X rfl rfl rfl hc i y s3 j F X.xe I3 (c C) B go) λr s4 ⟨u,L,h4⟩=> ?_);subst L;refine ABV hp (BJ h4 λ_ s5 ⟨x,H5,I5,r5,y5,z,M⟩=> ?_);have O:=I5.pinned (c M) (T.obj _ _ z);refine ABV hp (BJ (hg _ s5 j H5 x u _ O r5 (step x H5 y5)) λ_ s6 ⟨P,H6,I6,q6⟩=> ?_);refine ABV hp (BJ (hb _ s6 P H6 _ I6 q6) λf Q t=> ?_);have again:∀{a:St} {k:Hp},Inv X (y++JF fp s5.heap) a k Q->N a k->∃m,m<n/\∃i σ' p,Inv X y σ' p Q/\tn i Q.heap/\(∀b∈fp,p b=none)/\W i m σ' p:=λ{a k} l E=>by obtain⟨m',hm,w7⟩:=hN a k E;refine⟨m',hm,i+1,a,k,l.unpinned,T.keep _ _ _ z λb hb o e=>(l.pin (b,o) (AAf _ (AAf _ (DN hb e)))).1,λb hb=> ?_,w7⟩;obtain⟨o,e,d⟩:=T.obj _ _ z b hb;exact(l.pin (b,o) (AAf _ (AAf _ (DN hb e)))).2.1
  cases f with
  | next=>obtain⟨a,k,l,E⟩:=t;exact again l E
  | cont=>obtain⟨a,k,l,E⟩:=t;exact again l E
  | brk=>obtain⟨a,k,l,t⟩:=t;exact⟨a,k,l.unpinned,t⟩
  | ret v=>obtain⟨x7,a,k,l,r7,t⟩:=t;exact⟨x7,a,k,l.unpinned,r7,t⟩
end
abbrev R2:=V->V->Hp->VK->Prop
def Dy (X:Cx)(f:zx->zx->Sem zx)(r:R2):Prop:=
 ∀(a:zy (zu×Obj)) (s:zw) (b:St) (H:Hp) (x y:V) (v u:zx) (Q:VK),Inv X a b H s->RelV x v->RelV y u->r x y H Q->
  wpAny (model X.prog X.w) X.A (f v u) (EP X a b Q) X.xe s
def ko (X:Cx)(f:zx->Sem zx)(r:V->Hp->VK->Prop):Prop:=
 ∀(a:zy (zu×Obj)) (s:zw) (b:St) (H:Hp) (x:V) (v:zx) (Q:VK),Inv X a b H s->RelV x v->r x H Q->
  wpAny (model X.prog X.w) X.A (f v) (EP X a b Q) X.xe s
def Bu (X:Cx)(f:zx)(r:zy V->Hp->VK->Prop):Prop:=
 ∀(a:zy (zu×Obj)) (s:zw) (b:St) (H:Hp) (xs:zy V) (us:zy zx) (Q:VK),Inv X a b H s->Aj xs us->r xs H Q->
  wpAny (model X.prog X.w) X.A (call f us) (EP X a b Q) X.xe s
def WV (r:R2)(b c:TE):TE:=λa H Q=>b a H λx H1=>c a H1 λy d=>r x y d Q
def tO (r:V->Hp->VK->Prop)(a:TE):TE:=λb H Q=>a b H λx H1=>r x H1 Q
def rI (C:Int->Int->Prop)(g:Int->Int->V):R2:=λx y H Q=>∃i j,x= .int i/\y= .int j/\C i j/\Q (g i j) H
def NE (g:Int->Int->V):R2:=λx y H Q=>∃i j,x= .int i/\y= .int j/\Q (g i j) H
def rU (g:Int->V):V->Hp->VK->Prop:=λx H Q=>∃i,x= .int i/\Q (g i) H
section
variable {X:Cx}{a b c:zr}{ta tb tc:TE}{pos:Pos}
def de (ha:PE X a ta)(hb:PE X b tb){j:zy (zu×Obj)}{s:zw}{d:St}{H:Hp}{R:V->V->Hp->Prop}(I:Inv X j d H s)(h:ta d H λx H1=>tb d H1 λy e=>R x y e){Q:zx->zw->Prop}{f:zx->zx->Sem zx}(l:∀v u k x y e,Inv X j d e k->RelV x v->RelV y u->R x y e->wpAny (model X.prog X.w) X.A (f v u) Q X.xe k):wpAny (model X.prog X.w) X.A (eval a X.env) (λv g=>wpAny (model X.prog X.w) X.A (eval b X.env) (λu i=>wpAny (model X.prog X.w) X.A (f v u) Q X.xe i) X.xe g) X.xe s:=by refine BJ (ha j s d H _ I h) λv m ⟨x,H1,n,o,p⟩=> ?_;refine BJ (hb j m d H1 _ n p) λu k ⟨y,e,r,t,z⟩=> ?_;exact l v u k x y e r o t z
def Bk {op:Operator}{r:R2}(d:Dy X (binaryOp op) r)(ha:PE X a ta)(hb:PE X b tb):PE X (.BinOp a op b pos) (WV r ta tb):=by intro e s f H Q I h;exact wpAny_BinOp (de ha hb I h λv u g x y i j k l q=>d e g f i x y v u Q j k l q)
def jG {op:UnaryOp}{r:V->Hp->VK->Prop}(f:ko X (unaryOp op) r)(ha:PE X a ta):PE X (.UnaryOp op a pos) (tO r ta):=by intro d s e H Q I h;exact UnaryOp_ (BJ (ha d s e H _ I h) λv g ⟨x,H1,i,j,k⟩=>f d g e H1 x v Q i j k)
def fG {f:zx->zx->Sem zx}{C:Int->Int->Prop}{g:Int->Int->Int}(rule:∀(i j:Int) (t u:Tok) (s:zw) (Q:zx->zw->Prop) (E:zx->zw->Prop),C i j->Q (.int (g i j) s.toks) {s with toks:=s.toks+1}->wpAny (model X.prog X.w) X.A (f (.int i t) (.int j u)) Q E s):Dy X f (rI C λi j=> .int (g i j)):=by intro k s l H x y v u Q I d e h;obtain⟨i,j,rfl,rfl,hc,q⟩:=h;obtain⟨t,rfl⟩:=d;obtain⟨t',rfl⟩:=e;exact rule i j t t' s _ _ hc ⟨.int (g i j),H,I.tok _,⟨_,rfl⟩,q⟩
def i8 {f:zx->zx->Sem zx}{g:Int->Int->Int}(rule:∀(i j:Int) (t u:Tok) (s:zw) (Q:zx->zw->Prop) (E:zx->zw->Prop),Q (.int (g i j) s.toks) {s with toks:=s.toks+1}->wpAny (model X.prog X.w) X.A (f (.int i t) (.int j u)) Q E s):Dy X f (NE λi j=> .int (g i j)):=by intro k s l H x y v u Q I d e h;obtain⟨i,j,rfl,rfl,q⟩:=h;obtain⟨t,rfl⟩:=d;obtain⟨t',rfl⟩:=e;exact rule i j t t' s _ _ ⟨.int (g i j),H,I.tok _,⟨_,rfl⟩,q⟩
def fF {f:zx->zx->Sem zx}{g:Int->Int->zq}(rule:∀(i j:Int) (t u:Tok) (s:zw) (Q:zx->zw->Prop) (E:zx->zw->Prop),Q (.bool (g i j)) s->wpAny (model X.prog X.w) X.A (f (.int i t) (.int j u)) Q E s):Dy X f (NE λi j=> .bl (g i j)):=by intro k s l H x y v u Q I d e h;obtain⟨i,j,rfl,rfl,q⟩:=h;obtain⟨t,rfl⟩:=d;obtain⟨t',rfl⟩:=e;exact rule i j t t' s _ _ ⟨.bl (g i j),H,I,rfl,q⟩
def Zk (i j:Int):Prop:=0<=j/\j<=1000000/\i.natAbs<2^64
def LM (i j:Int):Prop:=(-(2^64)<i/\i<2^64)\/(-(2^64)<j/\j<2^64)
def LM.ok {i j:Int}(h:LM i j):IntMulOk i j:=by
 rcases h with⟨h1,h2⟩|⟨h1,h2⟩
 .exact .of_left (intBits_le_64 h1 h2)
 .exact .of_right (intBits_le_64 h1 h2)
def F3:Dy X (binaryOp .Add) (NE λi j=> .int (i+j)):=i8 λ_ _ _ _ _ _ _ q=>add_int q
def TK:Dy X (binaryOp .Sub) (NE λi j=> .int (i-j)):=i8 λ_ _ _ _ _ _ _ q=>sub_int q
def E5:Dy X (binaryOp .Mod) (rI (λ_ j=>0<j) λi j=> .int (i % j)):=fG λi j _ _ _ _ _ hc q=>by have h1:(0:Int)<j:=hc;exact mod_int' (by omega) (by rw[AC6 i (by omega)];exact q)
def az:Dy X (binaryOp .Mod) (rI (λ_ j=>j≠0) λi j=> .int (i.fmod j)):=fG λ_ _ _ _ _ _ _ hc q=>mod_int' hc q
def YG:Dy X (binaryOp .Pow) (rI Zk λi j=> .int (i^j.toNat)):=fG λ_ _ _ _ _ _ _ hc q=>pow_int_small hc.1 hc.2.1 hc.2.2 q
def tP {f:zx->Sem zx}{g:Int->Int}(rule:∀(i:Int) (t:Tok) (s:zw) (Q:zx->zw->Prop) (E:zx->zw->Prop),Q (.int (g i) s.toks) {s with toks:=s.toks+1}->wpAny (model X.prog X.w) X.A (f (.int i t)) Q E s):ko X f (rU λi=> .int (g i)):=by intro e s j H x v Q I d h;obtain⟨i,rfl,q⟩:=h;obtain⟨t,rfl⟩:=d;exact rule i t s _ _ ⟨.int (g i),H,I.tok _,⟨_,rfl⟩,q⟩
def gR:ko X (unaryOp .USub) (rU λi=> .int (-i)):=tP λ_ _ _ _ _ q=>neg_int q
end
def fy:V->V->zq
 | .non, .non=>true | .non, .int _=>true | .int _, .non=>true | .non, .bl _=>true | .bl _, .non=>true | .non, .str _=>true | .str _, .non=>true
 | .int _, .int _=>true | .bl _, .bl _=>true | .str _, .str _=>true | .byt _, .byt _=>true
 | .int _, .str _=>true | .str _, .int _=>true | .bl _, .str _=>true | .str _, .bl _=>true
 | _,_=>false
def oz:R2:=λx y H Q=>fy x y=true/\Q (.bl (decide (x=y))) H
def o6:R2:=λx y H Q=>fy x y=true/\Q (.bl (!decide (x=y))) H
def UV {i j:Int}:decide (V.int i=V.int j)=(i==j):=by rw[AA5];simp
def XH {i j:zq}:decide (V.bl i=V.bl j)=(i==j):=by rw[AA5];simp
def UW {i j:Str}:decide (V.str i=V.str j)=(i==j):=by rw[AA5];simp
def UU {i j:Array UInt8}:decide (V.byt i=V.byt j)=(i.toList==j.toList):=by rw[AA5];cases i;cases j;simp
section
variable {X:Cx}{a b c:zr}{ta tb tc:TE}{pos:Pos}
def Ax {d:zy (zu×Obj)}{f:St}{H:Hp}{s:zw}{Q:VK}{k g:zq}(I:Inv X d f H s)(q:Q (.bl k) H)(e:k=g):EP X d f Q (.bool g) s:=by subst e;exact⟨.bl k,H,I,rfl,q⟩
def i9:Dy X (compareOp .Eq) oz:=by
 intro f s g H x y v u Q I e d h;obtain⟨hs,q⟩:=h;cases x with
 | non=>
   cases e;cases y with
   | non=>cases d;exact PySem.EqNone.eq_none_none (Ax I q (by simp))
   | bl j=>cases d;exact PySem.EqNone.eq_none_bool (Ax I q (by simp))
   | int j=>obtain⟨t',rfl⟩:=d;exact PySem.EqNone.eq_none_int (Ax I q (by simp))
   | str j=>obtain⟨t',rfl⟩:=d;exact PySem.EqNone.eq_none_str (Ax I q (by simp))
   | _=>exact absurd (show false=true from hs) AAN
 | bl i=>
   cases e;cases y with
   | non=>cases d;exact PySem.EqNone.eq_bool_none (Ax I q (by simp))
   | bl j=>cases d;exact eq_bool (Ax I q XH)
   | str j=>obtain⟨t',rfl⟩:=d;exact PySem.EqMixed.eq_bool_str (Ax I q (by simp))
   | _=>exact absurd (show false=true from hs) AAN
 | int i=>
   obtain⟨t,rfl⟩:=e;cases y with
   | non=>cases d;exact PySem.EqNone.eq_int_none (Ax I q (by simp))
   | int j=>obtain⟨t',rfl⟩:=d;exact eq_int (Ax I q UV)
   | str j=>obtain⟨t',rfl⟩:=d;exact PySem.EqMixed.eq_int_str (Ax I q (by simp))
   | _=>exact absurd (show false=true from hs) AAN
 | str i=>
   obtain⟨t,rfl⟩:=e;cases y with
   | non=>cases d;exact PySem.EqNone.eq_str_none (Ax I q (by simp))
   | bl j=>cases d;exact PySem.EqMixed.eq_str_bool (Ax I q (by simp))
   | int j=>obtain⟨t',rfl⟩:=d;exact PySem.EqMixed.eq_str_int (Ax I q (by simp))
   | str j=>obtain⟨t',rfl⟩:=d;exact eq_str (Ax I q UW)
   | _=>exact absurd (show false=true from hs) AAN
 | byt i=>
   obtain⟨t,rfl⟩:=e;cases y with
   | byt j=>obtain⟨t',rfl⟩:=d;exact PySem.W.eq_bytes (Ax I q UU)
   | _=>exact absurd (show false=true from hs) AAN
 | _=>cases y <;> exact absurd (show false=true from hs) AAN
def jA:Dy X (compareOp .NotEq) o6:=by
 intro f s g H x y v u Q I e d h;obtain⟨hs,q⟩:=h;cases x with
 | non=>
   cases e;cases y with
   | non=>cases d;exact PySem.EqNone.ne_none_none (Ax I q (by simp))
   | bl j=>cases d;exact PySem.EqNone.ne_none_bool (Ax I q (by simp))
   | int j=>obtain⟨t',rfl⟩:=d;exact PySem.EqNone.ne_none_int (Ax I q (by simp))
   | str j=>obtain⟨t',rfl⟩:=d;exact PySem.EqNone.ne_none_str (Ax I q (by simp))
   | _=>exact absurd (show false=true from hs) AAN
 | bl i=>
   cases e;cases y with
   | non=>cases d;exact PySem.EqNone.ne_bool_none (Ax I q (by simp))
   | bl j=>cases d;exact ne_bool (Ax I q (congrArg not XH))
   | str j=>obtain⟨t',rfl⟩:=d;exact PySem.EqMixed.ne_bool_str (Ax I q (by simp))
   | _=>exact absurd (show false=true from hs) AAN
 | int i=>
   obtain⟨t,rfl⟩:=e;cases y with
   | non=>cases d;exact PySem.EqNone.ne_int_none (Ax I q (by simp))
   | int j=>obtain⟨t',rfl⟩:=d;exact ne_int (Ax I q (congrArg not UV))
   | str j=>obtain⟨t',rfl⟩:=d;exact PySem.EqMixed.ne_int_str (Ax I q (by simp))
   | _=>exact absurd (show false=true from hs) AAN
 | str i=>
   obtain⟨t,rfl⟩:=e;cases y with
   | non=>cases d;exact PySem.EqNone.ne_str_none (Ax I q (by simp))
   | bl j=>cases d;exact PySem.EqMixed.ne_str_bool (Ax I q (by simp))
   | int j=>obtain⟨t',rfl⟩:=d;exact PySem.EqMixed.ne_str_int (Ax I q (by simp))
   | str j=>obtain⟨t',rfl⟩:=d;exact ne_str (Ax I q (congrArg not UW))
   | _=>exact absurd (show false=true from hs) AAN
 | byt i=>
   obtain⟨t,rfl⟩:=e;cases y with
   | byt j=>obtain⟨t',rfl⟩:=d;exact PySem.W.ne_bytes (Ax I q (congrArg not UU))
   | _=>exact absurd (show false=true from hs) AAN
 | _=>cases y <;> exact absurd (show false=true from hs) AAN
def cx:Dy X (compareOp .Lt) (NE λi j=> .bl (decide (i<j))):=fF λ_ _ _ _ _ _ _ q=>lt_int q
def cw:Dy X (compareOp .Gt) (NE λi j=> .bl (decide (j<i))):=fF λ_ _ _ _ _ _ _ q=>gt_int q
def cv:Dy X (compareOp .GtE) (NE λi j=> .bl (decide (j<=i))):=fF λ_ _ _ _ _ _ _ q=>ge_int q
def fK:Dy X (compareOp .Is) (λx y H Q=>y= .non/\Q (.bl (decide (x= .non))) H):=by
 intro f s g H x y v u Q I d e h;obtain⟨rfl,q⟩:=h;cases e;refine is_none_gen (Ax I q ?_);cases x <;> first
  | (cases d;rfl)
  | (obtain⟨t,rfl⟩:=d;rfl)
def Uq:Dy X (compareOp .IsNot) (λx y H Q=>y= .non/\Q (.bl (!decide (x= .non))) H):=by
 intro f s g H x y v u Q I d e h;obtain⟨rfl,q⟩:=h;cases e;refine isnot_none_gen (Ax I q ?_);cases x <;> first
  | (cases d;rfl)
  | (obtain⟨t,rfl⟩:=d;rfl)
def Dy.or {f:zx->zx->Sem zx}{r d:R2}(h:Dy X f r)(h':Dy X f d):Dy X f (λx y H Q=>r x y H Q\/d x y H Q):=by
 intro e s g H x y v u Q I i j q;rcases q with q|q
 .exact h e s g H x y v u Q I i j q
 .exact h' e s g H x y v u Q I i j q
def Ca (b:zr){op:CmpOp}(h:op≠ .In:=by decide)(h2:op≠ .NotIn:=by decide):behindInMarks op b=false:=by
 have d:(op==CmpOp.In)=false:=by cases op <;> first | rfl|exact absurd rfl h
 have e:(op==CmpOp.NotIn)=false:=by cases op <;> first | rfl|exact absurd rfl h2
 cases b <;> simp[behindInMarks,d,e]
def Ur {op:CmpOp}{r:R2}(d:Dy X (compareOp op) r)(ha:PE X a ta)(hb:PE X b tb)(e:behindInMarks op b=false):PE X (.Compare a [op] [b] pos) (WV r ta tb):=by intro f s g H Q I h;exact wpAny_Compare1 (de ha hb I h λv u i x y j k l m q=>d f i g j x y v u Q k l m q) e
def ZF (t:TE):TT:=λd H Q=>t d H λx e=>∃k,x= .bl k/\Q k e
def KZ {op:CmpOp}{r:R2}(g:Dy X (compareOp op) r)(ha:PE X a ta)(hb:PE X b tb)(i:behindInMarks op b=false):PT X (.Compare a [op] [b] pos) (ZF (WV r ta tb)):=by
 intro d s f H Q I h;refine wpAny_isTrue_Compare1 (BJ (ha d s f H _ I h) λv j ⟨x,H1,l,m,n⟩=>BJ (hb d j f H1 _ l n) λu o ⟨y,p,t,w,A⟩=>
  BJ (g d o f p x y v u _ t m w A) λc F ⟨z,B,C,D,k,e,E⟩=> ?_) i
 subst e;cases D;exact ABc ⟨B,C,E⟩
def Lw:(sizeLine:Nat)<2^63:=by rw[sizeLine_eq];decide
def vals1 {x:V}{us:zy zx}(r:Aj [x] us):∃u,us= [u] /\RelV x u:=by
 cases r with
 | cons d e=>cases e;exact⟨_,rfl,d⟩
def vals2 {x y:V}{us:zy zx}(r:Aj [x,y] us):∃u d,us= [u,d] /\RelV x u/\RelV y d:=by
 cases r with
 | cons e f=>
   cases f with
   | cons g h=>cases h;exact⟨_,_,rfl,e,g⟩
def Ld:Bu X (.builtin "abs") (λxs H Q=>∃i,xs= [.int i] /\Q (.int (if i<0 then -i else i)) H):=by intro d s e H xs us Q I r h;obtain⟨i,rfl,q⟩:=h;obtain⟨u,rfl,t,rfl⟩:=vals1 r;exact call_abs_int λu f=>⟨.int (if i<0 then -i else i),H,I.tok _,⟨_,rfl⟩,q⟩
def Vg (hc:X.calm=true):Bu X (.builtin "max") (λxs H Q=>∃i j,xs= [.int i, .int j] /\Q (.int (if j>i then j else i)) H):=by
 intro d s e H xs us Q I r h;obtain⟨i,j,rfl,q⟩:=h;obtain⟨u,f,rfl,⟨t,rfl⟩,⟨t',rfl⟩⟩:=vals2 r;refine max_two_ints (I.ok.hd hc) λh' g k=>⟨_,H,I.kept k, ?_,q⟩;by_cases hj:j>i
 .rw [AAE hj,AAE hj];exact⟨_,rfl⟩
 .rw [AAC hj,AAC hj];exact⟨_,rfl⟩
def Vh (hc:X.calm=true):Bu X (.builtin "min") (λxs H Q=>∃i j,xs= [.int i, .int j] /\Q (.int (if j<i then j else i)) H):=by
 intro d s e H xs us Q I r h;obtain⟨i,j,rfl,q⟩:=h;obtain⟨u,f,rfl,⟨t,rfl⟩,⟨t',rfl⟩⟩:=vals2 r;refine min_two_ints (I.ok.hd hc) λh' g k=>⟨_,H,I.kept k, ?_,q⟩;by_cases hj:j<i
 .rw [AAE hj,AAE hj];exact⟨_,rfl⟩
 .rw [AAC hj,AAC hj];exact⟨_,rfl⟩
def NZ:Bu X (.type "int") (λxs H Q=>(∃i,xs= [.int i] /\Q (.int i) H)\/∃k,xs= [.bl k] /\Q (.int (if k then 1 else 0)) H):=by
 intro e s f H xs us Q I r h;rcases h with⟨i,rfl,q⟩|⟨k,rfl,q⟩
 .obtain ⟨u,rfl,t,rfl⟩:=vals1 r;exact call_int_int ⟨.int i,H,I,⟨_,rfl⟩,q⟩
 .obtain ⟨u,rfl,d⟩:=vals1 r;cases d;exact call_int_bool ⟨.int (if k then 1 else 0),H,I.tok _,⟨_,rfl⟩,q⟩
end
structure dP (h:Heap) (x dx C:Addr) (mA:Str->Option Value):Prop where
 obj:h.get? x=some (PySem.W.instObj C dx)
 ns:h.Ns1 dx mA
 ne:dx≠x
def V7 {h:zl}{b:zu}{c:Str->zt zx}(n:h.Ns1 b c):∃d,h.get? b=some d/\∀name,PySem.W.lookIn name d=some (c name):=by
 obtain⟨o,es,ep,f,hd,hk,_,g⟩:=n;refine⟨o,f,λname=> ?_⟩;have e:=g name;unfold nsFind findBy at e;rw[<-Array.find?_toList] at e;unfold PySem.W.lookIn;rw[hd];dsimp only;split
 .rename_i y q;rw[q] at e;exact congrArg some e
 .rename_i q;rw[q] at e;have a:es.toList.any (·.refKey)=false:=by rw[ACS];intro y hy;obtain⟨z,t,i⟩:=hk y (Array.mem_toList_iff.mp hy);simp[DictEntry.refKey,i]
  have j:¬es.toList.any (·.refKey)=true:=by rw[a];exact AAN
  rw[AAC j];exact congrArg some e
def dP.look {h:zl}{x b C:zu}{c:Str->zt zx}(I:dP h x b C c):∃a,PySem.W.InstAt h x (PySem.W.instObj C b) C (some a)/\∀name,PySem.W.lookIn name a=some (c name):=
 let ⟨a,d,hl⟩:=V7 I.ns
 ⟨a,⟨I.obj,rfl,rfl,d⟩,hl⟩
section
variable {prog:zp}{w:zm}{A:zk}{E:zx->zw->Prop}{s:zw}{K:AAB}{x dx C f:zu}{mA:Str->zt zx}{name:Str}{v:zx}
def KL {expr:zq}{Q:zx->zw->Prop}(X:K.In s.heap)(I:dP s.heap x dx C mA)(a:PySem.W.plainGet K C name=true)(b:PySem.W.hasDictIn K C=true)(ha:PySem.W.findIn K (.ref C) name=some none)(hv:mA name=some v)(c:PySem.W.handedIn v=true)(h:Q v {s with toks:=s.toks+1}):wpAny (model prog w) A (getAttr (.ref x) name expr) Q E s:=by obtain⟨d,J,hl⟩:=I.look;exact PySem.W.get_value X J (PySem.W.plainGet_of a).1 (PySem.W.findObj_own b ha rfl (by rw[hl,hv])) c h
end
def IB.some_of {v:V}{o:zt zx}(r:IB (some v) o):∃u,o=some u/\RelV v u:=by
 cases o with
 | none=>exact(show False from r).elim
 | some u=>exact⟨u,rfl,r⟩
def IB.none_of {o:zt zx}(r:IB none o):o=none:=by
 cases o with
 | none=>rfl
 | some u=>exact(show False from r).elim
structure kS (K:AAB) (C:Addr):Prop where
 pg:PySem.W.plainGet K C Str.empty=true
 hd:PySem.W.hasDictIn K C=true
 po:PySem.W.plainOver K C=true
 sa:PySem.W.findIn K (.ref C) "__setattr__" =some (some (.builtin "object.__setattr__"))
def kS.get {K:AAB}{C:zu}(c:kS K C)(f:Str):PySem.W.plainGet K C f=true:=c.pg
structure uC (K:AAB) (C:Addr) (f:Str) (v:V) (u:Value):Prop where
 at_:PySem.W.findIn K (.ref C) f=some (some u)
 rel:RelV v u
 get:PySem.W.specialIn K u "__get__" =some none
 cp:PySem.W.copiedNames.contains f=false
structure rD (K:AAB) (C:Addr) (m:Str) (f:Addr):Prop where
 at_:PySem.W.findIn K (.ref C) m=some (some (.ref f))
 fn:PySem.W.isFn K (.ref f)=true
 kp:PySem.W.keepIn K (.ref f)=true
section
variable {X:Cx}{zj:zy (zu×Obj)}{σ:St}{H:Hp}{s:zw}{a C dx:zu}{fs:zy (Str×V)}{f:Str}{v:V}{A:zk}{E:zx->zw->Prop}
def Inv.made (I:Inv X zj σ H s):Inv X zj σ (upd (upd H s.heap.objs.size (.own (s.heap.objs.size+1))) (s.heap.objs.size+1) (.ins C s.heap.objs.size [])) {s with heap:=(s.heap.push PySem.W.emptyDict).push (PySem.W.instObj C s.heap.objs.size)}:=by
 have c:(s.heap.push PySem.W.emptyDict).get? s.heap.objs.size=some PySem.W.emptyDict:=AAP s.heap rfl;have g:((s.heap.push PySem.W.emptyDict).push (PySem.W.instObj C s.heap.objs.size)).get? (s.heap.objs.size+1)=some (PySem.W.instObj C s.heap.objs.size):=by
  have:=AAP (s.heap.push PySem.W.emptyDict) (o:=PySem.W.instObj C s.heap.objs.size) rfl
  rwa [ABA] at this
 have h:(s.heap.push PySem.W.emptyDict).Ns s.heap.objs.size (λ_=>none):=⟨PySem.W.emptyDict, #[],_,c,rfl,(λe he=>absurd he (by simp)),λ_=>rfl⟩;have i:=I.laid (a:=s.heap.objs.size) (o:= .own (s.heap.objs.size+1)) (h':=s.heap.push PySem.W.emptyDict) (t':=s.toks) (λb u q=>AAH _ q) (AAI _) ⟨_,c⟩;refine i.laid (a:=s.heap.objs.size+1) (o:= .ins C s.heap.objs.size []) (t':=s.toks) (λb u q=>AAH _ q) (Nat.le_of_eq (ABA _ _)) ?_;have d:s.heap.objs.size≠s.heap.objs.size+1:=AAM (Nat.lt_succ_self _);refine⟨by rw[AZ d,AX],AAq _,d,g,λ_=>none,(Heap.Ns1.of_empty h).at λo q=>AAH _ q,λ_=>True.intro,λy hy=>absurd rfl hy⟩
end
section
variable {X:Cx}{zj:zy (zu×Obj)}{σ:St}{H:Hp}{s:zw}{A:zk}{E:zx->zw->Prop}{Q:zx->zw->Prop}{c:zx}{b:zq}
inductive LY (K:AAB) (H:Hp):V->Value->Prop where
 | non:LY K H .non (.type "NoneType")
 | bl (x:Bool):LY K H (.bl x) (.type "bool")
 | int (i:Int):LY K H (.int i) (.type "int")
 | str (x:Str):LY K H (.str x) (.type "str")
 | flt (x:UInt64):LY K H (.flt x) (.type "float")
 | lst {a:Addr} {xs:List V} (e:H a=some (.lst xs)):LY K H (.ref a) (.type "list")
 | frz {a:Addr} {o:Obj} {xs:List V} (e:H a=some (.frz o (.lst xs))):LY K H (.ref a) (.type "list")
 | tup {a:Addr} {xs:List V} (e:H a=some (.tup xs)):LY K H (.ref a) (.type "tuple")
 | dK {a:Addr} {kvs:List (CK×V)} (e:H a=some (.dK kvs)):LY K H (.ref a) (.type "dict")
 | dT {a:Addr} {kvs:List (List CK×V)} (e:H a=some (.dT kvs)):LY K H (.ref a) (.type "dict")
 | ins {a C dx:Addr} {fs:List (Str×V)} (e:H a=some (.ins C dx fs)) (cl:kS K C) (ha:PySem.W.findIn K (.ref C) "__class__" =some (some (.builtin "object.__class__")))
    (hn:PySem.W.specialIn K (.builtin "object.__class__") "__get__" =some (some (.builtin "getset_descriptor.__get__"))) (uR:PySem.W.takesIn K (.builtin "object.__class__")=some true)
    (hm:PySem.W.mroIn K C (.type "object")=some true):LY K H (.ref a) (.ref C)
end
structure Room (k:Nat) (A:Around):Prop where
 hd:A.handled=none
 dp:A.depth+3*k+5<recursionLimit
 un:A.units+16*k+200<cLine
 gd:A.guards=some []
def Room.mono {j k:Nat}{A:zk}(r:Room k A)(h:j<=k):Room j A:=⟨r.hd,by have:=r.dp;omega,by have:=r.un;omega,r.gd⟩
def Room.deeper {k:Nat}{A:zk}(r:Room (k+1) A)(env:Env):Room k (A.deeper env):=
 ⟨r.hd,by have:=r.dp;show A.depth+1+3*k+5<_;omega,by have:=r.un;show A.units+3+16*k+200<_;omega,r.gd⟩
def Room.in1 {k:Nat}{A:zk}(r:Room (k+1) A):Room k A.in1:=
 ⟨r.hd,by have:=r.dp;show A.depth+3*k+5<_;omega,by have:=r.un;show A.units+1+16*k+200<_;omega,r.gd⟩
def S3 {A:zk}{C:zu}{us:zy zx}{a:zy (Str×zx)}:(A.under (.builtin "type.__call__" ⟨.ref C::us,a⟩)).depth=A.depth+1:=by first | rfl|simp[Around.under,Code.weight,Code.isCreation,Code.isGuard,Code.isCaller,Code.frames,Code.isFrame,guardIds]
def S4 {A:zk}{C:zu}{us:zy zx}{a:zy (Str×zx)}:(A.under (.builtin "type.__call__" ⟨.ref C::us,a⟩)).units=A.units+1:=by first | rfl|simp[Around.under,Code.cUnits,Code.frames,Code.isFrame]
def Room.make {k:Nat}{A:zk}(r:Room (k+1) A)(C:zu)(us:zy zx)(a:zy (Str×zx)):Room k (A.under (.builtin "type.__call__" ⟨.ref C::us,a⟩)):=
 ⟨r.hd,by have:=r.dp;rw[S3];omega,by have:=r.un;rw[S4];omega,by first | exact r.gd|simpa[Around.under,pushGuards,Code.guards,Code.isGuard,guardIds] using r.gd⟩
def Room.depth {k:Nat}{A:zk}(r:Room k A):A.depth<recursionLimit:=by have:=r.dp;omega
def Room.units {k:Nat}{A:zk}(r:Room k A):A.units+64<cLine:=by have:=r.un;omega
def cI:TA:=λ_ H Q=>Q [] H
def MW (b:TE)(c:TA):TA:=λa H Q=>b a H λx H1=>c a H1 λxs d=>Q (x::xs) d
section
variable {X:Cx}{e:zr}{es:zy zr}{te:TE}{t:TA}{pos:Pos}
def EZ:PA X [] cI:=λ_ _ _ _ H Q I h=>AC7 ⟨[],H,I, .nil,h⟩
def B0 (ha:PE X e te)(c:PA X es t)(hs:starEach (e::es) X.env=(false,eval e X.env)::starEach es X.env:=by rfl):PA X (e::es) (MW te t):=by intro pos a s b H Q I h;rw[hs];show wpAny _ _ (spliced ((false,eval e X.env)::backTo pos (starEach es X.env))) _ _ s;refine ABz (BJ (ha a s b H _ I h) λu d ⟨x,H1,f,g,i⟩=> ?_);exact BJ (c pos a d b H1 _ f i) λus n ⟨xs,j,k,l,m⟩=>⟨x::xs,j,k, .cons g l,m⟩
def cK (t:TA):TE:=λa H Q=>t a H λxs H1=>xs.length<=sizeLine/\∀p,H1 p=none->Q (.ref p) (upd H1 p (.tup xs))
def mR (t:TA):TE:=λa H Q=>t a H λxs H1=>xs.length<=sizeLine/\∀p,H1 p=none->Q (.ref p) (upd H1 p (.lst xs))
def L7 {x1}(h:PA X es t):PE X (.Tuple es x1 pos) (cK t):=by intro d s f H Q I hq;refine wpAny_Tuple_spliced (BJ (h pos d s f H _ I hq) λus a ⟨xs,H1,c,r,z,q⟩=>⟨by rw[<-r.length];exact z, ?_⟩);have g:H1 a.heap.objs.size=none:=c.hok.fresh (AAI _);refine⟨.ref a.heap.objs.size,upd H1 a.heap.objs.size (.tup xs),c.laid (t':=a.toks) (λb u e=>AAH _ e) (AAI _) ?_,rfl,q _ g⟩;exact⟨z,us,r,⟨_,AAP _ rfl,rfl,_,rfl⟩⟩
def YM (h:PA X es t):PE X (.List es pos) (mR t):=by intro d s f H Q I hq;refine wpAny_List_spliced (BJ (h pos d s f H _ I hq) λus a ⟨xs,H1,c,r,z,q⟩=>⟨by rw[<-r.length];exact z, ?_⟩);have g:H1 a.heap.objs.size=none:=c.hok.fresh (AAI _);refine⟨.ref a.heap.objs.size,upd H1 a.heap.objs.size (.lst xs),c.laid (t':=a.toks) (λb u e=>AAH _ e) (AAI _) ?_,rfl,q _ g⟩;exact⟨z,us,0,r,AAP _ rfl⟩
end
abbrev Sp:=zy V->Hp->VK->XK->Prop
abbrev VN:=zy Env->Hp->zw->XK->zx->zw->Prop
structure Mt (P:Program) (w:World) (K:AAB) (mg:Str->Option Value) (base:Heap) (A:Around) (outer:List Env) (s:Shared) (H:Hp):Prop where
 frames:A.frames=some outer
 mod:Mod K mg base
 bs:∀b o,base.get? b=some o->s.heap.get? b=some o/\H b=none
 bsz:base.objs.size<=s.heap.objs.size
 funs:s.heap.FunFrames base outer
 frf:∀b∈Wg outer,H b=none
 hok:G4 P w H s.heap
 bare:AllBare s.gens
def CE (outer:zy Env)(P:zp)(w:zm)(H:Hp)(s:zw)(Q:VK)(u:zx)(a:zw):Prop:=
 ∃v b,a.os=s.os/\AllBare a.gens/\Un (Wg outer) [] H b s.heap a.heap/\G4 P w b a.heap/\RelV v u/\Q v b
def CR (CX:VN)(outer:zy Env)(P:zp)(w:zm)(H:Hp)(s:zw)(Q:VK)(E:XK)(r:Result)(a:zw):Prop:=
 match r with
 | .ok (.ret u)=>CE outer P w H s Q u a
 | .ok _=>False
 | .error e=>CX outer H s E e a
structure D8 (P:Program) (w:World) (K:AAB) (mg:Str->Option Value) (base:Heap) (CX:VN) (k:Nat) (f:Addr) (fd:FuncData) (ps:List Str) (sp:Sp):Prop where
 len:∀vs H Q E,sp vs H Q E->vs.length=ps.length
 run:∀(A:Around) (outer:List Env) (s:Shared) (H:Hp) (args:Args) (us:List Value) (vs:List V) (Q:VK) (E:XK),Room k A->Mt P w K mg base A outer s H->BindsTo s fd args (ps.zip us)->Aj vs us->sp vs H Q E->
  codeAny (model P w) A (.call (.ref f) args) (CR CX outer P w H s Q E) s
def D8.mono {P:zp}{w:zm}{K:AAB}{mg:Str->zt zx}{base:zl}{CX:VN}{j k:Nat}{f:zu}{a:FuncData}{b:zy Str}{sp:Sp}(F:D8 P w K mg base CX j f a b sp)(h:j<=k):D8 P w K mg base CX k f a b sp:=⟨F.len,λA outer s H args us vs Q E c=>F.run A outer s H args us vs Q E (c.mono h)⟩
def D8.imp {P:zp}{w:zm}{K:AAB}{mg:Str->zt zx}{base:zl}{CX:VN}{k:Nat}{f:zu}{b:FuncData}{c:zy Str}{sp a:Sp}(F:D8 P w K mg base CX k f b c sp)(h:∀vs H Q E,a vs H Q E->sp vs H Q E):D8 P w K mg base CX k f b c a:=
 ⟨λvs H Q E q=>F.len vs H Q E (h _ _ _ _ q),λA outer s H args us vs Q E d he hb hv hs=>F.run A outer s H args us vs Q E d he hb hv (h _ _ _ _ hs)⟩
def Mt.make {P:zp}{w:zm}{K:AAB}{mg:Str->zt zx}{base:zl}{A:zk}{outer:zy Env}{s:zw}{H:Hp}(e:Mt P w K mg base A outer s H)(C:zu)(us:zy zx)(a:zy (Str×zx)):Mt P w K mg base (A.under (.builtin "type.__call__" ⟨.ref C::us,a⟩)) outer s H:=⟨by first | exact e.frames|(simpa[Around.under,Code.envs,Code.isFrame,pushEnvs] using e.frames),e.mod,e.bs,e.bsz,e.funs,e.frf,e.hok,e.bare⟩
def Mt.in1 {P:zp}{w:zm}{K:AAB}{mg:Str->zt zx}{base:zl}{A:zk}{outer:zy Env}{s:zw}{H:Hp}(e:Mt P w K mg base A outer s H):Mt P w K mg base A.in1 outer s H:=⟨e.frames,e.mod,e.bs,e.bsz,e.funs,e.frf,e.hok,e.bare⟩
section
variable {X:Cx}{zj:zy (zu×Obj)}{σ:St}{H:Hp}{s s':zw}
def Inv.env0 (I:Inv X zj σ H s):Mt X.prog X.w X.K X.mg X.base X.A X.stack s H:=
 ⟨I.ok.frames,I.ok.mod,I.bs,AAe I.ok.bsz I.sz,I.stack,I.stkFree,I.hok,I.bare⟩
def Inv.after {Q:VK}{u:zx}(I:Inv X zj σ H s)(h:CE X.stack X.prog X.w H s Q u s'):EP X zj σ Q u s':=by obtain⟨v,c,os,bare,un,hok,r,q⟩:=h;obtain⟨e,g,d,t,a⟩:=s';obtain rfl:a=s.os:=os;exact⟨v,c,I.call (h':=e) (g':=g) (d':=d) (t':=t) (ch:= []) un hok bare (λb z=>absurd z (by simp)),r,q⟩
end
def c7 (sp:Sp)(a:zy V)(E:XK)(t:TA):TE:=λb H Q=>t b H λvs H1=>sp (vs++a) H1 Q E
def Binds (K:AAB)(c:FuncData)(a:zy Str)(b:zy zx):Prop:=
 ∀(s:zw) (us:zy zx),K.In s.heap->(us++b).length=a.length->BindsTo s c ⟨us, []⟩ (a.zip (us++b))
def Binds.all {K:AAB}{b:FuncData}{a:zy Str}(h:∀us:zy zx,us.length=a.length->bindArgs b ⟨us, []⟩=pure (a.zip us)):Binds K b a [] :=λs us _ hl=>by rw[AB0] at hl ⊢;exact .of_eq (h us hl)
def Passes (CX:VN)(X:Cx)(E:XK):Prop:=∀(b:zy (zu×Obj)) (c:St) (H:Hp) (s:zw) (e:zx) (a:zw),Inv X b c H s->CX X.stack H s E e a->X.xe e a
section
variable {X:Cx}{CX:VN}{k:Nat}{f C:zu}{fd:FuncData}{ps:zy Str}{sp:Sp}{dvs:zy V}{ds:zy zx}{E:XK}{x m:Str}{p pos apos:Pos}{e o:zr}{es:zy zr}{ta:TE}{t:TA}
theorem fk {a:zy (zu×Obj)}{b:St}{H:Hp}{s:zw}{Q:VK}{us:zy zx}{vs:zy V}(F:D8 X.prog X.w X.K X.mg X.base CX k f fd ps sp)(d:Room k X.A)(hb:Binds X.K fd ps ds)(hd:Aj dvs ds)(hx:Passes CX X E)(I:Inv X a b H s)(r:Aj vs us)(h:sp (vs++dvs) H Q E):wpAny (model X.prog X.w) X.A (call (.ref f) us) (EP X a b Q) X.xe s:=by
 have c:Aj (vs++dvs) (us++ds):=r.append hd;have hl:(us++ds).length=ps.length:=by rw[<-c.length];exact F.len _ _ _ _ h
 refine wpAny_call (codeAny_mono (F.run X.A X.stack s H ⟨us, []⟩ (us++ds) (vs++dvs) Q E d I.env0 (hb s us I.kIn hl) c h) λr g hq=> ?_);cases r with
 | error e=>exact hx a b H s e g I hq
 | ok i=>
   cases i with
   | ret u=>exact I.after hq
   | next=>exact False.elim hq
   | brk=>exact False.elim hq
   | cont=>exact False.elim hq
theorem bA (F:D8 X.prog X.w X.K X.mg X.base CX k f fd ps sp)(b:Room k X.A)(c:Gl X x)(d:X.mg x=some (.ref f))(hk:PySem.W.keepIn X.K (.ref f)=true)(hb:Binds X.K fd ps ds)(hd:Aj dvs ds)(hx:Passes CX X E)(ha:PA X (e::es) t)(hdb:(x==("__debug__" :Str))=false:=by decide)(he:starEach (e::es) X.env=(false,eval e X.env)::starEach es X.env:=by rfl)(hpl:(backTo pos (starEach es X.env)).any (·.1)=false:=by rfl):PE X (.Call (.Name x p) (e::es) [] pos) (c7 sp dvs E t):=by intro g s i H Q I h;refine AC8 (Um I c d ?_ hdb);refine PySem.W.callWith_K (h₀:=X.base) I.ok.mod.kin hk (BJ (ha pos g s i H _ I h) λus j ⟨vs,H1,a,r,q⟩=>⟨a.kIn, ?_⟩) he hpl;exact fk F b hb hd hx a r q
structure Mk (K:AAB) (C f:Addr):Prop where
 makes:PySem.W.makesIn K C=true
 init:PySem.W.findIn K (.ref C) "__init__" =some (some (.ref f))
 fn:PySem.W.isFn K (.ref f)=true
 kp:PySem.W.keepIn K (.ref C)=true
end
section
variable {X:Cx}{CX:VN}{k:Nat}{f C:zu}{fd:FuncData}{ps ks:zy Str}{sp:Sp}{E:XK}{x m:Str}{p pos apos kpos:Pos}{e o:zr}{es:zy zr}{kws:zy Keyword}{te ta:TE}{t tk:TA}{nm:zt Str}
structure kb (K:AAB) (fd:FuncData) (ps ks:List Str) (g:List Value->List Value->List Value) (gV:List V->List V->List V):Prop where
 to:∀(s:Shared) (us ws:List Value),K.In s.heap->(g us ws).length=ps.length->BindsTo s fd ⟨us,ks.zip ws⟩ (ps.zip (g us ws))
 rel:∀{vs:List V} {us:List Value} {zs:List V} {ws:List Value},Aj vs us->Aj zs ws->Aj (gV vs zs) (g us ws)
variable {g:zy zx->zy zx->zy zx}{gV:zy V->zy V->zy V}
end
structure Dn (N P:List Str) (sc:Scope):Prop where
 kind:sc.kind= .function
 co:sc.isCoroutine=false
 gen:sc.isGenerator=false
 nd:N.Nodup
 pre:N.take P.length=P
 par:∀x∈P,sc.names.lookup x=some .local\/sc.names.lookup x=some .cell
 nofree:∀y∈sc.names,y.2≠ .free
theorem NY {kindOf:Str->zt NameKind}{x:Str}:∀{binds:zy (Str×zx)} {m:Str->zt zx},(∀v,(x,v) ∉ binds)->bindL kindOf binds m x=m x
 | [],_,_=>rfl
 | (n,v)::r,m,h=>by
   unfold bindL;rw[NY λw hw=>h w (AA8 _ hw)];split
   .have:x≠n:=by rintro rfl;exact h v ABU
    simp[this]
   .rfl
theorem NW {kindOf:Str->zt NameKind}{x:Str}:∀{binds:zy (Str×zx)} {m:Str->zt zx},(∀v,(x,v) ∉ binds)->bindC kindOf binds m x=m x
 | [],_,_=>rfl
 | (n,v)::r,m,h=>by
   unfold bindC;rw[NW λw hw=>h w (AA8 _ hw)];split
   .rfl
   .have:x≠n:=by rintro rfl;exact h v ABU
    simp[this]
theorem NX {kindOf:Str->zt NameKind}{x:Str}{v:zx}:∀{P:zy Str} {vs:zy zx} {i:Nat} {m:Str->zt zx},P.Nodup->P[i]? =some x->vs[i]? =some v->kindOf x=some .local-> bindL kindOf (P.zip vs) m x=some v
 | [],_,_,_,_,h,_,_=>by simp at h
 | _::_, [],_,_,_,_,h,_=>by simp at h
 | p::P,w::vs,0,m,nd,h1,h2,hk=>by simp at h1 h2;subst h1;subst h2;show bindL kindOf ((p,w)::P.zip vs) m p=_;unfold bindL;rw[NY λv hv=>(ACT.mp nd).1 (ABW hv).1,AAE hk];simp
 | p::P,w::vs,i+1,m,nd,h1,h2,hk=>by show bindL kindOf ((p,w)::P.zip vs) m x=_;unfold bindL;exact NX (i:=i) (ACT.mp nd).2 (by simpa using h1) (by simpa using h2) hk
theorem NV {kindOf:Str->zt NameKind}{x:Str}{v:zx}:∀{P:zy Str} {vs:zy zx} {i:Nat} {m:Str->zt zx},P.Nodup->P[i]? =some x->vs[i]? =some v->kindOf x≠some .local-> bindC kindOf (P.zip vs) m x=some v
 | [],_,_,_,_,h,_,_=>by simp at h
 | _::_, [],_,_,_,_,h,_=>by simp at h
 | p::P,w::vs,0,m,nd,h1,h2,hk=>by simp at h1 h2;subst h1;subst h2;show bindC kindOf ((p,w)::P.zip vs) m p=_;unfold bindC;rw[NW λv hv=>(ACT.mp nd).1 (ABW hv).1,AAC hk];simp
 | p::P,w::vs,i+1,m,nd,h1,h2,hk=>by show bindC kindOf ((p,w)::P.zip vs) m x=_;unfold bindC;exact NV (i:=i) (ACT.mp nd).2 (by simpa using h1) (by simpa using h2) hk
def start (N:zy Str)(vs:zy V):St:=vs.map some++List.replicate (N.length-vs.length) none
def QO (CX:VN)(P:zp)(w:zm)(K:AAB)(mg:Str->zt zx)(base:zl)(N:zy Str)(qual:Str)(scope:Scope)(f:zu)(b:zx)(A:zk)(outer:zy Env)(s:zw)(H:Hp)(E:XK):Cx where
 prog:=P
 w:=w
 K:=K
 mg:=mg
 base:=base
 A:=A.deeper (envOfC qual scope s.heap.objs.size f b)
 N:=N
 s₀:=s
 H₀:=H
 env:=envOfC qual scope s.heap.objs.size f b
 outer:=outer
 stack:=envOfC qual scope s.heap.objs.size f b::outer
 ex:= []
 calm:=true
 fn:=λ_=>true
 pn:= []
 xe:=λe c=>wpAny (model P w) (A.deeper (envOfC qual scope s.heap.objs.size f b)) (leaving (envOfC qual scope s.heap.objs.size f b) e) (λ_ a=>CX outer H s E e a) (λd a=>CX outer H s E d a) c
def QK {sc:Scope}{n:Nat}{x:Str}(h:sc.names.lookup x=some .cell):∃c,(cellsFrom n sc.names []).lookup x=some c:=by have q:=ADb sc.names n [] (.inl h);exact Option.isSome_iff_exists.mp q
def Vz {CX:VN}{P:zp}{w:zm}{K:AAB}{mg:Str->zt zx}{base:zl}{N g:zy Str}{qual:Str}{scope:Scope}{f:zu}{m:zx}{A:zk}{outer:zy Env}{s o:zw}{H:Hp}{E:XK}{us:zy zx}{vs:zy V}(S:Dn N g scope)(hd:A.handled=none)(d:Mt P w K mg base A outer s H)(hl:vs.length=g.length)(r:Aj vs us)(x:InCallC s s.heap.objs.size (bindL (envOfC qual scope s.heap.objs.size f m).kindOf (g.zip us) λ_=>none) (cellsFrom (s.heap.objs.size+1) scope.names []) (bindC (envOfC qual scope s.heap.objs.size f m).kindOf (g.zip us) λ_=>none) o):Inv (QO CX P w K mg base N qual scope f m A outer s H E) [] (start N vs) H o:=by
 have hpl:g.length<=N.length:=by have:=congrArg List.length S.pre;rw[AC9] at this;omega
 obtain⟨h1,t,rfl,hk⟩:=x.done;have j:∀b:zu,b ∉ (QO CX P w K mg base N qual scope f m A outer s H E).ex:=λb z=>absurd (show b∈([] :zy zu) from z) (by simp);refine⟨⟨d.mod,S.kind,rfl,rfl,AAI _,λy z c h1 h2=> ?_,λy hy=> ?_,λy c _ h=> ?_,λ_=>hd,Around.frames_deeper d.frames, .inr ⟨rfl,rfl⟩,λb z=>absurd z (j b),d.bs,d.bsz,λb _ _=>j b,λb z=>absurd z (j b),d.funs,d.frf⟩,
  rfl,d.bare,Un.kept hk,⟨_,x.toInCall.ns,λi y v h1 h2 B=> ?_⟩,λy c h=>⟨_,x.cell y c h⟩,d.hok.fresh (AAI _),λy c h=> ?_,λp hp=>absurd (show p∈([] :zy (zu×Obj)) from hp) (by simp),d.hok.kept hk, ?_⟩
 .exact name_of_addr x.apart (AB1 h1) (AB1 h2)
 .have hy:scope.names.lookup y=some .cell\/scope.names.lookup y=some .free:=hy;rcases hy with hy|hy
  .exact QK hy
  .exact absurd rfl (S.nofree _ (AB1 hy))
 .exact ACQ (x.above y c (AB1 h))
 .have hi:i<vs.length:=by
   unfold start at h2;by_cases hi:i<vs.length
   .exact hi
   .rw [AA6 (by simpa using hi)] at h2;rw[ABI] at h2;split at h2 <;> cases h2
  have ha:vs[i]? =some v:=by
   unfold start at h2;rw[ABB (by simpa using hi),AAk] at h2;cases e:vs[i]? with
   | none=>rw[e] at h2;cases h2
   | some a=>rw[e] at h2;cases h2;rfl
  obtain⟨u,hu,rv⟩:=r.get ha;have hp:g[i]? =some y:=by rw[<-S.pre,List.getElem?_take_of_lt (by omega)];exact h1
  have l:g.Nodup:=by rw[<-S.pre];exact S.nd.sublist (List.take_sublist _ _)
  refine⟨u,rv, ?_⟩;rcases S.par y (ABX hp) with k|k
  .exact .inl ⟨k,NX l hp hu k⟩
  .obtain ⟨c,e⟩:=QK (n:=s.heap.objs.size+1) k;refine .inr ⟨.inl k,c,e, ?_⟩;have q:=x.cell y c e;rw[NV l hp hu (by show scope.names.lookup y≠_;rw[k];decide)] at q;exact q
 .exact d.hok.fresh (ACQ (x.above y c (AB1 h)))
 .unfold start;show _=N.length;rw[AAr,AAJ,ABJ];omega
def iL {CX:VN}{P:zp}{w:zm}{K:AAB}{mg:Str->zt zx}{base:zl}{k:Nat}{f:zu}{name qual:Str}{params:Arguments}{body:zy Stmt}{scope:Scope}{z kV d B a ct L:zx}{C M:zt zu}{j:Array (zt zx)}{N i:zy Str}{sp:Sp}(O:K.lookup f=some ⟨L,M, .func (PySem.W.fnOf name qual params body scope z kV d B C a ct),j⟩)(R:PySem.W.codeIn K a qual=true)(S:Dn N i scope)(len:∀vs H Q E,sp vs H Q E->vs.length=i.length)(T:∀(A:zk) (outer:zy Env) (s:zw) (H:Hp) (vs:zy V) (Q:VK) (E:XK),Room k (A.deeper (envOfC qual scope s.heap.objs.size f a))->sp vs H Q E-> ∃t,Rf (QO CX P w K mg base N qual scope f a A outer s H E) body t/\t {nx:=λ_ c=>Q .non c,rt:=Q} (start N vs) H):D8 P w K mg base CX (k+1) f (PySem.W.fnOf name qual params body scope z kV d B C a ct) i sp:=by
 refine⟨len,λA outer s H args us vs Q E l g hb r D=> ?_⟩;have hl:=len _ _ _ _ D;have F:K.In s.heap:=g.mod.kin.keeps λb o e=>(g.bs b o e).1;have m:s.heap.NoLimit:=g.mod.nolimit.keeps λb o e=>(g.bs b o e).1;have U:∀y∈i.zip us,scope.names.lookup y.1=some .local\/(scope.names.lookup y.1=some .cell/\((cellsFrom (s.heap.objs.size+1) scope.names []).lookup y.1).isSome=true):=λ⟨n,v⟩ hy=>by
  rcases S.par n (ABW hy).1 with q|q
  .exact .inl q
  .exact .inr ⟨q,ADb _ _ _ (.inl q)⟩
 refine codeAny_call_function l.depth (F _ _ O) rfl S.co S.gen rfl (PySem.W.codeRec_of F R) (hb _ _ _ _ ?_);refine wpAny_newFunctionEnv_cells S.kind U λenv he G x=> ?_;subst he;refine⟨m.keeps x.toInCall.keep,codeAny_func ?_⟩;obtain⟨t,X,hq⟩:=T A outer s H vs Q E (l.deeper _) D;have I:Inv (QO CX P w K mg base N qual scope f a A outer s H E) [] (start N vs) H G:=Vz S l.hd g hl r x;refine AA4 (X [] G (start N vs) H _ I hq) (λY p hs=> ?_) λe p hs=>hs;have h:∀{σ':St} {c:Hp} {v:V} {u:zx},Inv (QO CX P w K mg base N qual scope f a A outer s H E) [] σ' c p->RelV v u->Q v c->CE outer P w H s Q u p:=
  λ{σ' c v u} J rv q=>⟨v,c,J.os,J.bare,J.base,J.hok,rv,q⟩
 cases Y with
 | ret u=> obtain⟨v,σ',c,J,rv,q⟩:=hs;exact h J rv q
 | next=> obtain⟨σ',c,J,q⟩:=hs;exact h (v:=V.non) (u:=Value.none) J rfl q
 | brk=> obtain⟨_,_,_,q⟩:=hs;exact False.elim q
 | cont=> obtain⟨_,_,_,q⟩:=hs;exact False.elim q
section
variable {X:Cx}{x:Str}{p pos:Pos}{e:zr}{es:zy zr}{t:TA}{id T:String}{r:zy V->Hp->VK->Prop}
def mQ (r:zy V->Hp->VK->Prop)(t:TA):TE:=λa H Q=>t a H λvs H1=>r vs H1 Q
def IT (hc:Bu X (.builtin id) r)(c:Gl X x)(d:X.mg x=none)(hv:bootBuiltins x=some (.builtin id))(ha:PA X (e::es) t)(f:x≠"__name__" :=by decide)(hdb:(x==("__debug__" :Str))=false:=by decide)(he:starEach (e::es) X.env=(false,eval e X.env)::starEach es X.env:=by rfl)(hpl:(backTo pos (starEach es X.env)).any (·.1)=false:=by rfl):PE X (.Call (.Name x p) (e::es) [] pos) (mQ r t):=by intro a s b H Q I h;refine AC8 (Iy I c d hv ?_ f hdb);exact PyProof.Rows.callWith_builtin1 (BJ (ha pos a s b H _ I h) λus g ⟨vs,H1,i,j,k⟩=>hc a g b H1 vs us Q i j k) he hpl
def GV (hc:Bu X (.type T) r)(c:Gl X x)(d:X.mg x=none)(hv:bootBuiltins x=some (.type T))(ha:PA X (e::es) t)(f:x≠"__name__" :=by decide)(hdb:(x==("__debug__" :Str))=false:=by decide)(he:starEach (e::es) X.env=(false,eval e X.env)::starEach es X.env:=by rfl)(hpl:(backTo pos (starEach es X.env)).any (·.1)=false:=by rfl):PE X (.Call (.Name x p) (e::es) [] pos) (mQ r t):=by intro a s b H Q I h;refine AC8 (Iy I c d hv ?_ f hdb);exact ABy (BJ (ha pos a s b H _ I h) λus g ⟨vs,H1,i,j,k⟩=>hc a g b H1 vs us Q i j k) he hpl
end
end L2
namespace HT
open PySem PyProof.Rows
section
variable {prog:zp}{w:zm}{A:zk}{E:zx->zw->Prop}{s:zw}
def cat_tup {t b:zu}{vs a:zy zx}{Q:zx->zw->Prop}(o:IsTup s.heap t vs.toArray)(hb:IsTup s.heap b a.toArray)(hv:vs≠ [])(h1:a= [] ->Q (.ref t) s)(h2:a≠ [] ->Q (.ref s.heap.objs.size) {s with heap:=s.heap.push {cls:= .type "tuple",data:= .seq (vs++a).toArray}})(hsz:vs.length+a.length<=sizeLine):wpAny (model prog w) A (binaryOp .Add (.ref t) (.ref b)) Q E s:=by
 obtain⟨⟨cls,h,data,i⟩,f,hc,n,hd⟩:=id o;obtain⟨⟨j,c,data2,d⟩,g,k,l,m⟩:=id hb;simp only at hc hd k m;subst hc hd k m;have e:vs.toArray++a.toArray=(vs++a).toArray:=by simp
 by_cases hw:a= []
 .exact concat_meets ⟨_,f,rfl⟩ ⟨_,g,rfl⟩ ADA seq_tuple_add ADB ADC (ADD _ _)
   (tuple_addW1 t b vs.toArray a.toArray n l h c i d (by simpa using hv) (by simp[hw])) ⟨f,g,h1 hw⟩
 .refine concat_meets ⟨_,f,rfl⟩ ⟨_,g,rfl⟩ ADA seq_tuple_add ADB ADC (ADD _ _)
   (tuple_addW2 t b vs.toArray a.toArray n l h c i d (by simpa using hv) (by simpa using hw) (by rw[AAQ,AAQ];exact hsz)) ⟨f,g, ?_⟩
  rw[e];exact h2 hw
def sIx (n d:Nat):zt Int->Nat
 | none=>d
 | some v=>if v<0 then (v+(n:Int)).toNat else min v.toNat n
def sIx_none (n d:Nat):sIx n d none=d:=rfl
def sIx_nat (n d k:Nat):sIx n d (some (k:Int))=min k n:=by show (if (k:Int)<0 then ((k:Int)+(n:Int)).toNat else min (k:Int).toNat n)=min k n;rw[AAC (by omega),ABf]
def fo (n d:Nat)(hd:d<=n)(o:zt Int):sIx n d o<=n:=by
 cases o with
 | none=>exact hd
 | some v=>
   show (if v<0 then (v+(n:Int)).toNat else min v.toNat n)<=n;by_cases hv:v<0
   .rw [AAE hv];omega
   .rw [AAC hv];exact Nat.min_le_right _ _
def UP (v:Int)(n d:Nat):(if v<0 then max (v+(n:Int)) 0 else min v (n:Int))=((sIx n d (some v):Nat):Int):=by
 show (if v<0 then max (v+(n:Int)) 0 else min v (n:Int))=(((if v<0 then (v+(n:Int)).toNat else min v.toNat n):Nat):Int);by_cases hv:v<0
 .simp only[AAE hv];omega
 .simp only[AAC hv];omega
def R7 (lo hi:zt Int)(n:Nat):Builtin.Slice.sliceAdjust lo hi 1 (n:Int)=(((sIx n 0 lo:Nat):Int),((sIx n n hi:Nat):Int)):=by
 have h1:¬((1:Int)<0):=by omega
 unfold Builtin.Slice.sliceAdjust;simp only[h1,AAX];refine AB2 ?_ ?_
 .cases lo with
  | none=>rfl
  | some v=>exact UP v n 0
 .cases hi with
  | none=>rfl
  | some v=>exact UP v n n
def TM (i j:Nat):Builtin.Slice.slicePlaces (i:Int) (j:Int) 1=j-i:=by
 unfold Builtin.Slice.slicePlaces;have h1:(1:Int)>0:=by omega
 simp only[h1,AA3,Int.ediv_one];split <;> omega
def MM {v:zx}{o:zt Int}{Q:zt Int->zw->Prop}(p:IsPart v o)(h:Q o s):wpAny (model prog w) A (Builtin.Slice.slicePartIndex v) Q E s:=by
 cases p with
 | none=>exact slicePart_none h
 | int i t=>exact slicePart_int h
def sliceApplied_gen {e:zu}{a b:zx}{lo hi:zt Int}{n:Nat}{Q:Int×Int×Nat->zw->Prop}(hs:s.heap.IsSliceOf e a b .none)(f:IsPart a lo)(g:IsPart b hi)(h:Q (((sIx n 0 lo:Nat):Int),1,sIx n n hi-sIx n 0 lo) s):wpAny (model prog w) A (Builtin.Slice.sliceApplied (.ref e) (pure (n:Int))) Q E s:=by obtain⟨os,c,i,d⟩:=id hs;unfold Builtin.Slice.sliceApplied Builtin.Slice.sliceFields;refine AAA (AAA (AAl c d (x:=a) rfl (AAA (AAl c d (x:=b) rfl (AAA (AAl c d (x:= .none) rfl (AAD ?_)))))));refine AAA (slicePart_none ?_);show wpAny _ _ (if ((1:Int)==0)=true then _ else _) _ _ s;rw[AAC (by decide)];refine AAA (MM f (AAA (MM g (AAA (AAD ?_)))));show wpAny _ _ (match Builtin.Slice.sliceAdjust lo hi 1 (n:Int) with | (lo,hi)=>pure (lo,(1:Int),Builtin.Slice.slicePlaces lo hi 1)) _ _ s;rw[R7 lo hi n];show wpAny _ _ (pure (((sIx n 0 lo:Nat):Int),(1:Int),Builtin.Slice.slicePlaces ((sIx n 0 lo:Nat):Int) ((sIx n n hi:Nat):Int) 1)) _ _ s;rw[TM];exact AAD h
def YT (xs:Array zx)(i k:Nat):((List.range k).filterMap λ(m:Nat)=>xs[((i:Int)+(m:Int)*1).toNat]?).toArray=((xs.toList.drop i).take k).toArray:=by
 have e:(λ(m:Nat)=>xs[((i:Int)+(m:Int)*1).toNat]?)=λm=>xs[i+m]? :=by
  funext m
  have:((i:Int)+(m:Int)*1).toNat=i+m:=by omega
  rw[this]
 rw[e];have:=pick_run xs i k;rw[List.filterMap_map] at this;have a:((λx=>xs[x]?) ∘ λx=>i+x)=λm=>xs[i+m]? :=rfl;rw[a] at this;rw[this]
def getItem_tuple_cut {t c:zu}{items:Array zx}{d e:zx}{lo hi:zt Int}{Q:zx->zw->Prop}(a:IsTup s.heap t items)(hs:s.heap.IsSliceOf c d e .none)(f:IsPart d lo)(g:IsPart e hi)(hw:¬(sIx items.size 0 lo=0/\sIx items.size items.size hi=items.size))(h:Q (.ref s.heap.objs.size) {s with heap:=s.heap.push {cls:= .type "tuple",data:= .seq ((items.toList.drop (sIx items.size 0 lo)).take (sIx items.size items.size hi-sIx items.size 0 lo)).toArray}})(hsz:items.size<=sizeLine):wpAny (model prog w) A (getItem (.ref t) (.ref c)) Q E s:=by
 have b:sizeOk (.seq ((items.toList.drop (sIx items.size 0 lo)).take (sIx items.size items.size hi-sIx items.size 0 lo)).toArray):=by show ((items.toList.drop (sIx items.size 0 lo)).take (sIx items.size items.size hi-sIx items.size 0 lo)).toArray.size<=sizeLine;rw[AAQ,AC9,List.length_drop,ABT];omega
 have hj:sIx items.size items.size hi<=items.size:=fo _ _ (AAI _) hi;obtain⟨os,i,j,n⟩:=id hs;have k:s.TypeIs (.ref c) "slice" :=⟨os,i,j⟩;unfold getItem;try with_reducible refine AAj ?_
 first | refine AAA (AAD ?_)|skip
 refine AAA (wpAny_sequenceKey a.typeIs (by decide) ?_);refine AAA (ABK (name:=Str.ofString "__getitem__") a.typeIs ABg
  (AAv ABg a.typeIs entry_tuple_getitem ?_ (args_tuple_getitem _ _)))
 show wpAny _ _ (Builtin.Tuple.tupleItemsOf (.ref t) >>= _) _ _ s;refine AAA (tupleItemsOf_ a ?_);refine AAA (AB3 k ?_);rw[AAE (by decide)];refine AAA (sliceApplied_gen hs f g ?_);have l:¬((((sIx items.size 0 lo:Nat):Int)==0&&(1:Int)==1&&(sIx items.size items.size hi-sIx items.size 0 lo)==items.size)=true):=by intro q;rw[AAn,AAn] at q;have o:((sIx items.size 0 lo:Nat):Int)=0:=eq_of_beq q.1.1;have p:sIx items.size items.size hi-sIx items.size 0 lo=items.size:=eq_of_beq q.2;exact hw ⟨by omega,by omega⟩
 show wpAny _ _ (if (((sIx items.size 0 lo:Nat):Int)==0&&(1:Int)==1&&(sIx items.size items.size hi-sIx items.size 0 lo)==items.size)=true then _ else _) _ _ s;rw[AAC l,YT];first
  | exact AAA (m:=Builtin.Tuple.tupleExact _) (AAw (AAD ⟨_,rfl,AAD h⟩) b)
  | exact AAA (m:=Builtin.Tuple.tupleExact _) (AAw (AAA (AAD (AAD ⟨_,rfl,AAD h⟩))) b)
  | exact AAA (AAA (m:=Builtin.Tuple.tupleExact _) (AAw (AAD (AAD ⟨_,rfl,AAD h⟩)) b))
  | exact AAA (AAA (m:=Builtin.Tuple.tupleExact _) (AAw (AAD ⟨_,rfl,AAD h⟩) b))
end
end HT
namespace L2
open PySem PySem.Spec PyProof.Rows
abbrev TO:=St->Hp->(zt Int->Hp->Prop)->Prop
def PO (X:Cx)(e:zt zr)(t:TO):Prop:=
 ∀(b:zy (zu×Obj)) (s:zw) (a:St) (H:Hp) (Q:zt Int->Hp->Prop),Inv X b a H s->t a H Q->
  wpAny (model X.prog X.w) X.A (evalPart e X.env) (λu d=>∃o c,Inv X b a c d/\IsPart u o/\Q o c) X.xe s
def cJ:TO:=λ_ H Q=>Q none H
def jl (t:TE):TO:=λa H Q=>t a H λx H1=>∃i,x= .int i/\Q (some i) H1
section
variable {X:Cx}{e:zr}{te:TE}{lo hi:zt zr}{tl th:TO}{pos p2:Pos}
def bI:PO X none cJ:=by intro a s b H Q I h;rw[evalPart_none];exact AAD ⟨none,H,I, .none,h⟩
def bJ (h:PE X e te):PO X (some e) (jl te):=by intro a s b H Q I hw;rw[evalPart_some];refine BJ (h a s b H _ I hw) λu g ⟨x,H1,c,d,f⟩=> ?_;obtain⟨i,rfl,q⟩:=f;obtain⟨t,rfl⟩:=d;exact⟨some i,H1,c, .int i t,q⟩
def cT (X:Cx)(r:V->zt Int->zt Int->Hp->VK->Prop):Prop:=
 ∀(a:zy (zu×Obj)) (s:zw) (b:St) (H:Hp) (x:V) (v c d:zx) (lo hi:zt Int) (f:zu) (Q:VK),Inv X a b H s->RelV x v->s.heap.IsSliceOf f c d .none->IsPart c lo->IsPart d hi->r x lo hi H Q->
  ∃T id,typeLookup (.type T) "__getitem__" =pure (some (.builtin id))/\s.TypeIs v T/\wpAny (model X.prog X.w) X.A (getItem v (.ref f)) (EP X a b Q) X.xe s
def cT.or {r a:V->zt Int->zt Int->Hp->VK->Prop}(h:cT X r)(h':cT X a):cT X (λx lo hi H Q=>r x lo hi H Q\/a x lo hi H Q):=by
 intro b s c H x v d f lo hi g Q I i hs j k q;rcases q with q|q
 .exact h b s c H x v d f lo hi g Q I i hs j k q
 .exact h' b s c H x v d f lo hi g Q I i hs j k q
def tN (r:V->zt Int->zt Int->Hp->VK->Prop)(te:TE)(tl th:TO):TE:=λa H Q=>te a H λx H1=>tl a H1 λl b=>th a b λu c=>r x l u c Q
def YO {r:V->zt Int->zt Int->Hp->VK->Prop}(j:cT X r)(he:PE X e te)(hl:PO X lo tl)(hu:PO X hi th):PE X (.Subscript e (.Slice lo hi none p2) pos) (tN r te tl th):=by intro c s d H Q I h;refine Subscript_ (BJ (he c s d H _ I h) λv k ⟨x,H1,m,n,o⟩=> ?_);refine wpAny_Slice (BJ (hl c k d H1 _ m o) λf p ⟨l,t,y,z,B⟩=>BJ (hu c p d t _ y B) λg a ⟨u,i,C,D,E⟩=> ?_);rw[evalPart_none];refine AAD ?_;have F:Inv X c d i {a with heap:=a.heap.push {cls:= .type "slice",data:= .fields #[f,g, .none] }}:=C.kept (t':=a.toks) λb L q=>AAH _ q;obtain⟨T,id,G,J,K⟩:=j c {a with heap:=a.heap.push {cls:= .type "slice",data:= .fields #[f,g, .none] }} d i x v f g l u a.heap.objs.size Q F n (Heap.IsSliceOf.new ..) z D E;show wpAny (model X.prog X.w) X.A (subscriptTail e (.Slice lo hi none p2) v (.ref a.heap.objs.size)) (EP X c d Q) X.xe {a with heap:=a.heap.push {cls:= .type "slice",data:= .fields #[f,g, .none] }};exact tail_any (ops:= [.ref a.heap.objs.size,v]) J G K (by with_unfolding_all rfl)
def M0 (xs:zy V)(lo hi:zt Int):zy V:=(xs.drop (HT.sIx xs.length 0 lo)).take (HT.sIx xs.length xs.length hi-HT.sIx xs.length 0 lo)
def Jb (xs:zy V)(lo hi:zt Int):(M0 xs lo hi).length<=xs.length:=by unfold M0;rw[AC9,List.length_drop];omega
def mK (K:AAB):V->zt Int->zt Int->Hp->VK->Prop:=λx lo hi H Q=>∃a xs,x= .ref a/\JZ K H a xs/\
 ¬(HT.sIx xs.length 0 lo=0/\HT.sIx xs.length xs.length hi=xs.length)/\∀p,H p=none->Q (.ref p) (upd H p (.tup (M0 xs lo hi)))
def gE:cT X (mK X.K):=by
 intro k s l H x v m n lo hi p Q I g hs i j h;obtain⟨a,xs,rfl,hx,hw,q⟩:=h;cases g;obtain⟨c,r,f,hz⟩:=I.tuple hx;have d:c.toArray.size=xs.length:=by rw[AAQ];exact r.length.symm
 refine⟨"tuple",_,ABg.lookup,f.typeIs, ?_⟩;refine HT.getItem_tuple_cut f hs i j (by rw[d];exact hw) ?_ (by rw[d];exact hz);rw[d];refine⟨.ref s.heap.objs.size,_,I.laid (t':=s.toks) (o:= .tup (M0 xs lo hi)) (λb t q=>AAH _ q) (AAI _) ?_,rfl,q _ (I.hok.fresh (AAI _))⟩;exact⟨AAe (Jb xs lo hi) hz,_,(r.drop (HT.sIx xs.length 0 lo)).take (HT.sIx xs.length xs.length hi-HT.sIx xs.length 0 lo),IsTup.new _ _⟩
def cz (K:AAB):R2:=λx y H Q=>∃a b xs ys,x= .ref a/\y= .ref b/\JZ K H a xs/\JZ K H b ys/\xs≠ [] /\xs.length+ys.length<=sizeLine/\
 (ys= [] ->Q (.ref a) H)/\(ys≠ [] ->∀p,H p=none->Q (.ref p) (upd H p (.tup (xs++ys))))
def Aj.nil_iff {xs:zy V}{us:zy zx}(r:Aj xs us):us= [] ↔xs= [] :=by
 cases r with
 | nil=>simp
 | cons _ _=>simp
def ay:Dy X (binaryOp .Add) (cz X.K):=by intro n s p H x y v u Q I g i h;obtain⟨a,b,xs,ys,rfl,rfl,ha,hb,hx,hz,j,k⟩:=h;cases g;cases i;obtain⟨l,d,m,_⟩:=I.tuple ha;obtain⟨f,c,p2,_⟩:=I.tuple hb;refine HT.cat_tup m p2 (λz=>hx (d.nil_iff.mp z)) (λz=>⟨.ref a,H,I,rfl,j (c.nil_iff.mp z)⟩) (λz=> ?_) (by rw[<-d.length,<-c.length];exact hz);refine⟨.ref s.heap.objs.size,_,I.laid (t':=s.toks) (o:= .tup (xs++ys)) (λb r q=>AAH _ q) (AAI _) ?_,rfl,k (λw=>z (c.nil_iff.mpr w)) _ (I.hok.fresh (AAI _))⟩;exact⟨by rw[AAr];exact hz,_,d.append c,IsTup.new _ _⟩
end
def aX (n:Nat)(i:Int):zt Nat:=if 0<=i then (if i<n then some i.toNat else none) else if -(n:Int)<=i then some (i+n).toNat else none
def Ih {a:Type}(xs:zy a)(i:Int):zt a:=(aX xs.length i).bind λj=>xs[j]?
def Ul {n:Nat}{i:Int}{j:Nat}(h:aX n i=some j):seqIndex? i n=some j/\j<n/\ -(n:Int)<=i/\i<n:=by
 unfold aX at h;by_cases a:0<=i
 .rw [AAE a] at h;by_cases h1:i<n
  .rw [AAE h1] at h;have e:i.toNat=j:=AAV h;exact⟨by rw[seqIndex_of a h1,e],by omega,by omega,h1⟩
  .rw [AAC h1] at h;cases h
 .rw [AAC a] at h;by_cases h1: -(n:Int)<=i
  .rw [AAE h1] at h;have e:(i+n).toNat=j:=AAV h;exact⟨by rw[seqIndex_neg (by omega) h1,e],by omega,h1,by omega⟩
  .rw [AAC h1] at h;cases h
def UL {a:Type}{xs:zy a}{i:Int}{v:a}(h:Ih xs i=some v):∃j,seqIndex? i xs.length=some j/\xs[j]? =some v/\j<xs.length/\ -(xs.length:Int)<=i/\i<xs.length:=by
 unfold Ih at h;cases e:aX xs.length i with
 | none=>rw[e] at h;cases h
 | some j=> rw[e] at h;obtain⟨h1,h2,b,c⟩:=Ul e;exact⟨j,h1,h,h2,b,c⟩
def C3 {a:Type}{xs:zy a}{j:Nat}{v:a}(h:xs[j]? =some v):Ih xs (j:Int)=some v:=by
 have hj:j<xs.length:=(AAp.mp h).1;have e:aX xs.length (j:Int)=some j:=by unfold aX;rw[AAE (by omega),AAE (by omega)];simp
 unfold Ih;rw[e];exact h
def OD (b:zr):Prop:=∀o i,subscripted b false o i=operate [o,i] (getItem o i)
def Zt (X:Cx)(r:R2):Prop:=
 ∀(value slice:zr) (a:zy (zu×Obj)) (s:zw) (b:St) (H:Hp) (x y:V) (v u:zx) (Q:VK),Inv X a b H s->RelV x v->RelV y u->r x y H Q->
  subscripted slice false v u=operate [v,u] (getItem v u)->wpAny (model X.prog X.w) X.A (subscriptTail value slice v u) (EP X a b Q) X.xe s
def iB (X:Cx)(id:String)(r:V->zy V->Hp->VK->Prop):Prop:=
 ∀(a:zy (zu×Obj)) (s:zw) (b:St) (H:Hp) (x:V) (xs:zy V) (v:zx) (us:zy zx) (Q:VK),Inv X a b H s->RelV x v->Aj xs us->r x xs H Q->
  wpAny (model X.prog X.w) X.A (call (.builtin id) (v::us)) (EP X a b Q) X.xe s
section
variable {X:Cx}{a b:zr}{ta tb:TE}{pos:Pos}
def Zt.or {r c:R2}(h:Zt X r)(h':Zt X c):Zt X (λx y H Q=>r x y H Q\/c x y H Q):=by
 intro value slice d s e H x y v u Q I f g q hs;rcases q with q|q
 .exact h value slice d s e H x y v u Q I f g q hs
 .exact h' value slice d s e H x y v u Q I f g q hs
def iB.or {id:String}{r c:V->zy V->Hp->VK->Prop}(h:iB X id r)(h':iB X id c):iB X id (λx xs H Q=>r x xs H Q\/c x xs H Q):=by
 intro d s e H x xs v us Q I f g q;rcases q with q|q
 .exact h d s e H x xs v us Q I f g q
 .exact h' d s e H x xs v us Q I f g q
def Jh {r:R2}(c:Zt X r)(ha:PE X a ta)(hb:PE X b tb)(hs:OD b):PE X (.Subscript a b pos) (WV r ta tb):=by intro d s e H Q I h;exact Subscript_ (de ha hb I h λv u f x y g i j k q=>c a b d f e g x y v u Q i j k q (hs _ _))
def jK (K:AAB):R2:=λx y H Q=>∃p xs i v,x= .ref p/\y= .int i/\Ee K H p xs/\Ih xs i=some v/\Q v H
def jM (K:AAB):R2:=λx y H Q=>∃p xs i v,x= .ref p/\y= .int i/\JZ K H p xs/\Ih xs i=some v/\Q v H
def EO:Zt X (jK X.K):=by
 intro value slice g s k H x y v u Q I m n h hs;obtain⟨p,xs,i,z,rfl,rfl,hq,he,q⟩:=h;cases m;obtain⟨t,rfl⟩:=n;obtain⟨d,r,e,hz⟩:=I.list hq;obtain⟨j,h1,h2,C,o,A⟩:=UL he;obtain⟨w,ew,f⟩:=r.get h2;have hl:=r.length;have D:=Lw;have c:EP X g k Q w s:=⟨z,H,I,f,q⟩;by_cases l:0<=i
 .have hj:i.toNat=j:=by rw[seqIndex_of l A] at h1;exact AAV h1
  exact item_listR e.isList l (by omega) (by rw[hj];simpa using ew) c hs
 .have hj:(i+(d.toArray.size:Int)).toNat=j:=by rw[seqIndex_neg (by omega) o] at h1;rw[AAQ,<-hl];exact AAV h1
  exact subscriptTail_builtinR (x:=w) e.isList.typeIs slot_list_getitem.lookup
   (wpAny_getItem_list_neg (Q:=λr B=>r=w/\EP X g k Q r B) e.isList (by omega) (by rw[AAQ] <;> omega) (by omega) (by rw[hj];simpa using ew) ⟨rfl,c⟩) hs
def eO:Zt X (jM X.K):=by
 intro value slice e s f H x y v u Q I k l h hs;obtain⟨p,xs,i,z,rfl,rfl,hq,he,q⟩:=h;cases k;obtain⟨t,rfl⟩:=l;obtain⟨m,r,g,hz⟩:=I.tuple hq;obtain⟨j,h1,h2,o,A,B⟩:=UL he;obtain⟨w,ew,c⟩:=r.get h2;have hl:=r.length;have C:=Lw;have d:EP X e f Q w s:=⟨z,H,I,c,q⟩;exact subscriptTail_builtinR (x:=w) g.typeIs slot_tuple_getitem.lookup
  (getItem_tuple (j:=j) (Q:=λr n=>r=w/\EP X e f Q r n) g (by omega) (by omega) (by rw[AAQ,<-hl];exact h1) (by simpa using ew) ⟨rfl,d⟩) hs
def S5 (c:zy zx)(n j:Nat)(u:zx):Obj.mapSeq (·.setIfInBounds j u) {cls:= .type "list",data:= .seq c.toArray n}={cls:= .type "list",data:= .seq (c.set j u).toArray n}:=by simp[Obj.mapSeq]
def Inv.lst {d:zy (zu×Obj)}{f:St}{H:Hp}{s:zw}{p:zu}{xs:zy V}(I:Inv X d f H s)(h:H p=some (.lst xs)):∃(c:zy zx) (n:Nat),Aj xs c/\s.heap.get? p=some {cls:= .type "list",data:= .seq c.toArray n}/\xs.length<=sizeLine:=by obtain⟨z,c,n,r,e⟩:=I.hok p _ h;exact⟨c,n,r,e,z⟩
def Inv.lstUpd {g:zy (zu×Obj)}{i:St}{H:Hp}{s:zw}{p:zu}{xs ys:zy V}{c its':zy zx}{n d:Nat}{f:Obj->Obj}(I:Inv X g i H s)(h:H p=some (.lst xs))(k:s.heap.get? p=some {cls:= .type "list",data:= .seq c.toArray n})(j:f {cls:= .type "list",data:= .seq c.toArray n}={cls:= .type "list",data:= .seq its'.toArray d})(r:Aj ys its')(hz:ys.length<=sizeLine)(t:Nat):Inv X g i (upd H p (.lst ys)) {s with heap:=s.heap.update p f,toks:=t}:=by
 have e:(s.heap.update p f).get? p=some {cls:= .type "list",data:= .seq its'.toArray d}:=by rw[ABh f k (by rw[j] <;> rfl),j]
 refine I.write (x:=p) (e:=p) (by rw[h];trivial) (.inl rfl) (λb u hb q=>(AB4 _ _ (AAb hb)).trans q) ⟨_,e⟩ ?_;exact⟨hz,its',d,r,e⟩
def jP:V->V->V->Hp->(Hp->Prop)->Prop:=λo i v H Q=>∃p xs k j,o= .ref p/\i= .int k/\H p=some (.lst xs)/\aX xs.length k=some j/\Q (upd H p (.lst (xs.set j v)))
def RQ:iD X jP:=by
 intro m s w H o i v z A u Q I x y rv h;obtain⟨p,xs,k,j,rfl,rfl,hp,hj,q⟩:=h;cases x;obtain⟨t,rfl⟩:=y;obtain⟨c,n,r,d,hz⟩:=I.lst hp;obtain⟨h1,h2,e,f⟩:=Ul hj;have hl:=r.length;have B:=Lw;have g:Inv X m w (upd H p (.lst (xs.set j v))) {s with heap:=s.heap.update p (Obj.mapSeq (·.setIfInBounds j u))}:=
  I.lstUpd hp d (S5 c n j u) (r.set rv j) (by rw[List.length_set];exact hz) s.toks
 by_cases l:0<=k
 .have hk:k.toNat=j:=by rw[seqIndex_of l f] at h1;exact AAV h1
  exact PySem.W.ki_setAt d l (by omega) (by rw[AAQ,<-hl];exact f) (by rw[hk];exact⟨_,g,q⟩)
 .have hk:(k+(c.toArray.size:Int)).toNat=j:=by rw[seqIndex_neg (by omega) e] at h1;rw[AAQ,<-hl];exact AAV h1
  exact PySem.W.ki_setBack d (by omega) (by rw[AAQ,<-hl];exact e) (by omega) (by rw[hk];exact⟨_,g,q⟩)
def Pd (lo hi:zt Int)(n:Nat):(sliceBounds lo hi none n).1=((HT.sIx n 0 lo:Nat):Int)/\(sliceBounds lo hi none n).2.1=((HT.sIx n n hi:Nat):Int)/\(sliceBounds lo hi none n).2.2=1:=by
 refine⟨?_, ?_,rfl⟩
 .cases lo with
  | none=>simp[sliceBounds,HT.sIx]
  | some i=>
    simp only[sliceBounds,HT.sIx,Option.getD_none,show (1:Int)>0 by decide,AA3];by_cases h:i<0
    .simp only[h,AA3] <;> omega
    .simp only[h,AAX] <;> omega
 .cases hi with
  | none=>simp[sliceBounds,HT.sIx]
  | some i=>
    simp only[sliceBounds,HT.sIx,Option.getD_none,show (1:Int)>0 by decide,AA3];by_cases h:i<0
    .simp only[h,AA3] <;> omega
    .simp only[h,AAX] <;> omega
def NK (c:zy zx)(lo hi:zt Int):slicePick c.toArray lo hi none=((c.drop (HT.sIx c.length 0 lo)).take (HT.sIx c.length c.length hi-HT.sIx c.length 0 lo)).toArray:=by obtain⟨h1,h2,d⟩:=Pd lo hi c.toArray.size;unfold slicePick;rw[h1,h2,d];simp only[sliceRange_one,pick_run,AAQ] <;> rfl
def mJ (K:AAB):V->zt Int->zt Int->Hp->VK->Prop:=λx lo hi H Q=>∃a xs,x= .ref a/\Ee K H a xs/\∀p,H p=none->Q (.ref p) (upd H p (.lst (M0 xs lo hi)))
def b9:cT X (mJ X.K):=by intro j s k H x v l m lo hi n Q I d hs e f h;obtain⟨a,xs,rfl,hx,q⟩:=h;cases d;obtain⟨g,r,c,hz⟩:=I.list hx;have i:=r.length;refine⟨"list",_,slot_list_getitem.lookup,c.isList.typeIs, ?_⟩;refine wpAny_getItem_list_slice c.isList hs e f .none (by simp) ?_ (by rw[AAQ] <;> omega);rw[NK,<-i];refine⟨.ref s.heap.objs.size,_,I.laid (t':=s.toks) (o:= .lst (M0 xs lo hi)) (λb p q=>AAH _ q) (AAI _) ?_,rfl,q _ (I.hok.fresh (AAI _))⟩;exact⟨AAe (Jb xs lo hi) hz,_,0,(r.drop (HT.sIx xs.length 0 lo)).take (HT.sIx xs.length xs.length hi-HT.sIx xs.length 0 lo),AAP _ rfl⟩
def IG:Bu X (.builtin "len") (λxs H Q=>∃p ys,xs= [.ref p] /\(Ee X.K H p ys\/JZ X.K H p ys)/\Q (.int ys.length) H):=by
 intro i s j H xs us Q I r h;obtain⟨p,ys,rfl,hq,q⟩:=h;obtain⟨u,rfl,g⟩:=vals1 r;cases g;have k:=Lw;rcases hq with hq|hq
 .obtain ⟨c,d,e,hz⟩:=I.list hq;have f:=d.length;exact Calls.call_len_list e.isList (by simp only[AAQ] <;> omega) ⟨.int ys.length,H,I.tok _,⟨s.toks+1,by rw[AAQ,f]⟩,q⟩
 .obtain ⟨c,d,e,hz⟩:=I.tuple hq;have f:=d.length;exact len_tuple e (by simp only[AAQ] <;> omega) ⟨.int ys.length,H,I.tok _,⟨s.toks+1,by rw[AAQ,f]⟩,q⟩
def Bu.or {f:zx}{r c:zy V->Hp->VK->Prop}(h:Bu X f r)(h':Bu X f c):Bu X f (λxs H Q=>r xs H Q\/c xs H Q):=by
 intro d s e H xs us Q I g q;rcases q with q|q
 .exact h d s e H xs us Q I g q
 .exact h' d s e H xs us Q I g q
def OH:Bu X (.type "list") (λxs H Q=>∃p ys,xs= [.ref p] /\(Ee X.K H p ys\/JZ X.K H p ys)/\∀l,H l=none->Q (.ref l) (upd H l (.lst ys))):=by
 intro t s v H xs us Q I r h;obtain⟨p,ys,rfl,hq,q⟩:=h;obtain⟨u,rfl,x⟩:=vals1 r;cases x;have g:∀(c:zy zx),Aj ys c->ys.length<=sizeLine->∀(h':zl) (d:Nat),(∀b m,s.heap.get? b=some m->h'.get? b=some m)->
  h'.get? s.heap.objs.size=some {cls:= .type "list",dict:=none,data:= .seq c.toArray d,slots:= #[] }->EP X t v Q (.ref s.heap.objs.size) {s with heap:=h'}:=λc f hz h' d i e=>
  ⟨.ref s.heap.objs.size,_,I.laid (t':=s.toks) i (AAI _) (show Bn X.prog X.w _ h' _ (.lst ys) from⟨hz,c,d,f,e⟩),rfl,q _ (I.hok.fresh (AAI _))⟩
 rcases hq with hq|hq
 .obtain ⟨c,f,j,hz⟩:=I.list hq;have y:=f.length;obtain⟨o,k,hc,n,hd⟩:=j.isList;exact call_list_seq p (.inl rfl) k hc hd (λh' d i e=>g c f hz h' d i e) (by simp only[AAQ] <;> omega)
 .obtain ⟨c,f,j,hz⟩:=I.tuple hq;have y:=f.length;obtain⟨o,k,hc,n,hd⟩:=j;exact call_list_seq p (.inr rfl) k hc hd (λh' d i e=>g c f hz h' d i e) (by simp only[AAQ] <;> omega)
def Mz:Bu X (.type "tuple") (λxs H Q=>∃p ys,xs= [.ref p] /\((Ee X.K H p ys/\∀l,H l=none->Q (.ref l) (upd H l (.tup ys)))\/(JZ X.K H p ys/\Q (.ref p) H))):=by
 intro g s i H xs us Q I r h;obtain⟨p,ys,rfl,h⟩:=h;obtain⟨u,rfl,k⟩:=vals1 r;cases k;rcases h with⟨hq,q⟩|⟨hq,q⟩
 .obtain ⟨c,d,f,hz⟩:=I.list hq;have t:=d.length;refine call_tuple_list f.isList (λh' m=> ?_) (by simp only[AAQ] <;> omega);have j:Inv X g i H {s with heap:=h'}:=I.kept (t':=s.toks) m;have n:Inv X g i (upd H h'.objs.size (.tup ys)) {s with heap:=h'.push {cls:= .type "tuple",data:= .seq c.toArray}}:=
   j.laid (t':=s.toks) (λb o e=>AAH _ e) (AAI _) (show Bn X.prog X.w _ _ _ (.tup ys) from⟨hz,c,d,IsTup.new _ _⟩)
  exact⟨.ref h'.objs.size,_,n,rfl,q _ (j.hok.fresh (AAI _))⟩
 .obtain ⟨c,d,f,hz⟩:=I.tuple hq;exact call_tuple_same f ⟨.ref p,H,I,rfl,q⟩
def o8 (K:AAB)(T:String)(x:V)(H:Hp):Prop:=match x with
 | .str _=>T="str"
 | .int _=>T="int"
 | .ref p=>(T="list" /\∃xs,Ee K H p xs)\/(T="tuple" /\∃o,K.lookup p=some o/\o.cls= .type "tuple" /\o.dict=none)\/
     (T="dict" /\((∃kvs,H p=some (.dK kvs))\/∃kvs,H p=some (.dT kvs)))\/(T="set" /\∃S n,H p=some (.set S n))
 | _=>False
def gP {j:zy (zu×Obj)}{k:St}{H:Hp}{s:zw}{T:String}{x:V}{v:zx}(I:Inv X j k H s)(r:RelV x v)(d:o8 X.K T x H):s.TypeIs v T/\∀a,v= .ref a->∃g,s.heap.get? a=some g/\g.dict=none:=by
 cases x with
 | str z=> obtain⟨t,rfl⟩:=r;cases (show T="str" from d);exact⟨typeIs_str s z t,λ_ e=>nomatch e⟩
 | int i=> obtain⟨t,rfl⟩:=r;cases (show T="int" from d);exact⟨typeIs_int s i t,λ_ e=>nomatch e⟩
 | ref p=>
   cases r;rcases d with⟨rfl,xs,hq⟩|⟨rfl,o,hk,hc,hd⟩|⟨rfl,hk⟩|⟨rfl,S,n,hk⟩
   .obtain ⟨l,_,h,_⟩:=I.list hq;refine⟨h.isList.typeIs,λa e=> ?_⟩;cases e;obtain⟨o,n,e,c,hd,_⟩:=h;exact⟨o,e,hd⟩
   .refine ⟨⟨o,I.kIn p o hk,hc⟩,λa e=> ?_⟩;cases e;exact⟨o,I.kIn _ o hk,hd⟩
   .have z:∃o,s.heap.get? p=some o/\o.ExactDict:=by
     rcases hk with⟨kvs,hk⟩|⟨kvs,hk⟩
     .obtain ⟨_,_,_,_,o,_,_,e,ex,_⟩:=I.hok p _ hk;exact⟨o,e,ex⟩
     .obtain ⟨_,_,_,_,o,_,_,e,ex,_⟩:=I.hok p _ hk;exact⟨o,e,ex⟩
    obtain⟨o,e,ex⟩:=z;refine⟨⟨o,e,ex.1⟩,λa f=> ?_⟩;cases f;exact⟨o,e,ex.2.1⟩
   .obtain ⟨o,_,_,_,e,ex,_⟩:=I.hok p _ hk;refine⟨⟨o,e,ex.1⟩,λa f=> ?_⟩;cases f;exact⟨o,e,ex.2.1⟩
 | _=>exact False.elim d
def o7 (K:AAB)(T:String)(r:V->zy V->Hp->VK->Prop)(d:TE)(t:TA):TE:=λc H Q=>d c H λx H1=>o8 K T x H1/\t c H1 λxs e=>r x xs e Q
variable {o e:zr}{es:zy zr}{to:TE}{t:TA}{name:Str}{apos cpos:Pos}{T id:String}{r:V->zy V->Hp->VK->Prop}
def jE (j:PlainAttrs T)(slot:Slot T name id)(k:typeOf (.builtin id)=pure (.type "method_descriptor"))(l:iB X id r)(m:PE X o to)(ha:PA X (e::es) t)(n:attributeBase o name X.env (eval o X.env)=eval o X.env:=by rfl)(p:((backTo cpos (starEach (e::es) X.env)).all (λx=> !x.1)&&(backToKw cpos (keywordEach [] X.env)).all (λx=>x.1.isSome) && decide ((e::es).length+([] :zy Keyword).length+(if ([] :zy Keyword).isEmpty then 0 else 1)<30))=true:=by rfl)(u:(apos.endLine==cpos.line)=true:=by rfl)(hs:starEach (e::es) X.env=(false,eval e X.env)::starEach es X.env:=by rfl)(w:(backTo cpos (starEach es X.env)).any (·.1)=false:=by rfl):PE X (.Call (.Attribute o name apos) (e::es) [] cpos) (o7 X.K T r to t):=by intro c s d H Q I h;refine wpAny_Call_method_late n p u rfl (BJ (m c s d H _ I h) λv y ⟨x,H1,f,g,z,A⟩=> ?_);obtain⟨h1,h2⟩:=gP f g z;refine⟨T,id,j,slot,k,h1,h2, ?_⟩;have i:=ha cpos c y d H1 _ f A;rw[hs] at i ⊢;refine ACU (by show (false||(backTo cpos (starEach es X.env)).any (·.1))=false;rw[w] <;> rfl) (ADE ?_);exact BJ i λus B ⟨vs,C,D,E,F⟩=>l c B d C x vs v us Q D g E F
end
def iA (X:Cx)(id:String)(r:V->zy V->Hp->VK->Prop):Prop:=
 ∀(a:zy (zu×Obj)) (s:zw) (b:St) (H:Hp) (x:V) (xs:zy V) (v:zx) (us:zy zx) (Q:VK),Inv X a b H s->RelV x v->Aj xs us->r x xs H Q->
  wpAny (model X.prog X.w) X.A (call (.builtin id) (v::us)) (EP X a b Q) X.xe s
def Aj.one:∀{x:V} {us:zy zx},Aj [x] us->∃u,us= [u] /\RelV x u
 | _,_, .cons r .nil=>⟨_,rfl,r⟩
def Aj.two:∀{x y:V} {us:zy zx},Aj [x,y] us->∃u v,us= [u,v] /\RelV x u/\RelV y v
 | _,_,_, .cons r (.cons q .nil)=>⟨_,_,rfl,r,q⟩
def Aj.zero:∀{us:zy zx},Aj [] us->us= []
 | _, .nil=>rfl
def Aj.dropLast {xs:zy V}{us:zy zx}(h:Aj xs us):Aj xs.dropLast us.dropLast:=by
 induction h with
 | nil=>exact .nil
 | cons r t ih=>
   cases t with
   | nil=>exact .nil
   | cons q t'=>exact .cons r ih
def Aj.reverse {xs:zy V}{us:zy zx}(h:Aj xs us):Aj xs.reverse us.reverse:=by
 induction h with
 | nil=>exact .nil
 | cons r t ih=>rw[ACV,ACV];exact Aj.append ih (.cons r .nil)
section
variable {X:Cx}{zj:zy (zu×Obj)}{σ:St}{H:Hp}{s:zw}{l b:zu}{xs ys zs:zy V}
def Inv.lset {a its':zy zx}{n:Nat}{f:Array zx->Array zx}{t':Nat}(I:Inv X zj σ H s)(c:H l=some (.lst xs))(e:s.heap.get? l=some {cls:= .type "list",data:= .seq a.toArray n})(d:f a.toArray=its'.toArray)(hv:Aj ys its')(hz:ys.length<=sizeLine):Inv X zj σ (upd H l (.lst ys)) {s with heap:=s.heap.update l (Obj.mapSeq f),toks:=t'}:=by have q:=PySem.IsL.update e f;rw[d] at q;refine I.write (x:=l) (e:=l) (by rw[c];exact trivial) (.inl rfl) (λg u hb hu=>(AB4 s.heap (Obj.mapSeq f) (AAb hb)).trans hu) ⟨_,q⟩ ?_;exact⟨hz,its',_,hv,q⟩
def Inv.lnew {a:zy zx}{t':Nat}(I:Inv X zj σ H s)(hv:Aj ys a)(hz:ys.length<=sizeLine):Inv X zj σ (upd H s.heap.objs.size (.lst ys)) {s with heap:=s.heap.push {cls:= .type "list",data:= .seq a.toArray},toks:=t'}:=
 I.laid (λ_ _ q=>AAH _ q) (AAI _) ⟨hz,a,0,hv,AAP _ rfl⟩
def Inv.fresh (I:Inv X zj σ H s):H s.heap.objs.size=none:=I.hok.fresh (AAI _)
def Inv.lstM (I:Inv X zj σ H s)(c:H l=some (.lst xs)):xs.length<=sizeLine/\∃(a:zy zx) (n:Nat),Aj xs a/\xs.length=a.length/\s.heap.get? l=some {cls:= .type "list",data:= .seq a.toArray n}:=by obtain⟨z,a,n,r,e⟩:=I.hok l _ c;exact⟨z,a,n,r,r.length,e⟩
end
section
variable {X:Cx}
def Ox:V->zy V->Hp->VK->Prop:=λx vs H Q=>∃l xs y,x= .ref l/\vs= [y] /\H l=some (.lst xs)/\xs.length<sizeLine/\Q .non (upd H l (.lst (xs ++ [y])))
def Np:iA X "list.append" Ox:=by intro f s g H x vs v us Q I c rv h;obtain⟨l,xs,y,rfl,rfl,b,hz,q⟩:=h;cases c;obtain⟨u,rfl,d⟩:=rv.one;obtain⟨z,a,n,r,hl,e⟩:=I.lstM b;refine call_meets F.slot_list_append ⟨_,e,rfl⟩ F.entry_list_append (F.args_list_append_2 _ _) (PySem.list_append l a.toArray n u (by rw[AAQ];omega)) ⟨e, ?_⟩;refine⟨.non,_,I.lset (its':=a ++ [u]) b e (by simp) (r.append (.cons d .nil)) ?_,rfl,q⟩;rw[AAr,List.length_singleton];omega
def jI:R2:=λx y H Q=>∃l b xs a,x= .ref l/\y= .ref b/\H l=some (.lst xs)/\H b=some (.lst a)/\xs.length+a.length<=sizeLine/\∀p,H p=none->Q (.ref p) (upd H p (.lst (xs++a)))
def fH:Dy X (binaryOp .Add) jI:=by
 intro o s p H x y v u Q I d f h;obtain⟨l,b,xs,t,rfl,rfl,g,i,hz,q⟩:=h;cases d;cases f;obtain⟨z,c,n,r,hl,e⟩:=I.lstM g;obtain⟨w,a,A,j,B,k⟩:=I.lstM i;refine PySem.P.add_list e k ?_ (by rw[AAQ,AAQ];omega);have m:c.toArray++a.toArray=(c++a).toArray:=by simp
 rw[m];exact⟨.ref _,_,I.lnew (t':=s.toks) (r.append j) (by rw[AAr];omega),rfl,q _ I.fresh⟩
end
section
variable {prog:zp}{w:zm}{A:zk}{E:zx->zw->Prop}{s:zw}
set_option maxRecDepth 100000 in
end
end L2
namespace Att
open PySem PySem.W PySem.Calls PyProof.Rows
def J9 {P:Params}{h:zl}:∀(c:zy Int) (vs:zy zx),WellAll P h vs (c.map WData.int)->IntsAre vs c:=by
 intro c;induction c with
 | nil=> intro vs w;rw[ABi] at w;cases w;exact .nil
 | cons n c ih=>
   intro vs w;rw[AAL] at w;cases w with
   | cons a b=> cases a;exact .cons _ _ (ih _ b)
def WR {l:OpenLaw}{n:Nat}(g:l.most=some n){P:Params}{h:zl}{args:zy WData}{vals:zy zx}(f:l.row.toRowW.claim.pre args=true)(i:WellAll P h vals args):∃a vs b,vals= [Value.ref a] /\args= [WData.list (b.map WData.int)] /\h.get? a=some {cls:= .type "list",data:= .seq vs.toArray}/\IntsAre vs b/\b.length<=n:=by
 have j:WShape.hasAll [] args [.list .int] =true:=(pre_splitW f).1;have hc:l.pre.holds [] {args:=args}=true:=(pre_splitW f).2;obtain⟨d,r,rfl,h1,h2⟩:=hasAllW_cons j;obtain rfl:=hasAllW_nil h2;obtain⟨xs,rfl,k⟩:=hasW_list h1;obtain⟨b,rfl⟩:=items_int k;have m:b.length<=n:=by
  unfold OpenLaw.pre at hc;have c:(WTm.not (.lt (.lit (.int (n:Int))) (.len (.arg 0)))).holds [] {args:= [.list (b.map .int)] }=true:=by have c:=(holds_andW hc).1;rw[g] at c;exact c
  have e:=condW_of c (w_not (w_lt w_lit (w_len_list (w_arg rfl))));rw[AAJ] at e;refine Nat.le_of_not_lt λq=> ?_;have o:(n:Int)<((b.length:Nat):Int):=by omega
  first
   | (rw[AAi o] at e;exact absurd e (by decide))
   | (simp at e;omega)
 cases i with
 | cons p s=>
   cases s;cases p with
   | list t u=>exact⟨_,_,b,rfl,rfl,t,J9 b _ u,m⟩
def WL (l:OpenLaw)(args:zy WData):l.row.toRowW.claim.post args (.bool true) args=true:=
 postW_of (r:=l.row.toRowW) (X:=(true==true))
  (show WShape.has [] (.bool true) .bool=true by first | rfl|decide|simp[WShape.has,WShape.arms,WShape.armsAll])
  (show (WTm.eq .res (.lit (.bool true))).value [] {args:=args,res:=some (.bool true),after:=args}=some (.bool (true==true)) from w_eq_bool (w_res rfl) w_lit) rfl
def attach_call {l:OpenLaw}{n:Nat}{q:zp}{loose:zy Str}{XP:(Str->zt zx)->zl->Prop}{YP:zm->zl->Prop}{d:DefRec}(p:l.most=some n)(s:d.params.defaults= [])(call:∀(w:zm) (s₀ b:zw) (mg j:Str->zt zx) (e:zu) (o:Obj) (k g c:zx) (a:zu) (vs:zy zx) (h:zy Int),Ground q loose [] XP w s₀ mg j b.heap->YP w b.heap-> b.heap.get? e=some o->o.data= .func (docDef d.name d.params d.body d.scope k g c)->b.heap.CodeRec g d.name->mg d.name=some (.ref e)-> b.heap.get? a=some {cls:= .type "list",data:= .seq vs.toArray}->IntsAre vs h->h.length<=n->b.gens= #[] -> codeAny (model l.prog w) callerA (.call (.ref e) ⟨[.ref a], []⟩) (λr i=>r= .ok (.ret (.bool true))/\OldK b.heap i.heap/\i.os=b.os/\AllBare i.gens) b):WalkO q loose XP YP l.row.toRowW d [] (λf vs=>PySem.call f vs):=by intro w s₀ b mg j G Y e o k g c t kV u hd v m x y args vals as z I J A K;obtain rfl:t= .none:=Dflts.none m s;obtain rfl:kV= .none:=Dflts.noKw m;obtain⟨a,vs,h,rfl,rfl,B,C,D⟩:=WR p z A;refine enter_call (codeAny_mono (call w s₀ b mg j e o k g c a vs h G Y u (fd_plain hd) v x B C D y) λr i hq=> ?_);obtain⟨rfl,h2,E,F⟩:=hq;exact⟨.inl ⟨.bool true, .bool true, [],rfl,λ_=>rfl, .bool true,WL l _,λ_=>⟨List.Pairwise.nil,λ_ H=>(nomatch H)⟩⟩,h2,E,F⟩
section
variable {prog:zp}{w:zm}{A:zk}{E:zx->zw->Prop}{s:zw}{K:Frag}
def mD (h:zl)(L d:zu):zy (zu×Obj):=(List.range h.objs.size).filterMap λa=>if a=L\/a=d then none else (h.get? a).map λo=>(a,o)
end
end Att
namespace L2
open PySem PySem.Spec PyProof.Rows
theorem N1:∀{vs:zy zx} {a:zy Int},IntsAre vs a->Aj (a.map V.int) vs
 | _,_, .nil=> .nil
 | _,_, .cons n t h=> .cons ⟨t,rfl⟩ (N1 h)
def dQ (H:Hp):Prop:=∀b,H b=none\/∃o xs,H b=some (.frz o (.lst xs))
def Xx {P:zp}{w:zm}{K:AAB}{mg t:Str->zt zx}{CX:VN}{k:Nat}{y a:zu}{C:FuncData}{x:Str}{sp:Sp}{c:zw}{vs:zy zx}{j:zy Int}(D:K.In c.heap)(E:c.heap.Ns mainGlobals mg)(hb:c.heap.Ns builtinsNs t)(M:∀x:Str,x≠"__name__" ->t x=bootBuiltins x)(N:c.heap.NoLimit)(O:c.gens= #[])(ha:c.heap.get? a=some {cls:= .type "list",data:= .seq vs.toArray})(hi:IntsAre vs j)(hl:j.length<=sizeLine)(Q:Room k callerA)(F:∀base:zl,K.In base->base.Ns mainGlobals mg->D8 P w K mg base CX k y C [x] sp)(R:∀(s:zw) (u:zx),BindsTo s C ⟨[u], []⟩ [(x,u)])(S:∀H:Hp,dQ H->Ee K H a (j.map V.int)->sp [.ref a] H (λv _=>v= .bl true) λ_ _ _=>False)(T:∀H e g,CX [] H c (λ_ _ _=>False) e g->False):codeAny (model P w) callerA (.call (.ref y) ⟨[.ref a], []⟩) (λr g=>r= .ok (.ret (.bool true))/\OldK c.heap g.heap/\g.os=c.os/\AllBare g.gens) c:=by
 have rv:=N1 hi;have l:=hi.length;have core:∀H:Hp,dQ H->Ee K H a (j.map V.int)->G4 P w H c.heap->(∀b,H b≠none->b=a)->(H a≠none->K.lookup a=none)->
  codeAny (model P w) callerA (.call (.ref y) ⟨[.ref a], []⟩) (λr g=>r= .ok (.ret (.bool true))/\OldK c.heap g.heap/\g.os=c.os/\AllBare g.gens) c:=by
  intro H G U hok I W;have f:∀{b:zu} {o:Obj},c.heap.get? b=some o->H b=none->(OT c.heap H).get? b=some o:=λe n=>Xi e n;have A:∀{b:zu} {o:Obj} {es:Array DictEntry} {ep:Nat},c.heap.get? b=some o->o.data= .dict es ep->H b=none:=λ{b o es ep} e d=>by
   cases q:H b with
   | none=>rfl
   | some u=> have B:b=a:=I b (by rw[q];simp);subst B;rw[ha] at e;cases e;have d':Data.seq vs.toArray _=Data.dict es ep:=d;cases d'
  have i:∀{b:zu} {m:Str->zt zx},c.heap.Ns b m->(OT c.heap H).Ns b m:=λ{b m} ⟨o,es,ep,e,d,r⟩=>⟨o,es,ep,f e (A e d),d,r⟩;have J:K.In (OT c.heap H):=λb o e=>f (D b o e) (by
   cases q:H b with
   | none=>rfl
   | some u=>
     have B:b=a:=I b (by rw[q];simp);subst B;rw[W (by rw[q];simp)] at e;cases e)
  have X:Mod K mg (OT c.heap H):=⟨J,i E,⟨t,i hb,M⟩,let ⟨Y,h1,h2⟩:=N;⟨Y,i h1,h2⟩⟩;have Z:Mt P w K mg (OT c.heap H) callerA [] c H:=⟨rfl,X,λb o e=>am e,Nat.le_of_eq (Vv _ _),trivial,λb hb=>absurd (show b∈([] :zy zu) from hb) (by simp),hok, .of_eq O⟩;refine codeAny_mono ((F _ J (i E)).run callerA [] c H ⟨[.ref a], []⟩ [.ref a] [.ref a] _ _ Q Z (R c (.ref a)) (.cons rfl .nil) (S H G U)) λr g h=> ?_;cases r with
  | error e=>exact(T H e g h).elim
  | ok fl=>
    cases fl with
    | next=>exact False.elim h
    | brk=>exact False.elim h
    | cont=>exact False.elim h
    | ret u=>
      obtain⟨v,H',os,bare,un,lZ,r',q⟩:=h;have q':v= .bl true:=q;subst q';obtain rfl:u=Value.bool true:=r';refine⟨rfl,OldK.of_keep λb o e=> ?_,os,bare⟩;cases q:H b with
      | none=>exact un.keep b o e q (by intro z;exact absurd (show b∈([] :zy zu) from z) (by simp)) (by simp)
      | some u=>
        rcases G b with z|⟨ob,xs,z⟩
        .rw [q] at z;cases z
        .have z2:=un.frzs b ob _ z;obtain⟨L,_⟩:=hok b _ z;obtain⟨e2,_⟩:=lZ b _ z2;rw[e] at L;cases L;exact e2
 cases hk:K.lookup a with
 | some o=> have e:=D a o hk;rw[ha] at e;cases e;refine core (λ_=>none) (λ_=> .inl rfl) (.inr ⟨_,vs.toArray,_,hk,rfl,rfl,rfl,by rw[AAQ,l];exact hl,by simpa using rv⟩) (λb u z=>by have p:(none:zt HO)=some u:=z;cases p) (λb z=>absurd rfl z) λz=>absurd rfl z
 | none=>
   refine core (λb=>if b=a then some (.frz {cls:= .type "list",data:= .seq vs.toArray} (.lst (j.map V.int))) else none) (λb=> ?_) (.inl (.inr ⟨{cls:= .type "list",data:= .seq vs.toArray},AAE rfl⟩)) (λb u z=> ?_) (λb z=> ?_) λ_=>hk
   .by_cases hb:b=a
    .exact .inr ⟨_,_,AAE hb⟩
    .exact .inl (AAC hb)
   .by_cases hb:b=a
    .have p:=(AAE hb).symm.trans z;cases p;subst hb;exact⟨ha,by rw[AAJ];exact hl,vs,_,rv,ha⟩
    .have p:=(AAC hb).symm.trans z;cases p
   .by_cases hb:b=a
    .exact hb
    .exact absurd (AAC hb) z
abbrev uD {K:AAB}{h:zl}(_:K.In h):AAB:=K
def walk_of {l:PySem.W.OpenLaw}{n k:Nat}{q:zp}{loose:zy Str}{XP:(Str->zt zx)->zl->Prop}{YP:zm->zl->Prop}{d:DefRec}{K:Params->AAB}{CX:zm->VN}{sp:zm->Sp}{x:Str}(y:l.most=some n)(z:n<=sizeLine)(A:d.params.defaults= [])(B:Room k callerA)(C:∀(w:zm) (h:zl),YP w h->(K w.params).In h)(F:∀(w:zm) (mg:Str->zt zx) (i:zu) (h:zl),(K w.params).In h->h.Ns mainGlobals mg->mg d.name=some (.ref i)-> ∃m:FuncData,(∀(s:zw) (u:zx),BindsTo s m ⟨[u], []⟩ [(x,u)])/\ ∀base:zl,(K w.params).In base->base.Ns mainGlobals mg->D8 l.prog w (K w.params) mg base (CX w) k i m [x] (sp w))(D:∀(w:zm) (H:Hp) (a:zu) (j:zy Int),j.length<=n->dQ H->Ee (K w.params) H a (j.map V.int)->sp w [.ref a] H (λv _=>v= .bl true) λ_ _ _=>False)(E:∀(w:zm) (H:Hp) (s:zw) (e:zx) (p:zw),CX w [] H s (λ_ _ _=>False) e p->False):PySem.W.WalkO q loose XP YP l.row.toRowW d [] (λf vs=>PySem.call f vs):=by refine Att.attach_call y A λw s₀ c mg Q i o R S I a vs j G Y U hd X J L M r N=> ?_;have t:=C w _ Y;obtain⟨m,hb,hF⟩:=F w mg i _ t G.T.g J;exact Xx t G.T.g G.T.b G.T.builtins G.T.nolimit N L M (AAe r z) B hF hb (λH O P=>D w H a j r O P) λH e p=>E w H c e p
abbrev P5:VN:=λ_ _ _ _ _ _=>False
abbrev E0:XK:=λ_ _ _=>False
def jB {X:Cx}:Passes P5 X E0:=λ_ _ _ _ _ _ _ h=>h.elim
structure Ry (K:AAB) (x qual:Str) (st:Stmt) (f:Addr) (fd:FuncData):Prop where
 ex:∃(oc:Value) (od:Option Addr) (kV doc pm:Value) (an:Option Addr) (cdv ct:Value) (osl:Array (Option Value)),
  fd=PySem.W.fnOf x qual (E3 st) (DS st) (A6 st) .none kV doc pm an cdv ct/\K.lookup f=some ⟨oc,od, .func fd,osl⟩/\PySem.W.codeIn K cdv qual=true
 kp:PySem.W.keepIn K (.ref f)=true
section
variable {P:zp}{w:zm}{K:AAB}{mg:Str->zt zx}{base:zl}
def Ry.ok {x qual:Str}{st:Stmt}{f:zu}{c:FuncData}{N b:zy Str}{k:Nat}{sp:Sp}(F:Ry K x qual st f c)(S:Dn N b (A6 st))(len:∀vs H Q E,sp vs H Q E->vs.length=b.length)(d:∀(a:zx) (A:zk) (outer:zy Env) (s:zw) (H:Hp) (vs:zy V) (Q:VK) (E:XK),Room k (A.deeper (envOfC qual (A6 st) s.heap.objs.size f a))->sp vs H Q E-> ∃t,Rf (QO P5 P w K mg base N qual (A6 st) f a A outer s H E).nox (DS st) t/\t {nx:=λ_ e=>Q .non e,rt:=Q} (start N vs) H):D8 P w K mg base P5 (k+1) f c b sp:=by obtain⟨o,p,kV,g,r,u,a,ct,i,rfl,j,l⟩:=F.ex;refine iL j l S len λA outer s H vs Q E m n=> ?_;obtain⟨t,h,q⟩:=d a A outer s H vs Q E m n;exact⟨t,h.nox,q⟩
def Ry.binds {x qual:Str}{st:Stmt}{f:zu}{g:FuncData}{c:zy Str}(F:Ry K x qual st f g)(h:∀(kV a d:zx) (e:zt zu) (b ct:zx) (us:zy zx),us.length=c.length->bindArgs (PySem.W.fnOf x qual (E3 st) (DS st) (A6 st) .none kV a d e b ct) ⟨us, []⟩=pure (c.zip us)):Binds K g c [] :=by obtain⟨j,k,kV,a,d,e,b,ct,i,rfl,l,m⟩:=F.ex;exact .all (h kV a d e b ct)
def XX {x qual:Str}{st:Stmt}{f:zu}{h:zx}{i e:zt zu}{d:Array (zt zx)}{kV b g a ct:zx}(l:K.lookup f=some ⟨h,i, .func (PySem.W.fnOf x qual (E3 st) (DS st) (A6 st) .none kV b g e a ct),d⟩)(c:PySem.W.codeIn K a qual=true)(k:PySem.W.keepIn K (.ref f)=true):Ry K x qual st f (PySem.W.fnOf x qual (E3 st) (DS st) (A6 st) .none kV b g e a ct):=⟨⟨h,i,kV,b,g,e,a,ct,d,rfl,l,c⟩,k⟩
end
section
variable {X:Cx}
def pv (i:Nat){x:Str}{a:Pos}(hN:X.N[i]? =some x:=by rfl)(hv:gZ X.env.scope x:=by first | exact Or.inl rfl|exact Or.inr (Or.inl rfl)|exact Or.inr (Or.inr rfl))(hd:(x==("__debug__" :Str))=false:=by decide)(b:(x==("__classdict__" :Str))=false:=by decide):PE X (.Name x a) (Cm i):=TL hN hv hd b
end
def iq {c A B:Prop}[Decidable c](h1:c->A)(h2:¬c->B):if c then A else B:=by
 by_cases h:c
 .rw [AAE h];exact h1 h
 .rw [AAC h];exact h2 h
def IC (H a:Hp):Prop:=∀b o,H b=some o->a b=some o
def IC.refl (H:Hp):IC H H:=λ_ _ h=>h
def IC.trans {H H1 d:Hp}(a:IC H H1)(b:IC H1 d):IC H d:=λc o h=>b c o (a c o h)
def IC.free {H a:Hp}(e:IC H a){l:zu}(h:a l=Option.none):H l=Option.none:=by
 cases q:H l with
 | none=>rfl
 | some o=> rw[e l o q] at h;cases h
def IC.seq {K:AAB}{H b:Hp}{a:zu}{xs:zy V}(e:IC H b)(h:Ee K H a xs):Ee K b a xs:=by
 rcases h with(h|⟨o,h⟩)|h
 .exact .inl (.inl (e _ _ h))
 .exact .inl (.inr ⟨o,e _ _ h⟩)
 .exact .inr h
theorem Iz {c d:Type}[BEq c][LawfulBEq c]{k:c}{a:d}:∀{l:zy (c×d)},l.lookup k=some a->(k,a)∈l
 | [],h=>by simp at h
 | (n,b)::r,h=>by
   rw[ADF] at h;cases e:k==n with
   | true=>
     rw[e] at h;have f:k=n:=by simpa using e
     have hb:b=a:=by simpa using h
     subst f hb;exact ABU
   | false=> rw[e] at h;exact AA8 _ (Iz h)
theorem Nn {c d:Type}[BEq c][LawfulBEq c]{k:c}{a:d}:∀{l:zy (c×d)},(k,a)∈l->∃b,l.lookup k=some b
 | [],h=>nomatch h
 | (n,b)::r,h=>by
   rw[ADF];cases e:k==n with
   | true=>exact⟨b,rfl⟩
   | false=>
     rcases AAF.mp h with z|z
     .have:k=n:=congrArg Prod.fst z;rw[this] at e;simp at e
     .exact Nn z
theorem F0 {env:Env}{F:Str×NameKind->zy (Str×zu)->Sem (ForInStep (zy (Str×zu)))}(h1:∀n r c,env.cells.lookup n=some c->F (n, .free) r=pure (.yield ((n,c)::r)))(h2:∀n k r,k≠NameKind.free->F (n,k) r=pure (.yield r)):∀(names:zy (Str×NameKind)) (f:zy (Str×zu)),(∀x∈names,x.2= .free->∃c,env.cells.lookup x.1=some c)-> ∃cl,(forIn names f F:Sem _)=pure cl/\(∀p∈cl,p∈f\/env.cells.lookup p.1=some p.2)/\(∀p∈f,p∈cl)/\∀x∈names,x.2= .free->∃c,(x.1,c)∈cl
 | [],f,_=>⟨f,rfl,λp hp=> .inl hp,λp hp=>hp,λx hx=>nomatch hx⟩
 | (n,k)::r,f,h=>by
   by_cases hk:k= .free
   .subst hk;obtain⟨c,hc⟩:=h (n, .free) ABU rfl;obtain⟨cl,e,a,b,d⟩:=F0 h1 h2 r ((n,c)::f) (λx hx=>h x (AA8 _ hx));refine⟨cl, ?_,λp hp=> ?_,λp hp=>b p (AA8 _ hp),λx hx g=> ?_⟩
    .rw [ACW,h1 n f c hc];exact e
    .rcases a p hp with z|z
     .rcases AAF.mp z with z|z
      .subst z;exact .inr hc
      .exact .inl z
     .exact .inr z
    .rcases AAF.mp hx with z|z
     .subst z;exact⟨c,b _ ABU⟩
     .exact d x z g
   .obtain ⟨cl,e,a,b,d⟩:=F0 h1 h2 r f (λx hx=>h x (AA8 _ hx));refine⟨cl, ?_,a,b,λx hx g=> ?_⟩
    .rw [ACW,h2 n k f hk];exact e
    .rcases AAF.mp hx with z|z
     .subst z;exact absurd g hk
     .exact d x z g
def HB {env:Env}{scope:Scope}(h:∀x∈scope.names,x.2= .free->∃c,env.cells.lookup x.1=some c):∃cl,closureFor scope env=pure cl/\(∀y c,cl.lookup y=some c->env.cells.lookup y=some c)/\∀y,(y,NameKind.free)∈scope.names->∃c,cl.lookup y=some c:=by
 obtain⟨cl,e,a,_,d⟩:=F0 (env:=env) (F:=λx cs=>match x with | (name,kind)=>if (kind==NameKind.free)=true then do let a <-cellOf env name;pure (ForInStep.yield ((name,a)::cs)) else pure (ForInStep.yield cs))
  (λn r c hc=>by
    show (do let a <-cellOf env n;pure (ForInStep.yield ((n,a)::r)):Sem _)=_;unfold cellOf;rw[hc];rfl)
  (λn k r hk=>by
    have:(k==NameKind.free)=false:=by simpa using hk
    simp[this]) scope.names [] h
 refine⟨cl, ?_,λy c q=> ?_,λy hy=> ?_⟩
 .unfold closureFor;have b:(forIn scope.names ([] :zy (Str×zu)) λx cs=>match x with | (name,kind)=>if (kind==NameKind.free)=true then do let a <-cellOf env name;pure (ForInStep.yield ((name,a)::cs)) else pure (ForInStep.yield cs):Sem _) >>= (λr=>pure r)=pure cl:=by rw[e];rfl
  exact b
 .rcases a _ (Iz q) with z|z
  .exact nomatch z
  .exact z
 .obtain ⟨c,hc⟩:=d (y, .free) hy rfl;exact Nn hc
def G9 (env:Env)(sc:Scope)(cl:zy (Str×zu))(C:zu):Env:=
 {scope:=sc,locals:=C,globals:=env.globals,cells:=cl,qual:=env.qual,func:=none,code:=env.code,frame:=env.frame,builtins:=env.builtins}
def blk (X:Cx)(sc:Scope)(N:zy Str)(cl:zy (Str×zu))(C:zu)(s:zw)(H:Hp)(ex:zy zu)(pn:zy (zu×Obj)):Cx where
 prog:=X.prog
 w:=X.w
 K:=X.K
 mg:=X.mg
 base:=X.base
 A:=X.A
 N:=N
 s₀:=s
 H₀:=H
 env:=G9 X.env sc cl C
 outer:=X.stack
 stack:=X.stack
 ex:=ex
 fn:=λ_=>false
 calm:=X.calm
 pn:=pn
 xe:=λ_ _=>False
section
variable {X:Cx}{zj:zy (zu×Obj)}{σ:St}{H:Hp}{s:zw}{fp:zy zu}{sc:Scope}{N:zy Str}{cl:zy (Str×zu)}
def Inv.notStk (I:Inv X zj σ H s){b:zu}(h1:b≠X.env.locals)(h2:b ∉ X.fs):b ∉ Wg X.stack:=λz=>by
 rcases AAF.mp (I.stkSub b z) with e|e
 .exact h1 e
 .exact h2 e
def Inv.szLt (I:Inv X zj σ H s){x:Str}{c:zu}(e:X.env.cells.lookup x=some c):c<s.heap.objs.size:=by obtain⟨v,q⟩:=I.cell x c e;exact q.lt
def dg (I:Inv X zj σ H s)(d:∀b∈fp,Ex X zj H b)(f:∀b∈fp,b<s.heap.objs.size)(hk:sc.kind= .function)(h1:∀y c,cl.lookup y=some c->X.env.cells.lookup y=some c)(h2:∀y,(sc.names.lookup y=some .cell\/sc.names.lookup y=some .free)->∃c,cl.lookup y=some c):(blk X sc N cl s.heap.objs.size s H fp (X.pn++zj)).Ok where
 mod:=I.ok.mod
 kind:=hk
 glob:=I.ok.glob
 blt:=I.ok.blt
 above:=AAI _
 inj:=λx y c a b=>I.ok.inj x y c (h1 x c a) (h1 y c b)
 has:=λx hx=>h2 x hx
 cab:=λx c z=>nomatch z
 hd:=I.ok.hd
 frames:=I.ok.frames
 stk:= .inl rfl
 exf:=λb hb=>⟨AAM (f b hb),λx c e=>(d b hb).2.2.2.2.1 x c (h1 x c e)⟩
 bs:=I.bs
 bsz:=AAe I.ok.bsz I.sz
 noex:=λb o e hb=>by
  rcases (d b hb).2.2.2.1 with z|z
  .exact I.ok.noex b o e z
  .exact absurd (AAS (AAG (I.ok.bs b o e).1) z) (AA9 _)
 exfs:=λb hb=>I.notStk (d b hb).2.1 (d b hb).2.2.1
 funs:=I.stack
 frf:=I.stkFree
def CG (own:Nat)(ix:zy Nat)(σ:St):St:=List.replicate own none++ix.map λi=>(σ[i]?).getD none
def Vd {own:Nat}{ix:zy Nat}{σ:St}:(CG own ix σ).length=own+ix.length:=by simp[CG]
def HA {own:Nat}{ix:zy Nat}{σ:St}{j:Nat}{v:V}(h:(CG own ix σ)[j]? =some (some v)):own<=j/\∃i,ix[j-own]? =some i/\σ[i]? =some (some v):=by
 unfold CG at h;by_cases hj:j<own
 .rw [ABB (by simpa using hj),ABI] at h;simp[hj] at h
 .have Wh:own<=j:=by omega
  rw[AA6 (by simpa using Wh),ABJ,AAk] at h;refine⟨Wh, ?_⟩;cases e:ix[j-own]? with
  | none=>rw[e] at h;simp at h
  | some i=>
    rw[e] at h;refine⟨i,rfl, ?_⟩;have h':(σ[i]?).getD none=some v:=by simpa using h
    cases a:σ[i]? with
    | none=>rw[a] at h';simp at h'
    | some o=>
      rw[a] at h';have:o=some v:=by simpa using h'
      rw[this]
structure P9 (X:Cx) (sc:Scope) (own:Nat) (ix:List Nat) (N:List Str):Prop where
 len:N.length=own+ix.length
 out:∀j i,ix[j]? =some i->∃x,N[own+j]? =some x/\X.N[i]? =some x/\X.env.scope.names.lookup x=some .cell/\sc.names.lookup x=some .cell
def XB {own:Nat}{ix:zy Nat}{h':zl}{m:Str->zt zx}{t':Nat}(I:Inv X zj σ H s)(B:∀b∈fp,Ex X zj H b)(C:∀b∈fp,b<s.heap.objs.size)(hk:sc.kind= .function)(h1:∀y c,cl.lookup y=some c->X.env.cells.lookup y=some c)(h2:∀y,(sc.names.lookup y=some .cell\/sc.names.lookup y=some .free)->∃c,cl.lookup y=some c)(F:P9 X sc own ix N)(D:h'.Ns s.heap.objs.size m)(k:∀b o,s.heap.get? b=some o->h'.get? b=some o):Inv (blk X sc N cl s.heap.objs.size s H fp (X.pn++zj)) [] (CG own ix σ) H {s with heap:=h',toks:=t'} where
 ok:=dg I B C hk h1 h2
 os:=rfl
 bare:=I.bare
 base:=Un.kept k
 loc:=by
  refine⟨m,D,λi x v E G R=> ?_⟩;obtain⟨Wh,J,K,es⟩:=HA G;obtain⟨y,n,L,t,w⟩:=F.out _ _ K;have g:x=y:=by have h:N[i]? =some x:=E;rw[show own+(i-own)=i by omega,h] at n;exact AAV n
  subst g;obtain⟨m0,S,M⟩:=I.loc;obtain⟨u,r,l⟩:=M J x v L es (.inr (.inl t));refine⟨u,r, ?_⟩;rcases l with⟨z,_⟩|⟨_,c,O,z⟩
  .have A:X.env.scope.names.lookup x=some .local:=z;rw[t] at A;cases A
  .obtain ⟨P,f⟩:=h2 x (.inl w);have:=h1 x P f;rw[O] at this;cases this;obtain⟨o,j,hd⟩:=z;exact .inr ⟨.inl w,c,f,o,k c o j,hd⟩
 cell:=λx c e=>by obtain⟨v,o,j,hd⟩:=I.cell x c (h1 x c e);exact⟨v,o,k c o j,hd⟩
 free:=I.hok.fresh (AAI _)
 freeC:=λx c e=>I.freeC x c (h1 x c e)
 pin:=λp hp=>by
  have Q:p∈X.pn++zj:=by simpa[blk] using hp
  obtain⟨a,b,c,d,e⟩:=I.pin p Q;exact⟨k _ _ a,b,AAM (AAG a),I.notStk c d,e⟩
 hok:=I.hok.kept k
 len:=by rw[Vd];exact F.len.symm
def UN {own:Nat}{ix:zy Nat}{σ':St}{d:Hp}{e:zw}{a:zy (zu×Obj)}(I:Inv X zj σ H s)(c:∀b∈fp,Ex X zj H b)(f:∀b∈fp,b<s.heap.objs.size)(B:Inv (blk X sc N cl s.heap.objs.size s H fp (X.pn++zj)) a σ' d e):Inv X zj σ d e:=
 I.call' (ch:=fp) B.os B.base B.hok B.bare λb hb=>⟨(c b hb).2.2.2.1,(c b hb).2.1,(c b hb).2.2.2.2.1,(c b hb).2.2.2.2.2⟩
def QH {d:Hp}{σ':St}{a:zw}{C:zu}{h':zl}(I:Inv X zj σ H s)(f:C=s.heap.objs.size)(g:Inv X zj σ' d a)(h:d C=none)(hs:Heap.SameBut C a.heap h'):Inv X zj σ' d {a with heap:=h'}:=by subst f;refine g.turned (t':=a.toks) (it:=s.heap.objs.size) (λb o hb e=>(hs.2 b hb).trans e) h (AAx I.lt) (.inr I.sz) (λx c e=>AAM (I.szLt e)) λp hp=>AAM (AAG (I.pin p hp).1)
end
def ZX (X:Cx)(a:zy zr)(t:TT):Prop:=
 ∀(d:zy (zu×Obj)) (s:zw) (b:St) (H:Hp) (Q:zq->Hp->Prop),Inv X d b H s->t b H Q->
  wpAny (model X.prog X.w) X.A (forIn a true λc r=>if r=true then do let ok <-isTrue c X.env (eval c X.env);pure (ForInStep.yield ok) else pure (ForInStep.yield r)) (TP X d b Q) X.xe s
def cM:TT:=λ_ H Q=>Q true H
def Us {X:Cx}:ZX X [] cM:=λ_ _ _ H _ I h=>wpAny_tests_nil ⟨H,I,h⟩
def Gq (own:Nat)(g:TG):Prop:=∀v b H Q,g v b H Q->g v b H λa c=>Q a c/\a.length=b.length/\∀j,own<=j->a[j]? =b[j]?
def LW (own:Nat)(g:R1):Prop:=∀vs b H Q,g vs b H Q->g vs b H λa c=>Q a c/\a.length=b.length/\∀j,own<=j->a[j]? =b[j]?
def ON {own i:Nat}(h:i<own):Gq own (BL i):=λv a H Q q=>⟨q,by simp,λj hj=>AAW (by omega)⟩
def Uc {own:Nat}:LW own J6:=λvs a H Q q=>⟨q.1,q.2,rfl,λ_ _=>rfl⟩
def Lo {own:Nat}{t:TG}{u:R1}(h1:Gq own t)(m1:∀v b H Q d,(∀a c,Q a c->d a c)->t v b H Q->t v b H d)(h2:LW own u)(m2:∀v b H Q d,(∀a c,Q a c->d a c)->u v b H Q->u v b H d):LW own (CY t u):=by intro vs b H Q q;obtain⟨v,r,e,q⟩:=q;refine⟨v,r,e,m1 _ _ _ _ _ (λa c z=> ?_) (h1 _ _ _ _ q)⟩;obtain⟨z,l,g⟩:=z;refine m2 _ _ _ _ _ (λh m f=> ?_) (h2 _ _ _ _ z);obtain⟨f,i,k⟩:=f;exact⟨f,i.trans l,λj hj=>(k j hj).trans (g j hj)⟩
def KM {i:Nat}:∀v b H Q c,(∀a d,Q a d->c a d)->BL i v b H Q->BL i v b H c:=λ_ _ _ _ _ m q=>m _ _ q
def OO:∀v b H Q c,(∀a d,Q a d->c a d)->J6 v b H Q->J6 v b H c:=λ_ _ _ _ _ m q=>⟨q.1,m _ _ q.2⟩
def QV {t:TG}{u:R1}(m1:∀v b H Q c,(∀a d,Q a d->c a d)->t v b H Q->t v b H c)(m2:∀v b H Q c,(∀a d,Q a d->c a d)->u v b H Q->u v b H c):∀v b H Q c,(∀a d,Q a d->c a d)->CY t u v b H Q->CY t u v b H c:=λ_ _ _ _ _ m ⟨v,r,e,q⟩=>⟨v,r,e,m1 _ _ _ _ _ (λ_ _ z=>m2 _ _ _ _ _ m z) q⟩
def R9 (J:It)(D:zu)(σ0:St)(g:TG)(f:TT)(h:TE)(Q:Hp->Prop)(W:Nat->Nat->Hp->Prop):Prop:=
 ∀i m H,W i m H->(J.stop i H/\Q H)\/(J.go i H/\∀x c,J.yld i H x c->g x σ0 c λa j=>f a j λok d=>
  if ok=true then h a d λy e=>∃ys,e D=some (.lst ys)/\ys.length<sizeLine/\∃b,b<m/\W (i+1) b (upd e D (.lst (ys ++ [y]))) else ∃b,b<m/\W (i+1) b d)
def ZB (b:TI)(own:Nat)(ix:zy Nat)(g:TG)(c:TT)(d:TE):TE:=λa H Q=>b a H λJ H1=>∀D,H1 D=none->
 ∃W:Nat->Nat->Hp->Prop,(∃m,W 0 m (upd H1 D (.lst [])))/\R9 J D (CG own ix a) g c d (Q (.ref D)) W
section
variable {X:Cx}{tg elt iter:zr}{ifs:zy zr}{scope:Scope}{pos:Pos}{wi:TI}{own:Nat}{ix:zy Nat}{N:zy Str}{g:TG}{tt:TT}{te:TE}
structure Eu (X:Cx) (tg elt:Expr) (ifs:List Expr) (scope:Scope) (own:Nat) (ix:List Nat) (N:List Str) (g:TG) (tt:TT) (te:TE):Prop where
 kind:scope.kind= .function
 nocell:∀y∈scope.names,y.2≠ .cell
 names:∀y∈scope.names,y.2= .local->scope.names.lookup y.1=some .local
 frees:∀y∈scope.names,y.2= .free->X.env.scope.names.lookup y.1=some .cell
 ins:P9 X (relabel scope X.env) own ix N
 keep:Gq own g
 tgt:∀cl C s H ex pn,PG (blk X (relabel scope X.env) N cl C s H ex pn) tg g
 tst:∀cl C s H ex pn,ZX (blk X (relabel scope X.env) N cl C s H ex pn) ifs tt
 val:∀cl C s H ex pn,PE (blk X (relabel scope X.env) N cl C s H ex pn) elt te
def ES {env:Env}{y:Str}{k:NameKind}(c:∀y∈scope.names,y.2≠ .cell)(h:(y,k)∈(relabel scope env).names)(hk:k= .cell\/k= .free):(y,NameKind.free)∈scope.names:=by
 obtain⟨⟨n,b⟩,a,e⟩:=AAc.mp (show (y,k)∈scope.names.map _ from h);dsimp only at e;split at e
 .rename_i hc;cases e;have:b= .free:=by cases b <;> simp_all
  subst this;exact a
 .cases e;rcases hk with z|z
  .subst z;exact absurd rfl (c _ a)
  .subst z;exact a
def Vl {B:zy (zu×Obj)}{M:St}{H:Hp}{s:zw}{fp:zy zu}{cl:zy (Str×zu)}{it:zu}{tn:Nat->zl->Prop}{J:It}{D:zu}{R:Result->zw->Prop}{Qh:Hp->Prop}{W:Nat->Nat->Hp->Prop}(hc:X.calm=true)(O:Eu X tg elt ifs scope own ix N g tt te)(T:J5 X.prog X.w X.K tg J fp it tn)(I:Inv X B M H s)(hf:∀b∈fp,Ex X B H b)(Ep:∀b∈fp,b<s.heap.objs.size)(hW:R9 J D (CG own ix M) g tt te Qh W)(hR:∀σ' a P,Inv (blk X (relabel scope X.env) N cl s.heap.objs.size s H fp (X.pn++B)) [] σ' a P->Qh a->R (.ok .next) P)(n:Nat)(s0:zw)(h0:∃i a,Inv (blk X (relabel scope X.env) N cl s.heap.objs.size s H fp (X.pn++B)) [] (CG own ix M) a s0/\tn i s0.heap/\(∀b∈fp,a b=none)/\W i n a):codeAny (model X.prog X.w) X.A (.compLoop (.ListComp elt [⟨tg,iter,ifs,0⟩] scope pos) 0 (.ref it) (.ref D) (G9 X.env (relabel scope X.env) cl s.heap.objs.size)) R s0:=by
 refine codeAny_loop rfl (λn P=>∃i a,Inv (blk X (relabel scope X.env) N cl s.heap.objs.size s H fp (X.pn++B)) [] (CG own ix M) a P/\tn i P.heap/\(∀b∈fp,a b=none)/\W i n a) (λn s1 h1=> ?_) n h0;obtain⟨i,H1,B1,S,U,w1⟩:=h1;generalize f:blk X (relabel scope X.env) N cl s.heap.objs.size s H fp (X.pn++B)=Y at *;have eA:Y.A=X.A:=by rw[<-f];rfl
 have Z:Y.prog=X.prog:=by rw[<-f];rfl
 have eW:Y.w=X.w:=by rw[<-f];rfl
 have eK:Y.K=X.K:=by rw[<-f];rfl
 have eE:G9 X.env (relabel scope X.env) cl s.heap.objs.size=Y.env:=by rw[<-f];rfl
 have eX:Y.xe=λ_ _=>False:=by rw[<-f];rfl
 have eC:Y.calm=true:=by rw[<-f];exact hc
 have hg:PG Y tg g:=by rw[<-f];exact O.tgt _ _ _ _ _ _
 have ht:ZX Y ifs tt:=by rw[<-f];exact O.tst _ _ _ _ _ _
 have hv:PE Y elt te:=by rw[<-f];exact O.val _ _ _ _ _ _
 have k:∀{a:Hp},(∀b∈fp,a b=none)->∀b∈fp,Ex Y [] a b:=λ{a} hn b hb=>by
  obtain⟨_,a1,a2,a3,a4,a5⟩:=hf b hb;refine⟨hn b hb, ?_, ?_, ?_, ?_, ?_⟩
  .rw [<-f];exact AAM (Ep b hb)
  .rw [<-f];exact I.notStk a1 a2
  .rw [<-f];exact .inl hb
  .intro x c e;exact(B1.ok.exf b (by rw[<-f];exact hb)).2 x c e
  .intro p hp;have:p∈X.pn++B:=by rw[<-f] at hp;simpa[blk] using hp
   exact a5 p this
 rw[eE,<-eA,<-Z,<-eW];show wpAny _ _ ((compTurn (.ListComp elt [⟨tg,iter,ifs,0⟩] scope pos) 0 (.ref it) (.ref D) Y.env).onRaise (λx=>do noteFrame x Y.env;theTreesLotGoes x)) _ _ s1;refine wpAny_noted ?_;rw[compTurn_list];have ff:∀{α:Type} {t:Sem α} {Q:α->zw->Prop} {E:zx->zw->Prop} {s:zw},wpAny (model Y.prog Y.w) Y.A t Q Y.xe s->wpAny (model Y.prog Y.w) Y.A t Q E s:=λh=>AA4 h (λ_ _ q=>q) λ_ _ z=>by rw[eX] at z;exact z.elim
 refine AAA (ABH (AAA ?_));rcases hW i n H1 w1 with⟨stop,qn⟩|⟨go,step⟩
 .have zd:=λE=>T.done Y Z eW eK eC i [] s1 _ H1 E B1 (k U) S stop;rw[<-Z,<-eW] at zd;refine BJ (zd _) λr s4 ⟨hr,I4⟩=> ?_;subst hr;exact AAD (hR _ _ _ I4 qn)
 .have zi:=λE=>T.item Y Z eW eK eC i [] s1 _ H1 E B1 (k U) S go;rw[<-Z,<-eW] at zi;refine BJ (zi _) λr s4 ⟨u,hr,h4⟩=> ?_;subst hr;refine AAA (BJ h4 λ_ s5 ⟨x,H5,I5,r5,y5,C,fr5⟩=> ?_);have I5':=I5.pinned (k fr5) (T.obj _ _ C);refine AAA (BJ (ff (hg _ s5 _ H5 x u _ I5' r5 (O.keep _ _ _ _ (step x H5 y5)))) λ_ s6 ⟨l,H6,I6,q6,l6,k6⟩=> ?_);refine AAA (BJ (ff (ht _ s6 l H6 _ I6 q6)) λok s7 ⟨H7,I7,q7⟩=> ?_);have back:∀{F:Hp} {G:zw} {L:Nat},Inv Y ([] ++ JF fp s5.heap) l F G->L<n->W (i+1) L F->
   ∃m,m<n/\∃i a,Inv Y [] (CG own ix M) a G/\tn i G.heap/\(∀b∈fp,a b=none)/\W i m a:=λ{F G L} I8 hm w8=>by
   refine⟨L,hm,i+1,F,I8.unpinned.weak l6.symm (λj v hj=> ?_),T.keep _ _ _ C λb hb o e=>(I8.pin (b,o) (AAf _ (AAf _ (DN hb e)))).1,λb hb=> ?_,w8⟩
   .rw [k6 j (HA hj).1];exact hj
   .obtain ⟨o,e,d⟩:=T.obj _ _ C b hb;exact(I8.pin (b,o) (AAf _ (AAf _ (DN hb e)))).2.1
  cases ok with
  | false=> obtain⟨L,hm,w8⟩:=q7;exact AAD ⟨rfl,back I7 hm w8⟩
  | true=> refine AAA (AAA (BJ (ff (hv _ s7 l H7 _ I7 q7)) λyv G ⟨y,F,I8,r8,ys,hD,hz,L,hm,w8⟩=> ?_));refine AAA (BJ (ff (Np _ G l F (.ref D) [y] (.ref D) [yv] (λ_ H9=>H9=upd F D (.lst (ys ++ [y]))) I8 rfl (.cons r8 .nil) ⟨D,ys,y,rfl,rfl,hD,hz,rfl⟩)) λ_ s9 ⟨_,H9,I9,_,e9⟩=> ?_);subst e9;exact AAD (AAD ⟨rfl,back I9 hm w8⟩)
def QN {f:zy (zu×Obj)}{u:St}{H:Hp}{s:zw}{use:zt (zx->Sem Unit)}{Q:zx->zw->Prop}{it:zu}{fp:zy zu}{cl:zy (Str×zu)}{tn:Nat->zl->Prop}{J:It}{Qd:zu->Hp->Prop}(hc:X.calm=true)(O:Eu X tg elt ifs scope own ix N g tt te)(T:J5 X.prog X.w X.K tg J fp it tn)(I:Inv X f u H s)(P:∀b∈fp,Ex X f H b)(st:tn 0 s.heap)(h1:∀y c,cl.lookup y=some c->X.env.cells.lookup y=some c)(h2:∀y,(y,NameKind.free)∈scope.names->∃c,cl.lookup y=some c)(hq:∀D,H D=none->∃W:Nat->Nat->Hp->Prop,(∃m,W 0 m (upd H D (.lst [])))/\R9 J D (CG own ix u) g tt te (Qd D) W)(R:∀D C j k,(∃m,k.heap.Ns C m)->Inv X f u j k->(∀h v,Inv X f h j v->∀h',Heap.SameBut C v.heap h'->Inv X f h j {v with heap:=h'})->C≠X.env.locals->(∀x c,X.env.cells.lookup x=some c->C≠c)->Qd D j-> compPost (model X.prog X.w) X.A X.xe use Q (.ref D) C (.ok .next) k):wpAny (model X.prog X.w) X.A (newList []) (λl n=>wpAny (model X.prog X.w) X.A (newFunctionEnv scope X.env.globals cl [] X.env.qual none .none (some X.env)) (λd p=> codeAny (model X.prog X.w) X.A (.compStart (.ListComp elt [⟨tg,iter,ifs,0⟩] scope pos) 0 (.ref it) l {d with scope:=relabel scope X.env}) (compPost (model X.prog X.w) X.A X.xe use Q l d.locals) p) X.xe n) X.xe s:=by
 refine AAw ?_ (by simp[sizeOk]);have i:Inv X f u (upd H s.heap.objs.size (.lst [])) {s with heap:=s.heap.push {cls:= .type "list",data:= .seq ([] :zy zx).toArray}}:=I.lnew (t':=s.toks) .nil (AAq _);have S:=I.fresh;obtain⟨W,⟨m0,U⟩,Y⟩:=hq _ S;have Z:∀b∈fp,b<s.heap.objs.size:=λb hb=>by obtain⟨o,e,_⟩:=T.obj _ _ st b hb;exact AAG e
 have E:∀b∈fp,Ex X f (upd H s.heap.objs.size (.lst [])) b:=λb hb=>by obtain⟨a0,ar⟩:=P b hb;exact⟨by rw[AZ (AAM (Z b hb))];exact a0,ar⟩
 generalize lh:({s with heap:=s.heap.push {cls:= .type "list",data:= .seq ([] :zy zx).toArray}}:zw)=s3 at i;have r:tn 0 s3.heap:=T.keep _ _ _ st λb hb o e=>by rw[<-lh];exact AAH _ e
 have F:∀b∈fp,b<s3.heap.objs.size:=λb hb=>by obtain⟨o,e,_⟩:=T.obj _ _ r b hb;exact AAG e
 refine wpAny_newFunctionEnv O.nocell (by intro y hy;simp at hy) (λa gj lj=> ?_) O.kind;have M:∀b o,s3.heap.get? b=some o->a.get? b=some o:=λb o e=>lj.extBut b o (AAM (AAG e)) (AAH _ e);have ca:∀y,((relabel scope X.env).names.lookup y=some .cell\/(relabel scope X.env).names.lookup y=some .free)->∃c,cl.lookup y=some c:=λy hy=>by
  rcases hy with z|z
  .exact h2 y (ES O.nocell (Iz z) (.inl rfl))
  .exact h2 y (ES O.nocell (Iz z) (.inr rfl))
 have B:=XB (N:=N) (t':=s3.toks+([] :zy (Str×zx)).length) i E F (sc:=relabel scope X.env) O.kind h1 ca O.ins gj M;have t:tn 0 a:=T.keep _ _ _ r λb hb o e=>M b o e;have loop:∀G:zw,G={s3 with heap:=a,toks:=s3.toks+([] :zy (Str×zx)).length}->
  codeAny (model X.prog X.w) X.A (.compLoop (.ListComp elt [⟨tg,iter,ifs,0⟩] scope pos) 0 (.ref it) (.ref s.heap.objs.size) (G9 X.env (relabel scope X.env) cl s3.heap.objs.size)) (compPost (model X.prog X.w) X.A X.xe use Q (.ref s.heap.objs.size) s3.heap.objs.size) G:=by rintro G rfl;refine Vl (cl:=cl) (Qh:=Qd s.heap.objs.size) hc O T i E F Y (λσ' j k L q'=> ?_) m0 _ ⟨0,_,B,t,λb hb=>(E b hb).1,U⟩;refine R _ _ j k (let ⟨m,hm,_⟩:=L.loc;⟨m,hm⟩) (UN (own:=own) (ix:=ix) i E F L) (λh v I2 h' hs=>QH i rfl I2 L.free hs) (AAx i.lt) (λx c e=>AAx (i.szLt e)) q'
 exact codeAny_compStart_list (loop _ rfl) (T.self _ 0 _ _ _ t (loop _ rfl))
def bB (hc:X.calm=true)(hi:PI X tg iter wi)(O:Eu X tg elt ifs scope own ix N g tt te)(hs:∀x,foldedSetIterable iter X.env x=pure x:=by intro _;rfl):PE X (.ListComp elt [⟨tg,iter,ifs,0⟩] scope pos) (ZB wi own ix g tt te):=by intro d s c H Q I h;obtain⟨cl,f,h1,h2⟩:=HB (env:=X.env) (scope:=scope) λy hy e=>I.ok.has y.1 (.inl (O.frees y hy e));rw[eval_ListComp];refine ADG (use:=none) rfl hs f O.kind O.names (BJ (hi d s c H _ I h) λv u hv=>BJ hv λi w j=> ?_);obtain⟨it,fp,tn,J,z,rfl,k,T,a,l,q⟩:=j;exact QN (Qd:=λD b=>Q (.ref D) b) hc O T k l a h1 h2 q λD C b n o p gone A B r=>by obtain⟨m,t⟩:=o;exact⟨m,t,λh' hs=>⟨.ref D,b,gone c n p h' hs,rfl,r⟩⟩
def Uu {i:Nat}{x:Str}{pos' b:Pos}(hc:X.calm=true)(hN:X.N.Nodup)(n:X.N[i]? =some x)(hx:Loc X.env.scope x)(hi:PI X tg iter wi)(O:Eu X tg elt ifs scope own ix N g tt te)(o:swapsWith (.ListComp elt [⟨tg,iter,ifs,0⟩] scope pos) (some (.Name x pos')) b.line X.env=pure true:=by rfl)(hs:∀x,foldedSetIterable iter X.env x=pure x:=by intro _;rfl)(p:X.fn x=true\/X.env.scope.names.lookup x=some .local:=by first | exact .inl rfl|exact .inr rfl|assumption):PS X (.Assign [.Name x pos'] (.ListComp elt [⟨tg,iter,ifs,0⟩] scope pos) b) (NL (ZB wi own ix g tt te) (BL i)):=by
 intro k s l H D I h;obtain⟨cl,r,h1,h2⟩:=HB (env:=X.env) (scope:=scope) λy hy e=>I.ok.has y.1 (.inl (O.frees y hy e));rw[exec_Assign_Name_used _ _ _ _ o];refine AAA (ABH (AAA ?_));show wpAny _ _ (do let _ <-comprehension (.ListComp elt [⟨tg,iter,ifs,0⟩] scope pos) scope X.env _ (newList []) false (eval iter X.env) (some (assign (.Name x pos') X.env))) _ _ s;refine AAA (BJ (ADG (use:=some (assign (.Name x pos') X.env)) (Q:=λ_ c=>SP X k D .next c) rfl hs r O.kind O.names (BJ (hi k s l H _ I h) λv U hv=>BJ hv λt W u=> ?_)) λ_ c hq=>AAD (AAD hq));obtain⟨it,fp,tn,J,Y,rfl,w,T,f,A,q⟩:=u;refine QN (Qd:=λd j=>BL i (.ref d) l j D.nx) hc O T w A f h1 h2 q λd C j c B E gone F G K=> ?_;obtain⟨m,L⟩:=B;show wpAny _ _ (assign (.Name x pos') X.env (.ref d)) _ _ c;refine AC5 (JQ (v:= .ref d) E hN n hx rfl (λM P ⟨a,R,ha⟩=> ?_) p);have S:C≠a:=by
  rcases ha with z|z
  .rw [z];exact F
  .exact G x a z
 exact⟨m,L.sameBut R S,λh' hs=>⟨_,j,gone _ M P h' hs,K⟩⟩
end
def IR {n k:Nat}(h:n<2^k)(hk:0<k):n.log2<k:=by
 by_cases e:n=0
 .subst e;simpa using hk
 .exact (Nat.log2_lt e).mpr h
def GP {i:Int}{k:Nat}(h:i.natAbs<2^k):Builtin.Int.intBits i<=k:=by
 unfold Builtin.Int.intBits;by_cases e:i=0
 .subst e;simp
 .have a:(i==0)=false:=by simpa using e
  rw[a];simp only[AAh,AAX];have b:i.natAbs≠0:=by omega
  have:=(Nat.log2_lt b).mpr h;omega
section
variable {X:Cx}
def kR (i j:Int):Prop:=i.natAbs<2^8000/\j.natAbs<2^8000
def hU (i j:Int):Prop:=LM i j\/kR i j
def GU:Dy X (binaryOp .Mult) (rI hU λi j=> .int (i*j)):=fG λ_ _ _ _ _ _ _ hc q=>mul_int q (by
 rcases hc with z|z
 .exact z.ok
 .exact .of_le (GP z.1) (GP z.2) (by decide))
def hJ (_ j:Int):Prop:=0<j/\j.natAbs<2^8000
def YE:Dy X (binaryOp .FloorDiv) (rI hJ λi j=> .int (i/j)):=fG λi j _ _ _ _ _ hc q=>by have h1:(0:Int)<j:=hc.1;refine floordiv_int (by omega) ?_ (.inl (ADc (ACX (IR hc.2 (by decide)) (by decide))));rw[ABL _ (Int.le_of_lt h1)];exact q
inductive Kd where
 | int|bl|non|str|lst|tup
 deriving DecidableEq
def V0:Kd->String->zq
 | .int,T=>T == "int"
 | .bl,T=>T == "bool" || T == "int"
 | .non,_=>false
 | .str,_=>false
 | .lst,T=>T == "list"
 | .tup,T=>T == "tuple"
def WM (bs:zy zq):(List.range bs.length).all (λi=>bs.getD i true)=bs.all id:=by
 rw[AA5,ABj,ABj];constructor
 .intro h b hb;obtain⟨i,hi,e⟩:=List.mem_iff_getElem.mp hb;have:=h i (ACP.mpr hi);rw[ADH,AAT hi] at this;subst e;simpa using this
 .intro h i hi;have a:=ACP.mp hi;rw[ADH,AAT a];simpa using h _ (ABk a)
def Inv.walked {g:zy (zu×Obj)}{h:St}{H:Hp}{s c:zw}{o:Obj}(I:Inv X g h H s)(m:Moved [s.heap.objs.size] (λa b=>b=a) {s with heap:=s.heap.push o} c):Inv X g h H c:=by
 obtain⟨h',g',d',t',i⟩:=c;obtain⟨hk,d,hd,f,_⟩:=m;have j:∀b u,s.heap.get? b=some u->h'.get? b=some u:=λb u e=>hk b u (by
  intro z;have k:b=s.heap.objs.size:=by simpa using z
  exact absurd (AAG e) (by rw[k];exact AA9 _)) (AAH _ e)
 have d:g'=s.gens:=d;have hd:d'=s.drawn:=hd;have f:i=s.os:=f;subst d hd f;exact I.kept (t':=t') j
def ZL {bs:zy zq}{a:zy zx}{A:zk}(r:Aj (bs.map V.bl) a):TruthOf X.prog X.w A (λi v=>a.toArray[i]? =some v) (λi=>bs.getD i true):=by
 intro i v s Q E hv hQ;have c:a[i]? =some v:=by simpa using hv
 cases e:(bs.map V.bl)[i]? with
 | none=>rw[r.none_of e] at c;cases c
 | some x=>
   obtain⟨u,hu,f⟩:=r.get e;rw[c] at hu;cases hu;rw[AAk] at e;cases d:bs[i]? with
   | none=>rw[d] at e;cases e
   | some b=>
     rw[d] at e;cases e;cases f
     replace hQ:Q (bs.getD i true) s:=hQ
     rw[ADH,d] at hQ;unfold truthy;exact AAD hQ
def bQ (K:AAB)(f:zy zq->zq):zy V->Hp->VK->Prop:=λxs H Q=>∃p bs,xs= [.ref p] /\Ee K H p (bs.map V.bl)/\Q (.bl (f bs)) H
def Vf (hc:X.calm=true):Bu X (.builtin "all") (bQ X.K λbs=>bs.all id):=by
 intro k s l H xs us Q I r h;obtain⟨p,bs,rfl,hq,q⟩:=h;obtain⟨u,rfl,e⟩:=vals1 r;cases e;obtain⟨a,b,c,hz⟩:=I.list hq;obtain⟨ol,d,f⟩:=id c.isList;have g:p≠s.heap.objs.size:=AAM (AAG d);have j:a.toArray.size=bs.length:=by have:=b.length;simp at this;simp[this]
 refine call_all_walkS (ACY c.isList ?_);refine⟨_,_,_,_,_,_,_,λi=>bs.getD i true,rfl,(Walks.list (A:=X.A.in1) (show X.A.in1.handled=none from I.ok.hd hc) s.heap.objs.size p g a.toArray).toS,⟨⟨_,AAP _ rfl,rfl,rfl⟩,⟨ol,AAH _ d,f⟩⟩,ZL b,λn m=> ?_⟩;rw[j,WM];exact⟨.bl (bs.all id),H,I.walked m,rfl,q⟩
def aT (xs:zy V)(k:Nat)(y:V):zy V:=xs.take k++y::xs.drop k
def Aj.ins {xs:zy V}{us:zy zx}{y:V}{u:zx}(r:Aj xs us)(a:RelV y u)(k:Nat):Aj (aT xs k y) (us.take k++u::us.drop k):=Aj.append (r.take k) (.cons a (r.drop k))
def Oy:V->zy V->Hp->VK->Prop:=λx vs H Q=>∃l xs i y,x= .ref l/\vs= [.int i,y] /\H l=some (.lst xs)/\0<=i/\i<=(xs.length:Int)/\xs.length<sizeLine/\Q .non (upd H l (.lst (aT xs i.toNat y)))
def V9:iA X "list.insert" Oy:=by
 intro o s p H x vs v us Q I f rv h;obtain⟨l,xs,i,y,rfl,rfl,c,u,h1,hz,q⟩:=h;cases f;cases rv with
 | cons g b=>
 cases b with
 | cons j b=>
 cases b;rename_i d;obtain⟨t,rfl⟩:=g;obtain⟨z,a,n,r,hl,e⟩:=I.lstM c;have w:=Lw;have m:¬(!Builtin.List.listFitsIndex i)=true:=by have:=fitsIndex_both (k:=i) (by omega) (by omega);simp[this]
 refine call_meets F.slot_list_insert ⟨_,e,rfl⟩ F.entry_list_insert (F.args_list_insert_3 _ _ _) (AutoSeq1.list_insert_list_int_val_1 l a.toArray n i t d m (by rw[AAQ];omega)) ⟨e, ?_⟩;refine⟨.non,_,I.lset (ys:=aT xs i.toNat y) (its':=a.take i.toNat++d::a.drop i.toNat) c e ?_ (r.ins j _) ?_,rfl,q⟩
 .dsimp only;rw[AAC (by omega),AAQ,Nat.min_eq_left (by omega)];apply Array.toList_inj.mp;simp;exact ABl (by simp)
 .unfold aT;simp;omega
end
def J3:zq->zl->zu->zu->Nat->Prop
 | true,h,q,l,k=>h.IsListIter q l k
 | false,h,q,l,k=>h.IsTupleIter q l k
def KJ:zq->zl->zu->Array zx->Prop
 | true,h,l,xs=>h.IsList l xs
 | false,h,l,xs=>h.IsTuple l xs
def J3.mv {b:zq}{h h':zl}{q l:zu}{k:Nat}(x:J3 b h q l k)(e:∀o,h.get? q=some o->h'.get? q=some o):J3 b h' q l k:=by
 cases b with
 | true=>obtain⟨o,a,r⟩:=x;exact⟨o,e o a,r⟩
 | false=>obtain⟨o,a,r⟩:=x;exact⟨o,e o a,r⟩
def J3.obj {b:zq}{h:zl}{q l:zu}{k:Nat}(x:J3 b h q l k):∃o,h.get? q=some o/\∀v,o.data≠ .cell v:=by
 cases b with
 | true=> obtain⟨o,a,_,d⟩:=x;exact⟨o,a,λv z=>by rw[d] at z;cases z⟩
 | false=> obtain⟨o,a,_,d⟩:=x;exact⟨o,a,λv z=>by rw[d] at z;cases z⟩
def KJ.mv {b:zq}{h h':zl}{l:zu}{xs:Array zx}(x:KJ b h l xs)(e:∀o,h.get? l=some o->h'.get? l=some o):KJ b h' l xs:=by
 cases b with
 | true=>obtain⟨o,a,r⟩:=x;exact⟨o,e o a,r⟩
 | false=>obtain⟨o,a,r⟩:=x;exact⟨o,e o a,r⟩
section
variable {prog:zp}{w:zm}{A:zk}{E:zx->zw->Prop}{s:zw}
def IJ {b:zq}{q l:zu}{k:Nat}{xs:Array zx}{x:zx}{Q:zx->zw->Prop}(hq:J3 b s.heap q l k)(hl:KJ b s.heap l xs)(hx:xs[k]? =some x)(hQ:∀h',J3 b h' q l (k+1)->Heap.SameBut q s.heap h'->Q x {s with heap:=h'}):wpAny (model prog w) A (Builtin.SmallTypes.nextOf (.ref q)) Q E s:=by
 cases b with
 | true=>exact wpAny_nextOf_list_item hq hl hx hQ
 | false=> have d:s.heap.IsTupleIter q l k:=hq;obtain⟨f,c,e,a⟩:=id d;obtain⟨ol,gl,_,g,dl⟩:=hl;unfold Builtin.SmallTypes.nextOf;refine AAA (ABK (name:=Str.ofString "__next__") d.typeIs ACZ (AAv ACZ d.typeIs ADd ?_ (ADe _)));show wpAny _ _ (field (.ref q) 0 >>= _) _ _ _;refine AAA (AAl c a (x:= .ref l) rfl ?_);show wpAny _ _ (if (Value.ref l==Value.none)=true then _ else _) _ _ _;rw[AAC (by intro z;cases z)];show wpAny _ _ (field (.ref q) 1 >>= _) _ _ _;refine AAA (AAl c a (x:= .int k 0) rfl ?_);show wpAny _ _ (seqItems? (.ref l) >>= _) _ _ _;refine AAA (AA0 gl dl ?_);simp only[ABf,hx];refine AAA (ACa c a (by simp) (AAD ⟨x,rfl,AAD (hQ _ ?_ (ACb ..))⟩));refine⟨_,ABh _ c (Obj.isFreed_of_fields (ACc a _)),(Obj.cls_mapFields ..).trans e, ?_⟩;rw[ACc a];simp[rawInt]
def GR {b:zq}{q l:zu}{k:Nat}{xs:Array zx}{Q:zx->zw->Prop}(c:A.handled=none)(hq:J3 b s.heap q l k)(hl:KJ b s.heap l xs)(hx:xs[k]? =none)(h:∀h' e,Heap.ExtBut q s.heap h'->(∃o,h'.get? e=some o/\o.cls= .type "StopIteration")->E (.ref e) {s with heap:=h'}):wpAny (model prog w) A (Builtin.SmallTypes.nextOf (.ref q)) Q E s:=by
 cases b with
 | true=>exact wpAny_nextOf_list_end c hq hl hx h
 | false=>
   have d:s.heap.IsTupleIter q l k:=hq;obtain⟨i,f,j,g⟩:=id d;obtain⟨ol,gl,_,n,dl⟩:=hl;unfold Builtin.SmallTypes.nextOf;refine AAA (ABK (name:=Str.ofString "__next__") d.typeIs ACZ (AAv ACZ d.typeIs ADd ?_ (ADe _)));show wpAny _ _ (field (.ref q) 0 >>= _) _ _ _;refine AAA (AAl f g (x:= .ref l) rfl ?_);show wpAny _ _ (if (Value.ref l==Value.none)=true then _ else _) _ _ _;rw[AAC (by intro z;cases z)];show wpAny _ _ (field (.ref q) 1 >>= _) _ _ _;refine AAA (AAl f g (x:= .int k 0) rfl ?_);show wpAny _ _ (seqItems? (.ref l) >>= _) _ _ _;refine AAA (AA0 gl dl ?_);simp only[ABf,hx];refine AAA (ABG (AAA (ACa f g (by simp) ?_)));refine AAA (m:=newExc (.type "StopIteration") []) ?_;simp only[newExc,newTuple];refine AAA (AAw ?_ (by size_fits));refine AAA (m:=firstArgMember _ _) (wpAny_of_eq (a:=Value.none) (by first | rfl|(simp only[firstArgMember];rfl)) (AAw ?_ (by size_fits)));simp only[raiseNew];refine AAA (wpAny_handled ?_);first | rw[show A.in1.handled=none from c] | rw[c]
   exact AAA (AAD (wpAny_throw (h _ _ (((ACb ..).extBut.push _).push _) ⟨_,AAP _ rfl,rfl⟩)))
structure dY (b c:Bool) (z TI TO i j l m:Addr) (k:Nat) (f:Value) (h:Heap):Prop where
 zip:IsZip h z TI TO f
 its:IsPair h TI (.ref i) (.ref j)
 own:∃x y,IsPair h TO x y
 one:J3 b h i l k
 two:J3 c h j m k
def dY.mv {b c:zq}{z TI TO i j l m:zu}{k:Nat}{f:zx}{h h':zl}(Z:dY b c z TI TO i j l m k f h)(e:∀p∈ [z,TI,TO,i,j],∀o,h.get? p=some o->h'.get? p=some o):dY b c z TI TO i j l m k f h':=by obtain⟨a,d,⟨x,y,g⟩,n,r⟩:=Z;exact⟨e z (by simp) _ a,e TI (by simp) _ d,⟨x,y,e TO (by simp) _ g⟩,n.mv (e i (by simp)),r.mv (e j (by simp))⟩
variable {b c:zq}{z TI TO i j l m:zu}{k:Nat}{xs ys:Array zx}
def jq {x y:zx}{Q:zx->zw->Prop}(D:ZipApart z TI TO i j l m)(Z:dY b c z TI TO i j l m k .none s.heap)(hl:KJ b s.heap l xs)(hm:KJ c s.heap m ys)(hx:xs[k]? =some x)(hy:ys[k]? =some y)(hQ:∀h',IsZip h' z TI TO (rawInt s.heap.objs.size)->IsPair h' TI (.ref i) (.ref j)->IsPair h' TO x y->J3 b h' i l (k+1)->J3 c h' j m (k+1)->IsPair h' s.heap.objs.size x y-> (∀p o,p≠z->p≠TO->p≠i->p≠j->s.heap.get? p=some o->h'.get? p=some o)->Q (.ref s.heap.objs.size) {s with heap:=h'}):wpAny (model prog w) A (Builtin.«zip.__next__» ⟨[.ref z], []⟩) (λL s'=>∃v,L= .done (.ret v)/\Q v s') E s:=by
 obtain⟨n,T,⟨x0,M,zo⟩,z1,z2⟩:=Z;show wpAny _ _ (field (.ref z) 2 >>= _) _ _ _;refine AAA (AAl n rfl (x:= .bool false) rfl ?_);show wpAny _ _ (field (.ref z) 3 >>= _) _ _ _;refine AAA (AAl n rfl (x:= .ref TI) rfl (AAA (AA0 T rfl ?_)));refine AAA (m:=Builtin.SmallTypes.ownedTupleIsFree (.ref z)) ?_;unfold Builtin.SmallTypes.ownedTupleIsFree;refine AAA (AAl n rfl (x:= .none) rfl (AAD ?_));simp only[AA3];refine AAA (ABG (AAA (AAl n rfl (x:= .ref TO) rfl (AAA (ABm n (by simp) λg1 N g=> ?_)))));have N:IsZip g1 z TI TO .ellipsis:=N;refine AAA ?_;simp only[List.zipIdx_cons,List.zipIdx_nil,ACW,List.forIn_nil];refine AAA (AAA (ACd ?_));refine AAA (m:=Builtin.SmallTypes.nextOf (.ref i)) (IJ (z1.mv λo=>g.extBut _ o D.i1z) (hl.mv λo=>g.extBut _ o D.l1z) hx λg2 e2 b2=>AAD ?_);have U:IsPair g2 TO x0 M:=b2.extBut _ _ D.TOi1 (g.extBut _ _ D.TOz zo);refine AAA (AA0 U rfl (AAA (ADI U λg3 O h=>AAA (ACe (AAD ?_)))));have O:IsPair g3 TO x M:=O;refine AAA (AAA (ACd ?_));refine AAA (m:=Builtin.SmallTypes.nextOf (.ref j)) (IJ (((z2.mv λo=>g.extBut _ o D.i2z).mv λo=>b2.extBut _ o D.i12.symm).mv λo=>h.extBut _ o D.TOi2.symm)
  (((hm.mv λo=>g.extBut _ o D.l2z).mv λo=>b2.extBut _ o D.l2i1).mv λo=>h.extBut _ o D.l2TO) hy λg4 e4 r=>AAD ?_)
 have W:IsPair g4 TO x M:=r.extBut _ _ D.TOi2 O;refine AAA (AA0 W rfl (AAA (ADI W λa G t=>AAA (ACe (AAD (AAD ?_))))));have G:IsPair a TO x y:=G;refine AAA (AA0 G rfl (AAA (wpAny_newTuple ?_)));have sz:a.objs.size=s.heap.objs.size:=by rw[t.1,r.1,h.1,b2.1,g.1]
 have X:IsZip a z TI TO .ellipsis:=t.extBut _ _ D.TOz.symm (r.extBut _ _ D.i2z.symm (h.extBut _ _ D.TOz.symm (b2.extBut _ _ D.i1z.symm N)));have d:∀p o,p≠z->p≠TO->p≠i->p≠j->s.heap.get? p=some o->a.get? p=some o:=λp o H I P R e=>
  t.extBut _ _ I (r.extBut _ _ R (h.extBut _ _ I (b2.extBut _ _ P (g.extBut _ _ H e))))
 have u:J3 b a i l (k+1):=((e2.mv λo=>h.extBut _ o D.TOi1.symm).mv λo=>r.extBut _ o D.i12).mv λo=>t.extBut _ o D.TOi1.symm;have B:J3 c a j m (k+1):=e4.mv λo=>t.extBut _ o D.TOi2.symm;have C:z<a.objs.size:=AAG X;refine AAA (m:=Builtin.SmallTypes.ownedTupleHandOut (.ref z) (.ref a.objs.size)) ?_;unfold Builtin.SmallTypes.ownedTupleHandOut;have k6:IsZip (a.push {cls:= .type "tuple",data:= .seq #[x,y] }) z TI TO .ellipsis:=AAH _ X;refine AAA (ABm k6 (by simp) λg7 S Y=> ?_);have S:IsZip g7 z TI TO (rawInt a.objs.size):=S;refine ABm S (by simp) λJ K b8=> ?_;have K:IsZip J z TI TO (rawInt a.objs.size):=K;have F:∀p o,p≠z->a.get? p=some o->J.get? p=some o:=λp o q e=>b8.extBut _ _ q (Y.extBut _ _ q (AAH _ e));have f:IsPair J a.objs.size x y:=b8.extBut _ _ (AAx C) (Y.extBut _ _ (AAx C) (AAP _ rfl));rw[sz] at K f;refine AAD ⟨_,rfl, ?_⟩;show Q (.ref a.objs.size) _;rw[sz];exact hQ J K (F _ _ D.TIz (d _ _ D.TIz D.TITO D.TIi1 D.TIi2 T)) (F _ _ D.TOz G) (u.mv λo=>F _ o D.i1z) (B.mv λo=>F _ o D.i2z) f λp o H I P R e=>F p o H (d p o H I P R e)
def nj {Q:Fin->zw->Prop}(B:A.handled=none)(D:ZipApart z TI TO i j l m)(Z:dY b c z TI TO i j l m k .none s.heap)(hl:KJ b s.heap l xs)(M:KJ c s.heap m ys)(N:xs[k]? =none\/ys[k]? =none)(C:∀h' e,(∀p o,p≠z->p≠TO->p≠i->p≠j->s.heap.get? p=some o->h'.get? p=some o)->(∃o,h'.get? e=some o/\o.cls= .type "StopIteration")->E (.ref e) {s with heap:=h'}):wpAny (model prog w) A (Builtin.«zip.__next__» ⟨[.ref z], []⟩) Q E s:=by
 obtain⟨g,O,⟨P,R,S⟩,F,T⟩:=Z;show wpAny _ _ (field (.ref z) 2 >>= _) _ _ _;refine AAA (AAl g rfl (x:= .bool false) rfl ?_);show wpAny _ _ (field (.ref z) 3 >>= _) _ _ _;refine AAA (AAl g rfl (x:= .ref TI) rfl (AAA (AA0 O rfl ?_)));refine AAA (m:=Builtin.SmallTypes.ownedTupleIsFree (.ref z)) ?_;unfold Builtin.SmallTypes.ownedTupleIsFree;refine AAA (AAl g rfl (x:= .none) rfl (AAD ?_));simp only[AA3];refine AAA (ABG (AAA (AAl g rfl (x:= .ref TO) rfl (AAA (ABm g (by simp) λU r a=> ?_)))));have r:IsZip U z TI TO .ellipsis:=r;refine AAA ?_;simp only[List.zipIdx_cons,List.zipIdx_nil,ACW,List.forIn_nil];refine AAA (AAA (ACd ?_));cases hx:xs[k]? with
 | none=>
   refine AAA (m:=Builtin.SmallTypes.nextOf (.ref i)) (GR B (F.mv λo=>a.extBut _ o D.i1z) (hl.mv λo=>a.extBut _ o D.l1z) hx λt e b2 he=> ?_);obtain⟨u,d,h⟩:=he;have G:IsZip t z TI TO .ellipsis:=b2 _ _ D.i1z.symm r;have v:e≠z:=λq=>by subst q;rw[G] at d;cases d;simp at h
   refine ABm G (by simp) λH _ f=>C H e (λp o n _ y _ q=>f.extBut _ _ n (b2 _ _ y (a.extBut _ _ n q))) ⟨u,f.extBut _ _ v d,h⟩
 | some x=>
   have hy:ys[k]? =none:=by
    rcases N with q|q
    .rw [hx] at q;cases q
    .exact q
   refine AAA (m:=Builtin.SmallTypes.nextOf (.ref i)) (IJ (F.mv λo=>a.extBut _ o D.i1z) (hl.mv λo=>a.extBut _ o D.l1z) hx λt e2 b2=>AAD ?_);have I:IsPair t TO P R:=b2.extBut _ _ D.TOi1 (a.extBut _ _ D.TOz S);refine AAA (AA0 I rfl (AAA (ADI I λH o3 f=>AAA (ACe (AAD ?_)))));refine AAA (AAA (ACd ?_));refine AAA (m:=Builtin.SmallTypes.nextOf (.ref j)) (GR B (((T.mv λo=>a.extBut _ o D.i2z).mv λo=>b2.extBut _ o D.i12.symm).mv λo=>f.extBut _ o D.TOi2.symm)
    (((M.mv λo=>a.extBut _ o D.l2z).mv λo=>b2.extBut _ o D.l2i1).mv λo=>f.extBut _ o D.l2TO) hy λW e J he=> ?_)
   obtain⟨u,d,h⟩:=he;have K:IsZip W z TI TO .ellipsis:=J _ _ D.i2z.symm (f.extBut _ _ D.TOz.symm (b2.extBut _ _ D.i1z.symm r));have v:e≠z:=λq=>by subst q;rw[K] at d;cases d;simp at h
   refine ABm K (by simp) λX _ L=>C X e (λp o n Y y q4 q=>L.extBut _ _ n (J _ _ q4 (f.extBut _ _ Y (b2.extBut _ _ y (a.extBut _ _ n q))))) ⟨u,L.extBut _ _ v d,h⟩
end
def Sy (b:zq)(l:zu):Obj:={cls:= .type (match b with | true=>"list_iterator" | false=>"tuple_iterator"),data:= .fields #[.ref l, .int 0 0] }
abbrev zA (b:zq)(h:zl)(l:zu):zl:=h.push (Sy b l)
abbrev zB (b c:zq)(h:zl)(l m:zu):zl:=(zA b h l).push (Sy c m)
abbrev zC (b c:zq)(h:zl)(l m:zu):zl:=(zB b c h l m).push {cls:= .type "tuple",data:= .seq #[.ref h.objs.size, .ref (zA b h l).objs.size] }
abbrev zD (b c:zq)(h:zl)(l m:zu):zl:=(zC b c h l m).push {cls:= .type "tuple",data:= .seq #[.none, .none] }
abbrev zF (b c:zq)(h:zl)(l m:zu):zl:=(zD b c h l m).push {cls:= .type "zip",data:= .fields #[.none, .bool false, .bool false, .ref (zB b c h l m).objs.size, .ref (zC b c h l m).objs.size] }
def Iw {prog:zp}{w:zm}{A:zk}{E:zx->zw->Prop}{h:zl}{g:Array GenState}{d:Drawn}{a:Nat}{os:OsState}{b:zq}{l:zu}{xs:Array zx}{Q:zx->zw->Prop}(hl:KJ b h l xs)(q:Q (.ref h.objs.size) ⟨h.push (Sy b l),g,d,a,os⟩):wpAny (model prog w) A (pyIter (.ref l)) Q E ⟨h,g,d,a,os⟩:=by
 cases b with
 | true=>exact ACY (s:=⟨h,g,d,a,os⟩) hl q
 | false=>exact wpAny_pyIter_tuple (s:=⟨h,g,d,a,os⟩) hl q
def Wb (b c:zq)(l m:zu)(xs ys:Array zx):Meets (Builtin.«zip.__new__» ⟨[.type "zip", .ref l, .ref m], []⟩) (λ_ R s=>KJ b s.heap l xs/\KJ c s.heap m ys/\R (.ok (.ret (.ref (zD b c s.heap l m).objs.size))) {s with heap:=zF b c s.heap l m}):=
 .of_wp λprog w A R s h=>by
   obtain⟨hp,g,d,j,os⟩:=s;obtain⟨hl,a,h⟩:=h;have k:=sub_zip;have f:KJ b hp l xs:=hl;have i:KJ c (hp.push (Sy b l)) m ys:=a.mv λo e=>AAH _ e
   wp_walk using Iw f,Iw i
   exact⟨_,rfl,h⟩
section
variable {prog:zp}{w:zm}{A:zk}{E:zx->zw->Prop}{s:zw}{b c:zq}{l m:zu}{xs ys:Array zx}
def Xs {h:zl}{q:zu}(e:h.get? q=some (Sy b l)):J3 b h q l 0:=by
 cases b with
 | true=>exact⟨_,e,rfl,rfl⟩
 | false=>exact⟨_,e,rfl,rfl⟩
def gU (hl:KJ b s.heap l xs)(r:KJ c s.heap m ys){Q:zx->zw->Prop}(h:∀h',dY b c (s.heap.objs.size+4) (s.heap.objs.size+2) (s.heap.objs.size+3) s.heap.objs.size (s.heap.objs.size+1) l m 0 .none h'->(∀p o,s.heap.get? p=some o->h'.get? p=some o)->Q (.ref (s.heap.objs.size+4)) {s with heap:=h'}):wpAny (model prog w) A (call (.type "zip") [.ref l, .ref m]) Q E s:=by
 refine callType_new F.called_zip (by decide) (F.typeCall_zip_2 _ _) (F.newCall_zip_2 _ _) (λobj=>F.args_object_init_3 obj _ _) F.entry_zip_new (Wb b c l m xs ys) ⟨hl,r, ?_⟩;have a:(zA b s.heap l).objs.size=s.heap.objs.size+1:=ABA ..;have d:(zB b c s.heap l m).objs.size=s.heap.objs.size+2:=by rw[ABA,a]
 have f:(zC b c s.heap l m).objs.size=s.heap.objs.size+3:=by rw[ABA,d]
 have i:(zD b c s.heap l m).objs.size=s.heap.objs.size+4:=by rw[ABA,f]
 have g:(zF b c s.heap l m).get? (zD b c s.heap l m).objs.size=some _:=AAP _ rfl;have j:(zF b c s.heap l m).get? (zC b c s.heap l m).objs.size=some _:=AAH _ (AAP _ rfl);have k:(zF b c s.heap l m).get? (zB b c s.heap l m).objs.size=some _:=AAH _ (AAH _ (AAP _ rfl));have n:(zF b c s.heap l m).get? (zA b s.heap l).objs.size=some (Sy c m):=AAH _ (AAH _ (AAH _ (AAP _ rfl)));have t:(zF b c s.heap l m).get? s.heap.objs.size=some (Sy b l):=AAH _ (AAH _ (AAH _ (AAH _ (AAP _ rfl))));rw[d,f,i] at g;rw[a,d] at k;rw[f] at j;rw[a] at n;show _/\_;rw[i];exact⟨⟨_,g,rfl⟩,h _ ⟨g,k,⟨_,_,j⟩,Xs t,Xs n⟩ λp o e=>AAH _ (AAH _ (AAH _ (AAH _ (AAH _ e))))⟩
end
def Sq (K:AAB):zq->Hp->zu->zy V->Prop
 | true,H,a,xs=>Ee K H a xs
 | false,H,a,xs=>JZ K H a xs
section
variable {X:Cx}{zj:zy (zu×Obj)}{σ:St}{H:Hp}{s:zw}{a:zu}{ys xs:zy V}{b:zq}{h':zl}
def Inv.sq (I:Inv X zj σ H s)(h:Sq X.K b H a xs):∃c:zy zx,Aj xs c/\KJ b s.heap a c.toArray/\xs.length<=sizeLine:=by
 cases b with
 | true=> obtain⟨c,r,p,z⟩:=I.list h;exact⟨c,r,p.isList,z⟩
 | false=> obtain⟨c,r,p,z⟩:=I.tuple h;exact⟨c,r,p,z⟩
def Inv.sq_inj (I:Inv X zj σ H s)(h:Sq X.K b H a xs)(h2:Sq X.K b H a ys):xs=ys:=by
 cases b with
 | true=>exact I.list_inj h h2
 | false=>exact I.tuple_inj h h2
def Inv.turnedL {ch:zy zu}{t':Nat}(I:Inv X zj σ H s)(c:∀p∈ch,Ex X zj H p)(k:∀p o,p ∉ ch->s.heap.get? p=some o->h'.get? p=some o):Inv X zj σ H {s with heap:=h',toks:=t'}:=by
 have d:∀p u,H p=some u->p ∉ ch:=λp u e z=>by rw[(c p z).1] at e;cases e
 refine I.step (g':=s.gens) (d':=s.drawn) (ch:=ch) (λp hp=>⟨(c p hp).2.2.2.1,(c p hp).2.1,(c p hp).2.2.2.2.1,(c p hp).2.2.2.2.2⟩) (λp o _ _ hc e _=>k p o hc e) (λp o _ _ hc e _=>⟨o.slots,k p o hc e⟩)
  (λ_ _ _ _ n=>n) (λp o hc e=>⟨o,k p o hc e⟩) (λ_ _ e=>e) (λ_ _ _ e=>e) (λp i e=>⟨#[],by rw[e];simp⟩) (λm f=> ?_) (λp u e=> ?_) I.bare
 .obtain ⟨o,es,ep,g,r⟩:=f;exact⟨o,es,ep,k _ o (λz=>(c _ z).2.1 rfl) g,r⟩
 .refine (I.hok p u e).stay (λq v hq h=>k q v ?_ h) (λ_ q=>q) λ_ _ q=>q;rcases hq with z|z
  .rw [z];exact d p u e
  .exact d q _ z
def Inv.turnedN {ch:zy zu}{t':Nat}{n:zu}{o:HO}(I:Inv X zj σ H s)(c:∀p∈ch,Ex X zj H p)(j:∀p∈ch,p<s.heap.objs.size)(k:∀p o,p ∉ ch->s.heap.get? p=some o->h'.get? p=some o)(f:s.heap.objs.size<=n)(new:Bn X.prog X.w (upd H n o) h' n o):Inv X zj σ (upd H n o) {s with heap:=h',toks:=t'}:=by
 have g:Inv X zj σ H {s with heap:=h',toks:=t'}:=I.turnedL c k;have d:H n=none:=I.hok.fresh f;have hx:∀p u,s.heap.get? p=some u->p≠n:=λp u e=>AAM (AAS (AAG e) f);refine I.step (g':=s.gens) (d':=s.drawn) (ch:=ch) (λp hp=>⟨(c p hp).2.2.2.1,(c p hp).2.1,(c p hp).2.2.2.2.1,(c p hp).2.2.2.2.2⟩) (λp o _ _ hc e _=>k p o hc e) (λp o _ _ hc e _=>⟨o.slots,k p o hc e⟩)
  (λp u _ e z=>by rw[AZ (hx p u e)];exact z) (λp o hc e=>⟨o,k p o hc e⟩) (λp xs e=>by rw[AZ (Af e d)];exact e) (λp o xs e=>by rw[AZ (Af e d)];exact e)
  (λp l e=>⟨#[],by rw[AZ (Af e d),e];simp⟩) (λm h=> ?_) (λp u e=> ?_) I.bare
 .obtain ⟨o,es,ep,i,r⟩:=h;exact⟨o,es,ep,k _ o (λz=>(c _ z).2.1 rfl) i,r⟩
 .by_cases hp:p=n
  .subst hp;rw[AX] at e;cases e;exact new
  .rw [AZ hp] at e;exact(g.hok p u e).stay (λ_ _ _ q=>q) (λq hq=>by rw[AZ (Af hq d)];exact hq) λq xs hq=>by rw[AZ (Af hq d)];exact hq
end
def ka (K:AAB)(b c:zq)(l m:zu):It:=
 ⟨λi H=>∃xs ys x y,Sq K b H l xs/\Sq K c H m ys/\xs[i]? =some x/\ys[i]? =some y,
  λi H v a=>∃T x y,v= .ref T/\H T=none/\a=upd H T (.tup [x,y])/\(∀xs,Sq K b H l xs->xs[i]? =some x)/\∀ys,Sq K c H m ys->ys[i]? =some y,
  λi H=>∃xs ys,Sq K b H l xs/\Sq K c H m ys/\(xs.length<=i\/ys.length<=i)⟩
def ZM {P:zp}{w:zm}{K:AAB}{es:zy zr}{N:Nat}{r:Pos}{b c:zq}{z TI TO i j l m:zu}(D:ZipApart z TI TO i j l m):J5 P w K (.Tuple es N r) (ka K b c l m) [z,TI,TO,i,j] z (λk h=>dY b c z TI TO i j l m k .none h) where
 mem:=by simp
 obj:=λk h Z p hp=>by
  have a:p=z\/p=TI\/p=TO\/p=i\/p=j:=by simpa using hp
  rcases a with e|e|e|e|e
  .subst e;exact⟨_,Z.zip,λv q=>nomatch q⟩
  .subst e;exact⟨_,Z.its,λv q=>nomatch q⟩
  .subst e;obtain⟨x,y,q⟩:=Z.own;exact⟨_,q,λv q=>nomatch q⟩
  .subst e;exact Z.one.obj
  .subst e;exact Z.two.obj
 keep:=λk h h' Z e=>Z.mv e
 item:=by
  intro X t hw A hc k L s M H E I g Z B;subst t hw A;obtain⟨xs,ys,x,y,hl,n,hx,hy⟩:=B;obtain⟨us,C,G,_⟩:=I.sq hl;obtain⟨vs,rv,sv,_⟩:=I.sq n;obtain⟨u,hu,O⟩:=C.get hx;obtain⟨v,hv,Q⟩:=rv.get hy;have f:s.TypeIs (.ref z) "zip" :=⟨_,Z.zip,rfl⟩;unfold pyNext;refine AAA (ACf (ABK (name:=Str.ofString "__next__") f ACg (AAv ACg f F.entry_zip_next
   (jq D Z G sv (x:=u) (y:=v) (by simpa using hu) (by simpa using hv) λh1 R S U W Y a6 a7=>AAD ?_) (F.args_zip_next_1 _))))
  refine⟨_,rfl,wpAny_letOwnedTupleGo_zip (s:={s with heap:=h1}) R λh2 c1 c2=> ?_⟩;have J:∀p∈ [z,TI,TO,i,j],p<s.heap.objs.size:=λp hp=>by
   have a:p=z\/p=TI\/p=TO\/p=i\/p=j:=by simpa using hp
   rcases a with e|e|e|e|e
   .subst e;exact AAG Z.zip
   .subst e;exact AAG Z.its
   .subst e;obtain⟨x,y,q⟩:=Z.own;exact AAG q
   .subst e;obtain⟨o,q,_⟩:=Z.one.obj;exact AAG q
   .subst e;obtain⟨o,q,_⟩:=Z.two.obj;exact AAG q
  have d:∀p o,p≠z->h1.get? p=some o->h2.get? p=some o:=λp o q e=>c2.extBut _ _ q e;have kp:∀p o,p ∉ [z,TI,TO,i,j] ->s.heap.get? p=some o->h2.get? p=some o:=λp o hp e=>by
   have a:p≠z/\p≠TI/\p≠TO/\p≠i/\p≠j:=by simpa using hp
   exact d p o a.1 (a7 p o a.1 a.2.2.1 a.2.2.2.1 a.2.2.2.2 e)
  have sj:s.heap.objs.size≠z:=AAx (J z (by simp));have I2:Inv X L M (upd H s.heap.objs.size (.tup [x,y])) {s with heap:=h2,toks:=s.toks}:=I.turnedN g J kp (AAI _)
   ⟨(by show 2<=sizeLine;decide), [u,v], .cons O (.cons Q .nil),⟨_,d _ _ sj a6,rfl,_,rfl⟩⟩
  have Ss:H s.heap.objs.size=none:=I.fresh;refine⟨.ref s.heap.objs.size,upd H s.heap.objs.size (.tup [x,y]),I2,rfl,⟨_,x,y,rfl,Ss,rfl,λxs' h'=> ?_,λys' h'=> ?_⟩, ?_,λp hp=> ?_⟩
  .rw [I.sq_inj h' hl];exact hx
  .rw [I.sq_inj h' n];exact hy
  .exact ⟨c1,d _ _ D.TIz S,⟨_,_,d _ _ D.TOz U⟩,W.mv λo=>d _ o D.i1z,Y.mv λo=>d _ o D.i2z⟩
  .rw [AZ (AAM (J p hp))];exact(g p hp).1
 done:=by
  intro X t hw A hc k L s M H E I g Z B;subst t hw A;obtain⟨xs,ys,hl,n,he⟩:=B;obtain⟨us,C,G,_⟩:=I.sq hl;obtain⟨vs,rv,sv,_⟩:=I.sq n;have e1:=C.length;have e2:=rv.length;have d5:us.toArray[k]? =none\/vs.toArray[k]? =none:=by
   rcases he with q|q
   .exact .inl (by simp;omega)
   .exact .inr (by simp;omega)
  have f:s.TypeIs (.ref z) "zip" :=⟨_,Z.zip,rfl⟩;unfold pyNext;refine AAA (ACf (ABK (name:=Str.ofString "__next__") f ACg (AAv ACg f F.entry_zip_next
   (nj (I.ok.hd hc) D Z G sv d5 λh1 e hk he=> ?_) (F.args_zip_next_1 _))))
  obtain⟨o,ho,rY⟩:=he;refine AAA (ABb (T:="StopIteration") (b:=true) ⟨o,ho,rY⟩ isSubtype_stop (AAD ⟨rfl, ?_⟩));exact I.turnedL (t':=s.toks) g λp o hp e=>by
   have a:p≠z/\p≠TI/\p≠TO/\p≠i/\p≠j:=by simpa using hp
   exact hk p o a.1 a.2.2.1 a.2.2.2.1 a.2.2.2.2 e
 self:=λ_ _ _ _ _ Z h=>wpAny_pyIter_zip Z.zip h
structure Has (P:Program) (w:World) (K:AAB) (mg:Str->Option Value) (base:Heap) (k:Nat) (x:Str) (ps:List Str) (sp:Sp):Prop where
 ex:∃f fd,mg x=some (.ref f)/\PySem.W.keepIn K (.ref f)=true/\Binds K fd ps [] /\D8 P w K mg base P5 k f fd ps sp
def Has.mono {P:zp}{w:zm}{K:AAB}{mg:Str->zt zx}{base:zl}{j k:Nat}{x:Str}{e:zy Str}{sp:Sp}(h:Has P w K mg base j x e sp)(hk:j<=k):Has P w K mg base k x e sp:=by obtain⟨f,g,a,b,c,d⟩:=h.ex;exact⟨f,g,a,b,c,d.mono hk⟩
section
variable {X:Cx}{x:Str}{p pos:Pos}{e:zr}{es:zy zr}{t:TA}{k:Nat}{ps:zy Str}{sp:Sp}
def fP (D:Has X.prog X.w X.K X.mg X.base k x ps sp)(a:Room k X.A)(b:Gl X x)(ha:PA X (e::es) t)(hs:starEach (e::es) X.env=(false,eval e X.env)::starEach es X.env:=by rfl)(hpl:(backTo pos (starEach es X.env)).any (·.1)=false:=by rfl)(hd:(x==("__debug__" :Str))=false:=by decide):PE X (.Call (.Name x p) (e::es) [] pos) (c7 sp [] E0 t):=by obtain⟨f,h,c,d,g,G⟩:=D.ex;exact bA G a b c d g .nil jB ha (hdb:=hd) (he:=hs) (hpl:=hpl)
end
section
variable {X:Cx}{tg elt:zr}{ifs:zy zr}{scope:Scope}{own:Nat}{ix:zy Nat}{N:zy Str}{g:TG}{tt:TT}{te:TE}
def SY (X:Cx)(sc:Scope)(own:Nat)(ix:zy Nat)(N:zy Str):zq:=
 (List.range ix.length).all λj=>match ix[j]? with
   | none=>false
   | some i=>match N[own+j]?,X.N[i]? with
     | some x,some y=>decide (x=y)&&decide (X.env.scope.names.lookup x=some .cell)&&decide (sc.names.lookup x=some .cell)
     | _,_=>false
def XV {sc:Scope}(h1:N.length=own+ix.length)(h2:SY X sc own ix N=true):P9 X sc own ix N:=by
 refine⟨h1,λj i hj=> ?_⟩;have c:j<ix.length:=(AAp.mp hj).1;have h:=ABj.mp h2 j (ACP.mpr c);rw[hj] at h;dsimp only at h;cases a:N[own+j]? with
 | none=>rw[a] at h;simp at h
 | some x=>
   cases b:X.N[i]? with
   | none=>rw[a,b] at h;simp at h
   | some y=> rw[a,b] at h;simp only[AAn,AB5] at h;obtain⟨⟨d,e⟩,f⟩:=h;subst d;exact⟨x,rfl,rfl,e,f⟩
def US (h1:scope.kind= .function)(h2:(scope.names.all λy=> !decide (y.2= .cell))=true)(c:(scope.names.all λy=> !decide (y.2= .local)||decide (scope.names.lookup y.1=some .local))=true)(d:(scope.names.all λy=> !decide (y.2= .free)||decide (X.env.scope.names.lookup y.1=some .cell))=true)(f:N.length=own+ix.length)(h:SY X (relabel scope X.env) own ix N=true)(hk:Gq own g)(a:∀cl C s H ex pn,PG (blk X (relabel scope X.env) N cl C s H ex pn) tg g)(b:∀cl C s H ex pn,ZX (blk X (relabel scope X.env) N cl C s H ex pn) ifs tt)(val:∀cl C s H ex pn,PE (blk X (relabel scope X.env) N cl C s H ex pn) elt te):Eu X tg elt ifs scope own ix N g tt te:=by
 refine⟨h1,λy hy e=> ?_,λy hy e=> ?_,λy hy e=> ?_,XV f h,hk,a,b,val⟩
 .have:=ABj.mp h2 y hy;simp[e] at this
 .have:=ABj.mp c y hy;simpa[e] using this
 .have:=ABj.mp d y hy;simpa[e] using this
end
def IC.new {H:Hp}{p:zu}{o:HO}(h:H p=none):IC H (upd H p o):=λb u q=>by rw[AZ (Af q h)];exact q
def Zj (p:zu)(H a:Hp):Prop:=∀b o,b≠p->H b=some o->a b=some o
def Zj.refl {p:zu}{H:Hp}:Zj p H H:=λ_ _ _ h=>h
def Zj.trans {p:zu}{H H1 d:Hp}(a:Zj p H H1)(b:Zj p H1 d):Zj p H d:=λc o n h=>b c o n (a c o n h)
def IC.but {p:zu}{H H1:Hp}(a:IC H H1):Zj p H H1:=λc o _ h=>a c o h
def Zj.upd {p:zu}{H:Hp}{o:HO}:Zj p H (upd H p o):=λb u n q=>by rw[AZ n];exact q
end L2
namespace PL
open PySem PySem.Spec PyProof.Rows L2
inductive PV where
 | non|bl (b:Bool)|int (i:Int)|str (x:Str)|ty (n:String)
 | tup (xs:List PV)|lst (xs:List PV)|tape|scr (ns:List Int)|dct (kvs:List (FK×Int))|dk (kvs:List (Int×Int))
def EX (H:Hp)(p:zu):Prop:=∃d x:Int,H p=some (.lst [.int d, .int x])/\0<=d/\0<=x/\x<2147483647
def J2 (o:HO):Prop:=(∀vs,o≠ .tup vs)/\∀q u,o≠ .frz q u
def J2.lst {xs:zy V}:J2 (.lst xs):=⟨(λ_ e=>nomatch e),(λ_ _ e=>nomatch e)⟩
def EX.mut {H:Hp}{p:zu}(h:EX H p):∃o,H p=some o/\J2 o:=by obtain⟨d,x,e,_⟩:=h;exact⟨_,e,J2.lst⟩
def jy (K:AAB)(H:Hp)(a:zu)(xs:zy V):Prop:=H a=some (.tup xs)\/∃(o:Obj) (b:Array zx) (n:Nat),K.lookup a=some o/\o.cls= .type "tuple" /\o.data= .seq b n/\b.size<=sizeLine/\Aj xs b.toList
def jy.sq {K:AAB}{H:Hp}{a:zu}{xs:zy V}(h:jy K H a xs):JZ K H a xs:=h.elim (λz=> .inl (.inl z)) .inr
def Bo (kvs:zy (FK×Int)):zy (FK×V):=kvs.map λp=>(p.1,V.int p.2)
def HG (kvs:zy (Int×Int)):zy (CK×V):=kvs.map λp=>(.inl p.1,V.int p.2)
mutual
inductive Bs (K:AAB) (T M:Addr->Prop) (H:Hp):V->PV->Prop where
 | non:Bs K T M H .non .non
 | bl (b:Bool):Bs K T M H (.bl b) (.bl b)
 | int (i:Int):Bs K T M H (.int i) (.int i)
 | str (x:Str):Bs K T M H (.str x) (.str x)
 | ty (n:String):Bs K T M H (.ty n) (.ty n)
 | tup {a:Addr} {vs:List V} {xs:List PV} (h:jy K H a vs) (r:An K T M H vs xs):Bs K T M H (.ref a) (.tup xs)
 | lst {a:Addr} {vs:List V} {xs:List PV} (h:H a=some (.lst vs)) (t:¬T a) (m:¬M a) (r:An K T M H vs xs):Bs K T M H (.ref a) (.lst xs)
 | tape {a:Addr} (t:T a):Bs K T M H (.ref a) .tape
 | dct {a:Addr} {kvs:List (FK×Int)} (h:H a=some (.dN K (Bo kvs))) (t:¬T a) (m:¬M a):Bs K T M H (.ref a) (.dct kvs)
 | dk {a:Addr} {o:Obj} {es:Array DictEntry} {ep:Nat} {kvs:List (Int×Int)} (h:H a=some (.frz o (.dK (HG kvs)))) (e:o.data= .dict es ep):Bs K T M H (.ref a) (.dk kvs)
 | scr {a:Addr} {ns:List Int} (h:(Rd H a (.lst (ns.map V.int))/\¬T a/\¬M a)\/∀H,Ee K H a (ns.map V.int)):Bs K T M H (.ref a) (.scr ns)
inductive An (K:AAB) (T M:Addr->Prop) (H:Hp):List V->List PV->Prop where
 | nil:An K T M H [] []
 | cons {v:V} {x:PV} {vs:List V} {xs:List PV} (h:Bs K T M H v x) (t:An K T M H vs xs):An K T M H (v::vs) (x::xs)
end
structure Fv (T M:Addr->Prop) (H:Hp):Prop where
 tp:∀a,T a->EX H a
 mu:∀a,M a->∃o,H a=some o/\J2 o
def Fv.noFrz {T M:zu->Prop}{H:Hp}(v:Fv T M H){a:zu}{q:Obj}{u:HO}(r:H a=some (.frz q u)):¬T a/\¬M a:=by
 refine⟨λz=> ?_,λz=> ?_⟩
 .obtain ⟨o,e,_,n⟩:=(v.tp a z).mut;rw[r] at e;cases e;exact n _ _ rfl
 .obtain ⟨o,e,_,n⟩:=v.mu a z;rw[r] at e;cases e;exact n _ _ rfl
def Fv.noTup {T M:zu->Prop}{H:Hp}(v:Fv T M H){a:zu}{vs:zy V}(r:Rd H a (.tup vs)):¬T a/\¬M a:=by
 have go:∀o,H a=some o->J2 o->False:=λo e m=>by
  rcases r with r|⟨q,r⟩
  .rw [e] at r;cases r;exact m.1 _ rfl
  .rw [e] at r;cases r;exact m.2 _ _ rfl
 exact⟨λt=>let ⟨o,e,m⟩:=(v.tp a t).mut;go o e m,λt=>let ⟨o,e,m⟩:=v.mu a t;go o e m⟩
structure Mv (K:AAB) (T M:Addr->Prop) (H:Hp) (T' M':Addr->Prop) (H':Hp):Prop where
 va:Fv T M H
 keep:∀b o,¬T b->¬M b->H b=some o->H' b=some o
 sub:∀b,T b->T' b
 tn:∀b,H b≠none->T' b->T b
 mn:∀b,H b≠none->M' b->M b
def Uy {H:Hp}{a:zu}{u:HO}(r:Rd H a u):H a≠none:=by rcases r with r|⟨o,r⟩ <;> rw[r] <;> exact λe=>nomatch e
def jQ {H b:Hp}{a:zu}{u:HO}(r:Rd H a u)(k:∀o,H a=some o->b a=some o):Rd b a u:=by
 rcases r with r|⟨o,r⟩
 .exact .inl (k _ r)
 .exact .inr ⟨o,k _ r⟩
section
variable {K:AAB}{T M T' M':zu->Prop}{H H':Hp}
mutual
theorem Bs.mv (m:Mv K T M H T' M' H'):∀{v:V} {x:PV},Bs K T M H v x->Bs K T' M' H' v x
 | _,_, .non=> .non
 | _,_, .bl b=> .bl b
 | _,_, .int i=> .int i
 | _,_, .str x=> .str x
 | _,_, .ty n=> .ty n
 | _,_, .tup (a:=a) (vs:=vs) h r=>by
   refine .tup (vs:=vs) ?_ (An.mv m r);rcases h with h|h
   .obtain ⟨t,u⟩:=m.va.noTup (.inl h);exact .inl (m.keep _ _ t u h)
   .exact .inr h
 | _,_, .lst (a:=a) h t u r=> .lst (m.keep _ _ t u h) (λz=>t (m.tn a (by rw[h];exact λe=>nomatch e) z)) (λz=>u (m.mn a (by rw[h];exact λe=>nomatch e) z)) (An.mv m r)
 | _,_, .tape t=> .tape (m.sub _ t)
 | _,_, .dct (a:=a) h t u=> .dct (m.keep _ _ t u h) (λz=>t (m.tn a (by rw[h];exact λe=>nomatch e) z)) (λz=>u (m.mn a (by rw[h];exact λe=>nomatch e) z))
 | _,_, .dk h e=>by obtain⟨t,u⟩:=m.va.noFrz h;exact .dk (m.keep _ _ t u h) e
 | _,_, .scr (a:=a) (.inl ⟨h,t,u⟩)=> .scr (.inl ⟨jQ h λo e=>m.keep _ o t u e,λz=>t (m.tn a (Uy h) z),λz=>u (m.mn a (Uy h) z)⟩)
 | _,_, .scr (.inr h)=> .scr (.inr h)
theorem An.mv (m:Mv K T M H T' M' H'):∀{vs:zy V} {xs:zy PV},An K T M H vs xs->An K T' M' H' vs xs
 | _,_, .nil=> .nil
 | _,_, .cons h t=> .cons (Bs.mv m h) (An.mv m t)
end
end
def An.length {K:AAB}{T M:zu->Prop}{H:Hp}:∀{vs:zy V} {xs:zy PV},An K T M H vs xs->vs.length=xs.length
 | _,_, .nil=>rfl
 | _,_, .cons _ t=>by simp[t.length]
theorem An.get {K:AAB}{T M:zu->Prop}{H:Hp}:∀{vs:zy V} {xs:zy PV} {i:Nat} {x:PV},An K T M H vs xs->xs[i]? =some x->∃v,vs[i]? =some v/\Bs K T M H v x
 | _,_,_,_, .nil,e=>by simp at e
 | _,_,0,_, .cons h _,e=>by simp at e;subst e;exact⟨_,rfl,h⟩
 | _,_,i+1,x, .cons _ t,e=>by obtain⟨u,h1,h2⟩:=An.get (i:=i) (x:=x) t (by simpa using e);exact⟨u,by simpa using h1,h2⟩
def An.get' {K:AAB}{T M:zu->Prop}{H:Hp}{vs:zy V}{xs:zy PV}{i:Nat}{v:V}(h:An K T M H vs xs)(e:vs[i]? =some v):∃x,xs[i]? =some x/\Bs K T M H v x:=by have hl:=h.length;have hi:i<vs.length:=(AAp.mp e).1;obtain⟨w,a,r⟩:=h.get (i:=i) (x:=xs[i]'(by omega)) (AAT (by omega));rw[e] at a;cases a;exact⟨_,AAT (by omega),r⟩
def An.append {K:AAB}{T M:zu->Prop}{H:Hp}:∀{vs a:zy V} {xs ys:zy PV},An K T M H vs xs->An K T M H a ys->An K T M H (vs++a) (xs++ys)
 | _,_,_,_, .nil,s=>s
 | _,_,_,_, .cons h t,s=> .cons h (t.append s)
def An.take {K:AAB}{T M:zu->Prop}{H:Hp}:∀{vs:zy V} {xs:zy PV} (n:Nat),An K T M H vs xs->An K T M H (vs.take n) (xs.take n)
 | _,_,0,_=> .nil
 | _,_,_+1, .nil=> .nil
 | _,_,n+1, .cons r t=> .cons r (t.take n)
def An.drop {K:AAB}{T M:zu->Prop}{H:Hp}:∀{vs:zy V} {xs:zy PV} (n:Nat),An K T M H vs xs->An K T M H (vs.drop n) (xs.drop n)
 | _,_,0,r=>r
 | _,_,_+1, .nil=> .nil
 | _,_,n+1, .cons _ t=>t.drop n
theorem An.set {K:AAB}{T M:zu->Prop}{H:Hp}{v:V}{x:PV}(r:Bs K T M H v x):∀{vs:zy V} {xs:zy PV} (i:Nat),An K T M H vs xs->An K T M H (vs.set i v) (xs.set i x)
 | _,_,_, .nil=> .nil
 | _,_,0, .cons _ t=> .cons r t
 | _,_,i+1, .cons q t=> .cons q (An.set r i t)
def An.nil_iff {K:AAB}{T M:zu->Prop}{H:Hp}{vs:zy V}{xs:zy PV}(h:An K T M H vs xs):vs= [] ↔xs= [] :=by cases h <;> simp
def An.reverse {K:AAB}{T M:zu->Prop}{H:Hp}{vs:zy V}{xs:zy PV}(h:An K T M H vs xs):An K T M H vs.reverse xs.reverse:=by
 induction vs generalizing xs with
 | nil=>cases h;exact .nil
 | cons v vs ih=>
   cases h with
   | cons h t=>rw[ACV,ACV];exact(ih t).append (.cons h .nil)
structure Ct (T:Addr->Prop) (H:Hp) (T':Addr->Prop) (H':Hp):Prop where
 keep:∀b o,¬T b->H b=some o->H' b=some o
 sub:∀b,T b->T' b
 new:∀b,T' b->T b\/H b=none
 tp:∀a,T' a->EX H' a
def Ct.refl {T:zu->Prop}{H:Hp}(h:∀a,T a->EX H a):Ct T H T H:=⟨λ_ _ _ e=>e,λ_ e=>e,λ_ e=> .inl e,h⟩
def Ct.some {T c:zu->Prop}{H a:Hp}(s:Ct T H c a){b:zu}(h:H b≠none):a b≠none:=by
 by_cases t:T b
 .obtain ⟨o,e,_⟩:=(s.tp b (s.sub b t)).mut;rw[e];exact λe=>nomatch e
 .cases e:H b with
  | none=>exact absurd e h
  | some o=>rw[s.keep b o t e];exact λe=>nomatch e
def Ct.none {T c:zu->Prop}{H a:Hp}(s:Ct T H c a){b:zu}(h:a b=none):H b=none:=by
 cases e:H b with
 | none=>rfl
 | some o=>exact absurd h (s.some (by rw[e];exact λe=>nomatch e))
def Ct.trans {T d f:zu->Prop}{H H1 g:Hp}(a:Ct T H d H1)(b:Ct d H1 f g):Ct T H f g where
 keep:=λc o t e=>b.keep c o (λz=>(a.new c z).elim t λn=>by rw[n] at e;cases e) (a.keep c o t e)
 sub:=λc t=>b.sub c (a.sub c t)
 new:=λc t=>(b.new c t).elim (λz=>a.new c z) λz=> .inr (a.none z)
 tp:=b.tp
def Ct.lay {T:zu->Prop}{H:Hp}{p:zu}{o:HO}(h:∀a,T a->EX H a)(hp:H p=Option.none):Ct T H T (upd H p o) where
 keep:=λb u _ e=>by rw[AZ (Af e hp)];exact e
 sub:=λ_ t=>t
 new:=λ_ t=> .inl t
 tp:=λa t=>by obtain⟨d,x,e,z⟩:=h a t;exact⟨d,x,by rw[AZ (Af e hp)];exact e,z⟩
def Ct.mv {K:AAB}{T a M:zu->Prop}{H c:Hp}(s:Ct T H a c)(v:Fv T M H):Mv K T M H a M c where
 va:=v
 keep:=λb o t _ e=>s.keep b o t e
 sub:=s.sub
 tn:=λb n t=>(s.new b t).elim id λz=>absurd z n
 mn:=λ_ _ z=>z
def Fv.stp {T b M:zu->Prop}{H c:Hp}(v:Fv T M H)(s:Ct T H b c)(d:∀a,M a->¬T a):Fv b M c:=
 ⟨s.tp,λa m=>let ⟨o,e,q⟩:=v.mu a m;⟨o,s.keep a o (d a m) e,q⟩⟩
def Bs.stp {K:AAB}{T a M:zu->Prop}{H b:Hp}{v:V}{x:PV}(r:Bs K T M H v x)(s:Ct T H a b)(va:Fv T M H):Bs K a M b v x:=r.mv (s.mv va)
def An.stp {K:AAB}{T a M:zu->Prop}{H b:Hp}{v:zy V}{x:zy PV}(r:An K T M H v x)(s:Ct T H a b)(va:Fv T M H):An K a M b v x:=r.mv (s.mv va)
def Mv.anti {K:AAB}{T M c:zu->Prop}{H:Hp}(v:Fv T M H)(h:∀a,c a->M a):Mv K T M H T c H:=⟨v,λ_ _ _ _ e=>e,λ_ t=>t,λ_ _ t=>t,λb _ t=>h b t⟩
inductive AV where
 | val (x:PV)
 | own (xs:List PV)
abbrev Ay:=zy (zt AV)
structure CZ where
 T:Addr->Prop
 H:Hp
 M:Addr->Prop
def CZ.add (B:CZ)(p:zu):CZ:=⟨B.T,B.H,λa=>B.M a\/a=p⟩
def CW (a:L2.St)(τ:Ay)(p:zu):Prop:=∃(i:Nat) (xs:zy PV),τ[i]? =some (some (.own xs))/\a[i]? =some (some (.ref p))
def mt (B:CZ)(a:L2.St)(τ:Ay)(p:zu):Prop:=B.M p\/CW a τ p
structure SR (K:AAB) (B:CZ) (T:Addr->Prop) (H:Hp) (σ:L2.St) (τ:Ay):Prop where
 len:σ.length=τ.length
 val:∀(i:Nat) (x:PV),τ[i]? =some (some (.val x))->∃v,σ[i]? =some (some v)/\Bs K T (mt B σ τ) H v x
 own:∀(i:Nat) (xs:List PV),τ[i]? =some (some (.own xs))->∃p vs,σ[i]? =some (some (.ref p))/\H p=some (.lst vs)/\An K T (mt B σ τ) H vs xs/\B.H p=none/\¬T p/\¬B.M p
 dist:∀(i j:Nat) (xs ys:List PV) (p:Addr),τ[i]? =some (some (.own xs))->τ[j]? =some (some (.own ys))->σ[i]? =some (some (.ref p))->σ[j]? =some (some (.ref p))->i=j
 tp:∀a,T a->EX H a
 bm:∀a,B.M a->∃o,H a=some o/\J2 o
 bt:∀a,B.M a->¬T a
 st:Ct B.T B.H T H
section
variable {K:AAB}{B:CZ}{T T':zu->Prop}{H H':Hp}{σ:L2.St}{τ:Ay}
def SR.ownH (s:SR K B T H σ τ){p:zu}(o:CW σ τ p):∃vs,H p=some (.lst vs)/\B.H p=none/\¬T p/\¬B.M p:=by obtain⟨i,xs,h1,h2⟩:=o;obtain⟨q,vs,e,h,_,b,t,m⟩:=s.own i xs h1;rw[h2] at e;cases e;exact⟨vs,h,b,t,m⟩
def SR.va (s:SR K B T H σ τ):Fv T (mt B σ τ) H:=⟨s.tp,λa m=>m.elim (s.bm a) λo=>let ⟨vs,h,_⟩:=s.ownH o;⟨_,h,J2.lst⟩⟩
def SR.nt (s:SR K B T H σ τ){a:zu}(m:mt B σ τ a):¬T a:=m.elim (s.bt a) λo=>let ⟨_,_,_,t,_⟩:=s.ownH o;t
def SR.stp (s:SR K B T H σ τ)(p:Ct T H T' H'):SR K B T' H' σ τ where
 len:=s.len
 val:=λi x e=>let ⟨v,h,r⟩:=s.val i x e;⟨v,h,r.stp p s.va⟩
 own:=λi xs e=>by obtain⟨q,vs,c,h,r,b,t,m⟩:=s.own i xs e;exact⟨q,vs,c,p.keep _ _ t h,r.stp p s.va,b,(λz=>(p.new q z).elim t λn=>by rw[n] at h;cases h),m⟩
 dist:=s.dist
 tp:=p.tp
 bm:=λa m=>let ⟨o,e,q⟩:=s.bm a m;⟨o,p.keep a o (s.bt a m) e,q⟩
 bt:=λa m z=>by obtain⟨o,e,_⟩:=s.bm a m;exact(p.new a z).elim (s.bt a m) λn=>by rw[n] at e;cases e
 st:=s.st.trans p
def SR.add {p:zu}{o:HO}(s:SR K B T H σ τ)(q:Ct T H T' H')(f:H p=none)(k:H' p=some o)(l:J2 o)(u:¬T' p):SR K (B.add p) T' H' σ τ:=by
 have c:=s.stp q;have g:Mv K T (mt B σ τ) H T' (mt (B.add p) σ τ) H':=⟨s.va,λb o t _ e=>q.keep b o t e,q.sub,λb n t=>(q.new b t).elim id λz=>absurd z n,λb n z=>by
  rcases z with(z|z)|z
  .exact .inl z
  .subst z;exact absurd f n
  .exact .inr z⟩
 refine⟨s.len,λi x e=> ?_,λi xs e=> ?_,s.dist,c.tp,λa m=> ?_,λa m=> ?_,c.st⟩
 .obtain ⟨v,h,r⟩:=s.val i x e;exact⟨v,h,r.mv g⟩
 .obtain ⟨a,vs,j,h,r,b,t,m⟩:=s.own i xs e;obtain⟨y,w,d,h',_,A,t',C⟩:=c.own i xs e;rw[j] at d;cases d;rw[q.keep _ _ t h] at h';cases h';refine⟨a,vs,j,q.keep _ _ t h,r.mv g,b,t',λz=> ?_⟩;rcases z with z|z
  .exact m z
  .subst z;rw[f] at h;cases h
 .rcases m with m|m
  .exact c.bm a m
  .subst m;exact⟨o,k,l⟩
 .rcases m with m|m
  .exact c.bt a m
  .subst m;exact u
def SR.drop {p:zu}(s:SR K (B.add p) T H σ τ):SR K B T H σ τ:=by have c:Mv K T (mt (B.add p) σ τ) H T (mt B σ τ) H:= .anti s.va λa m=>m.elim (λz=> .inl (.inl z)) .inr;refine⟨s.len,λi x e=>let ⟨v,h,r⟩:=s.val i x e;⟨v,h,r.mv c⟩,λi xs e=> ?_,s.dist,s.tp,λa m=>s.bm a (.inl m),λa m=>s.bt a (.inl m),s.st⟩;obtain⟨a,vs,d,h,r,b,t,m⟩:=s.own i xs e;exact⟨a,vs,d,h,r.mv c,b,t,λz=>m (.inl z)⟩
end
def Z9:zt AV->zt AV
 | some (.own xs)=>some (.val (.lst xs))
 | o=>o
def frz (τ:Ay):Ay:=τ.map Z9
def Ua {τ:Ay}{i:Nat}:(frz τ)[i]? =(τ[i]?).map Z9:=by simp[frz]
def aA {τ:Ay}{i:Nat}{x:PV}(h:(frz τ)[i]? =some (some (.val x))):τ[i]? =some (some (.val x))\/∃xs,x= .lst xs/\τ[i]? =some (some (.own xs)):=by
 rw[Ua] at h;cases e:τ[i]? with
 | none=>rw[e] at h;cases h
 | some o=>
   rw[e] at h;cases o with
   | none=>cases h
   | some a=>
     cases a with
     | val y=>cases h;exact .inl rfl
     | own xs=>cases h;exact .inr ⟨xs,rfl,rfl⟩
def OM {τ:Ay}{i:Nat}{xs:zy PV}:(frz τ)[i]? ≠some (some (.own xs)):=by
 rw[Ua];cases e:τ[i]? with
 | none=>exact λz=>nomatch z
 | some o=>
   cases o with
   | none=>exact λz=>nomatch z
   | some a=>cases a <;> exact λz=>nomatch z
def RD {a:L2.St}{τ:Ay}{p:zu}:¬CW a (frz τ) p:=λ⟨_,_,h,_⟩=>OM h
section
variable {K:AAB}{B:CZ}{T T':zu->Prop}{H H':Hp}{σ:L2.St}{τ:Ay}
def SR.frz (s:SR K B T H σ τ):SR K B T H σ (frz τ):=by
 have d:Mv K T (mt B σ τ) H T (mt B σ (PL.frz τ)) H:= .anti s.va λa m=>m.elim .inl λz=>absurd z RD;refine⟨by simp[PL.frz,s.len],λi x e=> ?_,λi xs e=>absurd e OM,λi j xs ys p e=>absurd e OM,s.tp,s.bm,s.bt,s.st⟩;rcases aA e with c|⟨xs,f,c⟩
 .obtain ⟨v,h,r⟩:=s.val i x c;exact⟨v,h,r.mv d⟩
 .subst f;obtain⟨p,vs,g,h,r,b,t,m⟩:=s.own i xs c;exact⟨.ref p,g, .lst h t (λz=>z.elim m RD) (r.mv d)⟩
end
mutual
def Ze:PV->zq
 | .lst _=>false
 | .tape=>false
 | .scr _=>false
 | .dct _=>false
 | .tup xs=>ak xs
 | _=>true
def ak:zy PV->zq
 | [] =>true
 | x::xs=>Ze x&&ak xs
end
section
variable {K:AAB}{T M M':zu->Prop}{H:Hp}
mutual
theorem Bs.free:∀{v:V} {x:PV},Ze x=true->Bs K T M H v x->Bs K T M' H v x
 | _,_,_, .non=> .non
 | _,_,_, .bl b=> .bl b
 | _,_,_, .int i=> .int i
 | _,_,_, .str x=> .str x
 | _,_,_, .ty n=> .ty n
 | _,_,n, .tup h r=> .tup h (An.free (by rw[Ze] at n;exact n) r)
 | _,_,n, .lst _ _ _ _=>by rw[Ze] at n;cases n
 | _,_,n, .tape _=>by rw[Ze] at n;cases n
 | _,_,n, .scr _=>by rw[Ze] at n;cases n
 | _,_,n, .dct _ _ _=>by rw[Ze] at n;cases n
 | _,_,_, .dk h e=> .dk h e
theorem An.free:∀{vs:zy V} {xs:zy PV},ak xs=true->An K T M H vs xs->An K T M' H vs xs
 | _,_,_, .nil=> .nil
 | _,_,n, .cons h t=>by rw[ak,AAn] at n;exact .cons (Bs.free n.1 h) (An.free n.2 t)
end
end
abbrev AE:=Ay->(PV->Prop)->Prop
abbrev AT:=Ay->(zq->Prop)->Prop
abbrev AA:=Ay->(zy PV->Prop)->Prop
abbrev AF:=zy PV->(PV->Prop)->Prop
def Po:Ay->Nat->zt AV
 | [],_=>none
 | x::_,0=>x
 | _::r,n+1=>Po r n
theorem Ly:∀{τ:Ay} {i:Nat} {a:AV},Po τ i=some a->τ[i]? =some (some a)
 | [],_,_,h=>by simp[Po] at h
 | x::_,0,_,h=>by simpa[Po] using h
 | _::r,n+1,a,h=>by have:=Ly (τ:=r) (i:=n) (a:=a) (by simpa[Po] using h);simpa using this
def Wl (x:PV)(R:Int->Prop):Prop:=match x with | .int i=>R i|_=>False
def fC (x y:PV)(R:Int->Int->Prop):Prop:=match x,y with | .int i, .int j=>R i j|_,_=>False
def av (x:PV)(R:zq->Prop):Prop:=match x with | .bl b=>R b|_=>False
def aw (o:zt PV)(R:PV->Prop):Prop:=match o with | some z=>R z|none=>False
def fD {o:zt PV}{R:PV->Prop}(h:aw o R):∃z,o=some z/\R z:=by cases o <;> first | exact⟨_,rfl,h⟩|exact h.elim
def Mb (x:PV)(R:zy PV->Prop):Prop:=match x with | .tup xs=>R xs | .lst xs=>R xs|_=>False
def TJ {x:PV}{R:Int->Prop}(h:Wl x R):∃i,x= .int i/\R i:=by cases x <;> first | exact⟨_,rfl,h⟩|exact h.elim
def KW {x y:PV}{R:Int->Int->Prop}(h:fC x y R):∃i j,x= .int i/\y= .int j/\R i j:=by cases x <;> cases y <;> first | exact⟨_,_,rfl,rfl,h⟩|exact h.elim
def TH {x:PV}{R:zq->Prop}(h:av x R):∃b,x= .bl b/\R b:=by cases x <;> first | exact⟨_,rfl,h⟩|exact h.elim
def HM {x:PV}{R:zy PV->Prop}(h:Mb x R):∃xs,(x= .tup xs\/x= .lst xs)/\R xs:=by cases x <;> first | exact⟨_, .inl rfl,h⟩|exact⟨_, .inr rfl,h⟩|exact h.elim
def Bs.toI {K:AAB}{T M:zu->Prop}{H:Hp}{v:V}{i:Int}(r:Bs K T M H v (.int i)):v= .int i:=by cases r;rfl
def Bs.toB {K:AAB}{T M:zu->Prop}{H:Hp}{v:V}{i:zq}(r:Bs K T M H v (.bl i)):v= .bl i:=by cases r;rfl
def Fc (K:AAB)(t:TE)(a:AE):Prop:=∀(B:CZ) (T:zu->Prop) (b:L2.St) (τ:Ay) (H:Hp) (Q:VK) (d:PV->Prop),SR K B T H b τ->a τ d->
 (∀v x e c,Ct T H e c->Bs K e (mt B b τ) c v x->d x->Q v c)->t b H Q
def Mu (K:AAB)(t:TT)(a:AT):Prop:=∀(B:CZ) (T:zu->Prop) (c:L2.St) (τ:Ay) (H:Hp) (Q:zq->Hp->Prop) (d:zq->Prop),SR K B T H c τ->a τ d->
 (∀b f e,Ct T H f e->d b->Q b e)->t c H Q
def dS (K:AAB)(t:TA)(a:AA):Prop:=∀(B:CZ) (T:zu->Prop) (b:L2.St) (τ:Ay) (H:Hp) (Q:zy V->Hp->Prop) (d:zy PV->Prop),SR K B T H b τ->a τ d->
 (∀vs xs e c,Ct T H e c->An K e (mt B b τ) c vs xs->d xs->Q vs c)->t b H Q
def Zw (K:AAB)(t:TE)(a:AA):Prop:=∀(B:CZ) (T:zu->Prop) (c:L2.St) (τ:Ay) (H:Hp) (Q:VK) (e:zy PV->Prop),SR K B T H c τ->a τ e->
 (∀p vs xs d b,Ct T H d b->SR K (B.add p) d b c τ->H p=none->b p=some (.lst vs)->¬d p->An K d (mt (B.add p) c τ) b vs xs->e xs->Q (.ref p) b)->t c H Q
def SE (X:Cx)(e:zr)(a:AE):Prop:=∃t,PE X e t/\Fc X.K t a
def Rg (X:Cx)(e:zr)(a:AT):Prop:=∃t,PT X e t/\Mu X.K t a
def SW (X:Cx)(e:zr)(a:AT):Prop:=∃t,PW X e t/\Mu X.K t a
def SA (X:Cx)(es:zy zr)(a:AA):Prop:=∃t,PA X es t/\dS X.K t a
def SF (X:Cx)(e:zr)(a:AA):Prop:=∃t,PE X e t/\Zw X.K t a
abbrev Hq:=PV->PV->(PV->Prop)->Prop
def B8 (K:AAB)(r:R2)(f:Hq):Prop:=∀(T M:zu->Prop) (H:Hp) (u v:V) (x y:PV) (Q:VK) (b:PV->Prop),Fv T M H->Bs K T M H u x->Bs K T M H v y->f x y b->
 (∀w z c a,Ct T H c a->Bs K c M a w z->b z->Q w a)->r u v H Q
def Em (K:AAB)(r:zy V->Hp->VK->Prop)(f:AF):Prop:=∀(T M:zu->Prop) (H:Hp) (us:zy V) (xs:zy PV) (Q:VK) (b:PV->Prop),Fv T M H->An K T M H us xs->f xs b->
 (∀w z c a,Ct T H c a->Bs K c M a w z->b z->Q w a)->r us H Q
section
variable {X:Cx}{a b c:zr}{es:zy zr}{pos:Pos}{ta tb:AE}{tA tB':AT}
def aV (i:Nat):AE:=λτ Q=>match Po τ i with | some (.val x)=>Q x|_=>False
def iF {i:Nat}{τ:Ay}{Q:PV->Prop}(h:aV i τ Q):∃x,τ[i]? =some (some (.val x))/\Q x:=by
 unfold aV at h;cases e:Po τ i with
 | none=>rw[e] at h;exact h.elim
 | some z=>
   rw[e] at h;cases z with
   | own xs=>exact h.elim
   | val x=>exact⟨x,Ly e,h⟩
def AJ (i:Nat){x:Str}{pos:Pos}(hN:X.N[i]? =some x:=by rfl)(hv:gZ X.env.scope x:=by first | exact Or.inl rfl|exact Or.inr (Or.inl rfl)|exact Or.inr (Or.inr rfl))(hd:(x==("__debug__" :Str))=false:=by decide)(d:(x==("__classdict__" :Str))=false:=by decide):SE X (.Name x pos) (aV i):=by refine⟨_,TL hN hv hd d,λB T g τ H Q j s h k=> ?_⟩;obtain⟨x,e,q⟩:=iF h;obtain⟨v,f,r⟩:=s.val i x e;exact⟨v,f,k v x T H (.refl s.tp) r q⟩
def aC (x:PV):AE:=λ_ Q=>Q x
def RR {v:V}{x:PV}(h:∀T M H,Bs X.K T M H v x):Fc X.K (tC v) (aC x):=λB T d τ H Q e s h' k=>k v x T H (.refl s.tp) (h _ _ _) h'
def AH {i:Int}{j pos}:SE X (.Constant (.int i) j pos) (aC (.int i)):=⟨_,As,RR λ_ _ _=> .int i⟩
def Nt {i:zq}{j pos}:SE X (.Constant (.bool i) j pos) (aC (.bl i)):=⟨_,jD,RR λ_ _ _=> .bl i⟩
def BO {j pos}:SE X (.Constant .none j pos) (aC .non):=⟨_,YN,RR λ_ _ _=> .non⟩
def Tf {i:Str}{j pos}:SE X (.Constant (.str i) j pos) (aC (.str i)):=⟨_,fR,RR λ_ _ _=> .str i⟩
def AW (f:Hq)(ta tb:AE):AE:=λτ Q=>ta τ λx=>tb τ λy=>f x y Q
def PZ {r:R2}{f:Hq}{t u:TE}(i:B8 X.K r f)(ha:Fc X.K t ta)(hb:Fc X.K u tb):Fc X.K (WV r t u) (AW f ta tb):=by intro B T g τ H Q j s h k;refine ha B T g τ H _ _ s h λv x l H1 d m h1=> ?_;refine hb B l g τ H1 _ _ (s.stp d) h1 λw y n o e p h2=> ?_;have A:=(s.stp d).stp e;exact i n _ o v w x y Q j A.va (m.stp e (s.stp d).va) p h2 λw z T3 C D E q=>k w z T3 C ((d.trans e).trans D) E q
def Ab {op:Operator}{r:R2}{f:Hq}(d:Dy X (binaryOp op) r/\B8 X.K r f)(ha:SE X a ta)(hb:SE X b tb):SE X (.BinOp a op b pos) (AW f ta tb):=
 let ⟨_,p,s⟩:=ha;let ⟨_,e,g⟩:=hb;⟨_,Bk d.1 p e,PZ d.2 s g⟩
def EG {op:CmpOp}{r:R2}{f:Hq}(d:Dy X (compareOp op) r/\B8 X.K r f)(ha:SE X a ta)(hb:SE X b tb)(e:behindInMarks op b=false):SE X (.Compare a [op] [b] pos) (AW f ta tb):=
 let ⟨_,p,s⟩:=ha;let ⟨_,g,h⟩:=hb;⟨_,Ur d.1 p g e,PZ d.2 s h⟩
def jZ {r:R2}{f:Hq}(d:Zt X r/\B8 X.K r f)(ha:SE X a ta)(hb:SE X b tb)(hs:OD b):SE X (.Subscript a b pos) (AW f ta tb):=
 let ⟨_,p,s⟩:=ha;let ⟨_,e,g⟩:=hb;⟨_,Jh d.1 p e hs,PZ d.2 s g⟩
def fI (g:Int->Int->PV):Hq:=λx y Q=>fC x y λi j=>Q (g i j)
def gc (C:Int->Int->Prop)(g:Int->Int->PV):Hq:=λx y Q=>fC x y λi j=>C i j/\Q (g i j)
def U9 {g:Int->Int->V}{g':Int->Int->PV}(d:∀i j T M H,Bs X.K T M H (g i j) (g' i j)):B8 X.K (NE g) (fI g'):=by intro T M H u v x y Q f va e rv h k;obtain⟨i,j,rfl,rfl,q⟩:=KW h;exact⟨i,j,e.toI,rv.toI,k _ _ T H (.refl va.tp) (d i j T M H) q⟩
def PU {C:Int->Int->Prop}{g:Int->Int->V}{g':Int->Int->PV}(d:∀i j T M H,Bs X.K T M H (g i j) (g' i j)):B8 X.K (rI C g) (gc C g'):=by intro T M H u v x y Q f va e rv h k;obtain⟨i,j,rfl,rfl,c,q⟩:=KW h;exact⟨i,j,e.toI,rv.toI,c,k _ _ T H (.refl va.tp) (d i j T M H) q⟩
abbrev iJ:Hq:=fI λi j=> .int (i+j)
abbrev Gh:Hq:=fI λi j=> .int (i-j)
abbrev XR:Hq:=fI λi j=> .bl (decide (i<j))
abbrev Zb:Hq:=fI λi j=> .bl (decide (j<i))
abbrev oH:Hq:=fI λi j=> .bl (decide (j<=i))
def Cr:Dy X (binaryOp .Sub) (NE λi j=> .int (i-j))/\B8 X.K (NE λi j=> .int (i-j)) Gh:=⟨TK,U9 λi j _ _ _=> .int _⟩
def GH:Dy X (compareOp .Lt) (NE λi j=> .bl (decide (i<j)))/\B8 X.K (NE λi j=> .bl (decide (i<j))) XR:=⟨cx,U9 λi j _ _ _=> .bl _⟩
def Jl:Dy X (compareOp .Gt) (NE λi j=> .bl (decide (j<i)))/\B8 X.K (NE λi j=> .bl (decide (j<i))) Zb:=⟨cw,U9 λi j _ _ _=> .bl _⟩
def je:Dy X (compareOp .GtE) (NE λi j=> .bl (decide (j<=i)))/\B8 X.K (NE λi j=> .bl (decide (j<=i))) oH:=⟨cv,U9 λi j _ _ _=> .bl _⟩
structure MulOk (i j:Int):Prop where
 l:i.natAbs<2^1000000
 r:j.natAbs<2^1000000
def Ot:Dy X (binaryOp .Mult) (rI MulOk λi j=> .int (i*j)):=fG λ_ _ _ _ _ _ _ hc q=>mul_int q (.of_le (GP hc.l) (GP hc.r) (by decide))
abbrev Ch:Hq:=gc MulOk λi j=> .int (i*j)
def A2:Dy X (binaryOp .Mult) (rI MulOk λi j=> .int (i*j))/\B8 X.K (rI MulOk λi j=> .int (i*j)) Ch:=⟨Ot,PU λi j _ _ _=> .int _⟩
structure UG (i j:Int):Prop where
 ne:j≠0
 lt:j.natAbs<2^8900
def YF:Dy X (binaryOp .FloorDiv) (rI UG λi j=> .int (i.fdiv j)):=fG λi j _ _ _ _ _ hc q=>
 floordiv_int hc.ne q (.inl (ADc (ACX (IR hc.lt (by decide)) (by decide))))
abbrev QQ:Hq:=gc UG λi j=> .int (i.fdiv j)
def FI:Dy X (binaryOp .FloorDiv) (rI UG λi j=> .int (i.fdiv j))/\B8 X.K (rI UG λi j=> .int (i.fdiv j)) QQ:=⟨YF,PU λi j _ _ _=> .int _⟩
abbrev QR:Hq:=gc (λ_ j=>j≠0) λi j=> .int (i.fmod j)
def MO:Dy X (binaryOp .Mod) (rI (λ_ j=>j≠0) λi j=> .int (i.fmod j))/\B8 X.K (rI (λ_ j=>j≠0) λi j=> .int (i.fmod j)) QR:=⟨az,PU λi j _ _ _=> .int _⟩
abbrev iK:Hq:=gc Zk λi j=> .int (i^j.toNat)
def gF:Dy X (binaryOp .Pow) (rI Zk λi j=> .int (i^j.toNat))/\B8 X.K (rI Zk λi j=> .int (i^j.toNat)) iK:=⟨YG,PU λi j _ _ _=> .int _⟩
def j8:PV->zq | .non=>true|_=>false
def Gg:Hq:=λx y Q=>match y with | .non=>Q (.bl (j8 x))|_=>False
def Ng:Hq:=λx y Q=>match y with | .non=>Q (.bl (!j8 x))|_=>False
def Uk {K:AAB}{T M:zu->Prop}{H:Hp}{v:V}{x:PV}(r:Bs K T M H v x):decide (v= .non)=j8 x:=by cases r <;> simp[j8]
def FJ:Dy X (compareOp .Is) (λx y H Q=>y= .non/\Q (.bl (decide (x= .non))) H)/\B8 X.K (λx y H Q=>y= .non/\Q (.bl (decide (x= .non))) H) Gg:=by
 refine⟨fK,λT M H u v x y Q e va d rv h k=> ?_⟩;cases y <;> first | exact h.elim|skip
 cases rv;refine⟨rfl, ?_⟩;rw[Uk d];exact k _ _ T H (.refl va.tp) (.bl _) h
def Pe:Dy X (compareOp .IsNot) (λx y H Q=>y= .non/\Q (.bl (!decide (x= .non))) H)/\B8 X.K (λx y H Q=>y= .non/\Q (.bl (!decide (x= .non))) H) Ng:=by
 refine⟨Uq,λT M H u v x y Q e va d rv h k=> ?_⟩;cases y <;> first | exact h.elim|skip
 cases rv;refine⟨rfl, ?_⟩;rw[Uk d];exact k _ _ T H (.refl va.tp) (.bl _) h
def Ai:Hq:=λx y Q=>Mb x λxs=>Wl y λi=>aw (Ih xs i) Q
def UM {K:AAB}{T M:zu->Prop}{H:Hp}{vs:zy V}{xs:zy PV}{i:Int}{z:PV}(r:An K T M H vs xs)(h:Ih xs i=some z):∃v,Ih vs i=some v/\Bs K T M H v z:=by
 unfold Ih at h ⊢;rw[r.length];cases e:aX xs.length i with
 | none=>rw[e] at h;cases h
 | some j=> rw[e] at h;exact r.get h
def jL (K:AAB):R2:=λx y H Q=>jK K x y H Q\/jM K x y H Q
def jf:Zt X (jL X.K)/\B8 X.K (jL X.K) Ai:=by
 refine⟨EO.or eO,λT M H u v x y Q g va f rv h k=> ?_⟩;obtain⟨xs,hx,h1⟩:=HM h;obtain⟨i,rfl,h2⟩:=TJ h1;cases rv.toI;obtain⟨z,e,q⟩:=fD h2;rcases hx with rfl|rfl
 .cases f with
  | tup hq r=> obtain⟨w,ew,d⟩:=UM r e;exact .inr ⟨_,_,i,w,rfl,rfl,hq.sq,ew,k w z T H (.refl va.tp) d q⟩
 .cases f with
  | lst hq t m r=> obtain⟨w,ew,d⟩:=UM r e;exact .inl ⟨_,_,i,w,rfl,rfl, .inl (.inl hq),ew,k w z T H (.refl va.tp) d q⟩
def W9 (f:PV->(PV->Prop)->Prop)(ta:AE):AE:=λτ Q=>ta τ λx=>f x Q
def Li (x:PV)(Q:PV->Prop):Prop:=Wl x λi=>Q (.int (-i))
def FE (ha:SE X a ta):SE X (.UnaryOp .USub a pos) (W9 Li ta):=by obtain⟨t,p,s⟩:=ha;refine⟨_,jG gR p,λB T d τ H Q l e h k=>s B T d τ H _ _ e h λv x f H1 g j h1=> ?_⟩;obtain⟨i,rfl,q⟩:=TJ h1;exact⟨i,j.toI,k _ _ f H1 g (.int _) q⟩
def W5 (ta tb:AE):AE:=λτ Q=>ta τ λx=>av x λc=>if c=true then tb τ Q else Q (.bl false)
def kr (ta tb:AE):AE:=λτ Q=>ta τ λx=>av x λc=>if c=true then Q (.bl true) else tb τ Q
def PP {op}(h:SE X a ta):SE X (.BoolOp op [a] pos) ta:=let ⟨_,p,s⟩:=h;⟨_,fQ p,s⟩
def Te {rest:zy zr}(ha:SE X a ta)(hb:SE X (.BoolOp .And (b::rest) pos) tb):SE X (.BoolOp .And (a::b::rest) pos) (W5 ta tb):=by
 obtain⟨t,p,s⟩:=ha;obtain⟨t',j,l⟩:=hb;refine⟨_,fN p j,λB T e τ H Q z f h k=>s B T e τ H _ _ f h λv x g H1 d m h1=> ?_⟩;obtain⟨i,rfl,q⟩:=TH h1;refine⟨i,m.toB, ?_⟩;cases i with
 | true=>rw[AAE rfl] at q ⊢;exact l B g e τ H1 _ _ (f.stp d) q λw y n o r u h2=>k w y n o (d.trans r) u h2
 | false=>rw[AAC AAN] at q ⊢;exact k _ _ g H1 d (.bl _) q
def ja {rest:zy zr}(ha:SE X a ta)(hb:SE X (.BoolOp .Or (b::rest) pos) tb):SE X (.BoolOp .Or (a::b::rest) pos) (kr ta tb):=by
 obtain⟨t,p,s⟩:=ha;obtain⟨t',j,l⟩:=hb;refine⟨_,jF p j,λB T e τ H Q z f h k=>s B T e τ H _ _ f h λv x g H1 d m h1=> ?_⟩;obtain⟨i,rfl,q⟩:=TH h1;refine⟨i,m.toB, ?_⟩;cases i with
 | false=>rw[AAC AAN] at q ⊢;exact l B g e τ H1 _ _ (f.stp d) q λw y n o r u h2=>k w y n o (d.trans r) u h2
 | true=>rw[AAE rfl] at q ⊢;exact k _ _ g H1 d (.bl _) q
def Aw (ta:AE):AT:=λτ Q=>ta τ λx=>av x Q
def Pa {t:TE}(s:Fc X.K t ta):Mu X.K (ZF t) (Aw ta):=λB T d τ H Q l e h k=>s B T d τ H _ _ e h λv x f H1 g j h1=>by obtain⟨i,rfl,q⟩:=TH h1;exact⟨i,j.toB,k _ f H1 g q⟩
def gG {op:CmpOp}{r:R2}{f:Hq}(d:Dy X (compareOp op) r/\B8 X.K r f)(ha:SE X a ta)(hb:SE X b tb)(e:behindInMarks op b=false):Rg X (.Compare a [op] [b] pos) (Aw (AW f ta tb)):=
 let ⟨_,p,s⟩:=ha;let ⟨_,g,h⟩:=hb;⟨_,KZ d.1 p g e,Pa (PZ d.2 s h)⟩
def CD {e:zr}(h:SE X e ta)(he:∀whole,isTrue e X.env whole=(do let v <-whole;standAt e.pos;holding [v] (truthy v)):=by intro _;rfl):Rg X e (Aw ta):=
 let ⟨_,p,s⟩:=h;⟨_,fX p he,Pa s⟩
def LZ (t:AT):AT:=λτ Q=>t τ λc=>Q (!c)
def Fw (t u:AT):AT:=λτ Q=>t τ λc=>if c=true then u τ Q else Q false
def R6 (t u:AT):AT:=λτ Q=>t τ λc=>if c=true then Q true else u τ Q
def MT (ha:Rg X a tA):Rg X (.UnaryOp .Not a pos) (LZ tA):=by obtain⟨t,p,s⟩:=ha;exact⟨_,fW p,λB T d τ H Q i e h k=>s B T d τ H _ _ e h λv f H1 g h1=>k _ f H1 g h1⟩
def Ds (ha:Rg X a tA):SW X (.BoolOp .And [a] pos) tA:=let ⟨_,p,s⟩:=ha;⟨_,bP p,s⟩
def MV (ha:Rg X a tA):SW X (.BoolOp .Or [a] pos) tA:=let ⟨_,p,s⟩:=ha;⟨_,fZ p,s⟩
def FN {rest:zy zr}(ha:Rg X a tA)(hb:SW X (.BoolOp .And (b::rest) pos) tB'):SW X (.BoolOp .And (a::b::rest) pos) (Fw tA tB'):=by
 obtain⟨t,p,s⟩:=ha;obtain⟨t',j,l⟩:=hb;refine⟨_,fY p j,λB T e τ H Q r f h k=>s B T e τ H _ _ f h λi g H1 d q=> ?_⟩;cases i with
 | true=>rw[AAE rfl] at q ⊢;exact l B g e τ H1 _ _ (f.stp d) q λb m n o h2=>k b m n (d.trans o) h2
 | false=>rw[AAC AAN] at q ⊢;exact k _ g H1 d q
def RX {rest:zy zr}(ha:Rg X a tA)(hb:SW X (.BoolOp .Or (b::rest) pos) tB'):SW X (.BoolOp .Or (a::b::rest) pos) (R6 tA tB'):=by
 obtain⟨t,p,s⟩:=ha;obtain⟨t',j,l⟩:=hb;refine⟨_,jH p j,λB T e τ H Q r f h k=>s B T e τ H _ _ f h λi g H1 d q=> ?_⟩;cases i with
 | false=>rw[AAC AAN] at q ⊢;exact l B g e τ H1 _ _ (f.stp d) q λb m n o h2=>k b m n (d.trans o) h2
 | true=>rw[AAE rfl] at q ⊢;exact k _ g H1 d q
def Ie (h:SW X a tA):Rg X a tA:=let ⟨_,p,s⟩:=h;⟨_,p.pt,s⟩
def ga (t:AT)(ta tb:AE):AE:=λτ Q=>t τ λc=>if c=true then ta τ Q else tb τ Q
def U7 (hc:Rg X c tA)(ha:SE X a ta)(hb:SE X b tb):SE X (.IfExp c a b pos) (ga tA ta tb):=by
 obtain⟨t,p,s⟩:=hc;obtain⟨x,u,e⟩:=ha;obtain⟨z,v,f⟩:=hb;refine⟨_,YL p u v,λB T g τ H Q A j h k=>s B T g τ H _ _ j h λi r H1 d q=> ?_⟩;cases i with
 | true=>rw[AAE rfl] at q ⊢;exact e B r g τ H1 _ _ (j.stp d) q λw y l m n o h2=>k w y l m (d.trans n) o h2
 | false=>rw[AAC AAN] at q ⊢;exact f B r g τ H1 _ _ (j.stp d) q λw y l m n o h2=>k w y l m (d.trans n) o h2
def AM:AA:=λ_ Q=>Q []
def AB (ta:AE)(r:AA):AA:=λτ Q=>ta τ λx=>r τ λxs=>Q (x::xs)
def EF:SA X [] AM:=⟨_,EZ,λB T e τ H Q f d h k=>k [] [] T H (.refl d.tp) .nil h⟩
def DT {e:zr}{r:AA}(ha:SE X e ta)(j:SA X es r)(hs:starEach (e::es) X.env=(false,eval e X.env)::starEach es X.env:=by rfl):SA X (e::es) (AB ta r):=by obtain⟨t,p,s⟩:=ha;obtain⟨t',l,m⟩:=j;refine⟨_,B0 p l hs,λB T g τ H Q z d h k=>s B T g τ H _ _ d h λv x n H1 f o h1=> ?_⟩;exact m B n g τ H1 _ _ (d.stp f) h1 λvs xs u w i y h2=>k _ _ u w (f.trans i) (.cons (o.stp i (d.stp f).va) y) h2
def BB (r:AA):AE:=λτ Q=>r τ λxs=>xs.length<=sizeLine/\Q (.tup xs)
def Ag {x1}{r:AA}(h:SA X es r):SE X (.Tuple es x1 pos) (BB r):=by obtain⟨t,p,s⟩:=h;refine⟨_,L7 p,λB T g τ H Q j d h k=>s B T g τ H _ _ d h λvs xs i H1 e f h1=>⟨by rw[f.length];exact h1.1,λq hq=> ?_⟩⟩;have l:=Ct.lay (o:= .tup vs) (d.stp e).tp hq;exact k _ _ i _ (e.trans l) (.tup (.inl AX) (f.stp l (d.stp e).va)) h1.2
def D9 (r:AA):AA:=λτ Q=>r τ λxs=>xs.length<=sizeLine/\Q xs
def Oa {K:AAB}{B:CZ}{T:zu->Prop}{H:Hp}{d:L2.St}{τ:Ay}{p:zu}{vs:zy V}{xs:zy PV}(f:SR K B T H d τ)(hq:H p=none)(r:An K T (mt B d τ) H vs xs):Ct T H T (upd H p (.lst vs))/\SR K (B.add p) T (upd H p (.lst vs)) d τ/\¬T p/\An K T (mt (B.add p) d τ) (upd H p (.lst vs)) vs xs:=by
 have l:=Ct.lay (o:= .lst vs) f.tp hq;have g:¬T p:=λz=>by obtain⟨o,e,_⟩:=(f.tp p z).mut;rw[hq] at e;cases e
 refine⟨l,f.add l hq AX J2.lst g,g,r.mv ⟨f.va,λb o t _ e=>l.keep b o t e,l.sub,λb n t=>t,λb n z=> ?_⟩⟩;rcases z with(z|z)|z
 .exact .inl z
 .subst z;exact absurd hq n
 .exact .inr z
def Bm {r:AA}(h:SA X es r):SF X (.List es pos) (D9 r):=by obtain⟨t,p,s⟩:=h;refine⟨_,YM p,λB T i τ H Q o f h k=>s B T i τ H _ _ f h λvs xs j H1 d g h1=>⟨by rw[g.length];exact h1.1,λq hq=> ?_⟩⟩;obtain⟨l,e,m,n⟩:=Oa (f.stp d) hq g;exact k q vs xs j _ (d.trans l) e (d.none hq) AX m n h1.2
def G6 (r:AA):AE:=λτ Q=>r τ λxs=>Q (.lst xs)
def Yw {t:TE}{r:AA}(s:Zw X.K t r):Fc X.K t (G6 r):=λB T g τ H Q w d h k=>s B T g τ H _ _ d h λp vs xs j H1 l f i hp n u h1=>by
 have v:¬CW g τ p:=λo=>by obtain⟨_,e,_⟩:=d.ownH o;rw[i] at e;cases e
 have hb:¬B.M p:=λo=>by obtain⟨_,e,_⟩:=d.bm p o;rw[i] at e;cases e
 exact k _ _ j H1 l (.lst hp n (λz=>z.elim hb v) (u.mv (.anti f.va λa m=>m.elim (λz=> .inl (.inl z)) .inr))) h1
def Dh {r:AA}(h:SF X a r):SE X a (G6 r):=let ⟨_,p,s⟩:=h;⟨_,p,Yw s⟩
def Cj (K:AAB)(n:Nat)(F:AF):Sp:=λvs H Q _=>∃(T M:zu->Prop) (xs:zy PV) (e:PV->Prop),Fv T M H/\(∀a,M a->¬T a)/\An K T M H vs xs/\xs.length=n/\F xs e/\
 ∀v x f d,Ct T H f d->Bs K f M d v x->e x->Q v d
def AR (n:Nat)(F:AF)(r:AA):AE:=λτ Q=>r τ λxs=>xs.length=n/\F xs Q
def AK {x:Str}{p:Pos}{e:zr}{k n:Nat}{g:zy Str}{F:AF}{r:AA}(D:Has X.prog X.w X.K X.mg X.base k x g (Cj X.K n F))(i:Room k X.A)(j:Gl X x)(ha:SA X (e::es) r)(hs:starEach (e::es) X.env=(false,eval e X.env)::starEach es X.env:=by rfl)(hpl:(backTo pos (starEach es X.env)).any (·.1)=false:=by rfl)(hd:(x==("__debug__" :Str))=false:=by decide):SE X (.Call (.Name x p) (e::es) [] pos) (AR n F r):=by obtain⟨t,l,s⟩:=ha;refine⟨_,fP D i j l hs hpl hd,λB T o τ H Q u d h k=>s B T o τ H _ _ d h λvs xs y H1 f z h1=> ?_⟩;rw[AB0];exact⟨y,_,xs,u,(d.stp f).va,λa m=>(d.stp f).nt m,z,h1.1,h1.2,λv x C E G I q=>k v x C E (f.trans G) I q⟩
def Fx (f:AF)(r:AA):AE:=λτ Q=>r τ λxs=>f xs Q
def Yv {d:zy V->Hp->VK->Prop}{f:AF}{t:TA}{r:AA}(i:Em X.K d f)(s:dS X.K t r):Fc X.K (mQ d t) (Fx f r):=λB T j τ H Q l e h k=>s B T j τ H _ _ e h λvs xs m H1 g n h1=>
 i m _ H1 vs xs Q l (e.stp g).va n h1 λw z o p u v q=>k w z o p (g.trans u) v q
def BZ {id:String}{x:Str}{p:Pos}{e:zr}{d:zy V->Hp->VK->Prop}{f:AF}{r:AA}(hc:Bu X (.builtin id) d/\Em X.K d f)(g:Gl X x)(h:X.mg x=none)(hv:bootBuiltins x=some (.builtin id))(ha:SA X (e::es) r)(i:x≠"__name__" :=by decide)(hdb:(x==("__debug__" :Str))=false:=by decide)(he:starEach (e::es) X.env=(false,eval e X.env)::starEach es X.env:=by rfl)(hpl:(backTo pos (starEach es X.env)).any (·.1)=false:=by rfl):SE X (.Call (.Name x p) (e::es) [] pos) (Fx f r):=by obtain⟨t,j,s⟩:=ha;exact⟨_,IT hc.1 g h hv j i hdb he hpl,Yv hc.2 s⟩
def BD {T:String}{x:Str}{p:Pos}{e:zr}{d:zy V->Hp->VK->Prop}{f:AF}{r:AA}(hc:Bu X (.type T) d/\Em X.K d f)(g:Gl X x)(h:X.mg x=none)(hv:bootBuiltins x=some (.type T))(ha:SA X (e::es) r)(i:x≠"__name__" :=by decide)(hdb:(x==("__debug__" :Str))=false:=by decide)(he:starEach (e::es) X.env=(false,eval e X.env)::starEach es X.env:=by rfl)(hpl:(backTo pos (starEach es X.env)).any (·.1)=false:=by rfl):SE X (.Call (.Name x p) (e::es) [] pos) (Fx f r):=by obtain⟨t,j,s⟩:=ha;exact⟨_,GV hc.1 g h hv j i hdb he hpl,Yv hc.2 s⟩
end
section
variable {X:Cx}
def Di {K:AAB}{T M:zu->Prop}{H:Hp}{v:V}{xs:zy PV}(r:Bs K T M H v (.tup xs)):∃a vs,v= .ref a/\JZ K H a vs/\An K T M H vs xs:=by
 cases r with
 | tup h r=>exact⟨_,_,rfl,h.sq,r⟩
def Yz {K:AAB}{T M:zu->Prop}{H:Hp}{v:V}{xs:zy PV}(r:Bs K T M H v (.tup xs)):∃a vs,v= .ref a/\jy K H a vs/\An K T M H vs xs:=by
 cases r with
 | tup h r=>exact⟨_,_,rfl,h,r⟩
def Cc {K:AAB}{T M:zu->Prop}{H:Hp}{v:V}{xs:zy PV}(r:Bs K T M H v (.lst xs)):∃a vs,v= .ref a/\H a=some (.lst vs)/\¬T a/\¬M a/\An K T M H vs xs:=by
 cases r with
 | lst h t m r=>exact⟨_,_,rfl,h,t,m,r⟩
def Yp {K:AAB}{T M:zu->Prop}{H:Hp}{v:V}{b:zy Int}(r:Bs K T M H v (.scr b)):∃a,v= .ref a/\Ee K H a (b.map V.int):=by
 cases r with
 | scr h=>
   rcases h with⟨h,_,_⟩|h
   .exact ⟨_,rfl, .inl h⟩
   .exact ⟨_,rfl,h H⟩
def IK:AF:=λxs Q=>match xs with | [.tup ys] =>Q (.int ys.length) | [.lst ys] =>Q (.int ys.length) | [.scr ns] =>Q (.int ns.length)|_=>False
def jN (K:AAB):zy V->Hp->VK->Prop:=λxs H Q=>∃p ys,xs= [.ref p] /\(Ee K H p ys\/JZ K H p ys)/\Q (.int ys.length) H
def GG:Bu X (.builtin "len") (jN X.K)/\Em X.K (jN X.K) IK:=by
 refine⟨IG,λT M H us xs Q b va r h k=> ?_⟩;unfold IK at h;split at h <;> first | exact h.elim|skip
 .rename_i ys;cases r with | cons r t=>cases t;obtain⟨a,vs,rfl,hq,r⟩:=Di r;refine⟨a,vs,rfl, .inr hq, ?_⟩;rw[r.length];exact k _ _ T H (.refl va.tp) (.int _) h
 .rename_i ys;cases r with | cons r t=>cases t;obtain⟨a,vs,rfl,hq,_,_,r⟩:=Cc r;refine⟨a,vs,rfl, .inl (.inl (.inl hq)), ?_⟩;rw[r.length];exact k _ _ T H (.refl va.tp) (.int _) h
 .rename_i c;cases r with | cons r t=>cases t;obtain⟨a,rfl,hq⟩:=Yp r;refine⟨a,_,rfl, .inl hq, ?_⟩;rw[AAJ];exact k _ _ T H (.refl va.tp) (.int _) h
def Vr:AF:=λxs Q=>match xs with | [.int i] =>Q (.int i.natAbs)|_=>False
def PH:Bu X (.builtin "abs") (λxs H Q=>∃i,xs= [.int i] /\Q (.int (if i<0 then -i else i)) H)/\Em X.K (λxs H Q=>∃i,xs= [.int i] /\Q (.int (if i<0 then -i else i)) H) Vr:=by
 refine⟨Ld,λT M H us xs Q a va r h k=> ?_⟩;unfold Vr at h;split at h <;> first | exact h.elim|skip
 rename_i i;cases r with
 | cons r t=> cases t;cases r;refine⟨i,rfl, ?_⟩;rw[show (if i<0 then -i else i)=(i.natAbs:Int) by split <;> omega];exact k _ _ T H (.refl va.tp) (.int _) h
def dv (g:Int->Int->Int):AF:=λxs Q=>match xs with | [.int i, .int j] =>Q (.int (g i j))|_=>False
def Yu {g g':Int->Int->Int}(a:∀i j,g i j=g' i j):Em X.K (λxs H Q=>∃i j,xs= [.int i, .int j] /\Q (.int (g i j)) H) (dv g'):=by
 intro T M H us xs Q c va r h k;unfold dv at h;split at h <;> first | exact h.elim|skip
 rename_i i j;cases r with
 | cons r t=>
   cases t with
   | cons b t=> cases t;cases r;cases b;refine⟨i,j,rfl, ?_⟩;rw[a];exact k _ _ T H (.refl va.tp) (.int _) h
def fx (hc:X.calm=true):Bu X (.builtin "min") (λxs H Q=>∃i j,xs= [.int i, .int j] /\Q (.int (if j<i then j else i)) H)/\Em X.K (λxs H Q=>∃i j,xs= [.int i, .int j] /\Q (.int (if j<i then j else i)) H) (dv min):=
 ⟨Vh hc,Yu λi j=>by split <;> omega⟩
def fw (hc:X.calm=true):Bu X (.builtin "max") (λxs H Q=>∃i j,xs= [.int i, .int j] /\Q (.int (if j>i then j else i)) H)/\Em X.K (λxs H Q=>∃i j,xs= [.int i, .int j] /\Q (.int (if j>i then j else i)) H) (dv max):=
 ⟨Vg hc,Yu λi j=>by split <;> omega⟩
def dw:AF:=λxs Q=>match xs with | [.int i] =>Q (.int i) | [.bl k] =>Q (.int (if k then 1 else 0))|_=>False
def fu:Bu X (.type "int") (λxs H Q=>(∃i,xs= [.int i] /\Q (.int i) H)\/∃k,xs= [.bl k] /\Q (.int (if k then 1 else 0)) H)/\Em X.K (λxs H Q=>(∃i,xs= [.int i] /\Q (.int i) H)\/∃k,xs= [.bl k] /\Q (.int (if k then 1 else 0)) H) dw:=by
 refine⟨NZ,λT M H us xs Q a va r h k=> ?_⟩;unfold dw at h;split at h <;> first | exact h.elim|skip
 .cases r with | cons r t=>cases t;cases r;exact .inl ⟨_,rfl,k _ _ T H (.refl va.tp) (.int _) h⟩
 .cases r with | cons r t=>cases t;cases r;exact .inr ⟨_,rfl,k _ _ T H (.refl va.tp) (.int _) h⟩
def Dd:AF:=λxs Q=>match xs with | [.tup ys] =>Q (.tup ys) | [.lst ys] =>Q (.tup ys)|_=>False
def Yd (K:AAB):zy V->Hp->VK->Prop:=λxs H Q=>∃p ys,xs= [.ref p] /\((Ee K H p ys/\∀l,H l=none->Q (.ref l) (upd H l (.tup ys)))\/(JZ K H p ys/\Q (.ref p) H))
def DB:Bu X (.type "tuple") (Yd X.K)/\Em X.K (Yd X.K) Dd:=by
 refine⟨Mz,λT M H us xs Q c va r h k=> ?_⟩;unfold Dd at h;split at h <;> first | exact h.elim|skip
 .cases r with | cons r t=>cases t;obtain⟨a,vs,rfl,hq,b⟩:=Yz r;exact⟨a,vs,rfl, .inr ⟨hq.sq,k _ _ T H (.refl va.tp) (.tup hq b) h⟩⟩
 .cases r with
  | cons r t=> cases t;obtain⟨a,vs,rfl,hq,_,_,b⟩:=Cc r;refine⟨a,vs,rfl, .inl ⟨.inl (.inl hq),λl hl=> ?_⟩⟩;have s:=Ct.lay (o:= .tup vs) va.tp hl;exact k _ _ T _ s (.tup (.inl AX) (b.stp s va)) h
def QS (xs:zy PV)(Q:zy PV->Prop):Prop:=match xs with | [.tup ys] =>Q ys | [.lst ys] =>Q ys|_=>False
def NU (r:AA):AA:=λτ Q=>r τ λxs=>QS xs Q
def Kg {x:Str}{p c:Pos}{e:zr}{es:zy zr}{r:AA}(o:Gl X x)(u:X.mg x=none)(hv:bootBuiltins x=some (.type "list"))(ha:SA X (e::es) r)(v:x≠"__name__" :=by decide)(hdb:(x==("__debug__" :Str))=false:=by decide)(he:starEach (e::es) X.env=(false,eval e X.env)::starEach es X.env:=by rfl)(hpl:(backTo c (starEach es X.env)).any (·.1)=false:=by rfl):SF X (.Call (.Name x p) (e::es) [] c) (NU r):=by
 obtain⟨t,w,s⟩:=ha;refine⟨_,GV OH o u hv w v hdb he hpl,λB T i τ H Q y j h k=>s B T i τ H _ _ j h λvs xs m H1 d n h1=> ?_⟩;have go:∀(b:zy V) (ys:zy PV),An X.K m (mt B i τ) H1 b ys->y ys->∀l,H1 l=none->Q (.ref l) (upd H1 l (.lst b)):=λb ys z q l hl=>by obtain⟨A,f,C,D⟩:=Oa (j.stp d) hl z;exact k l b ys m _ (d.trans A) f (d.none hl) AX C D q
 unfold QS at h1;split at h1 <;> first | exact h1.elim|skip
 .cases n with | cons r t=>cases t;obtain⟨a,b,rfl,hq,g⟩:=Di r;exact⟨a,b,rfl, .inr hq,go b _ g h1⟩
 .cases n with | cons r t=>cases t;obtain⟨a,b,rfl,hq,_,_,g⟩:=Cc r;exact⟨a,b,rfl, .inl (.inl (.inl hq)),go b _ g h1⟩
def Lc:zy PV->zt (zy zq)
 | [] =>some []
 | .bl b::r=>(Lc r).map (b :: ·)
 | _=>none
theorem UO {K:AAB}{T M:zu->Prop}{H:Hp}:∀{vs:zy V} {xs:zy PV} {bs:zy zq},An K T M H vs xs->Lc xs=some bs->vs=bs.map V.bl
 | _,_,_, .nil,e=>by simp[Lc] at e;subst e;rfl
 | _,_,bs, .cons h t,e=>by cases h <;> simp[Lc] at e;obtain⟨c,a,b⟩:=e;subst b;simp[UO t a]
def XY (g:zy zq->zq):AF:=λxs Q=>match xs with | [.lst ys] =>(match Lc ys with | some bs=>Q (.bl (g bs))|none=>False)|_=>False
def bf {g:zy zq->zq}:Em X.K (bQ X.K g) (XY g):=by
 intro T M H us xs Q c va r h k;unfold XY at h;split at h <;> first | exact h.elim|skip
 split at h <;> first | exact h.elim|skip
 rename_i bs e;cases r with
 | cons r t=> cases t;obtain⟨a,d,rfl,hq,_,_,b⟩:=Cc r;have:=UO b e;subst this;exact⟨a,bs,rfl, .inl (.inl hq),k _ _ T H (.refl va.tp) (.bl _) h⟩
def ft (hc:X.calm=true):Bu X (.builtin "all") (bQ X.K λbs=>bs.all id)/\Em X.K (bQ X.K λbs=>bs.all id) (XY λbs=>bs.all id):=⟨Vf hc,bf⟩
def Yo:PV->PV->zt zq
 | .non, .non=>some true | .non, .int _=>some false | .int _, .non=>some false | .non, .bl _=>some false | .bl _, .non=>some false | .non, .str _=>some false | .str _, .non=>some false
 | .int i, .int j=>some (decide (i=j)) | .bl i, .bl j=>some (decide (i=j)) | .str i, .str j=>some (decide (i=j))
 | .int _, .str _=>some false | .str _, .int _=>some false | .bl _, .str _=>some false | .str _, .bl _=>some false
 | _,_=>none
def RO {K:AAB}{T M:zu->Prop}{H:Hp}{u v:V}{x y:PV}{b:zq}(r:Bs K T M H u x)(a:Bs K T M H v y)(e:Yo x y=some b):fy u v=true/\decide (u=v)=b:=by cases r <;> cases a <;> first | (cases e;done)|(cases e;exact⟨rfl,rfl⟩)|(cases e;exact⟨rfl,by simp⟩)
end
structure Ff where
 nx:Ay->Prop
 rt:PV->Prop
 bk:Ay->Prop
 ct:Ay->Prop
abbrev AS:=Ff->Ay->Prop
structure EW (T:Addr->Prop) (H:Hp) (σ:L2.St) (τ:Ay) (T':Addr->Prop) (H':Hp) (σ':L2.St) (τ':Ay):Prop where
 keep:∀b o,¬T b->¬CW σ τ b->H b=some o->H' b=some o
 sub:∀b,T b->T' b
 new:∀b,T' b->T b\/H b=none
 own:∀b,CW σ' τ' b->CW σ τ b\/H b=none
 some:∀b,H b≠none->H' b≠none
section
variable {K:AAB}{B:CZ}{T T' T1 T2:zu->Prop}{H H' H1 H2:Hp}{σ σ' σ1 σ2:L2.St}{τ τ' τ1 τ2:Ay}
def EW.refl:EW T H σ τ T H σ τ:=⟨λ_ _ _ _ e=>e,λ_ t=>t,λ_ t=> .inl t,λ_ o=> .inl o,λ_ h=>h⟩
def EW.trans (a:EW T H σ τ T1 H1 σ1 τ1)(b:EW T1 H1 σ1 τ1 T2 H2 σ2 τ2):EW T H σ τ T2 H2 σ2 τ2 where
 keep:=λc o t w e=>b.keep c o (λz=>(a.new c z).elim t λn=>by rw[n] at e;cases e) (λz=>(a.own c z).elim w λn=>by rw[n] at e;cases e) (a.keep c o t w e)
 sub:=λc t=>b.sub c (a.sub c t)
 new:=λc t=>(b.new c t).elim (λz=>a.new c z) λz=> .inr (by
  cases e:H c with
  | none=>rfl
  | some o=>exact absurd z (a.some c (by rw[e];exact λe=>nomatch e)))
 own:=λc t=>(b.own c t).elim (λz=>a.own c z) λz=> .inr (by
  cases e:H c with
  | none=>rfl
  | some o=>exact absurd z (a.some c (by rw[e];exact λe=>nomatch e)))
 some:=λc h=>b.some c (a.some c h)
def Ct.prog (s:Ct T H T' H'):EW T H σ τ T' H' σ τ:=⟨λb o t _ e=>s.keep b o t e,s.sub,s.new,λ_ o=> .inl o,λ_ h=>s.some h⟩
def EW.less (h:∀b,CW σ' τ' b->CW σ τ b):EW T H σ τ T H σ' τ':=⟨λ_ _ _ _ e=>e,λ_ t=>t,λ_ t=> .inl t,λb o=> .inl (h b o),λ_ h=>h⟩
structure ER (K:AAB) (B:CZ) (T:Addr->Prop) (H:Hp) (σ:L2.St) (τ:Ay) (D:J1) (AD:Ff):Prop where
 nx:∀T' H' σ' τ',EW T H σ τ T' H' σ' τ'->SR K B T' H' σ' τ'->AD.nx τ'->D.nx σ' H'
 bk:∀T' H' σ' τ',EW T H σ τ T' H' σ' τ'->SR K B T' H' σ' τ'->AD.bk τ'->D.bk σ' H'
 ct:∀T' H' σ' τ',EW T H σ τ T' H' σ' τ'->SR K B T' H' σ' τ'->AD.ct τ'->D.ct σ' H'
 rt:∀v x T' H',Ct B.T B.H T' H'->Bs K T' B.M H' v x->AD.rt x->D.rt v H'
def ER.shift {D:J1}{a:Ff}(e:ER K B T H σ τ D a)(p:EW T H σ τ T1 H1 σ1 τ1):ER K B T1 H1 σ1 τ1 D a:=
 ⟨λ_ _ _ _ q=>e.nx _ _ _ _ (p.trans q),λ_ _ _ _ q=>e.bk _ _ _ _ (p.trans q),λ_ _ _ _ q=>e.ct _ _ _ _ (p.trans q),e.rt⟩
end
def W3 (K:AAB)(t:TS)(a:AS):Prop:=∀(B:CZ) (T:zu->Prop) (b:L2.St) (τ:Ay) (H:Hp) (D:J1) (c:Ff),SR K B T H b τ->a c τ->ER K B T H b τ D c->t D b H
def SS (X:Cx)(st:Stmt)(a:AS):Prop:=∃t,PS X st t/\W3 X.K t a
def Wd (X:Cx)(st:zy Stmt)(a:AS):Prop:=∃t,Rf X st t/\W3 X.K t a
def A7 {a:Type}{l:zy a}{i j:Nat}{x y:a}(h:(l.set i x)[j]? =some y):(j=i/\y=x/\i<l.length)\/(j≠i/\l[j]? =some y):=by
 by_cases e:j=i
 .subst e;rw[ACh] at h;simp at h;obtain⟨h1,h2⟩:=h;exact .inl ⟨rfl,h2.symm,h1⟩
 .rw [AAW (λz=>e z.symm)] at h;exact .inr ⟨e,h⟩
section
variable {K:AAB}{B:CZ}{T:zu->Prop}{H:Hp}{σ:L2.St}{τ:Ay}
def CQ {i:Nat}{v:V}{x:PV}{b:zu}(h:CW (σ.set i (some v)) (τ.set i (some (.val x))) b):CW σ τ b:=by
 obtain⟨j,xs,h1,h2⟩:=h;rcases A7 h1 with⟨_,e,_⟩|⟨n,a⟩
 .cases e
 .rw [AAW (λz=>n z.symm)] at h2;exact⟨j,xs,a,h2⟩
def SR.set {i:Nat}{v:V}{x:PV}(s:SR K B T H σ τ)(r:Bs K T (mt B σ τ) H v x):SR K B T H (σ.set i (some v)) (τ.set i (some (.val x))):=by
 have c:Mv K T (mt B σ τ) H T (mt B (σ.set i (some v)) (τ.set i (some (.val x)))) H:= .anti s.va λa m=>m.elim .inl λz=> .inr (CQ z);refine⟨by simp[s.len],λj y e=> ?_,λj ys e=> ?_,λj k ys o p t u h l=> ?_,s.tp,s.bm,s.bt,s.st⟩
 .rcases A7 e with⟨rfl,b,hl⟩|⟨n,b⟩
  .cases b;refine⟨v,by rw[ACh];simp[s.len,hl],r.mv c⟩
  .obtain ⟨w,hw,d⟩:=s.val j y b;exact⟨w,by rw[AAW (λz=>n z.symm)];exact hw,d.mv c⟩
 .rcases A7 e with⟨_,b,_⟩|⟨n,b⟩
  .cases b
  .obtain ⟨p,vs,h1,h2,A,C⟩:=s.own j ys b;exact⟨p,vs,by rw[AAW (λz=>n z.symm)];exact h1,h2,A.mv c,C⟩
 .rcases A7 t with⟨_,b,_⟩|⟨n,f⟩
  .cases b
  .rcases A7 u with⟨_,b,_⟩|⟨D,g⟩
   .cases b
   .rw [AAW (λz=>n z.symm)] at h;rw[AAW (λz=>D z.symm)] at l;exact s.dist j k ys o p f g h l
def Jg {i:Nat}{p:zu}{xs:zy PV}{b:zu}(h:CW (σ.set i (some (.ref p))) (τ.set i (some (.own xs))) b):CW σ τ b\/b=p:=by
 obtain⟨j,ys,h1,h2⟩:=h;rcases A7 h1 with⟨rfl,e,_⟩|⟨n,a⟩
 .rcases A7 h2 with⟨_,c,_⟩|⟨n,_⟩
  .cases c;exact .inr rfl
  .exact absurd rfl n
 .rw [AAW (λz=>n z.symm)] at h2;exact .inl ⟨j,ys,a,h2⟩
def SR.take {i:Nat}{p:zu}{vs:zy V}{xs:zy PV}(s:SR K (B.add p) T H σ τ)(hp:H p=some (.lst vs))(C:¬T p)(u:¬CW σ τ p)(D:¬B.M p)(E:B.H p=none)(r:An K T (mt (B.add p) σ τ) H vs xs):SR K B T H (σ.set i (some (.ref p))) (τ.set i (some (.own xs))):=by
 have h:Mv K T (mt (B.add p) σ τ) H T (mt B (σ.set i (some (.ref p))) (τ.set i (some (.own xs)))) H:= .anti s.va λa m=>by
  rcases m with m|m
  .exact .inl (.inl m)
  .rcases Jg m with z|z
   .exact .inr z
   .exact .inl (.inr z)
 refine⟨by simp[s.len],λj y e=> ?_,λj ys e=> ?_,λj k ys v q F x g d=> ?_,s.tp,λa m=>s.bm a (.inl m),λa m=>s.bt a (.inl m),s.st⟩
 .rcases A7 e with⟨_,b,_⟩|⟨n,b⟩
  .cases b
  .obtain ⟨w,hw,l⟩:=s.val j y b;exact⟨w,by rw[AAW (λz=>n z.symm)];exact hw,l.mv h⟩
 .rcases A7 e with⟨rfl,b,hl⟩|⟨n,b⟩
  .cases b;exact⟨p,vs,by rw[ACh];simp[s.len,hl],hp,r.mv h,E,C,D⟩
  .obtain ⟨q,G,h1,h2,I,J,L,N⟩:=s.own j ys b;exact⟨q,G,by rw[AAW (λz=>n z.symm)];exact h1,h2,I.mv h,J,L,λz=>N (.inl z)⟩
 .rcases A7 F with⟨A,_,_⟩|⟨n,f⟩
  .rcases A7 x with⟨o,_,_⟩|⟨t,c⟩
   .rw [A,o]
   .subst A;rw[AAW (λz=>t z.symm)] at d;rcases A7 g with⟨_,b,_⟩|⟨n,_⟩
    .cases b;exact absurd ⟨k,v,c,d⟩ u
    .exact absurd rfl n
  .rw [AAW (λz=>n z.symm)] at g;rcases A7 x with⟨o,_,_⟩|⟨t,c⟩
   .subst o;rcases A7 d with⟨_,b,_⟩|⟨n,_⟩
    .cases b;exact absurd ⟨j,ys,f,g⟩ u
    .exact absurd rfl n
   .rw [AAW (λz=>t z.symm)] at d;exact s.dist j k ys v q f c g d
def SR.write {i:Nat}{p:zu}{M vs:zy V}{xs ys:zy PV}(s:SR K B T H σ τ)(g:τ[i]? =some (some (.own xs)))(hs:σ[i]? =some (some (.ref p)))(hp:H p=some (.lst M))(r:An K T (mt B σ τ) H vs ys):SR K B T (upd H p (.lst vs)) σ (τ.set i (some (.own ys)))/\EW T H σ τ T (upd H p (.lst vs)) σ (τ.set i (some (.own ys))):=by
 obtain⟨Q,N,G,R,S,I,D,J⟩:=s.own i xs g;rw[hs] at G;cases G;have U:σ.set i (some (.ref p))=σ:=by
  apply List.ext_getElem?;intro k;by_cases hk:i=k
  .subst hk;rw[ACh,hs];simp[(AAp.mp hs).1]
  .rw [AAW hk]
 have l:CW σ τ p:=⟨i,xs,g,hs⟩;have L:∀b,CW σ (τ.set i (some (.own ys))) b->CW σ τ b:=λb h=>by
  obtain⟨j,f,h1,h2⟩:=h;rcases A7 h1 with⟨rfl,e,_⟩|⟨n,C⟩
  .exact ⟨j,xs,g,h2⟩
  .exact ⟨j,f,C,h2⟩
 have E:Mv K T (mt B σ τ) H T (mt B σ (τ.set i (some (.own ys)))) (upd H p (.lst vs)):=⟨s.va,λb o _ m e=>by
  rw[AZ (λz=>m (by subst z;exact .inr l))];exact e,λ_ t=>t,λ_ _ t=>t,λb _ m=>m.elim .inl λz=> .inr (L b z)⟩
 refine⟨⟨by simp[s.len],λj y e=> ?_,λj f e=> ?_,λj k f us q h1 h2 u A=> ?_,λa t=> ?_,λa m=> ?_,s.bt, ?_⟩,⟨λb o t w e=>by rw[AZ (λz=>w (by subst z;exact l))];exact e,λ_ t=>t,λ_ t=> .inl t,λb o=> .inl (L b o),λb h=> ?_⟩⟩
 .rcases A7 e with⟨_,c,_⟩|⟨n,c⟩
  .cases c
  .obtain ⟨v,h,O⟩:=s.val j y c;exact⟨v,h,O.mv E⟩
 .rcases A7 e with⟨rfl,c,_⟩|⟨n,c⟩
  .cases c;exact⟨p,vs,hs,AX,r.mv E,I,D,J⟩
  .obtain ⟨q,us,h1,h2,u,A⟩:=s.own j f c;have hq:q≠p:=λz=>by subst z;exact n (s.dist j i f xs q c g h1 hs)
   exact⟨q,us,h1,by rw[AZ hq];exact h2,u.mv E,A⟩
 .rcases A7 h1 with⟨rfl,_,_⟩|⟨n,C⟩
  .rcases A7 h2 with⟨rfl,_,_⟩|⟨P,F⟩
   .rfl
   .exact s.dist _ k xs us q g F u A
  .rcases A7 h2 with⟨rfl,_,_⟩|⟨P,F⟩
   .exact s.dist j _ f xs q C g u A
   .exact s.dist j k f us q C F u A
 .obtain ⟨d,x,e,z⟩:=s.tp a t;exact⟨d,x,by rw[AZ (λw=>by subst w;exact D t)];exact e,z⟩
 .obtain ⟨o,e,z⟩:=s.bm a m;exact⟨o,by rw[AZ (λw=>by subst w;exact J m)];exact e,z⟩
 .refine ⟨λb o t e=> ?_,s.st.sub,s.st.new,λa t=> ?_⟩
  .rw [AZ (λw=>by subst w;rw[I] at e;cases e)];exact s.st.keep b o t e
  .obtain ⟨d,x,e,z⟩:=s.tp a t;exact⟨d,x,by rw[AZ (λw=>by subst w;exact D t)];exact e,z⟩
 .by_cases z:b=p
  .subst z;rw[AX];exact λe=>nomatch e
  .rw [AZ z];exact h
end
section
variable {X:Cx}{st:Stmt}{rest:zy Stmt}{e:zr}{pos:Pos}{a b:AS}{ta:AE}
def R4 (ta:AE):AE:=λτ Q=>ta (frz τ) λx=>Ze x=true/\Q x
def PN (h:SE X e ta):SE X e (R4 ta):=by obtain⟨t,p,s⟩:=h;refine⟨t,p,λB T c τ H Q j d h k=>s B T c (frz τ) H _ _ d.frz h λv x f H1 g i h1=> ?_⟩;exact k v x f H1 g (i.free h1.1) h1.2
def QF (c:AT):AT:=λτ Q=>c (frz τ) Q
def Y5 {c:AT}(h:Rg X e c):Rg X e (QF c):=by obtain⟨t,p,s⟩:=h;exact⟨t,p,λB T d τ H Q j f h k=>s B T d (frz τ) H _ _ f.frz h λb g H1 i h1=>k b g H1 i h1⟩
def BK:AS:=λD τ=>D.nx τ
def Aa (a b:AS):AS:=λD τ=>a {D with nx:=b D} τ
def A3:Wd X [] BK:=⟨_,KY,λB T c τ H D g d h f=>f.nx T H c τ .refl d h⟩
def AL (h1:SS X st a)(h2:Wd X rest b):Wd X (st::rest) (Aa a b):=by obtain⟨t,p,s⟩:=h1;obtain⟨t',f,g⟩:=h2;exact⟨_,BM p f,λB T i τ H D j k h c=>s B T i τ H _ _ k h ⟨λl m σ' τ' q d h'=>g B l σ' τ' m D j d h' (c.shift q),c.bk,c.ct,c.rt⟩⟩
def AN (h1:SS X st a):Wd X [st] a:=let ⟨_,p,s⟩:=h1;⟨_,Dq p,s⟩
def Ar (ta:AE):AS:=λD τ=>ta (frz τ) D.rt
def AY (h:SE X e ta):SS X (.Return (some e) pos) (Ar ta):=by obtain⟨t,p,s⟩:=h;refine⟨_,MA p,λB T f τ H D k c h g=>s B T f (frz τ) H _ _ c.frz h λv x i H1 d j h1=> ?_⟩;exact g.rt v x i H1 (c.st.trans d) (j.mv (.anti (c.frz.stp d).va λa m=> .inl m)) h1
def CJ (c:AT)(a b:AS):AS:=λD τ=>c τ λk=>if k=true then a D τ else b D τ
def BE {c:zr}{x y:zy Stmt}{l:AT}(hc:Rg X c l)(ha:Wd X x a)(hb:Wd X y b):SS X (.If c x y pos) (CJ l a b):=by
 obtain⟨t,p,s⟩:=hc;obtain⟨v,r,f⟩:=ha;obtain⟨w,u,g⟩:=hb;refine⟨_,Uv p r u,λB T i τ H D m j h n=>s B T i τ H _ _ j h λk o H1 d h1=> ?_⟩;cases k with
 | true=>rw[AAE rfl] at h1 ⊢;exact f B o i τ H1 D m (j.stp d) h1 (n.shift d.prog)
 | false=>rw[AAC AAN] at h1 ⊢;exact g B o i τ H1 D m (j.stp d) h1 (n.shift d.prog)
abbrev AG:=PV->Ay->(Ay->Prop)->Prop
abbrev Ri:=zy PV->Ay->(Ay->Prop)->Prop
def J4 (K:AAB)(g:TG)(f:AG):Prop:=∀(B:CZ) (T:zu->Prop) (c:L2.St) (τ:Ay) (H:Hp) (v:V) (x:PV) (Q:L2.St->Hp->Prop) (d:Ay->Prop),SR K B T H c τ->Bs K T (mt B c τ) H v x->f x τ d->
 (∀σ' τ',SR K B T H σ' τ'->(∀b,CW σ' τ' b->CW c τ b)->d τ'->Q σ' H)->g v c H Q
def NT (K:AAB)(g:R1)(f:Ri):Prop:=∀(B:CZ) (T:zu->Prop) (c:L2.St) (τ:Ay) (H:Hp) (vs:zy V) (xs:zy PV) (Q:L2.St->Hp->Prop) (d:Ay->Prop),SR K B T H c τ->An K T (mt B c τ) H vs xs->f xs τ d->
 (∀σ' τ',SR K B T H σ' τ'->(∀b,CW σ' τ' b->CW c τ b)->d τ'->Q σ' H)->g vs c H Q
def SG (X:Cx)(c:zr)(d:AG):Prop:=∃g,PG X c g/\J4 X.K g d
def jv (X:Cx)(c:zy zr)(d:Ri):Prop:=∃g,gX X c g/\NT X.K g d
def Am (i:Nat):AG:=λx τ Q=>Q (τ.set i (some (.val x)))
def PY {K:AAB}{i:Nat}:J4 K (BL i) (Am i):=λB T d τ H v x Q f c r h k=>k _ _ (c.set r) (λb o=>CQ o) h
def PQ {i:Nat}{x:Str}(hN:X.N.Nodup)(hi:X.N[i]? =some x)(hx:Loc X.env.scope x)(c:X.fn x=true\/X.env.scope.names.lookup x=some .local:=by first | exact .inl rfl|exact .inr rfl|assumption):SG X (.Name x pos) (Am i):=
 ⟨_,Dp hN hi hx c,PY⟩
def Bw:Ri:=λxs τ Q=>match xs with | [] =>Q τ|_=>False
def Ad (g:AG)(r:Ri):Ri:=λxs τ Q=>match xs with | x::t=>g x τ λτ'=>r t τ' Q | [] =>False
def RS {K:AAB}:NT K J6 Bw:=λB T c τ H vs xs Q f d r h k=>by
 cases r with
 | nil=>exact⟨rfl,k c τ d (λ_ o=>o) h⟩
 | cons _ _=>exact h.elim
def Nv {K:AAB}{g:TG}{gs:R1}{p:AG}{c:Ri}(h1:J4 K g p)(h2:NT K gs c):NT K (CY g gs) (Ad p c):=λB T v τ H vs xs Q w s r h k=>by
 cases r with
 | nil=>exact h.elim
 | cons r t=> refine⟨_,_,rfl,h1 B T v τ H _ _ _ _ s r h λd f i u x=> ?_⟩;exact h2 B T d f H _ _ Q w i (t.mv (.anti s.va λa m=>m.elim .inl λz=> .inr (u a z))) x λj l n y A=>k j l n (λb o=>u b (y b o)) A
def B3:jv X [] Bw:=⟨_,IU,RS⟩
def Ae {es:zy zr}{d:AG}{c:Ri}(h1:SG X e d)(h2:jv X es c)(hs:(assignEach (e::es) X.env).map (·.2)=assign e X.env::(assignEach es X.env).map (·.2):=by rfl):jv X (e::es) (Ad d c):=
 let ⟨_,p,s⟩:=h1;let ⟨_,f,g⟩:=h2;⟨_,DA p f hs,Nv s g⟩
def Ak (ta:AE)(g:AG):AS:=λD τ=>ta τ λx=>g x τ D.nx
def PX {K:AAB}{t:TE}{g:TG}{i:AG}(s:Fc K t ta)(n:J4 K g i):W3 K (NL t g) (Ak ta i):=λB T j τ H D w k h o=>s B T j τ H _ _ k h λv x l H1 m p h1=>
 n B l j τ H1 v x _ _ (k.stp m) p h1 λc d f r u=>o.nx l H1 c d (m.prog.trans (.less r)) f u
def Ph {c:zr}{d:AG}(he:SE X e ta)(f:SG X c d)(hs:swapsWithSole [c] e pos.line X.env=pure false:=by rfl)(hw:swappedStores [c] e X.env=pure none:=by rfl)(h1:(assignEach [c] X.env).map (·.2)= [assign c X.env] :=by rfl):SS X (.Assign [c] e pos) (Ak ta d):=
 let ⟨_,p,s⟩:=he;let ⟨_,g,h⟩:=f;⟨_,TN p g hs hw h1,PX s h⟩
def MS {i:Nat}{x:Str}{pos':Pos}(hN:X.N.Nodup)(hi:X.N[i]? =some x)(hx:Loc X.env.scope x)(he:SE X e ta)(hs:swapsWith e (some (.Name x pos')) pos.line X.env=pure false:=by rfl)(c:X.fn x=true\/X.env.scope.names.lookup x=some .local:=by first | exact .inl rfl|exact .inr rfl|assumption):SS X (.Assign [.Name x pos'] e pos) (Ak ta (Am i)):=let ⟨_,p,s⟩:=he;⟨_,Ea hN hi hx p hs c,PX s PY⟩
def Fy (r:AA)(i:Nat):AS:=λD τ=>r τ λxs=>D.nx (τ.set i (some (.own xs)))
def VA {K:AAB}{t:TE}{r:AA}{i:Nat}(s:Zw K t r):W3 K (NL t (BL i)) (Fy r i):=λB T j τ H D w c h k=>s B T j τ H _ _ c h λp vs xs l H1 d g f hp m n h1=>by
 have u:¬CW j τ p:=λo=>by obtain⟨_,e,_⟩:=c.ownH o;rw[f] at e;cases e
 have v:¬B.M p:=λo=>by obtain⟨_,e,_⟩:=c.bm p o;rw[f] at e;cases e
 refine k.nx l H1 _ _ ⟨λb o t _ e=>d.keep b o t e,d.sub,d.new,λb o=> ?_,λb h=>d.some h⟩ (g.take hp m u v (c.st.none f) n) h1;rcases Jg o with z|z
 .exact .inl z
 .subst z;exact .inr f
def Dj {i:Nat}{x:Str}{pos':Pos}{r:AA}(hN:X.N.Nodup)(hi:X.N[i]? =some x)(hx:Loc X.env.scope x)(he:SF X e r)(hs:swapsWith e (some (.Name x pos')) pos.line X.env=pure false:=by rfl)(c:X.fn x=true\/X.env.scope.names.lookup x=some .local:=by first | exact .inl rfl|exact .inr rfl|assumption):SS X (.Assign [.Name x pos'] e pos) (Fy r i):=let ⟨_,p,s⟩:=he;⟨_,Ea hN hi hx p hs c,VA s⟩
def Va (i j:Nat)(r:AA):AS:=λD τ=>r τ λxs=>match xs with | [x,y] =>D.nx ((τ.set i (some (.val x))).set j (some (.val y)))|_=>False
def Tk {i j:Nat}{x y:Str}{c d:zr}{r:AA}{g k l:Pos}{kt k2 pt2}(hc:X.calm=true)(hN:X.N.Nodup)(hi:X.N[i]? =some x)(hj:X.N[j]? =some y)(v:i≠j)(hx:X.env.scope.names.lookup x=some .local)(hy:X.env.scope.names.lookup y=some .local)(ha:SA X [c,d] r)(hw:swappedStores [.Tuple [.Name x g, .Name y k] kt l] (.Tuple [c,d] k2 pt2) X.env=pure (some [x,y]))(hs:swapsWithSole [.Tuple [.Name x g, .Name y k] kt l] (.Tuple [c,d] k2 pt2) pos.line X.env=pure false:=by rfl):SS X (.Assign [.Tuple [.Name x g, .Name y k] kt l] (.Tuple [c,d] k2 pt2) pos) (Va i j r):=by
 obtain⟨t,p,s⟩:=ha;refine⟨_,fU hc hN hi hj v hx hy p hw hs,λB T w τ H D I n h A=>s B T w τ H _ _ n h λvs xs C H1 u E h1=> ?_⟩;cases E with
 | nil=>exact h1.elim
 | cons ra ta=>
   cases ta with
   | nil=>exact h1.elim
   | cons F G=>
     cases G with
     | cons _ _=>exact h1.elim
     | nil=> have f:=n.stp u;refine⟨_,_,rfl,A.nx C H1 _ _ ?_ ((f.set (i:=i) ra).set (i:=j) (F.mv (.anti f.va λa m=>m.elim .inl λz=> .inr (CQ z)))) h1⟩;exact u.prog.trans (.less λb o=>CQ (CQ o))
def R3 (i:Nat)(f:Hq)(ta:AE):AS:=λD τ=>match Po τ i with | some (.val x)=>ta τ λy=>f x y λz=>D.nx (τ.set i (some (.val z)))|_=>False
def Y1 {i:Nat}{x:Str}{op:Operator}{g:iE}{f:Hq}{pos':Pos}(hN:X.N.Nodup)(hi:X.N[i]? =some x)(hx:Loc X.env.scope x)(he:SE X e ta)(j:gY X op g/\B8 X.K g f)(l:X.fn x=true\/X.env.scope.names.lookup x=some .local:=by first | exact .inl rfl|exact .inr rfl|assumption):SS X (.AugAssign (.Name x pos') op e pos) (R3 i f ta):=by
 obtain⟨t,p,s⟩:=he;refine⟨_,fT hN hi hx p j.1 l,λB T m τ H D I c h n=> ?_⟩;unfold R3 at h;split at h <;> first | exact h.elim|skip
 rename_i y r;obtain⟨v,ev,rv⟩:=c.val i y (Ly r);refine⟨v,ev,s B T m τ H _ _ c h λw z A H1 d C h1=> ?_⟩;refine j.2 A _ H1 v w y z _ _ (c.stp d).va (rv.stp d c.va) C h1 λu q E F k G h2=> ?_;exact n.nx E F _ _ ((d.trans k).prog.trans (.less λb o=>CQ o)) (((c.stp d).stp k).set G) h2
def gC:gY X .Add (lw λi j=>i+j)/\B8 X.K (lw λi j=>i+j) iJ:=⟨eI,λT M H u v x y Q d va c rv h k=>by
 obtain⟨i,j,rfl,rfl,q⟩:=KW h;exact⟨i,j,c.toI,rv.toI,k _ _ T H (.refl va.tp) (.int _) q⟩⟩
def OG (i:Nat)(τ:Ay)(R:zy PV->Prop):Prop:=match Po τ i with | some (.own xs)=>R xs|_=>False
def Z0 {i:Nat}{τ:Ay}{R:zy PV->Prop}(h:OG i τ R):∃xs,τ[i]? =some (some (.own xs))/\R xs:=by
 unfold OG at h;cases e:Po τ i with
 | none=>rw[e] at h;exact h.elim
 | some z=>
   rw[e] at h;cases z with
   | val x=>exact h.elim
   | own xs=>exact⟨xs,Ly e,h⟩
abbrev dR:=zy PV->zy PV->(zy PV->Prop)->Prop
def Zx (K:AAB)(r:V->zy V->Hp->VK->Prop)(f:dR):Prop:=∀(T M:zu->Prop) (H:Hp) (l:zu) (g vs:zy V) (xs ys:zy PV) (Q:VK) (h:zy PV->Prop),H l=some (.lst g)->An K T M H g xs->An K T M H vs ys->f xs ys h->
 (∀c d,An K T M H c d->h d->Q .non (upd H l (.lst c)))->r (.ref l) vs H Q
def C2 (i:Nat)(f:dR)(r:AA):AS:=λD τ=>OG i τ λxs=>r τ λys=>f xs ys λc=>D.nx (τ.set i (some (.own c)))
def Yy {K:AAB}{i:Nat}{l:V->zy V->Hp->VK->Prop}{f:dR}{t:TA}{r:AA}(v:Zx K l f)(s:dS K t r):W3 K (c8 (o7 K "list" l (Cm i) t)) (C2 i f r):=λB T m τ H D E d h w=>by obtain⟨xs,e,h⟩:=Z0 h;obtain⟨p,vs,n,hp,x,F,o,G⟩:=d.own i xs e;refine⟨.ref p,n, .inl ⟨rfl,vs, .inl (.inl hp)⟩,s B T m τ H _ _ d h λus ys u H1 c y h2=> ?_⟩;have g:=d.stp c;refine v u (mt B m τ) H1 p vs us xs ys _ _ (c.keep _ _ o hp) (x.stp c d.va) y h2 λz I A C=> ?_;obtain⟨j,k⟩:=g.write (i:=i) (xs:=xs) e n (c.keep _ _ o hp) A;exact w.nx u _ _ _ (c.prog.trans k) j C
def B5 {i:Nat}{x name:Str}{es:zy zr}{id:String}{d:V->zy V->Hp->VK->Prop}{f:dR}{r:AA}{p apos c:Pos}(slot:Slot "list" name id)(h:typeOf (.builtin id)=pure (.type "method_descriptor"))(g:iA X id d/\Zx X.K d f)(ha:SA X (e::es) r)(hN:X.N[i]? =some x:=by rfl)(hv:gZ X.env.scope x:=by first | exact Or.inl rfl|exact Or.inr (Or.inl rfl)|exact Or.inr (Or.inr rfl))(hd:(x==("__debug__" :Str))=false:=by decide)(j:(x==("__classdict__" :Str))=false:=by decide)(k:attributeBase (.Name x p) name X.env (eval (.Name x p) X.env)=eval (.Name x p) X.env:=by rfl)(l:((backTo c (starEach (e::es) X.env)).all (λx=> !x.1)&&(backToKw c (keywordEach [] X.env)).all (λx=>x.1.isSome) && decide ((e::es).length+([] :zy Keyword).length+(if ([] :zy Keyword).isEmpty then 0 else 1)<30))=true:=by rfl)(m:(apos.endLine==c.line)=true:=by rfl)(hs:starEach (e::es) X.env=(false,eval e X.env)::starEach es X.env:=by rfl)(n:(backTo c (starEach es X.env)).any (·.1)=false:=by rfl)(o:swapsWith (.Call (.Attribute (.Name x p) name apos) (e::es) [] c) none pos.line X.env=pure false:=by rfl):SS X (.Expr (.Call (.Attribute (.Name x p) name apos) (e::es) [] c) pos) (C2 i f r):=by obtain⟨t,u,s⟩:=ha;exact⟨_,bN (jE PySem.F.plainAttrs_list slot h g.1 (TL hN hv hd j) u k l m hs n) o,Yy g.2 s⟩
def F2:dR:=λxs ys Q=>match ys with | [y] =>xs.length<sizeLine/\Q (xs ++ [y])|_=>False
def BR:iA X "list.append" Ox/\Zx X.K Ox F2:=by
 refine⟨Np,λT M H l d vs xs ys Q i hl c f h k=> ?_⟩;unfold F2 at h;split at h <;> first | exact h.elim|skip
 cases f with
 | cons g t=> cases t;exact⟨l,d,_,rfl,rfl,hl,by rw[c.length];exact h.1,k _ _ (c.append (.cons g .nil)) h.2⟩
def X3:dR:=λxs ys Q=>match ys with | [.int i,y] =>(0<=i/\i<=(xs.length:Int)/\xs.length<sizeLine)/\Q (xs.take i.toNat++y::xs.drop i.toNat)|_=>False
def Nw:iA X "list.insert" Oy/\Zx X.K Oy X3:=by
 refine⟨V9,λT M H l d vs xs ys Q n hl c f h k=> ?_⟩;unfold X3 at h;split at h <;> first | exact h.elim|skip
 cases f with
 | cons g t=>
   cases t with
   | cons i t=> cases t;cases g;obtain⟨⟨h1,h2,j⟩,m⟩:=h;exact⟨l,d,_,_,rfl,rfl,hl,h1,by rw[c.length];exact h2,by rw[c.length];exact j,k _ _ ((c.take _).append (.cons i (c.drop _))) m⟩
end
section
variable {X:Cx}{st:Stmt}{e:zr}{pos:Pos}{a b:AS}{ta:AE}
def Rb (c:AT)(b:AS)(D:Ff):Nat->Ay->Prop
 | 0,_=>False
 | n+1,τ=>c (frz τ) λk=>if k=true then b {D with nx:=Rb c b D n,ct:=Rb c b D n,bk:=D.nx} τ else D.nx τ
def G7 (c:AT)(b:AS):AS:=λD τ=>∃n,Rb c b D n τ
def GI {c:zr}{body:zy Stmt}{v:AT}(hp:PassesOwn (model X.prog X.w) X.A X.env X.xe)(hc:Rg X c v)(hb:Wd X body b):SS X (.While c body [] pos) (G7 v b):=by
 obtain⟨t,p,s⟩:=hc;obtain⟨t',I,J⟩:=hb;refine⟨_,YZ hp p I,λB T z τ H D C L h E=> ?_⟩;obtain⟨n,h⟩:=h;refine⟨λm f H1=>∃x d,SR X.K B x H1 f d/\EW T H z τ x H1 f d/\Rb v b C m d,⟨n,T,τ,L, .refl,h⟩, ?_⟩;rintro m f H1 ⟨x,d,l,g,h1⟩;cases m with
 | zero=>exact h1.elim
 | succ m=>
   refine s B x f (frz d) H1 _ _ l.frz h1 λk F G y h2=> ?_;have o:=l.stp y;have r:=(E.shift g).shift y.prog;cases k with
   | false=>rw[AAC AAN] at h2 ⊢;exact r.nx F G f d .refl o h2
   | true=> rw[AAE rfl] at h2 ⊢;refine⟨λσ' u=>∃j τ',SR X.K B j u σ' τ'/\EW T H z τ j u σ' τ'/\Rb v b C m τ',λσ' u q=>⟨m,Nat.lt_succ_self m,q⟩, ?_⟩;exact J B F f d G _ _ o h2 ⟨λj u σ' τ' q i h'=>⟨j,τ',i,(g.trans y.prog).trans q,h'⟩,r.nx,λj u σ' τ' q i h'=>⟨j,τ',i,(g.trans y.prog).trans q,h'⟩,E.rt⟩
abbrev AI:=Ay->(zy PV->Prop)->Prop
structure QA (K:AAB) (M:Addr->Prop) (J:It) (xs:List PV) (T:Addr->Prop) (H:Hp):Prop where
 go:∀i y,xs[i]? =some y->J.go i H
 yld:∀i y v H',xs[i]? =some y->J.yld i H v H'->Ct T H T H'/\Bs K T M H' v y
 stop:∀i,xs.length<=i->J.stop i H
def UH (T:zu->Prop)(H c:Hp):Prop:=∀b o,¬T b->H b=some o->c b=some o
def dU (K:AAB)(s:zq)(j:TI)(k:AI):Prop:=∀(B:CZ) (T:zu->Prop) (f:L2.St) (τ:Ay) (H:Hp) (R:It->Hp->Prop) (i:zy PV->Prop),SR K B T H f τ->k τ i->
 (∀J xs g c,Ct T H g c->(∀M2 h d,Mv K g (mt B f τ) c h M2 d->Fv h M2 d->(s=true\/UH g c d)->QA K M2 J xs h d)->i xs->R J c)->j f H R
def SI (X:Cx)(d iter:zr)(s:zq)(f:AI):Prop:=∃c,PI X d iter c/\dU X.K s c f
def ii (K:AAB)(c:TE):TI:=λd H R=>c d H λx H1=>∃a,x= .ref a/\(((∃xs,Ee K H1 a xs)/\R (kY K a) H1)\/((∃xs,JZ K H1 a xs)/\R (kZ K a) H1))
def YS {i l:zr}{g:TE}(hl:PE X l g):PI X i l (ii X.K g):=by
 intro j s k H R I h;refine BJ (hl j s k H _ I h) λv c ⟨x,H1,d,m,n⟩=> ?_;obtain⟨a,e,q⟩:=n;subst e;cases m;rcases q with⟨⟨xs,hq⟩,q⟩|⟨⟨xs,hq⟩,q⟩
 .obtain ⟨f,rv,p,hz⟩:=d.list hq;refine ACY p.isList ?_;refine⟨c.heap.objs.size, [c.heap.objs.size],_,_,H1,rfl,d.kept (t':=c.toks) λb o e=>AAH _ e,WY a _,⟨_,AAP _ rfl,rfl,rfl⟩,λb hb=> ?_,q⟩;have e:b=c.heap.objs.size:=by simpa using hb
  subst e;exact d.fpOk (AAI _) (d.hok.fresh (AAI _))
 .obtain ⟨f,rv,p,hz⟩:=d.tuple hq;refine wpAny_pyIter_tuple (show c.heap.IsTuple a f.toArray from p) ?_;refine⟨c.heap.objs.size, [c.heap.objs.size],_,_,H1,rfl,d.kept (t':=c.toks) λb o e=>AAH _ e,UB a _,⟨_,AAP _ rfl,rfl,rfl⟩,λb hb=> ?_,q⟩;have e:b=c.heap.objs.size:=by simpa using hb
  subst e;exact d.fpOk (AAI _) (d.hok.fresh (AAI _))
def Mw (ta:AE):AI:=λτ Q=>ta τ λx=>Mb x Q
def Xq {K:AAB}{T M:zu->Prop}{H:Hp}{a:zu}{xs:zy PV}(va:Fv T M H)(r:Bs K T M H (.ref a) (.tup xs)):QA K M (kZ K a) xs T H:=by
 obtain⟨g,vs,e,hq,c⟩:=Di r;cases e;refine⟨λi y h=> ?_,λi y v j h d=> ?_,λi h=>⟨vs,hq,by rw[c.length];exact h⟩⟩
 .obtain ⟨v,hv,_⟩:=c.get h;exact⟨vs,v,hq,hv⟩
 .obtain ⟨rfl,d⟩:=d;obtain⟨z,hz,f⟩:=c.get' (d vs hq);rw[h] at hz;cases hz;exact⟨.refl va.tp,f⟩
def Xo {K:AAB}{T M:zu->Prop}{H:Hp}{a:zu}{vs:zy V}{xs:zy PV}(va:Fv T M H)(hq:H a=some (.lst vs))(c:An K T M H vs xs):QA K M (kY K a) xs T H:=by
 have d:Ee K H a vs:= .inl (.inl hq);refine⟨λi y h=> ?_,λi y v j h f=> ?_,λi h=>⟨vs,d,by rw[c.length];exact h⟩⟩
 .obtain ⟨v,hv,_⟩:=c.get h;exact⟨vs,v,d,hv⟩
 .obtain ⟨rfl,f⟩:=f;obtain⟨z,hz,g⟩:=c.get' (f vs d);rw[h] at hz;cases hz;exact⟨.refl va.tp,g⟩
def FG {j:zr}(h:SE X e ta):SI X j e true (Mw ta):=by
 obtain⟨t,p,s⟩:=h;refine⟨_,YS p,λB T l τ H R z m h k=>s B T l τ H _ _ m h λv x g H1 i c h1=> ?_⟩;obtain⟨xs,hx,q⟩:=HM h1;rcases hx with rfl|rfl
 .obtain ⟨a,vs,rfl,hq,n⟩:=Di c;refine⟨a,rfl, .inr ⟨⟨vs,hq⟩,k _ xs g H1 i (λM2 o r d va _=>Xq va (c.mv d)) q⟩⟩
 .obtain ⟨a,vs,rfl,hq,A,C,n⟩:=Cc c;refine⟨a,rfl, .inl ⟨⟨vs, .inl (.inl hq)⟩,k _ xs g H1 i (λM2 o r d va _=> ?_) q⟩⟩;obtain⟨D,u,w,y,_,_,f⟩:=Cc (c.mv d);cases w;exact Xo va y f
def rng (lo:Int)(n:Nat):zy PV:=(List.range n).map λ(k:Nat)=> .int (lo+(k:Int))
def Xp {K:AAB}{T M:zu->Prop}{H:Hp}{lo:Int}{n:Nat}(va:Fv T M H):QA K M (js lo n) (rng lo n) T H:=by
 have hl:(rng lo n).length=n:=by simp[rng]
 refine⟨λi y h=> ?_,λi y v d h c=> ?_,λi h=>by rw[hl] at h;exact h⟩
 .have:=(AAp.mp h).1;rw[hl] at this;exact this
 .obtain ⟨rfl,rfl⟩:=c;have hi:=(AAp.mp h).1;rw[hl] at hi;have:y= .int (lo+(i:Int)):=by simp[rng,List.getElem?_range hi] at h;exact h.symm
  subst this;exact⟨.refl va.tp, .int _⟩
def QG (r:AA):AI:=λτ Q=>r τ λxs=>match xs with | [.int j] =>(-(2^62)<=j/\j<2^62)/\Q (rng 0 j.toNat)|_=>False
def Nu {d c:zr}{r:AA}{p:Pos}(f:Gl X "range")(g:X.mg "range" =none)(ha:SA X [c] r)(hs:starEach [c] X.env= [(false,eval c X.env)] :=by rfl):SI X d (.Call (.Name "range" p) [c] [] pos) true (QG r):=by
 obtain⟨t,i,s⟩:=ha;refine⟨_,WI f g i hs,λB T j τ H R u l h k=>s B T j τ H _ _ l h λvs xs m H1 n o h1=> ?_⟩;split at h1 <;> first | exact h1.elim|skip
 cases o with
 | cons r t=> cases t;cases r;exact⟨_,rfl,h1.1.1,h1.1.2,k _ _ m H1 n (λM2 v w x va _=>Xp va) h1.2⟩
def Gk (xs ys:zy PV):zy PV:=List.zipWith (λx y=> .tup [x,y]) xs ys
def ip (K:AAB)(ta:TA):TI:=λd H R=>ta d H λvs H1=>∃b c l m,vs= [.ref l, .ref m] /\(∃xs,Sq K b H1 l xs)/\(∃ys,Sq K c H1 m ys)/\R (ka K b c l m) H1
def bH {e f:zr}{ta:TA}{p pos g:Pos}{es:zy zr}{w:Nat}(x:Gl X "zip")(y:X.mg "zip" =none)(ha:PA X [e,f] ta)(hs:starEach [e,f] X.env= [(false,eval e X.env),(false,eval f X.env)] :=by rfl)(t:starEach [f] X.env= [(false,eval f X.env)] :=by rfl):PI X (.Tuple es w g) (.Call (.Name "zip" p) [e,f] [] pos) (ip X.K ta):=by
 intro z s A H R I h;refine Call_ (Iy I x y boot_zip (ABy (BJ (ha pos z s A H _ I h) λus d ⟨vs,H1,i,B,C⟩=> ?_) (by rw[hs,t]) (by rw[t];rfl)));obtain⟨b,c,l,m,rfl,⟨xs,hl⟩,⟨ys,D⟩,q⟩:=C;cases B with
 | cons r j=>
 cases j with
 | cons E j=>
 cases j;cases r;cases E;obtain⟨us,J,u,_⟩:=i.sq hl;obtain⟨vs,rv,sv,_⟩:=i.sq D;have k:l<d.heap.objs.size:=by cases b <;> (obtain⟨o,e,_⟩:=u;exact AAG e)
 have n:m<d.heap.objs.size:=by cases c <;> (obtain⟨o,e,_⟩:=sv;exact AAG e)
 refine gU u sv λh1 Z F=>wpAny_pyIter_zip Z.zip ?_;refine⟨_,_,_,_,H1,rfl,i.kept (t':=d.toks) F,ZM (zipApart_new k n),Z,λp hp=> ?_,q⟩;have v:d.heap.objs.size<=p:=by
  have G:p=d.heap.objs.size+4\/p=d.heap.objs.size+2\/p=d.heap.objs.size+3\/p=d.heap.objs.size\/p=d.heap.objs.size+1:=by simpa using hp
  rcases G with e|e|e|e|e <;> (rw[e];omega)
 exact i.fpOk v (i.hok.fresh v)
def db:PV->zq | .lst _=>true|_=>false
def Ny {K:AAB}{T M:zu->Prop}{H:Hp}{v:V}{x:PV}{xs:zy PV}(hx:x= .tup xs\/x= .lst xs)(r:Bs K T M H v x):∃a vs,v= .ref a/\Sq K (db x) H a vs/\An K T M H vs xs:=by
 rcases hx with rfl|rfl
 .obtain ⟨a,vs,rfl,hq,c⟩:=Di r;exact⟨a,vs,rfl,hq,c⟩
 .obtain ⟨a,vs,rfl,hq,_,_,c⟩:=Cc r;exact⟨a,vs,rfl, .inl (.inl hq),c⟩
def Xr {K:AAB}{T M:zu->Prop}{H:Hp}{l m:zu}{x y:PV}{xs ys:zy PV}(va:Fv T M H)(hx:x= .tup xs\/x= .lst xs)(hy:y= .tup ys\/y= .lst ys)(r:Bs K T M H (.ref l) x)(t:Bs K T M H (.ref m) y):QA K M (ka K (db x) (db y) l m) (Gk xs ys) T H:=by
 obtain⟨_,vs,e,hq,f⟩:=Ny hx r;cases e;obtain⟨_,g,e,j,c⟩:=Ny hy t;cases e;have hz:∀i z,(Gk xs ys)[i]? =some z->∃a b,xs[i]? =some a/\ys[i]? =some b/\z=PV.tup [a,b] :=λi z h=>by
  unfold Gk at h;rw[List.getElem?_zipWith] at h;cases d:xs[i]? with
  | none=>rw[d] at h;cases h
  | some a=>
    cases k:ys[i]? with
    | none=>rw[d,k] at h;cases h
    | some b=>rw[d,k] at h;cases h;exact⟨a,b,by first | rfl|exact d,by first | rfl|exact k,rfl⟩
 refine⟨λi z h=> ?_,λi z v D h A=> ?_,λi h=>⟨vs,g,hq,j, ?_⟩⟩
 .obtain ⟨a,b,ha,hb,_⟩:=hz i z h;obtain⟨u,hu,_⟩:=f.get ha;obtain⟨w,hw,_⟩:=c.get hb;exact⟨vs,g,u,w,hq,j,hu,hw⟩
 .obtain ⟨a,b,ha,hb,rfl⟩:=hz i z h;obtain⟨p,u,w,rfl,B,rfl,hu,hw⟩:=A;obtain⟨E,n,ra⟩:=f.get' (hu vs hq);obtain⟨F,s,C⟩:=c.get' (hw g j);rw[ha] at n;cases n;rw[hb] at s;cases s;have st:=Ct.lay (o:= .tup [u,w]) va.tp B;exact⟨st, .tup (.inl AX) (.cons (ra.stp st va) (.cons (C.stp st va) .nil))⟩
 .rw [f.length,c.length];have:(Gk xs ys).length=min xs.length ys.length:=by simp[Gk]
  omega
def cU (r:AA):AI:=λτ Q=>r τ λc=>match c with | [x,y] =>Mb x λxs=>Mb y λys=>Q (Gk xs ys)|_=>False
def WS {e f:zr}{r:AA}{p pos c:Pos}{es:zy zr}{i:Nat}(j:Gl X "zip")(n:X.mg "zip" =none)(ha:SA X [e,f] r)(hs:starEach [e,f] X.env= [(false,eval e X.env),(false,eval f X.env)] :=by rfl)(o:starEach [f] X.env= [(false,eval f X.env)] :=by rfl):SI X (.Tuple es i c) (.Call (.Name "zip" p) [e,f] [] pos) true (cU r):=by
 obtain⟨t,u,s⟩:=ha;refine⟨_,bH j n u hs o,λB T v τ H R I w h k=>s B T v τ H _ _ w h λvs xs z H1 A C h1=> ?_⟩;split at h1 <;> first | exact h1.elim|skip
 rename_i x y;obtain⟨xs,hx,h2⟩:=HM h1;obtain⟨ys,hy,D⟩:=HM h2;cases C with
 | cons ra t=>
   cases t with
   | cons d t=> cases t;obtain⟨l,us,rfl,hq,J⟩:=Ny hx ra;obtain⟨m,E,rfl,F,G⟩:=Ny hy d;exact⟨db x,db y,l,m,rfl,⟨us,hq⟩,⟨E,F⟩,k _ _ z H1 A (λM2 K L g va _=>Xr va hx hy (ra.mv g) (d.mv g)) D⟩
def Ci (g:AG)(b:AS)(D:Ff):zy PV->Ay->Prop
 | [],τ=>D.nx τ
 | x::r,τ=>g x τ λc=>b {D with nx:=Ci g b D r,ct:=Ci g b D r,bk:=D.nx} c
def EY (c:AI)(g:AG)(b:AS):AS:=λD τ=>c τ λxs=>Ci g b D xs τ
def EW.mvv {K:AAB}{B:CZ}{T d:zu->Prop}{H f:Hp}{c σ':L2.St}{τ τ':Ay}(s:SR K B T H c τ)(p:EW T H c τ d f σ' τ'):Mv K T (mt B c τ) H d (mt B σ' τ') f:=
 ⟨s.va,λb o t m e=>p.keep b o t (λz=>m (.inr z)) e,p.sub,λb n t=>(p.new b t).elim id λz=>absurd z n,λb n m=>m.elim .inl λz=>(p.own b z).elim .inr λz=>absurd z n⟩
def B4 {E iter:zr}{body:zy Stmt}{O:AI}{g:AG}(hp:PassesOwn (model X.prog X.w) X.A X.env X.xe)(hc:X.calm=true)(hi:SI X E iter true O)(W:SG X E g)(hb:Wd X body b)(hs:∀x,foldedSetIterable iter X.env x=pure x:=by intro _;rfl):SS X (.For E iter body [] pos) (EY O g b):=by
 obtain⟨wi,Y,Z⟩:=hi;obtain⟨tg',pg,sg⟩:=W;obtain⟨tb,pb,sb⟩:=hb;refine⟨_,TQ hp hc Y pg pb hs,λB T y τ H D P Q h F=>Z B T y τ H _ _ Q h λJ xs z H1 G walk h1=> ?_⟩;have p:=Q.stp G;refine⟨λi m d r=>m=xs.length-i/\∃f c,SR X.K B f r d c/\EW z H1 y τ f r d c/\Ci g b P (xs.drop i) c,⟨_,rfl,z,τ,p, .refl,h1⟩, ?_⟩;rintro i m d r ⟨rfl,f,c,k,l,h2⟩;have w:=walk _ f r (l.mvv p) k.va (.inl rfl);have I:=(F.shift G.prog).shift l;by_cases R:i<xs.length
 .have S:xs[i]? =some xs[i] :=AAT R;rw[AB6 R] at h2;refine .inr ⟨w.go i _ S,λσ' s=>∃j τ',SR X.K B j s σ' τ'/\EW z H1 y τ j s σ' τ'/\Ci g b P (xs.drop (i+1)) τ',λσ' s ⟨j,τ',q1,q2,q3⟩=>⟨_,by omega,rfl,j,τ',q1,q2,q3⟩,λv C yl=> ?_⟩;obtain⟨U,r3⟩:=w.yld i _ v C S yl;have L:=k.stp U;refine sg B f d c C v _ _ _ L r3 h2 λt u M o4 h4=> ?_;have n:EW z H1 y τ f C t u:=(l.trans U.prog).trans (.less o4);have N:=(F.shift G.prog).shift n;exact sb B f t u C _ _ M h4 ⟨λj s σ' τ' q o h'=>⟨j,τ',o,n.trans q,h'⟩,N.nx,λj s σ' τ' q o h'=>⟨j,τ',o,n.trans q,h'⟩,F.rt⟩
 .rw [ADJ (by omega)] at h2;exact .inl ⟨w.stop i (by omega),I.nx f r d c .refl k h2⟩
def Ve:zt AV->zt AV|some (.val x)=>some (.val x)|_=>none
def Mx (own:Nat)(ix:zy Nat)(τ:Ay):Ay:=List.replicate own none++ix.map λi=>Ve (Po τ i)
def C6 (g:AG)(t:AT)(f:AE)(c:Ay)(Q:zy PV->Prop):zy PV->zy PV->Prop
 | [],acc=>Q acc
 | x::r,acc=>g x c λd=>t d λok=>if ok=true then f d λy=>C6 g t f c Q r (acc ++ [y]) else C6 g t f c Q r acc
def Cu (c:AI)(own:Nat)(ix:zy Nat)(g:AG)(t:AT)(d:AE):AA:=λτ Q=>c τ λxs=>xs.length<sizeLine/\C6 g t d (Mx own ix τ) Q xs []
def XA {own:Nat}{ix:zy Nat}{τ:Ay}{j:Nat}{x:PV}(h:(Mx own ix τ)[j]? =some (some (.val x))):own<=j/\∃i,ix[j-own]? =some i/\τ[i]? =some (some (.val x)):=by
 unfold Mx at h;by_cases hj:j<own
 .rw [ABB (by simpa using hj),ABI,AAE hj] at h;cases h
 .rw [AA6 (by simpa using hj),ABJ,AAk] at h;cases e:ix[j-own]? with
  | none=>rw[e] at h;cases h
  | some i=>
    rw[e] at h;refine⟨by omega,i,rfl,Ly ?_⟩;cases c:Po τ i with
    | none=>simp[c,Ve] at h
    | some z=>cases z <;> simp[c,Ve] at h;subst h;rfl
def IE {own:Nat}{ix:zy Nat}{τ:Ay}{j:Nat}{xs:zy PV}:(Mx own ix τ)[j]? ≠some (some (.own xs)):=λh=>by
 unfold Mx at h;by_cases hj:j<own
 .rw [ABB (by simpa using hj),ABI,AAE hj] at h;cases h
 .rw [AA6 (by simpa using hj),ABJ,AAk] at h;cases e:ix[j-own]? with
  | none=>rw[e] at h;cases h
  | some i=>
    rw[e] at h;cases c:Po τ i with
    | none=>simp[c,Ve] at h
    | some z=>cases z <;> simp[c,Ve] at h
def CZ.blk (B:CZ)(c:L2.St)(τ:Ay)(D:zu):CZ:=⟨B.T,B.H,λa=>mt B c τ a\/a=D⟩
def SR.blk {K:AAB}{B:CZ}{T d:zu->Prop}{H f:Hp}{c:L2.St}{τ:Ay}{D:zu}{h:zy V}{own:Nat}{ix:zy Nat}(s:SR K B T H c τ)(q:Ct T H d f)(l:H D=none)(hd:f D=some (.lst h))(u:¬d D):SR K (B.blk c τ D) d f (CG own ix c) (Mx own ix τ):=by
 have g:=s.stp q;have w:Mv K T (mt B c τ) H d (mt (B.blk c τ D) (CG own ix c) (Mx own ix τ)) f:=⟨s.va,λb o t _ e=>q.keep b o t e,q.sub,λb n t=>(q.new b t).elim id λz=>absurd z n,λb n z=>by
  rcases z with(z|z)|⟨_,_,z,_⟩
  .exact z
  .subst z;exact absurd l n
  .exact absurd z IE⟩
 refine⟨by simp[CG,Mx],λj x e=> ?_,λj xs e=>absurd e IE,λj k xs ys p e=>absurd e IE,g.tp,λa m=> ?_,λa m=> ?_,g.st⟩
 .obtain ⟨hj,i,hi,y⟩:=XA e;obtain⟨v,hv,r⟩:=s.val i x y;refine⟨v, ?_,r.mv w⟩;unfold CG;rw[AA6 (by simpa using hj),ABJ,AAk,hi];simp[hv]
 .rcases m with m|m
  .exact g.va.mu a m
  .subst m;exact⟨_,hd,J2.lst⟩
 .rcases m with m|m
  .exact g.nt m
  .subst m;exact u
def jw (X:Cx)(c:zy zr)(t:AT):Prop:=∃d,ZX X c d/\Mu X.K d t
def E1:AT:=λ_ Q=>Q true
def CH:jw X [] E1:=⟨_,Us,λB T d τ H Q f c h k=>k true T H (.refl c.tp) h⟩
def ML {K:AAB}{s:zq}{wi:TI}{ai:AI}{own:Nat}{ix:zy Nat}{g:TG}{ag:AG}{tt:TT}{C:AT}{te:TE}(hi:dU K s wi ai)(hg:J4 K g ag)(ht:Mu K tt C)(he:Fc K te ta):Zw K (ZB wi own ix g tt te) (Cu ai own ix ag C ta):=by
 intro B T E τ H Q AQ sr h k;refine hi B T E τ H _ _ sr h λJ xs T1 H1 s1 walk h1 D F=> ?_;obtain⟨hl,h1⟩:=h1;have j:=sr.stp s1;have nt1:¬T1 D:=λz=>by obtain⟨o,e,_⟩:=(j.tp D z).mut;rw[F] at e;cases e
 have lay:=Ct.lay (o:= .lst []) j.tp F;refine⟨λi m G=>m=xs.length-i/\∃p vs c,Ct T1 H1 p G/\G D=some (.lst vs)/\¬p D/\An K p (λa=>mt B E τ a\/a=D) G vs c/\c.length<=i/\C6 ag C ta (Mx own ix τ) AQ (xs.drop i) c,
  ⟨_,rfl,T1, [], [],lay,AX,nt1, .nil,AAI _,h1⟩, ?_⟩
 rintro i m G ⟨rfl,p,vs,c,r,Z,f,r2,aG,h2⟩;have I:=j.blk (own:=own) (ix:=ix) r F Z f;have L:Fv p (λa=>mt B E τ a\/a=D) G:=⟨I.tp,I.bm⟩;have w:=walk (λa=>mt B E τ a\/a=D) p G ⟨j.va,λb o t _ e=>r.keep b o t e,r.sub,λb n t=>(r.new b t).elim id λz=>absurd z n,λb n z=>z.elim id λz=>by subst z;exact absurd F n⟩ L (.inr r.keep);by_cases Ep:i<xs.length
 .have Xh:xs[i]? =some xs[i] :=AAT Ep;rw[AB6 Ep] at h2;refine .inr ⟨w.go i _ Xh,λv H3 yl=> ?_⟩;obtain⟨P,r3⟩:=w.yld i _ v H3 Xh yl;have l:=I.stp P;refine hg _ p _ _ H3 v _ _ _ l (r3.mv (.anti ⟨l.tp,l.bm⟩ λa z=>z.elim id λ⟨_,_,z,_⟩=>absurd z IE)) h2 λR S U o4 h4=> ?_;refine ht _ p R S H3 _ _ U h4 λok T5 H5 N h5=> ?_;have u:=U.stp N;have gf:=P.keep D _ f Z;have j4:=N.keep D _ f gf;have M:¬T5 D:=λz=>(N.new D z).elim f λn=>by rw[n] at gf;cases gf
  have r5:=(r2.stp P L).stp N ⟨l.tp,l.bm⟩;cases ok with
  | false=> rw[AAC AAN] at h5 ⊢;exact⟨_,by omega,rfl,T5,vs,c,(r.trans P).trans N,j4,M,r5,by omega,h5⟩
  | true=>
    rw[AAE rfl] at h5 ⊢;refine he _ T5 R S H5 _ _ u h5 λvy y O H6 W r6 h6=> ?_;have A:=u.stp W;have rS:=W.keep D _ M j4;have Y:¬O D:=λz=>(W.new D z).elim M λn=>by rw[n] at j4;cases j4
    have va6:Fv O (λa=>mt B E τ a\/a=D) H6:=⟨A.tp,A.bm⟩;have r7:=r5.stp W ⟨u.tp,u.bm⟩;have s7:=((r.trans P).trans N).trans W;have tp8:∀a,O a->EX (upd H6 D (.lst (vs ++ [vy]))) a:=λa t=>by obtain⟨d,x,e,z⟩:=A.tp a t;exact⟨d,x,by rw[AZ (λw=>by subst w;exact Y t)];exact e,z⟩
    have mv8:Mv K O (λa=>mt B E τ a\/a=D) H6 O (λa=>mt B E τ a\/a=D) (upd H6 D (.lst (vs ++ [vy]))):=⟨va6,λb o _ m e=>by rw[AZ (λw=>m (.inr w))];exact e,λ_ t=>t,λ_ _ t=>t,λ_ _ z=>z⟩;refine⟨vs,rS,by rw[r2.length];omega,_,(by omega:xs.length-(i+1)<xs.length-i),rfl,O,vs ++ [vy],c ++ [y],⟨λb o t e=> ?_,s7.sub,s7.new,tp8⟩,AX,Y,(r7.append (.cons (r6.mv (.anti A.va λa z=> .inl z)) .nil)).mv mv8,by simp;omega,h6⟩;rw[AZ (Af e F)];exact s7.keep b o t e
 .rw [ADJ (by omega)] at h2;refine .inl ⟨w.stop i (by omega), ?_⟩;exact k D vs c p G (s1.trans r) (j.add r F Z J2.lst f) (s1.none F) Z f (r2.mv (.anti L λa z=>by
   rcases z with(z|z)|z
   .exact .inl (.inl z)
   .exact .inr z
   .exact .inl (.inr z))) h2
structure UF (X:Cx) (tg elt:Expr) (ifs:List Expr) (scope:Scope) (own:Nat) (ix:List Nat) (N:List Str) (g:AG) (t:AT) (te:AE):Prop where
 ex:∃g' t' te',Eu X tg elt ifs scope own ix N g' t' te'/\J4 X.K g' g/\Mu X.K t' t/\Fc X.K te' te
def DC {f c iter:zr}{d:zy zr}{scope:Scope}{own:Nat}{ix:zy Nat}{N:zy Str}{g:AG}{t:AT}{s:zq}{h:AI}(hc:X.calm=true)(hi:SI X f iter s h)(O:UF X f c d scope own ix N g t ta)(hs:∀x,foldedSetIterable iter X.env x=pure x:=by intro _;rfl):SF X (.ListComp c [⟨f,iter,d,0⟩] scope pos) (Cu h own ix g t ta):=by obtain⟨n,i,j⟩:=hi;obtain⟨g',t',k,O,l,st,m⟩:=O.ex;exact⟨_,bB hc i O hs,ML j l st m⟩
def Y2 {i:Nat}{x:Str}{pos' c:Pos}{h d iter:zr}{f:zy zr}{scope:Scope}{own:Nat}{ix:zy Nat}{N:zy Str}{g:AG}{t:AT}{s:zq}{j:AI}(hc:X.calm=true)(hN:X.N.Nodup)(k:X.N[i]? =some x)(hx:Loc X.env.scope x)(hi:SI X h iter s j)(O:UF X h d f scope own ix N g t ta)(l:swapsWith (.ListComp d [⟨h,iter,f,0⟩] scope pos) (some (.Name x pos')) c.line X.env=pure true:=by rfl)(hs:∀x,foldedSetIterable iter X.env x=pure x:=by intro _;rfl)(m:X.fn x=true\/X.env.scope.names.lookup x=some .local:=by first | exact .inl rfl|exact .inr rfl|assumption):SS X (.Assign [.Name x pos'] (.ListComp d [⟨h,iter,f,0⟩] scope pos) c) (Fy (Cu j own ix g t ta) i):=by obtain⟨v,n,o⟩:=hi;obtain⟨g',t',p,O,r,st,u⟩:=O.ex;exact⟨_,Uu hc hN k hx n O l hs m,VA (ML o r st u)⟩
def RU {i:Nat}{x:Str}{pos' c:Pos}{h d iter:zr}{f:zy zr}{scope:Scope}{own:Nat}{ix:zy Nat}{N:zy Str}{g:AG}{t:AT}{s:zq}{j:AI}(hc:X.calm=true)(hN:X.N.Nodup)(k:X.N[i]? =some x)(hx:Loc X.env.scope x)(hi:SI X h iter s j)(O:UF X h d f scope own ix N g t ta)(l:swapsWith (.ListComp d [⟨h,iter,f,0⟩] scope pos) (some (.Name x pos')) c.line X.env=pure true:=by rfl)(hs:∀x,foldedSetIterable iter X.env x=pure x:=by intro _;rfl)(m:X.fn x=true\/X.env.scope.names.lookup x=some .local:=by first | exact .inl rfl|exact .inr rfl|assumption):SS X (.Assign [.Name x pos'] (.ListComp d [⟨h,iter,f,0⟩] scope pos) c) (Ak (G6 (Cu j own ix g t ta)) (Am i)):=by obtain⟨v,n,o⟩:=hi;obtain⟨g',t',p,O,r,st,u⟩:=O.ex;exact⟨_,Uu hc hN k hx n O l hs m,PX (Yw (ML o r st u)) PY⟩
end
def JP (N:Nat)(xs:zy PV):Ay:=xs.map (λx=>some (.val x))++List.replicate (N-xs.length) none
def Al (N:Nat)(b:AS):AF:=λxs Q=>b {nx:=λ_=>Q .non,rt:=Q,bk:=λ_=>False,ct:=λ_=>False} (JP N xs)
def Y6 {K:AAB}{T M:zu->Prop}{H:Hp}{N:zy Str}{vs:zy V}{xs:zy PV}(va:Fv T M H)(b:∀a,M a->¬T a)(r:An K T M H vs xs):SR K ⟨T,H,M⟩ T H (start N vs) (JP N.length xs):=by
 have c:∀(j:Nat) (ys:zy PV),(JP N.length xs)[j]? ≠some (some (.own ys)):=λj ys h=>by
  unfold JP at h;by_cases hj:j<xs.length
  .rw [ABB (by simpa using hj),AAk,AAT hj] at h;cases h
  .rw [AA6 (by simpa using hj),ABI] at h;split at h <;> cases h
 refine⟨by simp[L2.start,JP,r.length],λj x h=> ?_,λj ys h=>absurd h (c j ys),λj k ys d p h=>absurd h (c j ys),va.tp,va.mu,b, .refl va.tp⟩;unfold JP at h;by_cases hj:j<xs.length
 .rw [ABB (by simpa using hj),AAk,AAT hj] at h;cases h;obtain⟨v,hv,rv⟩:=r.get (AAT hj);refine⟨v, ?_,rv.mv (.anti va λa m=>m.elim id λ⟨_,_,z,_⟩=>absurd z (c _ _))⟩;unfold L2.start;rw[ABB (by rw[AAJ,r.length];exact hj),AAk,hv];rfl
 .rw [AA6 (by simpa using hj),ABI] at h;split at h <;> cases h
section
variable {P:zp}{w:zm}{K:AAB}{mg:Str->zt zx}{base:zl}
def Z7 {x qual:Str}{st:Stmt}{f:zu}{i:FuncData}{N c:zy Str}{k n:Nat}{b:AS}(F:Ry K x qual st f i)(S:Dn N c (A6 st))(j:n=c.length)(l:∀(a:zx) (A:zk) (outer:zy Env) (s:zw) (H:Hp) (E:XK),Room k (A.deeper (envOfC qual (A6 st) s.heap.objs.size f a))-> Wd (QO P5 P w K mg base N qual (A6 st) f a A outer s H E).nox (DS st) b):D8 P w K mg base P5 (k+1) f i c (Cj K n (Al N.length b)):=by
 refine F.ok S (λvs H Q E h=> ?_) (λa A outer s H vs Q E m h=> ?_)
 .obtain ⟨T,M,xs,o,_,_,r,hl,_⟩:=h;rw[r.length,hl,j]
 .obtain ⟨T,M,xs,o,va,d,r,hl,hF,hQ⟩:=h;obtain⟨t,p,u⟩:=l a A outer s H E m;refine⟨t,p,u ⟨T,H,M⟩ T _ _ H _ _ (Y6 va d r) hF ⟨λe g σ' τ' _ y q=> ?_,λ_ _ _ _ _ _ q=>q.elim,λ_ _ _ _ _ _ q=>q.elim,λv x e g z B q=>hQ v x e g z B q⟩⟩;exact hQ _ _ e g y.st .non q
end
section
variable {X:Cx}
def XE {prog:zp}{w:zm}{A:zk}{E:zx->zw->Prop}{s:zw}{t b:zu}{d:zy zx}{Q:zx->zw->Prop}(j:IsTup s.heap t #[])(hb:IsTup s.heap b d.toArray)(k:Q (.ref b) s):wpAny (model prog w) A (binaryOp .Add (.ref t) (.ref b)) Q E s:=by
 obtain⟨⟨cls,l,data,m⟩,e,hc,n,hd⟩:=id j;obtain⟨⟨f,a,data2,c⟩,g,h,o,i⟩:=id hb;simp only at hc hd h i;subst hc hd h i;exact concat_meets ⟨_,e,rfl⟩ ⟨_,g,rfl⟩ ADA seq_tuple_add ADB ADC (ADD _ _)
  (tuple_addW0 t b #[] d.toArray n o l a m c (by simp)) ⟨e,g,k⟩
def Yb (K:AAB):R2:=λx y H Q=>∃a b ys,x= .ref a/\y= .ref b/\JZ K H a [] /\JZ K H b ys/\Q (.ref b) H
def YD:Dy X (binaryOp .Add) (Yb X.K):=by intro k s l H x y v u Q I d e h;obtain⟨a,b,ys,rfl,rfl,ha,hb,q⟩:=h;cases d;cases e;obtain⟨f,g,i,_⟩:=I.tuple ha;obtain⟨c,m,j,_⟩:=I.tuple hb;cases g;exact XE i j ⟨.ref b,H,I,rfl,q⟩
def cy (K:AAB):R2:=λx y H Q=>((NE (λi j=>V.int (i+j)) x y H Q\/jI x y H Q)\/cz K x y H Q)\/Yb K x y H Q
def Bb:Hq:=λx y Q=>match x,y with
 | .int i, .int j=>Q (.int (i+j))
 | .lst xs, .lst ys=>xs.length+ys.length<=sizeLine/\Q (.lst (xs++ys))
 | .tup xs, .tup ys=>xs.length+ys.length<=sizeLine/\Q (.tup (xs++ys))
 | _,_=>False
def A9:Dy X (binaryOp .Add) (cy X.K)/\B8 X.K (cy X.K) Bb:=by
 refine⟨((F3.or fH).or ay).or YD,λT M H u v x y Q r va g rv h k=> ?_⟩;unfold Bb at h;split at h <;> first | exact h.elim|skip
 .exact .inl (.inl (.inl ⟨_,_,g.toI,rv.toI,k _ _ T H (.refl va.tp) (.int _) h⟩))
 .obtain ⟨a,vs,rfl,hq,s,t,d⟩:=Cc g;obtain⟨b,f,rfl,i,j,l,c⟩:=Cc rv;refine .inl (.inl (.inr ⟨a,b,vs,f,rfl,rfl,hq,i,by rw[d.length,c.length];exact h.1,λp hp=> ?_⟩));have st:=Ct.lay (o:= .lst (vs++f)) va.tp hp;have m:¬T p:=λz=>by obtain⟨o,e,_⟩:=(va.tp p z).mut;rw[hp] at e;cases e
  have n:¬M p:=λz=>by obtain⟨o,e,_⟩:=va.mu p z;rw[hp] at e;cases e
  exact k _ _ T _ st (.lst AX m n ((d.append c).stp st va)) h.2
 .obtain ⟨a,vs,rfl,hq,d⟩:=Di g;obtain⟨b,f,rfl,i,c⟩:=Di rv;by_cases e:vs= []
  .subst e;cases d;exact .inr ⟨a,b,f,rfl,rfl,hq,i,k _ _ T H (.refl va.tp) rv (by simpa using h.2)⟩
  .refine .inl (.inr ⟨a,b,vs,f,rfl,rfl,hq,i,e,by rw[d.length,c.length];exact h.1,λz=> ?_,λz p hp=> ?_⟩)
   .subst z;cases c;exact k _ _ T H (.refl va.tp) g (by simpa using h.2)
   .have st:=Ct.lay (o:= .tup (vs++f)) va.tp hp;exact k _ _ T _ st (.tup (.inl AX) ((d.append c).stp st va)) h.2
def Gi {prog:zp}{w:zm}{A:zk}{E:zx->zw->Prop}{s:zw}{t b:zu}{items:Array zx}{c d:zx}{lo hi:zt Int}{Q:zx->zw->Prop}(a:IsTup s.heap t items)(hs:s.heap.IsSliceOf b c d .none)(e:IsPart c lo)(f:IsPart d hi)(hw:HT.sIx items.size 0 lo=0/\HT.sIx items.size items.size hi=items.size)(h:Q (.ref t) s):wpAny (model prog w) A (getItem (.ref t) (.ref b)) Q E s:=by
 obtain⟨os,g,i,l⟩:=id hs;have j:s.TypeIs (.ref b) "slice" :=⟨os,g,i⟩;obtain⟨m,n,o,p,r⟩:=id a;unfold getItem;try with_reducible refine AAj ?_
 first | refine AAA (AAD ?_)|skip
 refine AAA (wpAny_sequenceKey a.typeIs (by decide) ?_);refine AAA (ABK (name:=Str.ofString "__getitem__") a.typeIs ABg
  (AAv ABg a.typeIs entry_tuple_getitem ?_ (args_tuple_getitem _ _)))
 show wpAny _ _ (Builtin.Tuple.tupleItemsOf (.ref t) >>= _) _ _ s;refine AAA (tupleItemsOf_ a ?_);refine AAA (AB3 j ?_);rw[AAE (by decide)];refine AAA (HT.sliceApplied_gen hs e f ?_);have k:((((HT.sIx items.size 0 lo:Nat):Int)==0&&(1:Int)==1&&(HT.sIx items.size items.size hi-HT.sIx items.size 0 lo)==items.size)=true):=by rw[hw.1,hw.2];simp
 show wpAny _ _ (if (((HT.sIx items.size 0 lo:Nat):Int)==0&&(1:Int)==1&&(HT.sIx items.size items.size hi-HT.sIx items.size 0 lo)==items.size)=true then _ else _) _ _ s;rw[AAE k];unfold Builtin.Tuple.tupleIsExact;simp only[bind_assoc,pure_bind];refine AAA (AB3 a.typeIs ?_);rw[AAE (by decide)];exact AAA (ABG (AAD ⟨_,rfl,AAD h⟩))
def mL (K:AAB):V->zt Int->zt Int->Hp->VK->Prop:=λx lo hi H Q=>∃a xs,x= .ref a/\JZ K H a xs/\
 (HT.sIx xs.length 0 lo=0/\HT.sIx xs.length xs.length hi=xs.length)/\Q (.ref a) H
def cA:cT X (mL X.K):=by
 intro i s j H x v k l lo hi m Q I d hs e f h;obtain⟨a,xs,rfl,hx,hw,q⟩:=h;cases d;obtain⟨b,r,c,hz⟩:=I.tuple hx;have g:b.toArray.size=xs.length:=by rw[AAQ];exact r.length.symm
 refine⟨"tuple",_,ABg.lookup,c.typeIs, ?_⟩;exact Gi c hs e f (by rw[g];exact hw) ⟨.ref a,H,I,rfl,q⟩
def Ip (xs:zy PV)(lo hi:zt Int):zy PV:=(xs.drop (HT.sIx xs.length 0 lo)).take (HT.sIx xs.length xs.length hi-HT.sIx xs.length 0 lo)
def UT {K:AAB}{T M:zu->Prop}{H:Hp}{vs:zy V}{xs:zy PV}(r:An K T M H vs xs)(lo hi:zt Int):An K T M H (M0 vs lo hi) (Ip xs lo hi):=by unfold M0 Ip;rw[r.length];exact(r.drop _).take _
abbrev AO:=Ay->(zt Int->Prop)->Prop
def kh (K:AAB)(t:TO)(a:AO):Prop:=∀(B:CZ) (T:zu->Prop) (b:L2.St) (τ:Ay) (H:Hp) (Q:zt Int->Hp->Prop) (c:zt Int->Prop),SR K B T H b τ->a τ c->
 (∀o e d,Ct T H e d->c o->Q o d)->t b H Q
def SO (X:Cx)(e:zt zr)(a:AO):Prop:=∃t,PO X e t/\kh X.K t a
def ZZ:AO:=λ_ Q=>Q none
def Za (a:AE):AO:=λτ Q=>a τ λx=>Wl x λi=>Q (some i)
def c5:SO X none ZZ:=⟨_,bI,λB T b τ H Q c a h k=>k _ T H (.refl a.tp) h⟩
def c6 {e:zr}{a:AE}(h:SE X e a):SO X (some e) (Za a):=by obtain⟨t,p,s⟩:=h;refine⟨_,bJ p,λB T b τ H Q j c h k=>s B T b τ H _ _ c h λv x d H1 f g h1=> ?_⟩;obtain⟨i,rfl,q⟩:=TJ h1;exact⟨i,g.toI,k _ d H1 f q⟩
@[irreducible] def Vq (x:PV)(lo hi:zt Int)(Q:PV->Prop):Prop:=match x with | .tup xs=>Q (.tup (Ip xs lo hi)) | .lst xs=>Q (.lst (Ip xs lo hi))|_=>False
def VC {xs:zy PV}{lo hi:zt Int}{Q:PV->Prop}(h:Q (.tup (Ip xs lo hi))):Vq (.tup xs) lo hi Q:=by unfold Vq;exact h
def Dr {xs:zy PV}{lo hi:zt Int}{Q:PV->Prop}(h:Q (.lst (Ip xs lo hi))):Vq (.lst xs) lo hi Q:=by unfold Vq;exact h
def ZY (a:AE)(l h:AO):AE:=λτ Q=>a τ λx=>l τ λlo=>h τ λhi=>Vq x lo hi Q
def Jj {e:zr}{lo hi:zt zr}{E r:Pos}{D:AE}{l h:AO}(he:SE X e D)(hl:SO X lo l)(F:SO X hi h):SE X (.Subscript e (.Slice lo hi none E) r) (ZY D l h):=by
 obtain⟨t,p,s⟩:=he;obtain⟨P,G,u⟩:=hl;obtain⟨R,w,y⟩:=F;refine⟨_,YO ((b9.or gE).or cA) p G w,λB T n τ H Q S f h k=>s B T n τ H _ _ f h λv x I H1 g J h1=> ?_⟩;refine u B I n τ H1 _ _ (f.stp g) h1 λlo K L i h2=> ?_;refine y B K n τ L _ _ ((f.stp g).stp i) h2 λhi T3 M A d=> ?_;have b:=((f.stp g).stp i).stp A;have C:=(J.stp i (f.stp g).va).stp A ((f.stp g).stp i).va;have c:=(g.trans i).trans A;unfold Vq at d;split at d <;> first | exact d.elim|skip
 .obtain ⟨a,vs,rfl,hq,j⟩:=Di C;by_cases hw:HT.sIx vs.length 0 lo=0/\HT.sIx vs.length vs.length hi=vs.length
  .refine .inr ⟨a,vs,rfl,hq,hw,k _ _ T3 M c C ?_⟩;rename_i xs;have:Ip xs lo hi=xs:=by unfold Ip;rw[<-j.length,hw.1,hw.2,j.length];simp
   rw[this] at d;exact d
  .refine .inl (.inr ⟨a,vs,rfl,hq,hw,λq m=> ?_⟩);have st:=Ct.lay (o:= .tup (M0 vs lo hi)) b.tp m;exact k _ _ T3 _ (c.trans st) (.tup (.inl AX) ((UT j lo hi).stp st b.va)) d
 .obtain ⟨a,vs,rfl,hq,U,W,j⟩:=Cc C;refine .inl (.inl ⟨a,vs,rfl, .inl (.inl hq),λq m=> ?_⟩);have st:=Ct.lay (o:= .lst (M0 vs lo hi)) b.tp m;have N:¬T3 q:=λz=>by obtain⟨o,e,_⟩:=(b.tp q z).mut;rw[m] at e;cases e
  have O:¬mt B n τ q:=λz=>by obtain⟨o,e,_⟩:=b.va.mu q z;rw[m] at e;cases e
  exact k _ _ T3 _ (c.trans st) (.lst AX N O ((UT j lo hi).stp st b.va)) d
end
def BX:AF:=λxs Q=>match xs with | [.tape, .int m] =>(0<m/\m<4611686018427387904)/\∀r,0<=r->r<m->Q (.int r)|_=>False
def LV:AF:=λxs Q=>match xs with | [.scr ns, .int k] =>(0<=k/\k<=1000)/\Q .tape|_=>False
def hX (g:TG):Prop:=∀v b H Q c,(∀a d,Q a d->c a d)->g v b H Q->g v b H c
def dI (g:R1):Prop:=∀v b H Q c,(∀a d,Q a d->c a d)->g v b H Q->g v b H c
def SK (own:Nat)(X:Cx)(a:zr)(b:AG):Prop:=∃g,PG X a g/\J4 X.K g b/\Gq own g/\hX g
def jx (own:Nat)(X:Cx)(a:zy zr)(b:Ri):Prop:=∃g,gX X a g/\NT X.K g b/\LW own g/\dI g
section
variable {X:Cx}{pos:Pos}{own:Nat}
def b6 {i:Nat}{x:Str}(hN:X.N.Nodup)(hi:X.N[i]? =some x)(hx:Loc X.env.scope x)(hk:i<own)(a:X.fn x=true\/X.env.scope.names.lookup x=some .local:=by first | exact .inl rfl|exact .inr rfl|assumption):SK own X (.Name x pos) (Am i):=
 ⟨_,Dp hN hi hx a,PY,ON hk,KM⟩
def Kh:jx own X [] Bw:=⟨_,IU,RS,Uc,OO⟩
def Db {e:zr}{es:zy zr}{b:AG}{a:Ri}(h1:SK own X e b)(h2:jx own X es a)(hs:(assignEach (e::es) X.env).map (·.2)=assign e X.env::(assignEach es X.env).map (·.2):=by rfl):jx own X (e::es) (Ad b a):=
 let ⟨_,p,s,k,m⟩:=h1;let ⟨_,d,f,g,c⟩:=h2;⟨_,DA p d hs,Nv s f,Lo k m g c,QV m c⟩
end
def j0 (K:AAB)(own:Nat)(d:AG):TG:=λv a H Q=>∃(B:CZ) (T:zu->Prop) (τ:Ay) (x:PV) (c:Ay->Prop),SR K B T H a τ/\Bs K T (mt B a τ) H v x/\d x τ c/\
 ∀σ' τ',SR K B T H σ' τ'->(∀b,CW σ' τ' b->CW a τ b)->c τ'->(σ'.length=a.length/\∀j,own<=j->σ'[j]? =a[j]?)->Q σ' H
def mT (K:AAB)(a:AT):TT:=λe H Q=>∃(B:CZ) (T:zu->Prop) (τ:Ay) (c:zq->Prop),SR K B T H e τ/\a τ c/\∀b f d,Ct T H f d->c b->Q b d
def lC (K:AAB)(a:AE):TE:=λc H Q=>∃(B:CZ) (T:zu->Prop) (τ:Ay) (d:PV->Prop),SR K B T H c τ/\a τ d/\∀v x e b,Ct T H e b->Bs K e (mt B c τ) b v x->d x->Q v b
def bi {K:AAB}{own:Nat}{a:AG}:J4 K (j0 K own a) a:=λB T d τ H v x Q b c r h k=>⟨B,T,τ,x,b,c,r,h,λσ' τ' s o q _=>k σ' τ' s o q⟩
def Xw {K:AAB}{own:Nat}{a:AG}:Gq own (j0 K own a):=λv d H Q ⟨B,T,τ,x,b,c,r,h,k⟩=>⟨B,T,τ,x,b,c,r,h,λσ' τ' s o q z=>⟨k σ' τ' s o q z,z⟩⟩
def bn {K:AAB}{a:AT}:Mu K (mT K a) a:=λB T d τ H Q b c h k=>⟨B,T,τ,b,c,h,k⟩
def bg {K:AAB}{a:AE}:Fc K (lC K a) a:=λB T d τ H Q b c h k=>⟨B,T,τ,b,c,h,k⟩
section
variable {X:Cx}
def SK.of {own:Nat}{e:zr}{f:AG}(h:SK own X e f):PG X e (j0 X.K own f):=by obtain⟨g,p,s,k,m⟩:=h;intro j l a H v u Q I r hw;obtain⟨B,T,τ,x,i,n,t,h,c⟩:=hw;have h1:g v a H λσ' w=>w=H/\∃τ',SR X.K B T H σ' τ'/\(∀b,CW σ' τ' b->CW a τ b)/\i τ':=s B T a τ H v x _ i n t h λσ' τ' s o q=>⟨rfl,τ',s,o,q⟩;have h2:=k v a H _ h1;refine p j l a H v u Q I r (m v a H _ _ (λd D q=> ?_) h2);obtain⟨⟨rfl,τ',y,A,C⟩,z⟩:=q;exact c d τ' y A C z
def jw.of {b:zy zr}{a:AT}(h:jw X b a):ZX X b (mT X.K a):=by obtain⟨t,p,s⟩:=h;intro e f d H Q I hw;obtain⟨B,T,τ,g,i,h,c⟩:=hw;exact p e f d H Q I (s B T d τ H Q g i h c)
def SE.of {e:zr}{a:AE}(h:SE X e a):PE X e (lC X.K a):=by obtain⟨t,p,s⟩:=h;intro d f b H Q I hw;obtain⟨B,T,τ,g,i,h,c⟩:=hw;exact p d f b H Q I (s B T b τ H Q g i h c)
def C7 {f a:zr}{b:zy zr}{scope:Scope}{own:Nat}{ix:zy Nat}{N:zy Str}{g:AG}{t:AT}{c:AE}(h1:scope.kind= .function)(h2:(scope.names.all λy=> !decide (y.2= .cell))=true)(h:(scope.names.all λy=> !decide (y.2= .local)||decide (scope.names.lookup y.1=some .local))=true)(i:(scope.names.all λy=> !decide (y.2= .free)||decide (X.env.scope.names.lookup y.1=some .cell))=true)(j:N.length=own+ix.length)(k:SY X (relabel scope X.env) own ix N=true)(d:∀cl C s H ex pn,SK own (blk X (relabel scope X.env) N cl C s H ex pn) f g)(e:∀cl C s H ex pn,jw (blk X (relabel scope X.env) N cl C s H ex pn) b t)(val:∀cl C s H ex pn,SE (blk X (relabel scope X.env) N cl C s H ex pn) a c):UF X f a b scope own ix N g t c:=
 ⟨j0 X.K own g,mT X.K t,lC X.K c,US h1 h2 h i j k Xw (λcl C s H ex pn=>(d cl C s H ex pn).of) (λcl C s H ex pn=>(e cl C s H ex pn).of) (λcl C s H ex pn=>(val cl C s H ex pn).of),bi,bn,bg⟩
end
mutual
def pd:PV->PyData
 | .bl b=> .bool b
 | .int i=> .int i
 | .str x=> .str x
 | .tup xs=> .tuple (Ov xs)
 | .lst xs=> .list (Ov xs)
 | _=> .none
def Ov:zy PV->zy PyData
 | [] => []
 | x::xs=>pd x::Ov xs
end
mutual
def Dm:Nat->PV->zq
 | _, .non=>true
 | _, .bl _=>true
 | _, .int _=>true
 | _, .str x=>PyData.strOk x
 | n+1, .tup xs=>JB n xs
 | n+1, .lst xs=>JB n xs
 | _,_=>false
def JB:Nat->zy PV->zq
 | _, [] =>true
 | n,x::xs=>Dm n x&&JB n xs
end
mutual
theorem E4:∀(n:Nat) (x:PV),Dm n x=true->(pd x).canLay0=true/\(pd x).depth<=n/\(pd x).hasDict=false
 | n, .non,_=>⟨rfl,AAq _,rfl⟩
 | n, .bl _,_=>⟨rfl,AAq _,rfl⟩
 | n, .int _,_=>⟨rfl,AAq _,rfl⟩
 | n, .str x,h=>⟨by simpa[pd,PyData.canLay0,Dm] using h,AAq _,rfl⟩
 | 0, .tup xs,h=>by simp[Dm] at h
 | 0, .lst xs,h=>by simp[Dm] at h
 | n+1, .tup xs,h=>by obtain⟨a,b,c⟩:=L1 n xs (by simpa[Dm] using h);exact⟨by simpa[pd,PyData.canLay0] using a,by simpa[pd,PyData.depth] using b,by simpa[pd,PyData.hasDict] using c⟩
 | n+1, .lst xs,h=>by obtain⟨a,b,c⟩:=L1 n xs (by simpa[Dm] using h);exact⟨by simpa[pd,PyData.canLay0] using a,by simpa[pd,PyData.depth] using b,by simpa[pd,PyData.hasDict] using c⟩
 | n, .tape,h=>by simp[Dm] at h
 | n, .scr _,h=>by simp[Dm] at h
 | n, .ty _,h=>by simp[Dm] at h
 | n, .dct _,h=>by simp[Dm] at h
 | n, .dk _,h=>by simp[Dm] at h
theorem L1:∀(n:Nat) (xs:zy PV),JB n xs=true->PyData.canLayAll0 (Ov xs)=true/\PyData.depthAll (Ov xs)<=n/\PyData.hasDictAll (Ov xs)=false
 | n, [],_=>⟨rfl,AAq _,rfl⟩
 | n,x::xs,h=>by simp only[JB,AAn] at h;obtain⟨a,b,c⟩:=E4 n x h.1;obtain⟨d,f,e⟩:=L1 n xs h.2;exact⟨by simp[Ov,PyData.canLayAll0,a,d],by simp only[Ov,PyData.depthAll];omega,by simp[Ov,PyData.hasDictAll,c,e]⟩
end
section
variable {X:Cx}{zj:zy (zu×Obj)}{σ:L2.St}{H:Hp}{s:zw}
mutual
theorem Er (I:Inv X zj σ H s){T M:zu->Prop}:∀(n:Nat) {x:PV} {v:V} {u:zx},Bs X.K T M H v x->Dm n x=true->RelV v u->∃as,Reads s.heap u (pd x) as
 | _,_,_,_, .non,_,r=>by cases r;exact⟨_, .none⟩
 | _,_,_,_, .bl b,_,r=>by cases r;exact⟨_, .bool b⟩
 | _,_,_,_, .int i,_,r=>by obtain⟨t,rfl⟩:=r;exact⟨_, .int i t⟩
 | _,_,_,_, .str x,_,r=>by obtain⟨t,rfl⟩:=r;exact⟨_, .str x t⟩
 | _,_,_,_, .ty n,h,r=>by simp[Dm] at h
 | 0,_,_,_, .tup hq rs,h,r=>by simp[Dm] at h
 | 0,_,_,_, .lst hq t m rs,h,r=>by simp[Dm] at h
 | n+1,_,_,_, .tup hq rs,h,r=>by cases r;obtain⟨a,rv,⟨o,c,hc,k,hd⟩,_⟩:=I.tuple hq.sq;obtain⟨as,ra⟩:=F5 I n rs (by simpa[Dm] using h) rv;exact⟨_, .tuple c hc hd (by simpa using ra)⟩
 | n+1,_,_,_, .lst hq t m rs,h,r=>by cases r;obtain⟨a,rv,⟨o,k,c,hc,_,hd⟩,_⟩:=I.list (Ee.of hq);obtain⟨as,ra⟩:=F5 I n rs (by simpa[Dm] using h) rv;exact⟨_, .list c hc hd (by simpa using ra)⟩
 | _,_,_,_, .tape _,h,r=>by simp[Dm] at h
 | _,_,_,_, .scr _,h,r=>by simp[Dm] at h
 | _,_,_,_, .dct _ _ _,h,r=>by simp[Dm] at h
 | _,_,_,_, .dk _ _,h,r=>by simp[Dm] at h
theorem F5 (I:Inv X zj σ H s){T M:zu->Prop}:∀(n:Nat) {xs:zy PV} {vs:zy V} {us:zy zx},An X.K T M H vs xs->JB n xs=true->Aj vs us->∃as,ReadsAll s.heap us (Ov xs) as
 | _,_,_,_, .nil,_,r=>by cases r;exact⟨_, .nil⟩
 | n,_,_,_, .cons h t,hk,r=>by
   simp only[JB,AAn] at hk;cases r with
   | cons r a=> obtain⟨as,ra⟩:=Er I n h hk.1 r;obtain⟨bs,b⟩:=F5 I n t hk.2 a;exact⟨_, .cons ra b⟩
end
end
section
variable {X:Cx}
def dm (x y:PV):zq:=PyData.eqv (pd x) (pd y)
def bR (K:AAB)(neg:zq):R2:=λu v H Q=>∃(T M:zu->Prop) (x y:PV),Bs K T M H u x/\Bs K T M H v y/\Dm 30 x=true/\Dm 30 y=true/\Q (.bl (if neg then !dm x y else dm x y)) H
def fJ {k:Nat}(c:Room k X.A):Dy X (compareOp .Eq) (bR X.K false):=by intro l s m H u v n o Q I d rv h;obtain⟨T,M,x,y,e,f,a,b,q⟩:=h;obtain⟨as,ra⟩:=Er I 30 e a d;obtain⟨bs,g⟩:=Er I 30 f b rv;obtain⟨i,p,_⟩:=E4 30 x a;obtain⟨j,b2,_⟩:=E4 30 y b;exact SeqAt.compareEq_reads ra g i j (by have:=c.un;omega) ⟨.bl _,H,I,rfl,q⟩
def fL {k:Nat}(c:Room k X.A):Dy X (compareOp .NotEq) (bR X.K true):=by intro l s m H u v n o Q I d rv h;obtain⟨T,M,x,y,e,f,a,b,q⟩:=h;obtain⟨as,ra⟩:=Er I 30 e a d;obtain⟨bs,g⟩:=Er I 30 f b rv;obtain⟨i,p,_⟩:=E4 30 x a;obtain⟨j,b2,_⟩:=E4 30 y b;exact SeqAt.compareNe_reads ra g i j (by have:=c.un;omega) ⟨.bl _,H,I,rfl,q⟩
def Rh:Hq:=λx y Q=>match Yo x y with | some b=>Q (.bl b)|none=>(Dm 30 x=true/\Dm 30 y=true)/\Q (.bl (dm x y))
def We:Hq:=λx y Q=>match Yo x y with | some b=>Q (.bl (!b))|none=>(Dm 30 x=true/\Dm 30 y=true)/\Q (.bl (!dm x y))
def jJ (K:AAB):R2:=λx y H Q=>oz x y H Q\/bR K false x y H Q
def jO (K:AAB):R2:=λx y H Q=>o6 x y H Q\/bR K true x y H Q
def FZ {k:Nat}(c:Room k X.A):Dy X (compareOp .Eq) (jJ X.K)/\B8 X.K (jJ X.K) Rh:=by
 refine⟨i9.or (fJ c),λT M H u v x y Q d va a rv h k=> ?_⟩;unfold Rh at h;split at h
 .rename_i b e;obtain⟨h1,h2⟩:=RO a rv e;refine .inl ⟨h1, ?_⟩;rw[h2];exact k _ _ T H (.refl va.tp) (.bl _) h
 .exact .inr ⟨T,M,x,y,a,rv,h.1.1,h.1.2,k _ _ T H (.refl va.tp) (.bl _) h.2⟩
def RT {k:Nat}(c:Room k X.A):Dy X (compareOp .NotEq) (jO X.K)/\B8 X.K (jO X.K) We:=by
 refine⟨jA.or (fL c),λT M H u v x y Q d va a rv h k=> ?_⟩;unfold We at h;split at h
 .rename_i b e;obtain⟨h1,h2⟩:=RO a rv e;refine .inl ⟨h1, ?_⟩;rw[h2];exact k _ _ T H (.refl va.tp) (.bl _) h
 .exact .inr ⟨T,M,x,y,a,rv,h.1.1,h.1.2,k _ _ T H (.refl va.tp) (.bl _) h.2⟩
def Jf:PV->zq | .tup _=>true | .lst _=>true|_=>false
@[irreducible] def jb (x:PV):Str:=(pd x).shown
structure OE (x:PV):Prop where
 ok:Dm 30 x=true
 sh:(pd x).showable=true
 sz:(pd x).shown.length<=sizeLine
@[irreducible] def Lm:AF:=λxs Q=>match xs with | [.non] =>Q (.str "None") | [x] =>Jf x=true/\OE x/\Q (.str (jb x))|_=>False
def fg (K:AAB):zy V->Hp->VK->Prop:=λus H Q=>(us= [.non] /\Q (.str "None") H)\/∃(T M:zu->Prop) (u:V) (x:PV),us= [u] /\Bs K T M H u x/\Jf x=true/\OE x/\Q (.str (jb x)) H
def Vi {k:Nat}(c:Room k X.A):Bu X (.type "str") (fg X.K):=by
 intro j s l H us vs Q I r h;rcases h with⟨rfl,q⟩|⟨T,M,u,x,rfl,d,hq,ok,q⟩
 .cases r with
  | cons r t=> cases t;cases r;exact P.str_of_none ⟨.str _,H,I.tok _,⟨_,rfl⟩,q⟩
 .cases r with
  | cons r t=>
    cases t;obtain⟨as,ra⟩:=Er I 30 d ok.ok r;obtain⟨m,n,f⟩:=E4 30 x ok.ok;have hv:∃a,u= .ref a:=by cases d <;> first | exact⟨_,rfl⟩|(simp[Jf] at hq)
    obtain⟨a,rfl⟩:=hv;cases r;have g:Q (.str (pd x).shown) H:=by unfold jb at q;exact q
    refine str_of_reads ra ok.sh (λz=>by rw[f] at z;cases z) c.gd (by have:=c.un;omega) (λb o e=>e) (λh' t i hk=> ?_) ok.sz;exact⟨.str _,H,I.kept (t':=i) hk,⟨_,rfl⟩,g⟩
def PJ {k:Nat}(a:Room k X.A):Bu X (.type "str") (fg X.K)/\Em X.K (fg X.K) Lm:=by
 refine⟨Vi a,λT M H us xs Q b va r h k=> ?_⟩;unfold Lm at h;split at h <;> first | exact h.elim|skip
 .cases r with | cons r t=>cases t;cases r;exact .inl ⟨rfl,k _ _ T H (.refl va.tp) (.str _) h⟩
 .cases r with | cons r t=>cases t;exact .inr ⟨T,M,_,_,rfl,r,h.1,h.2.1,k _ _ T H (.refl va.tp) (.str _) h.2.2⟩
end
section
variable {prog:zp}{w:zm}{A:zk}{E:zx->zw->Prop}{s:zw}
def Je {h:zl}{l:zu}{items:Array zx}(hl:h.IsList l items)(o:Obj):(h.push o).IsList l items:=by obtain⟨a,e,r⟩:=hl;exact⟨a,AAH _ e,r⟩
theorem Nd {it t:zu}{items:Array zx}(f:t≠it):∀(n i:Nat) (s:zw) (Q:zy zx->zw->Prop),s.heap.IsListIter it t i->s.heap.IsList t items->i+n<=items.size-> (∀h',h'.IsListIter it t (i+n)->Heap.SameBut it s.heap h'->Q ((items.toList.drop i).take n) {s with heap:=h'})->wpAny (model prog w) A (draw (.ref it) n) Q E s
 | 0,i,s,Q,hit,_,_,hQ=>by show wpAny _ _ (pure []) Q E s;exact AAD (by simpa using hQ s.heap hit (Heap.SameBut.refl ..))
 | n+1,i,s,Q,hit,ht,Wh,hQ=>by
   have g:i<items.size:=by omega
   show wpAny _ _ (pyNext (.ref it) >>= _) Q E s;refine AAA (wpAny_pyNext_list_item hit ht (x:=items[i]) (by simp[g]) λh b a=> ?_);refine AAA (AAj (Nd f n (i+1) _ _ b (ht.extBut a.extBut f) (by omega) λe c d=>AAD ?_));have hd:items.toList.drop i=items[i] :: items.toList.drop (i+1):=by simp[AB6,g]
   have:=hQ e (by rw[show i+(n+1)=i+1+n by omega];exact c) (a.trans d);rw[hd,ADK] at this;exact this
def JT {t:zu}{items:Array zx}{Q:zy zx->zw->Prop}(k:A.handled=none)(g:s.heap.IsList t items)(hQ:∀h',Heap.ExtBut s.heap.objs.size s.heap h'->Q items.toList {s with heap:=h'}):wpAny (model prog w) A (unpackItems (.ref t) items.size none) Q E s:=by
 have j:t≠s.heap.objs.size:=by obtain⟨o,l,_⟩:=g;exact AAM (AAG l)
 unfold unpackItems;refine AAA ?_
 .unfold notIterableAtAll;refine AAA (ABS g.typeIs slot_list_iter.lookup ?_);refine AAD ?_;simp only[AAh,AAX];refine AAA (AAj (ACY g ?_));refine AAA (AAj (Nd j items.size 0 _ _ ⟨_,AAP _ rfl,rfl,rfl⟩ (Je g _) (by omega) λh c a=> ?_));have m:List.take items.size (List.drop 0 items.toList)=items.toList:=by rw[List.drop_zero];exact ABl (by simp)
  rw[m];rw[AAC (by simp)];have d:h.IsList t items:=(Je g _).extBut a.extBut j;refine AAA (AAj (wpAny_pyNext_list_end k c d (by simp) λi f=> ?_));simp only[Option.isSome_none,AAh,AAX];refine AAD (hQ i λb o hb e=>f b o hb (a.extBut b o hb (AAH _ e)))
def ID {env:Env}{elts:zy zr}{x1}{a:Pos}{t:zu}{items:Array zx}{Q:Unit->zw->Prop}(b:A.handled=none)(c:s.heap.IsList t items)(d:(assignEach elts env).length=items.size)(e:(assignEach elts env).findIdx? (·.1)=none)(h:∀h',Heap.ExtBut s.heap.objs.size s.heap h'->wpAny (model prog w) A (assignInOrder ((assignEach elts env).map (·.2)) items.toList) Q E {s with heap:=h'}):wpAny (model prog w) A (assign (.Tuple elts x1 a) env (.ref t)) Q E s:=by rw[assign_Tuple];refine AAA (ABH ?_);unfold unpack;rw[d,e];exact AAA (AAj (JT b c h))
end
section
variable {X:Cx}{pos:Pos}
def M4 (K:AAB)(n:Nat)(t:R1):TG:=λv b H Q=>∃a xs,v= .ref a/\(JZ K H a xs\/Ee K H a xs)/\xs.length=n/\t xs b H Q
def L8 {es:zy zr}{k:Nat}{t:R1}{n:Nat}(hc:X.calm=true)(h:gX X es t)(j:(assignEach es X.env).length=n:=by rfl)(l:(assignEach es X.env).findIdx? (·.1)=none:=by rfl):PG X (.Tuple es k pos) (M4 X.K n t):=by
 intro c s d H v u Q I r hw;obtain⟨a,xs,m,hq,hl,hw⟩:=hw;subst m;cases r;rcases hq with hq|hq
 .obtain ⟨f,rv,g,hz⟩:=I.tuple hq;refine assign_Tuple_tuple (I.ok.hd hc) g (by simp[j,<-hl,rv.length]) l λh' hx=> ?_;have i:Inv X c d H {s with heap:=h'}:=I.kept (t':=s.toks) λb o e=>hx b o (AAM (AAG e)) e;exact h c _ d H xs _ Q i (by simpa using rv) hw
 .obtain ⟨f,rv,g,hz⟩:=I.list hq;refine ID (I.ok.hd hc) g.isList (by simp[j,<-hl,rv.length]) l λh' hx=> ?_;have i:Inv X c d H {s with heap:=h'}:=I.kept (t':=s.toks) λb o e=>hx b o (AAM (AAG e)) e;exact h c _ d H xs _ Q i (by simpa using rv) hw
def Ja (n:Nat)(r:Ri):AG:=λx τ Q=>Mb x λxs=>xs.length=n/\r xs τ Q
def Yx {K:AAB}{n:Nat}{gs:R1}{a:Ri}(s:NT K gs a):J4 K (M4 K n gs) (Ja n a):=λB T c τ H v x Q d e r h k=>by
 obtain⟨xs,hx,h⟩:=HM h;rcases hx with rfl|rfl
 .obtain ⟨p,vs,rfl,hq,b⟩:=Di r;exact⟨p,vs,rfl, .inl hq,by rw[b.length];exact h.1,s B T c τ H vs _ Q d e b h.2 k⟩
 .obtain ⟨p,vs,rfl,hq,f,g,b⟩:=Cc r;exact⟨p,vs,rfl, .inr (.inl (.inl hq)),by rw[b.length];exact h.1,s B T c τ H vs _ Q d e b h.2 k⟩
def Cq {es:zy zr}{k:Nat}{a:Ri}{n:Nat}(hc:X.calm=true)(h:jv X es a)(b:(assignEach es X.env).length=n:=by rfl)(c:(assignEach es X.env).findIdx? (·.1)=none:=by rfl):SG X (.Tuple es k pos) (Ja n a):=
 let ⟨_,p,s⟩:=h;⟨_,L8 hc p b c,Yx s⟩
def Xa {own:Nat}{K:AAB}{n:Nat}{t:R1}(h:LW own t):Gq own (M4 K n t):=λv b H Q ⟨a,xs,e,h1,h2,c⟩=>⟨a,xs,e,h1,h2,h xs b H Q c⟩
def Pb {own:Nat}{es:zy zr}{k:Nat}{b:Ri}{n:Nat}(hc:X.calm=true)(h:jx own X es b)(c:(assignEach es X.env).length=n:=by rfl)(d:(assignEach es X.env).findIdx? (·.1)=none:=by rfl):SK own X (.Tuple es k pos) (Ja n b):=
 let ⟨_,p,s,f,m⟩:=h;⟨_,L8 hc p c d,Yx s,Xa f,λv i H Q j z ⟨a,xs,e,h1,h2,g⟩=>⟨a,xs,e,h1,h2,m _ _ _ _ _ z g⟩⟩
def eJ:gY X .Mult (λx y H Q=>∃i j,x= .int i/\y= .int j/\MulOk i j/\Q (.int (i*j)) H):=by intro f s g H x y v u Q I a b h;obtain⟨i,j,d,e,c,q⟩:=h;subst d;subst e;obtain⟨t,rfl⟩:=a;obtain⟨t',rfl⟩:=b;exact AutoIntOps.imul_0 (show (Made.int (i*j)).post _ _ from⟨.int _,H,I.tok _,⟨_,rfl⟩,q⟩) (.of_le (GP c.l) (GP c.r) (by decide))
def gD:gY X .Mult (λx y H Q=>∃i j,x= .int i/\y= .int j/\MulOk i j/\Q (.int (i*j)) H)/\B8 X.K (λx y H Q=>∃i j,x= .int i/\y= .int j/\MulOk i j/\Q (.int (i*j)) H) Ch:=⟨eJ,λT M H u v x y Q b va a rv h k=>by
 obtain⟨i,j,rfl,rfl,c,q⟩:=KW h;exact⟨i,j,a.toI,rv.toI,c,k _ _ T H (.refl va.tp) (.int _) q⟩⟩
end
def MN {i:Int}(a:0<=i)(b:i<2147483647): -(2^64)<i/\i<2^64:=⟨by omega,by omega⟩
def rE (b:zq):(0:Int)<=(if b=true then 1 else 0):=by cases b <;> decide
def oG (b:zq): -(2^64)<(if b=true then (1:Int) else 0)/\(if b=true then (1:Int) else 0)<2^64:=by cases b <;> decide
def ZH {T:zu->Prop}{H:Hp}{p:zu}{d x:Int}(tp:∀a,T a->EX H a)(t:T p)(c:0<=d)(f:0<=x)(g:x<2147483647):Ct T H T (upd H p (.lst [.int d, .int x])) where
 keep:=λb o n e=>by rw[AZ (λz=>n (by subst z;exact t))];exact e
 sub:=λ_ t=>t
 new:=λ_ t=> .inl t
 tp:=λa h=>by
  by_cases z:a=p
  .subst z;exact⟨d,x,AX,c,f,g⟩
  .obtain ⟨d',i,e,q⟩:=tp a h;exact⟨d',i,by rw[AZ z];exact e,q⟩
def ZG {T:zu->Prop}{H:Hp}{p:zu}{d x:Int}(tp:∀a,T a->EX H a)(hp:H p=none)(f:0<=d)(g:0<=x)(h:x<2147483647):Ct T H (λb=>T b\/b=p) (upd H p (.lst [.int d, .int x])) where
 keep:=λb o n e=>by rw[AZ (Af e hp)];exact e
 sub:=λ_ t=> .inl t
 new:=λb t=>t.elim .inl λz=> .inr (by subst z;exact hp)
 tp:=λa c=>by
  by_cases z:a=p
  .subst z;exact⟨d,x,AX,f,g,h⟩
  .rcases c with c|c
   .obtain ⟨d',i,e,q⟩:=tp a c;exact⟨d',i,by rw[AZ z];exact e,q⟩
   .exact absurd c z
def law_sp {K:AAB}{H:Hp}{a:zu}{b:zy Int}{F:AF}(c:Ee K H a (b.map V.int))(h:F [.scr b] λx=>x= .bl true):Cj K 1 F [.ref a] H (λv _=>v= .bl true) λ_ _ _=>False:=by
 refine⟨λ_=>False,λ_=>False, [.scr b],_,⟨λ_ z=>z.elim,λ_ z=>z.elim⟩,λ_ z=>z.elim, .cons (.scr ?_) .nil,rfl,h,λv x d f _ r e=> ?_⟩
 .rcases c with h|h
  .exact .inl ⟨h,id,id⟩
  .exact .inr λH=> .inr h
 .subst e;cases r;rfl
theorem GT {g:AG}{b:AS}{D:Ff}(a:zy PV->Ay->Prop)(hd:∀τ,a [] τ->D.nx τ)(hs:∀x r τ (R:Ay->Prop),(∀τ,a r τ->R τ)->a (x::r) τ->g x τ λc=>b {D with nx:=R,ct:=R,bk:=D.nx} c):∀xs τ,a xs τ->Ci g b D xs τ
 | [],τ,h=>hd τ h
 | x::r,τ,h=>hs x r τ _ (λd h2=>GT a hd hs r d h2) h
theorem UQ {g:AG}{t:AT}{f:AE}{b:Ay}{Q:zy PV->Prop}(c:zy PV->zy PV->Prop)(hd:∀a,c [] a->Q a)(hs:∀x r a (R:zy PV->Prop),(∀a,c r a->R a)->c (x::r) a->g x b λd=>t d λok=>if ok=true then f d λy=>R (a ++ [y]) else R a):∀xs a,c xs a->C6 g t f b Q xs a
 | [],a,h=>hd a h
 | x::r,a,h=>hs x r a _ (λe h2=>UQ c hd hs r e h2) h
theorem UD {c:AT}{b:AS}{D:Ff}(a:Nat->Ay->Prop)(e:∀τ,¬a 0 τ)(hs:∀n τ (R:Ay->Prop),(∀τ,a n τ->R τ)->a (n+1) τ->c (frz τ) λk=>if k=true then b {D with nx:=R,ct:=R,bk:=D.nx} τ else D.nx τ):∀n τ,a n τ->Rb c b D n τ
 | 0,τ,h=>absurd h (e τ)
 | n+1,τ,h=>hs n τ _ (λd h2=>UD a e hs n d h2) h
def IX (lo:Int)(n:Nat):rng lo (n+1)= .int lo::rng (lo+1) n:=by
 unfold rng;rw[List.range_succ_eq_map,AAL,AAo];congr 1
 .simp
 .apply AA1;intro k _;simp only[Function.comp];congr 1;omega
def TU (lo:Int)(n:Nat):(rng lo n).length=n:=by simp[rng]
end PL
namespace PL
open PySem L2 PyProof.Rows
def fr (r:Rat):PV:= .tup [.int r.num, .int (r.den:Int)]
def HI {b:zq}{A B:Prop}(h1:b=true->A)(h2:b=false->B):if b=true then A else B:=by
 cases b with
 | true=>rw[AAE rfl];exact h1 rfl
 | false=>rw[AAC AAN];exact h2 rfl
structure Bd (n:Nat) (r:Rat):Prop where
 top:r.num.natAbs<2^n
 bot:r.den<2^n
def Bd.botI {n:Nat}{r:Rat}(b:Bd n r):(r.den:Int).natAbs<2^n:=by simpa using b.bot
def L9 {m n:Nat}(h:m<=n):2^m<=2^n:=ADL (by decide) h
def Bd.mono {m n:Nat}{r:Rat}(b:Bd m r)(h:m<=n):Bd n r:=⟨AAS b.top (L9 h),AAS b.bot (L9 h)⟩
def S8 {a b m n:Nat}(ha:a<2^m)(hb:b<2^n):a*b<2^(m+n):=by rw[Nat.pow_add];exact Nat.mul_lt_mul_of_lt_of_le ha (ACQ hb) (Nat.pos_of_ne_zero (by intro z;rw[z] at hb;omega)) |> λh=>h
def BN {a b:Int}{m n:Nat}(ha:a.natAbs<2^m)(hb:b.natAbs<2^n):(a*b).natAbs<2^(m+n):=by rw[ADM];exact S8 ha hb
def UJ {a b:Int}{n:Nat}(ha:a.natAbs<2^n)(hb:b.natAbs<2^n):(a+b).natAbs<2^(n+1):=by rw[Nat.pow_succ];omega
def VH {a b:Int}{n:Nat}(ha:a.natAbs<2^n)(hb:b.natAbs<2^n):(a-b).natAbs<2^(n+1):=by rw[Nat.pow_succ];omega
def Au {a m n:Nat}(h:a<2^m)(b:m<=n):a<2^n:=AAS h (L9 b)
def MulOk.of {a b:Int}{m n:Nat}(ha:a.natAbs<2^m)(hb:b.natAbs<2^n)(c:m<=1000000:=by omega)(d:n<=1000000:=by omega):MulOk a b:=⟨Au ha c,Au hb d⟩
def SU (t b:Int):(Rat.divInt t b).num.natAbs<=t.natAbs:=by
 rw[ACi];by_cases h:b=0
 .subst h;simp
 .have e:(b.gcd t:Int) ∣ b.sign*t:=Int.dvd_trans (Int.gcd_dvd_right ..) (Int.dvd_mul_left ..);rw[Int.natAbs_ediv_of_dvd e,ADM];refine AAe (ABY _ _) ?_;rw[Int.natAbs_sign_of_ne_zero h];omega
def SQ (t b:Int)(h:b≠0):(Rat.divInt t b).den<=b.natAbs:=by rw[ADN,AAC h];exact ABY _ _
def Bd.divInt {n:Nat}{t b:Int}(h:b≠0)(a:t.natAbs<2^n)(hb:b.natAbs<2^n):Bd n (Rat.divInt t b):=
 ⟨AAs (SU t b) a,AAs (SQ t b h) hb⟩
def BH (a:Rat):(a.den:Int)≠0:=by have:=a.den_pos;omega
def G8 (a b:Rat):a+b=Rat.divInt (a.num*b.den+b.num*a.den) (a.den*b.den):=by have h:=ADf a.num b.num (BH a) (BH b);rw[ABC,ABC] at h;exact h
def Hl (a b:Rat):a-b=Rat.divInt (a.num*b.den-b.num*a.den) (a.den*b.den):=by have h:=Rat.divInt_sub_divInt a.num b.num (BH a) (BH b);rw[ABC,ABC] at h;exact h
def HK (a b:Rat):a*b=Rat.divInt (a.num*b.num) (a.den*b.den):=by have h:=ADg a.num b.num (d₁:=a.den) (d₂:=b.den);rw[ABC,ABC] at h;exact h
def HC (a b:Rat):a/b=Rat.divInt (a.num*b.den) (a.den*b.num):=by rw[AB7,Rat.inv_def];have h:=ADg a.num b.den (d₁:=a.den) (d₂:=b.num);rw[ABC] at h;exact h
def C9 {a b:Int}(ha:a≠0)(hb:b≠0):a*b≠0:=Int.mul_ne_zero ha hb
def S9 {b:Rat}(h:b≠0):b.num≠0:=λz=>h (Rat.num_eq_zero.mp z)
def Bd.add {m n:Nat}{a b:Rat}(ha:Bd m a)(hb:Bd n b):Bd (m+n+1) (a+b):=by
 rw[G8];refine .divInt (C9 (BH a) (BH b)) (UJ (BN ha.top (by simpa using hb.bot)) ?_) ?_
 .rw [Nat.add_comm m n];exact BN hb.top (by simpa using ha.bot)
 .exact Au (BN (by simpa using ha.bot) (by simpa using hb.bot)) (by omega)
def Bd.sub {m n:Nat}{a b:Rat}(ha:Bd m a)(hb:Bd n b):Bd (m+n+1) (a-b):=by
 rw[Hl];refine .divInt (C9 (BH a) (BH b)) (VH (BN ha.top (by simpa using hb.bot)) ?_) ?_
 .rw [Nat.add_comm m n];exact BN hb.top (by simpa using ha.bot)
 .exact Au (BN (by simpa using ha.bot) (by simpa using hb.bot)) (by omega)
def Bd.mul {m n:Nat}{a b:Rat}(ha:Bd m a)(hb:Bd n b):Bd (m+n) (a*b):=by rw[HK];exact .divInt (C9 (BH a) (BH b)) (BN ha.top hb.top) (BN (by simpa using ha.bot) (by simpa using hb.bot))
def Bd.div {m n:Nat}{a b:Rat}(h:b≠0)(ha:Bd m a)(hb:Bd n b):Bd (m+n) (a/b):=by rw[HC];exact .divInt (C9 (BH a) (S9 h)) (BN ha.top (by simpa using hb.bot)) (BN (by simpa using ha.bot) hb.top)
def Bd.neg {n:Nat}{a:Rat}(ha:Bd n a):Bd n (-a):=⟨by show (-a.num).natAbs<_;rw[ABn];exact ha.top,ha.bot⟩
def XU (n:Int):fr (n:Rat)= .tup [.int n, .int 1] :=by simp[fr]
def Bd.int {n:Int}{k:Nat}(h:n.natAbs<2^k)(hk:1<=k):Bd k (n:Rat):=⟨by simpa using h,by simp;omega⟩
def Wq:AS:=
 (Aa (G7 (Aw (AW We (aV 1) (aC (.int 0)))) (Va 0 1 (AB (aV 1) (AB (AW QR (aV 0) (aV 1)) AM))))
   (Ar (aV 0)))
def Fq:AF:=Al 2 Wq
def JY (x y:Nat)(Q:PV->Prop)(h:Q (.int (Nat.gcd x y:Nat))):Fq [.int x, .int y] Q:=by
 have go:∀y x:Nat,∀D:Ff,D.nx [some (.val (.int (Nat.gcd x y:Nat))),some (.val (.int 0))] ->∃n,Rb (Aw (AW We (aV 1) (aC (.int 0)))) (Va 0 1 (AB (aV 1) (AB (AW QR (aV 0) (aV 1)) AM))) D n [some (.val (.int x)),some (.val (.int y))] :=by
  intro y;induction y using Nat.strongRecOn with
  | _ y ih=>
    intro x D c;by_cases hy:y=0
    .subst hy;refine⟨1, ?_⟩;rw[Nat.gcd_zero_right] at c;exact c
    .obtain ⟨n,a⟩:=ih (x % y) (Nat.mod_lt _ (by omega)) y D (by rw[ABo y,<-Nat.gcd_rec,ABo y];exact c);refine⟨n+1, ?_⟩;refine HI (b:= !decide ((y:Int)=0)) (λ_=> ?_) (λz=> ?_)
     .have d:(x:Int).fmod (y:Int)=((x % y:Nat):Int):=by rw[AC6 _ (by omega)];simp
      refine⟨by omega, ?_⟩;rw[<-d] at a;exact a
     .have:(y:Int)=0:=by simpa using z
      omega
 obtain⟨n,a⟩:=go y x {nx:=λτ=>Ar (aV 0) {nx:=λ_=>Q .non,rt:=Q,bk:=λ_=>False,ct:=λ_=>False} τ,rt:=Q,bk:=λ_=>False,ct:=λ_=>False} h;exact⟨n,a⟩
def VM:AS:=
 (Aa (CJ (Aw (AW XR (aV 1) (aC (.int 0)))) (Ak (W9 Li (aV 2)) (Am 2)) BK)
   (Ar (BB (AB (AW QQ (aV 0) (aV 2)) (AB (AW QQ (aV 1) (aV 2)) AM)))))
def dE:AS:=
 (Aa (Ak (AR 2 Fq (AB (Fx Vr (AB (aV 0) AM)) (AB (Fx Vr (AB (aV 1) AM)) AM))) (Am 2))
   VM)
def Ev:AF:=Al 3 dE
def YI (t b:Int)(hb:b≠0):∀s:Int,s=(if b<0 then -(Nat.gcd t.natAbs b.natAbs:Int) else (Nat.gcd t.natAbs b.natAbs:Int))->s≠0/\t.fdiv s=(Rat.divInt t b).num/\b.fdiv s=((Rat.divInt t b).den:Int):=by
 intro s hs;have g:0<Nat.gcd t.natAbs b.natAbs:=ABp _ (by omega);have f:b.gcd t=Nat.gcd t.natAbs b.natAbs:=by rw[ADh,ABo]
 have a:(Nat.gcd t.natAbs b.natAbs:Int) ∣ t:=by rw[<-Int.dvd_natAbs];exact Int.ofNat_dvd.mpr (Nat.gcd_dvd_left ..)
 have c:(Nat.gcd t.natAbs b.natAbs:Int) ∣ b:=by rw[<-Int.dvd_natAbs];exact Int.ofNat_dvd.mpr (AB8 ..)
 have d:s ∣ t:=by rw[hs];split <;> first | exact Int.neg_dvd.mpr a|exact a
 have e:s ∣ b:=by rw[hs];split <;> first | exact Int.neg_dvd.mpr c|exact c
 refine⟨by rw[hs];split <;> omega, ?_, ?_⟩
 .rw [ADi d,ACi,f,hs];by_cases h:b<0
  .rw [AAE h,ADj h,Int.ediv_neg];have:(-1:Int)*t= -t:=by omega
   rw[this,Int.neg_ediv_of_dvd a]
  .rw [AAC h,ADO (by omega),Int.one_mul]
 .rw [ADi e,ADN,AAC hb,f,hs];by_cases h:b<0
  .rw [AAE h,Int.ediv_neg];have:(b.natAbs:Int)= -b:=by omega
   rw[ABZ,this,Int.neg_ediv_of_dvd c]
  .rw [AAC h];have:(b.natAbs:Int)=b:=by omega
   rw[ABZ,this]
def Dw (t b:Int)(hb:b≠0)(f:b.natAbs<2^8900)(Q:PV->Prop)(h:Q (fr (Rat.divInt t b))):Ev [.int t, .int b] Q:=by
 have g:0<Nat.gcd t.natAbs b.natAbs:=ABp _ (by omega);have gl:Nat.gcd t.natAbs b.natAbs<2^8900:=AAs (ACj (by omega) (AB8 ..)) f;obtain⟨a,c,d⟩:=YI t b hb _ rfl;refine⟨rfl,JY _ _ _ ?_⟩;refine HI (b:=decide (b<0)) (λz=> ?_) (λz=> ?_)
 .have e:b<0:=ABM z;rw[AAE e] at a c d;refine⟨⟨a,by rw[ABn];exact gl⟩,⟨a,by rw[ABn];exact gl⟩,(show 2<=sizeLine by decide), ?_⟩;unfold fr at h;rw[<-c,<-d] at h;exact h
 .have e:¬b<0:=ABN z;rw[AAC e] at a c d;refine⟨⟨a,gl⟩,⟨a,gl⟩,(show 2<=sizeLine by decide), ?_⟩;unfold fr at h;rw[<-c,<-d] at h;exact h
def Bd.mt {n:Nat}{a b:Rat}(ha:Bd 4000 a)(hb:Bd 4000 b):MulOk a.num b.den/\MulOk b.num a.den/\MulOk a.den b.den/\MulOk a.num b.num/\MulOk a.den b.num:=
 ⟨.of ha.top (by simpa using hb.bot), .of hb.top (by simpa using ha.bot), .of (by simpa using ha.bot) (by simpa using hb.bot), .of ha.top hb.top, .of (by simpa using ha.bot) hb.top⟩
def Nb {a b:Rat}(ha:Bd 4000 a)(hb:Bd 4000 b):((a.den:Int)*(b.den:Int)).natAbs<2^8900:=Au (BN (a:=(a.den:Int)) (by simpa using ha.bot) (by simpa using hb.bot)) (by omega)
def dF:AS:=
 (Ar (AR 2 Ev (AB (AW Bb (AW Ch (AW Ai (aV 0) (aC (.int 0))) (AW Ai (aV 1) (aC (.int 1)))) (AW Ch (AW Ai (aV 1) (aC (.int 0))) (AW Ai (aV 0) (aC (.int 1))))) (AB (AW Ch (AW Ai (aV 0) (aC (.int 1))) (AW Ai (aV 1) (aC (.int 1)))) AM))))
def Im:AF:=Al 2 dF
def VZ {a b:Rat}(ha:Bd 4000 a)(hb:Bd 4000 b){Q:PV->Prop}(h:Q (fr (a+b))):Im [fr a,fr b] Q:=by obtain⟨m1,m2,m3,_⟩:=Bd.mt (n:=0) ha hb;refine⟨m1,m2,m3,rfl,Dw _ _ (C9 (BH a) (BH b)) (Nb ha hb) _ ?_⟩;rw[G8] at h;exact h
def Zh:AS:=
 (Ar (AR 2 Ev (AB (AW Gh (AW Ch (AW Ai (aV 0) (aC (.int 0))) (AW Ai (aV 1) (aC (.int 1)))) (AW Ch (AW Ai (aV 1) (aC (.int 0))) (AW Ai (aV 0) (aC (.int 1))))) (AB (AW Ch (AW Ai (aV 0) (aC (.int 1))) (AW Ai (aV 1) (aC (.int 1)))) AM))))
def DR:AF:=Al 2 Zh
def Ru {a b:Rat}(ha:Bd 4000 a)(hb:Bd 4000 b){Q:PV->Prop}(h:Q (fr (a-b))):DR [fr a,fr b] Q:=by obtain⟨m1,m2,m3,_⟩:=Bd.mt (n:=0) ha hb;refine⟨m1,m2,m3,rfl,Dw _ _ (C9 (BH a) (BH b)) (Nb ha hb) _ ?_⟩;rw[Hl] at h;exact h
def Zi:AS:=
 (Ar (AR 2 Ev (AB (AW Ch (AW Ai (aV 0) (aC (.int 0))) (AW Ai (aV 1) (aC (.int 0)))) (AB (AW Ch (AW Ai (aV 0) (aC (.int 1))) (AW Ai (aV 1) (aC (.int 1)))) AM))))
def IA:AF:=Al 2 Zi
def Rx {a b:Rat}(ha:Bd 4000 a)(hb:Bd 4000 b){Q:PV->Prop}(h:Q (fr (a*b))):IA [fr a,fr b] Q:=by obtain⟨_,_,m3,m4,_⟩:=Bd.mt (n:=0) ha hb;refine⟨m4,m3,rfl,Dw _ _ (C9 (BH a) (BH b)) (Nb ha hb) _ ?_⟩;rw[HK] at h;exact h
def dD:AS:=
 (Ar (AR 2 Ev (AB (AW Ch (AW Ai (aV 0) (aC (.int 0))) (AW Ai (aV 1) (aC (.int 1)))) (AB (AW Ch (AW Ai (aV 0) (aC (.int 1))) (AW Ai (aV 1) (aC (.int 0)))) AM))))
def LU:AF:=Al 2 dD
def VY {a b:Rat}(c:b≠0)(ha:Bd 4000 a)(hb:Bd 4000 b){Q:PV->Prop}(h:Q (fr (a/b))):LU [fr a,fr b] Q:=by obtain⟨m1,_,_,_,m5⟩:=Bd.mt (n:=0) ha hb;refine⟨m1,m5,rfl,Dw _ _ (C9 (BH a) (S9 c)) (Au (BN (a:=(a.den:Int)) (by simpa using ha.bot) hb.top) (by omega)) _ ?_⟩;rw[HC] at h;exact h
def Kv:AS:=
 (Aa (Ak (AW Gh (aC (.int 1)) (AW Ch (aC (.int 2)) (Fx dw (AB (AW XR (aV 1) (aC (.int 0))) AM)))) (Am 2))
   (Ar (BB (AB (AW QQ (AW Ch (aV 2) (aV 0)) (aV 3)) (AB (AW QQ (AW Ch (aV 2) (aV 1)) (aV 3)) AM)))))
def Ku:AS:=
 (Aa (G7 (Aw (AW Zb (aV 4) (aC (.int 0)))) (Va 3 4 (AB (aV 4) (AB (AW QR (aV 3) (aV 4)) AM))))
   Kv)
def Pq:AS:=
 (Aa (Va 3 4 (AB (Fx Vr (AB (aV 0) AM)) (AB (Fx Vr (AB (aV 1) AM)) AM)))
   Ku)
def Ap:AF:=Al 5 Pq
def OZ (t b:Int)(hb:b≠0):∀s:Int,s=(if b<0 then -1 else 1)->(s*t).fdiv (Nat.gcd t.natAbs b.natAbs:Int)=(Rat.divInt t b).num/\(s*b).fdiv (Nat.gcd t.natAbs b.natAbs:Int)=((Rat.divInt t b).den:Int):=by
 intro s hs;have c:0<Nat.gcd t.natAbs b.natAbs:=ABp _ (by omega);have a:b.gcd t=Nat.gcd t.natAbs b.natAbs:=by rw[ADh,ABo]
 have es:b.sign=s:=by
  rw[hs];split
  .rename_i h;exact ADj h
  .exact ADO (by omega)
 rw[ACi,ADN,AAC hb,a,es,ABL _ (by omega),ABL _ (by omega)];refine⟨rfl, ?_⟩;rw[ABZ];congr 1;rw[hs];split <;> omega
def CM (t b:Int)(hb:b≠0)(i:t.natAbs<2^900000)(d:b.natAbs<2^8900){Q:PV->Prop}(h:Q (fr (Rat.divInt t b))):Ap [.int t, .int b] Q:=by
 have k:0<Nat.gcd t.natAbs b.natAbs:=ABp _ (by omega);have gl:Nat.gcd t.natAbs b.natAbs<2^8900:=AAs (ACj (by omega) (AB8 ..)) d;have e:(1:Int)-2*(if decide (b<0)=true then 1 else 0)=(if b<0 then -1 else 1):=by by_cases z:b<0 <;> simp[z]
 obtain⟨j,a⟩:=OZ t b hb _ e;have go:∀y x:Nat,∀D:Ff,∀u v w,D.nx [u,v,w,some (.val (.int (Nat.gcd x y:Nat))),some (.val (.int 0))] ->∃n,Rb (Aw (AW Zb (aV 4) (aC (.int 0)))) (Va 3 4 (AB (aV 4) (AB (AW QR (aV 3) (aV 4)) AM))) D n [u,v,w,some (.val (.int x)),some (.val (.int y))] :=by
  intro y;induction y using Nat.strongRecOn with
  | _ y ih=>
    intro x D u v w c;by_cases hy:y=0
    .subst hy;refine⟨1, ?_⟩;rw[Nat.gcd_zero_right] at c;exact c
    .obtain ⟨n,f⟩:=ih (x % y) (Nat.mod_lt _ (by omega)) y D u v w (by rw[ABo y,<-Nat.gcd_rec,ABo y];exact c);refine⟨n+1, ?_⟩;refine HI (b:=decide (0<(y:Int))) (λ_=> ?_) (λz=> ?_)
     .have a:(x:Int).fmod (y:Int)=((x % y:Nat):Int):=by rw[AC6 _ (by omega)];simp
      refine⟨by omega, ?_⟩;rw[<-a] at f;exact f
     .have:¬(0:Int)<y:=ABN z;omega
 refine go b.natAbs t.natAbs _ (some (.val (.int t))) (some (.val (.int b))) none ?_;have one:(1:Int).natAbs<2^1:=by decide
 have g:((1:Int)-2*(if decide (b<0)=true then 1 else 0)).natAbs<2^1:=by rw[e];split <;> decide
 refine⟨.of (m:=2) (n:=1) (by decide) (by split <;> decide), .of g i,⟨by omega,gl⟩, .of g d,⟨by omega,gl⟩,(show 2<=sizeLine by decide), ?_⟩;unfold fr at h;rw[<-j,<-a] at h;exact h
def CV {m:Int}{Q:PV->Prop}(m0:0<m)(m1:m<4611686018427387904)(h:∀r,0<=r->r<m->Q (.int r)):BX [.tape, .int m] Q:=⟨⟨m0,m1⟩,h⟩
mutual
def tE:Nat->PV->zq
 | 0,_=>false
 | _+1, .non=>true
 | _+1, .bl _=>true
 | _+1, .int _=>true
 | n+1, .tup xs=>i6 n xs&&decide (xs.length<sizeLine)
 | _+1,_=>false
def i6:Nat->zy PV->zq
 | _, [] =>true
 | n,x::xs=>tE n x&&i6 n xs
end
def cH {t:Int}{n:Nat}(h:t.natAbs<2^n)(a:n<=900000:=by omega):t.natAbs<2^900000:=Au h a
section
variable {a b:Rat}{Q:PV->Prop}
theorem en (ha:Bd 4000 a)(hb:Bd 4000 b)(h:Q (fr (a+b))):Ap [.int (a.num*b.den+b.num*a.den), .int (a.den*b.den)] Q:=
 CM _ _ (C9 (BH a) (BH b)) (cH (UJ (n:=8000) (BN ha.top hb.botI) (BN hb.top ha.botI))) (Nb ha hb) (by rw[<-G8];exact h)
theorem e6 (ha:Bd 4000 a)(hb:Bd 4000 b)(h:Q (fr (a-b))):Ap [.int (a.num*b.den-b.num*a.den), .int (a.den*b.den)] Q:=
 CM _ _ (C9 (BH a) (BH b)) (cH (VH (n:=8000) (BN ha.top hb.botI) (BN hb.top ha.botI))) (Nb ha hb) (by rw[<-Hl];exact h)
theorem e5 (ha:Bd 4000 a)(hb:Bd 4000 b)(h:Q (fr (a*b))):Ap [.int (a.num*b.num), .int (a.den*b.den)] Q:=
 CM _ _ (C9 (BH a) (BH b)) (cH (BN ha.top hb.top)) (Nb ha hb) (by rw[<-HK];exact h)
theorem eu (c:b≠0)(ha:Bd 4000 a)(hb:Bd 4000 b)(h:Q (fr (a/b))):Ap [.int (a.num*b.den), .int (a.den*b.num)] Q:=
 CM _ _ (C9 (BH a) (S9 c)) (cH (BN ha.top (by simpa using hb.bot))) (Au (BN (a:=(a.den:Int)) (by simpa using ha.bot) hb.top) (by omega)) (by rw[<-HC];exact h)
end
def Pk {n:Int}{Q:PV->Prop}(h:Q (fr (n:Rat))):Q (.tup [.int n, .int 1]):=by rw[<-XU];exact h
def Bd.part {t b:Int}{n:Nat}(h:b≠0)(a:t.natAbs<2^n)(hb:b.natAbs<2^n):Bd n (Rat.divInt t b):= .divInt h a hb
def lz {a b:Nat}(h:Nat.ble a b=true:=by rfl):a<=b:=AAm h
structure Sh (d n:Nat) (x:PV):Prop where
 ok:Dm d x=true
 sh:(pd x).showable=true
 sz:(pd x).shown.length<=n
mutual
theorem Lz:∀{d e:Nat} (x:PV),d<=e->Dm d x=true->Dm e x=true
 | _,_, .non,_,_=>by simp[Dm]
 | _,_, .bl _,_,_=>by simp[Dm]
 | _,_, .int _,_,_=>by simp[Dm]
 | _,_, .str x,_,h=>by simpa[Dm] using h
 | 0,_, .tup xs,_,h=>by simp[Dm] at h
 | 0,_, .lst xs,_,h=>by simp[Dm] at h
 | d+1,0, .tup xs,h,_=>by omega
 | d+1,0, .lst xs,h,_=>by omega
 | d+1,e+1, .tup xs,h,k=>by simp only[Dm] at k ⊢;exact JC xs (by omega) k
 | d+1,e+1, .lst xs,h,k=>by simp only[Dm] at k ⊢;exact JC xs (by omega) k
 | _,_, .tape,_,h=>by simp[Dm] at h
 | _,_, .scr _,_,h=>by simp[Dm] at h
 | _,_, .dct _,_,h=>by simp[Dm] at h
 | _,_, .dk _,_,h=>by simp[Dm] at h
 | _,_, .ty _,_,h=>by simp[Dm] at h
theorem JC:∀{d e:Nat} (xs:zy PV),d<=e->JB d xs=true->JB e xs=true
 | _,_, [],_,_=>by simp[JB]
 | _,_,x::xs,h,k=>by simp only[JB,AAn] at k ⊢;exact⟨Lz x h k.1,JC xs h k.2⟩
end
def Sh.mono {d n e m:Nat}{x:PV}(s:Sh d n x)(h1:d<=e)(h2:n<=m):Sh e m x:=⟨Lz x h1 s.ok,s.sh,AAe s.sz h2⟩
def Sh.go {d n:Nat}{x:PV}(s:Sh d n x)(h1:d<=30:=by omega)(h2:n<=16777216:=by omega):OE x:=⟨Lz x h1 s.ok,s.sh,AAe s.sz h2⟩
def Sh.int {i:Int}(h:i.natAbs<2^1900):Sh 0 1902 (.int i):=by
 refine⟨rfl, ?_, ?_⟩
 .show decide (i.natAbs.log2<1920)=true;exact AAi (ACX (IR h (by decide)) (by decide))
 .show (Str.ofString (toString i)).length<=1902;rw[PySem.ofString_length];exact AAe (int_text_length_le (k:=1900) (by decide) (IR h (by decide))) (by decide)
theorem L0 {d:Nat}:∀{xs:zy PV},(∀x∈xs,Dm d x=true)->JB d xs=true
 | [],_=>rfl
 | x::xs,h=>by simp only[JB,AAn];exact⟨h x (by simp),L0 λy hy=>h y (by simp[hy])⟩
theorem Tg:∀{xs:zy PV},(∀x∈xs,(pd x).showable=true)->PyData.showableAll (Ov xs)=true
 | [],_=>rfl
 | x::xs,h=>by simp only[Ov,PyData.showableAll,AAn];exact⟨h x (by simp),Tg λy hy=>h y (by simp[hy])⟩
theorem Pi {n:Nat}:∀{xs:zy PV},(∀x∈xs,(pd x).shown.length<=n)->((PyData.shownAll (Ov xs)).map (·.length)).sum<=xs.length*n
 | [],_=>by simp[Ov,PyData.shownAll]
 | x::xs,h=>by simp only[Ov,PyData.shownAll,AAL,AB9,AAZ];have h1:=h x (by simp);have h2:=Pi (n:=n) (xs:=xs) λy hy=>h y (by simp[hy]);rw[Nat.succ_mul];omega
theorem FF:∀(xs:zy PV),(PyData.shownAll (Ov xs)).length=xs.length
 | [] =>rfl
 | x::xs=>by simp[Ov,PyData.shownAll,FF xs]
def Sh.tup {d n:Nat}{xs:zy PV}(h:∀x∈xs,Sh d n x):Sh (d+1) (xs.length*(n+2)+3) (.tup xs):=by refine⟨by simp only[Dm];exact L0 λx hx=>(h x hx).ok,by simp only[pd,PyData.showable];exact Tg λx hx=>(h x hx).sh, ?_⟩;have h1:=Pi (n:=n) (xs:=xs) λx hx=>(h x hx).sz;have h2:=tupleText_len_le (PyData.shownAll (Ov xs));rw[FF] at h2;simp only[pd,PyData.shown];rw[Nat.mul_add];omega
def Sh.lst {d n:Nat}{xs:zy PV}(h:∀x∈xs,Sh d n x):Sh (d+1) (xs.length*(n+2)+3) (.lst xs):=by refine⟨by simp only[Dm];exact L0 λx hx=>(h x hx).ok,by simp only[pd,PyData.showable];exact Tg λx hx=>(h x hx).sh, ?_⟩;have h1:=Pi (n:=n) (xs:=xs) λx hx=>(h x hx).sz;have h2:=listText_len_le (PyData.shownAll (Ov xs));rw[FF] at h2;simp only[pd,PyData.shown];rw[Nat.mul_add];omega
def X4 {c:Type}{P:c->Prop}{a b:c}(ha:P a)(hb:P b):∀x∈ [a,b],P x:=λx hx=>by
 simp only[AAF,AAg,AAd] at hx;rcases hx with rfl|rfl
 .exact ha
 .exact hb
def ab {d:Type}{P:d->Prop}{a b c:d}(ha:P a)(hb:P b)(hc:P c):∀x∈ [a,b,c],P x:=λx hx=>by
 simp only[AAF,AAg,AAd] at hx;rcases hx with rfl|rfl|rfl
 .exact ha
 .exact hb
 .exact hc
def ae {e:Type}{P:e->Prop}{a b c d:e}(ha:P a)(hb:P b)(hc:P c)(hd:P d):∀x∈ [a,b,c,d],P x:=λx hx=>by
 simp only[AAF,AAg,AAd] at hx;rcases hx with rfl|rfl|rfl|rfl
 .exact ha
 .exact hb
 .exact hc
 .exact hd
def Sh.fr {r:Rat}(h:Bd 1900 r):Sh 1 4000 (fr r):=(Sh.tup (X4 (Sh.int h.top) (Sh.int h.botI))).mono (by omega) lz
def XQ {d:Nat}{x:PV}(h:Dm d x=true):dm x x=true:=SeqAt.eqv_refl _ (E4 d x h).1
def dn (a b:Rat):dm (fr a) (fr b)=decide (a=b):=by
 show (PyData.eqvAll [.int a.num, .int a.den] [.int b.num, .int b.den])=_;simp only[PyData.eqvAll,PyData.eqv];by_cases h:a=b
 .subst h;simp
 .have:¬(a.num=b.num/\(a.den:Int)=b.den):=λz=>h (Rat.ext z.1 (by omega));rw[AAY h];simp only[Bool.and_true,Bool.and_eq_false_iff,ACO];by_cases h1:a.num=b.num
  .exact .inr λz=>this ⟨h1,z⟩
  .exact .inl h1
def cu (d:Nat)(a:Rat):Dm (d+1) (fr a)=true:=rfl
def i4 {a b:Rat}:decide (a.num*(b.den:Int)<b.num*(a.den:Int))=decide (a<b):=by rw[ABq];exact(Rat.lt_iff a b).symm
def Wo:AS:=
 (Ar (AW XR (AW Ch (AW Ai (aV 0) (aC (.int 0))) (AW Ai (aV 1) (aC (.int 1)))) (AW Ch (AW Ai (aV 1) (aC (.int 0))) (AW Ai (aV 0) (aC (.int 1))))))
def A5:AF:=Al 2 Wo
section
variable {a b:Rat}{Q:PV->Prop}
theorem EL (ha:Bd 4000 a)(hb:Bd 4000 b)(h:Q (.bl (decide (a<b)))):A5 [fr a,fr b] Q:=by obtain⟨m1,m2,_⟩:=Bd.mt (n:=0) ha hb;refine⟨m1,m2, ?_⟩;rw[<-i4] at h;exact h
def Rk:AS:=
 (Ar (AR 2 Ap (AB (AW Bb (AW Ch (AW Ai (aV 0) (aC (.int 0))) (AW Ai (aV 1) (aC (.int 1)))) (AW Ch (AW Ai (aV 1) (aC (.int 0))) (AW Ai (aV 0) (aC (.int 1))))) (AB (AW Ch (AW Ai (aV 0) (aC (.int 1))) (AW Ai (aV 1) (aC (.int 1)))) AM))))
def BW:AF:=Al 2 Rk
theorem Ce (ha:Bd 4000 a)(hb:Bd 4000 b)(h:Q (fr (a+b))):BW [fr a,fr b] Q:=by obtain⟨m1,m2,m3,_⟩:=Bd.mt (n:=0) ha hb;exact⟨m1,m2,m3,rfl,en ha hb h⟩
def Rj:AS:=
 (Ar (AR 2 Ap (AB (AW Gh (AW Ch (AW Ai (aV 0) (aC (.int 0))) (AW Ai (aV 1) (aC (.int 1)))) (AW Ch (AW Ai (aV 1) (aC (.int 0))) (AW Ai (aV 0) (aC (.int 1))))) (AB (AW Ch (AW Ai (aV 0) (aC (.int 1))) (AW Ai (aV 1) (aC (.int 1)))) AM))))
def BS:AF:=Al 2 Rj
theorem CA (ha:Bd 4000 a)(hb:Bd 4000 b)(h:Q (fr (a-b))):BS [fr a,fr b] Q:=by obtain⟨m1,m2,m3,_⟩:=Bd.mt (n:=0) ha hb;exact⟨m1,m2,m3,rfl,e6 ha hb h⟩
def K2:AS:=
 (Ar (AR 2 Ap (AB (AW Ch (AW Ai (aV 0) (aC (.int 0))) (AW Ai (aV 1) (aC (.int 0)))) (AB (AW Ch (AW Ai (aV 0) (aC (.int 1))) (AW Ai (aV 1) (aC (.int 1)))) AM))))
def BU:AF:=Al 2 K2
theorem CF (ha:Bd 4000 a)(hb:Bd 4000 b)(h:Q (fr (a*b))):BU [fr a,fr b] Q:=by obtain⟨m1,m2,m3,m4,_⟩:=Bd.mt (n:=0) ha hb;exact⟨m4,m3,rfl,e5 ha hb h⟩
def N4:AS:=
 (Ar (AR 2 Ap (AB (AW Ch (AW Ai (aV 0) (aC (.int 0))) (AW Ai (aV 1) (aC (.int 1)))) (AB (AW Ch (AW Ai (aV 0) (aC (.int 1))) (AW Ai (aV 1) (aC (.int 0)))) AM))))
def CU:AF:=Al 2 N4
theorem FX (c:b≠0)(ha:Bd 4000 a)(hb:Bd 4000 b)(h:Q (fr (a/b))):CU [fr a,fr b] Q:=by obtain⟨m1,m2,m3,m4,m5⟩:=Bd.mt (n:=0) ha hb;exact⟨m1,m5,rfl,eu c ha hb h⟩
end
def lB {t b:Int}(a:0<t)(hb:0<b):0<Rat.divInt t b:=by
 rw[Rat.lt_iff];have h1:=ACi t b;show (0:Int)*_<_*1;rw[Int.zero_mul,Int.mul_one,h1,ADO hb,Int.one_mul];have g:0<(b.gcd t:Int):=by have:=Int.gcd_pos_of_ne_zero_left t (show b≠0 by omega);omega
 exact Int.ediv_pos_of_pos_of_dvd a (by omega) (Int.gcd_dvd_right ..)
def Hk {t b:Int}{Q:PV->Prop}(k:Nat)(hb:b≠0)(a:t.natAbs<2^k)(c:b.natAbs<2^k)(hk:k<=2000)(h:Bd k (Rat.divInt t b)->Q (fr (Rat.divInt t b))):Ap [.int t, .int b] Q:=
 CM t b hb (Au a (by omega)) (Au c (by omega)) (h (.part hb a c))
def Mul (D N:Nat)(a:Rat):Prop:=0<D/\∃k:Int,a=Rat.divInt k D/\k.natAbs<=N
def Mul.bd {D N n:Nat}{a:Rat}(h:Mul D N a)(h1:N<2^n)(h2:D<2^n):Bd n a:=by obtain⟨b,k,rfl,hk⟩:=h;exact .divInt (by omega) (by omega) (by simpa using h2)
def Mul.part {t b:Int}{c:Nat}(hb:0<b)(hc:0<c){N:Nat}(h:(t*c).natAbs<=N):Mul (b.toNat*c) N (Rat.divInt t b):=by
 refine⟨Nat.mul_pos (by omega) hc,t*c, ?_,h⟩;have e:((b.toNat*c:Nat):Int)=b*c:=by rw[ACk];congr 1;omega
 rw[e,(ADk (by omega) (C9 (by omega) (by omega)))];rw[Int.mul_comm b,Int.mul_assoc]
def Mul.add {D N M:Nat}{a b:Rat}(ha:Mul D N a)(hb:Mul D M b):Mul D (N+M) (a+b):=by obtain⟨c,k,rfl,hk⟩:=ha;obtain⟨_,l,rfl,hl⟩:=hb;refine⟨c,k+l, ?_,by omega⟩;rw[ADf _ _ (by omega) (by omega),ADk (C9 (by omega) (by omega)) (by omega)];rw[<-Int.add_mul,Int.mul_assoc]
def Mul.mono {D N M:Nat}{a:Rat}(h:Mul D N a)(b:N<=M):Mul D M a:=⟨h.1,let ⟨k,e,hk⟩:=h.2;⟨k,e,by omega⟩⟩
def Mul.int {n:Int}{D N:Nat}(a:0<D)(h:(n*D).natAbs<=N):Mul D N (n:Rat):=by
 have e:(n:Rat)=Rat.divInt n 1:=by rw[<-ABC (n:Rat)];simp
 rw[e];have:=Mul.part (t:=n) (b:=1) (c:=D) (by decide) a h;simpa using this
def K4:AS:=
 (Aa (CJ (Aw (AW XR (aV 1) (aC (.int 3)))) (Ar (BB (AB (AW Bb (aC (.int 1)) (AR 2 BX (AB (aV 0) (AB (aC (.int 5)) AM)))) (AB (aC (.int 1)) AM)))) BK)
   (Ar (AR 2 Ap (AB (AW Bb (aC (.int 1)) (AR 2 BX (AB (aV 0) (AB (aC (.int 8)) AM)))) (AB (AW Gh (aV 1) (aC (.int 1))) AM)))))
def Ps:AS:=
 (Aa (Ak (AR 2 BX (AB (aV 0) (AB (aC (.int 5)) AM))) (Am 1))
   K4)
def CO:AF:=Al 2 Ps
def FY {Q:PV->Prop}(h:∀a,Bd 8 a->0<a->Mul 6 48 a->Q (fr a)):CO [.tape] Q:=by
 refine⟨rfl,CV (by decide) (by decide) λw g i=> ?_⟩;refine HI (b:=decide (w<3)) (λ_=> ?_) (λz=> ?_)
 .refine ⟨rfl,CV (by decide) (by decide) λr d f=>⟨lz, ?_⟩⟩;exact Pk (h _ (.int (by omega) (by decide)) (by exact_mod_cast (by omega:(0:Int)<1+r)) (.int (by decide) (by omega)))
 .have j:¬w<3:=ABN z;have hw:w-1=2\/w-1=3:=by omega
  refine⟨rfl,CV (by decide) (by decide) λr d f=>⟨rfl, ?_⟩⟩;refine Hk 8 (by omega) (by omega) (by omega) (by decide) λb=>h _ b (lB (by omega) (by omega)) ?_;rcases hw with e|e
  .rw [e];exact Mul.part (t:=1+r) (b:=2) (c:=3) (by decide) (by decide) (by omega)
  .rw [e];exact Mul.part (t:=1+r) (b:=3) (c:=2) (by decide) (by decide) (by omega)
def LR {Q:PV->Prop}(h:∀a,Bd 8 a->0<a->Q (fr a)):CO [.tape] Q:=FY λa b p _=>h a b p
def Jq:AS:=
 (Aa (CJ (Aw (AW Rh (aV 1) (aC (.int 6)))) (Ar (AR 2 Ap (AB (AW Gh (AR 2 BX (AB (aV 0) (AB (aC (.int 25)) AM))) (aC (.int 6))) (AB (aC (.int 2)) AM)))) BK)
   (Ar (AR 2 Ap (AB (AW Gh (AR 2 BX (AB (aV 0) (AB (aC (.int 31)) AM))) (aC (.int 9))) (AB (aC (.int 3)) AM)))))
def Jp:AS:=
 (Aa (CJ (Aw (AW XR (aV 1) (aC (.int 6)))) (Ar (BB (AB (AW Gh (AR 2 BX (AB (aV 0) (AB (aC (.int 10)) AM))) (aC (.int 3))) (AB (aC (.int 1)) AM)))) BK)
   Jq)
def N3:AS:=
 (Aa (Ak (AR 2 BX (AB (aV 0) (AB (aC (.int 8)) AM))) (Am 1))
   Jp)
def Az:AF:=Al 2 N3
def Aq {Q:PV->Prop}(h:∀a,Mul 6 60 a->Q (fr a)):Az [.tape] Q:=by
 refine⟨rfl,CV (by decide) (by decide) λw f g=> ?_⟩;refine HI (b:=decide (w<6)) (λ_=> ?_) (λz=> ?_)
 .refine ⟨rfl,CV (by decide) (by decide) λr d e=>⟨lz, ?_⟩⟩;exact Pk (h _ (.int (by decide) (by omega)))
 refine HI (b:=decide (w=6)) (λ_=> ?_) (λz=> ?_)
 .exact ⟨rfl,CV (by decide) (by decide) λr d e=>⟨rfl,Hk 8 (by omega) (by omega) (by omega) (by decide) λb=>h _ (Mul.part (t:=r-6) (b:=2) (c:=3) (by decide) (by decide) (by omega))⟩⟩
 .exact ⟨rfl,CV (by decide) (by decide) λr d e=>⟨rfl,Hk 8 (by omega) (by omega) (by omega) (by decide) λb=>h _ (Mul.part (t:=r-9) (b:=3) (c:=2) (by decide) (by decide) (by omega))⟩⟩
abbrev C4:=Rat×Rat×Rat×Rat
def cor (c:C4):PV:= .tup [fr c.1,fr c.2.1,fr c.2.2.1,fr c.2.2.2]
def corL (c:C4):PV:= .lst [fr c.1,fr c.2.1,fr c.2.2.1,fr c.2.2.2]
def Bx (cs:zy C4):PV:= .tup (cs.map cor)
structure Ej (B:Nat) (c:C4):Prop where
 m:Bd B c.1
 x:Bd B c.2.1
 y:Bd B c.2.2.1
 z:Bd B c.2.2.2
def Ej.mono {B a:Nat}{c:C4}(h:Ej B c)(k:B<=a):Ej a c:=⟨h.m.mono k,h.x.mono k,h.y.mono k,h.z.mono k⟩
structure LM (D N:Nat) (c:C4):Prop where
 m:Mul D N c.1
 x:Mul D N c.2.1
 y:Mul D N c.2.2.1
 z:Mul D N c.2.2.2
def LM.mono {D N M:Nat}{c:C4}(h:LM D N c)(k:N<=M):LM D M c:=⟨h.m.mono k,h.x.mono k,h.y.mono k,h.z.mono k⟩
def LM.bd {D N n:Nat}{c:C4}(h:LM D N c)(h1:N<2^n)(h2:D<2^n):Ej n c:=⟨h.m.bd h1 h2,h.x.bd h1 h2,h.y.bd h1 h2,h.z.bd h1 h2⟩
def Hr (cs:zy C4):Prop:=cs.Pairwise λa b=>a.1<b.1
structure UI (n D N:Nat) (cs:List C4):Prop where
 two:2<=cs.length
 few:cs.length<=n
 mu:∀c∈cs,LM D N c
 ris:Hr cs
structure Ez (n B:Nat) (cs:List C4):Prop where
 two:2<=cs.length
 few:cs.length<=n
 bd:∀c∈cs,Ej B c
 ris:Hr cs
def Yl {cs:zy C4}{c d:C4}(h:Hr (cs ++ [c]))(hd:c.1<d.1):Hr (cs ++ [c] ++ [d]):=by
 refine ACl.mpr ⟨h,by simp,λa ha b hb=> ?_⟩;simp at hb;subst hb;rcases AAO.mp ha with ha|ha
 .have:=(ACl.mp h).2.2 a ha c (by simp);grind
 .simp at ha;subst ha;exact hd
def Ht:AS:=
 (Aa (CJ (Aw (AW Zb (aV 5) (aC (.int 3)))) (Ak (G6 (D9 (AB (AR 1 Az (AB (aV 0) AM)) (AB (AR 1 Az (AB (aV 0) AM)) (AB (AR 1 Az (AB (aV 0) AM)) AM))))) (Am 3)) (CJ (Aw (AW Zb (aV 5) (aC (.int 0)))) (Ak (AW Bb (AW Bb (ZY (aV 3) ZZ (Za (AW Gh (aV 5) (aC (.int 1))))) (G6 (D9 (AB (AR 1 Az (AB (aV 0) AM)) AM)))) (ZY (aV 3) (Za (aV 5)) ZZ)) (Am 3)) BK))
   (C2 4 F2 (AB (BB (AB (aV 2) (AB (AW Ai (aV 3) (aC (.int 0))) (AB (AW Ai (aV 3) (aC (.int 1))) (AB (AW Ai (aV 3) (aC (.int 2))) AM))))) AM)))
def Hs:AS:=
 (Aa (Ak (AR 2 BX (AB (aV 0) (AB (aC (.int 6)) AM))) (Am 5))
   Ht)
def Kx:AS:=
 (Aa (Ak (AR 2 BW (AB (aV 2) (AB (AR 1 CO (AB (aV 0) AM)) AM))) (Am 2))
   Hs)
def K1:AS:=
 (Aa (G7 (Aw (AW XR (Fx IK (AB (aV 4) AM)) (aV 1))) Kx)
   (Ar (Fx Dd (AB (aV 4) AM))))
def K0:AS:=
 (Aa (Fy (D9 (AB (BB (AB (aV 2) (AB (AW Ai (aV 3) (aC (.int 0))) (AB (AW Ai (aV 3) (aC (.int 1))) (AB (AW Ai (aV 3) (aC (.int 2))) AM))))) AM)) 4)
   K1)
def Kz:AS:=
 (Aa (Ak (G6 (D9 (AB (AR 1 Az (AB (aV 0) AM)) (AB (AR 1 Az (AB (aV 0) AM)) (AB (AR 1 Az (AB (aV 0) AM)) AM))))) (Am 3))
   K0)
def Fh:AS:=
 (Aa (Ak (BB (AB (AR 2 BX (AB (aV 0) (AB (aC (.int 12)) AM))) (AB (aC (.int 1)) AM))) (Am 2))
   Kz)
def Ky:AS:=
 (Aa (CJ (Aw (AW Rh (AR 2 BX (AB (aV 0) (AB (aC (.int 8)) AM))) (aC (.int 0)))) (Ak (AW Bb (aC (.int 7)) (AR 2 BX (AB (aV 0) (AB (aC (.int 3)) AM)))) (Am 1)) BK)
   Fh)
def Pr:AS:=
 (Aa (Ak (AW Bb (aC (.int 2)) (AR 2 BX (AB (aV 0) (AB (aC (.int 4)) AM)))) (Am 1))
   Ky)
def EJ:AF:=Al 6 Pr
def Ut (many:Int)(B k f:zt AV)(j:zt AV)(I:2<=many)(h1:many<=9){Q:PV->Prop}(h:∀cs,UI 9 6 512 cs->Q (Bx cs)):Fh {nx:=λ_=>Q .non,rt:=Q,bk:=λ_=>False,ct:=λ_=>False} [some (.val .tape),some (.val (.int many)),B,k,j,f] :=by
 refine⟨rfl,CV (by decide) (by decide) λm m0 m1=>⟨lz, ?_⟩⟩;refine⟨rfl,Aq λx hx=>⟨rfl,Aq λy hy=>⟨rfl,Aq λz hz=>⟨lz, ?_⟩⟩⟩⟩;refine⟨lz,lz, ?_⟩;refine⟨(many-1).toNat+1,UD (λn τ=>∃(cs:zy C4) (c:C4) (f:zt AV),n+(cs.length+1)=many.toNat+1/\1<=n/\(∀d∈cs ++ [c],LM 6 (66+48*cs.length) d)/\(Mul 6 60 c.2.1/\Mul 6 60 c.2.2.1/\Mul 6 60 c.2.2.2)/\Hr (cs ++ [c])/\
  τ= [some (.val .tape),some (.val (.int many)),some (.val (fr c.1)),some (.val (.lst [fr c.2.1,fr c.2.2.1,fr c.2.2.2])),some (.own ((cs ++ [c]).map cor)),f]) ?_ ?_ _ _ ⟨[],((m:Rat),x,y,z),f, ?_, ?_, ?_, ?_, ?_, ?_⟩⟩
 .rintro τ ⟨cs,c,f,_,C,_⟩;omega
 .rintro n τ R D ⟨cs,c,f,C,J,hb,g,r,rfl⟩;have t:(((cs ++ [c]).map cor).length:Int)=(cs.length:Int)+1:=by simp
  refine HI (b:=decide ((((cs ++ [c]).map cor).length:Int)<many)) (λz=> ?_) (λz=> ?_)
  .have l:(((cs ++ [c]).map cor).length:Int)<many:=ABM z;rw[t] at l;have u:=hb c (by simp);refine⟨rfl,FY λs E K F=>⟨rfl,Ce ((u.m.bd (n:=12) (by omega) (by decide)).mono (by omega)) (E.mono (by omega)) ?_⟩⟩;refine⟨rfl,CV (by decide) (by decide) λw L M=> ?_⟩;have a:∀(o:Ff) (x y z:Rat) (f:zt AV),o.nx=R->Mul 6 60 x->Mul 6 60 y->Mul 6 60 z->C2 4 F2 (AB (BB (AB (aV 2) (AB (AW Ai (aV 3) (aC (.int 0))) (AB (AW Ai (aV 3) (aC (.int 1))) (AB (AW Ai (aV 3) (aC (.int 2))) AM))))) AM)
    o [some (.val .tape),some (.val (.int many)),some (.val (fr (c.1+s))),some (.val (.lst [fr x,fr y,fr z])),some (.own ((cs ++ [c]).map cor)),f] :=by
    intro o x y z f G v i A;refine⟨lz, ?_, ?_⟩
    .show _<16777216;omega
    .rw [G];have H:Mul 6 (66+48*(cs.length+1)) (c.1+s):=(u.m.add F).mono (by omega);refine D _ ⟨cs ++ [c],(c.1+s,x,y,z),f,by simp;omega,by omega, ?_,⟨v,i,A⟩,Yl r ?_, ?_⟩
     .intro d hd;rcases AAO.mp hd with hd|hd
      .exact (hb d hd).mono (by simp;omega)
      .simp at hd;subst hd;have e:(cs ++ [c]).length=cs.length+1:=by simp
       rw[e];exact⟨H,v.mono (by omega),i.mono (by omega),A.mono (by omega)⟩
     .show c.1<c.1+s;grind
     .rw [AAU (l₁:=cs ++ [c])];rfl
   refine HI (b:=decide (3<w)) (λ_=> ?_) (λk=> ?_)
   .exact ⟨rfl,Aq λx hx=>⟨rfl,Aq λy hy=>⟨rfl,Aq λz hz=>⟨lz,a _ x y z _ rfl hx hy hz⟩⟩⟩⟩
   refine HI (b:=decide (0<w)) (λj=> ?_) (λj=> ?_)
   .have N:¬3<w:=ABN k;have O:0<w:=ABM j;have hw:w=1\/w=2\/w=3:=by omega
    rcases hw with rfl|rfl|rfl
    .exact Dr ⟨rfl,Aq λp hp=>⟨lz,lz,Dr ⟨lz,a _ p _ _ _ rfl hp g.2.1 g.2.2⟩⟩⟩
    .exact Dr ⟨rfl,Aq λp hp=>⟨lz,lz,Dr ⟨lz,a _ _ p _ _ rfl g.1 hp g.2.2⟩⟩⟩
    .exact Dr ⟨rfl,Aq λp hp=>⟨lz,lz,Dr ⟨lz,a _ _ _ p _ rfl g.1 g.2.1 hp⟩⟩⟩
   .exact a _ _ _ _ _ rfl g.1 g.2.1 g.2.2
  .have l:¬(((cs ++ [c]).map cor).length:Int)<many:=ABN z;rw[t] at l;refine h (cs ++ [c]) ⟨by simp;omega,by simp;omega,λd hd=>(hb d hd).mono (by omega),r⟩
 .simp;omega
 .omega
 .intro d hd;simp at hd;subst hd;exact⟨.int (by decide) (by simp;omega),hx.mono (by decide),hy.mono (by decide),hz.mono (by decide)⟩
 .exact ⟨hx,hy,hz⟩
 .exact List.pairwise_singleton _ _
 .simp only[cor,XU,ABO,AAL,ABi];rfl
def LQ {Q:PV->Prop}(h:∀cs,UI 9 6 512 cs->Q (Bx cs)):EJ [.tape] Q:=by
 refine⟨rfl,CV (by decide) (by decide) λa d e=>⟨rfl,CV (by decide) (by decide) λb f g=> ?_⟩⟩;refine HI (b:=decide (b=0)) (λ_=> ?_) (λ_=> ?_)
 .exact ⟨rfl,CV (by decide) (by decide) λc c0 i=>Ut (7+c) _ _ _ _ (by omega) (by omega) h⟩
 .exact Ut (2+a) _ _ _ _ (by omega) (by omega) h
def XG {cs:zy C4}{i:Int}{k:Nat}(hk:i=(k:Int))(h:k<=cs.length):Ip (cs.map cor) (some i) none=(cs.drop k).map cor:=by unfold Ip;rw[hk,HT.sIx_none,HT.sIx_nat];rw[show min k (cs.map cor).length=k by simp;omega,ACA];exact ABl (by simp)
def VB {cs:zy C4}{i:Int}{k:Nat}{Q:PV->Prop}(hk:i=(k:Int))(h:k<=cs.length)(q:Q (Bx (cs.drop k))):Vq (Bx cs) (some i) none Q:=by refine VC ?_;rw[XG hk h];exact q
def UI.ok {n D N m:Nat}{cs:zy C4}(p:UI n D N cs)(h1:N<2^m)(h2:D<2^m):Ez n m cs:=⟨p.two,p.few,λc hc=>(p.mu c hc).bd h1 h2,p.ris⟩
def Gr (cs:zy C4)(v:PV):Prop:=∃f:C4->PV,(f=cor\/f=corL)/\(v= .tup (cs.map f)\/v= .lst (cs.map f))
def Gr.self (cs:zy C4):Gr cs (Bx cs):=⟨cor, .inl rfl, .inl rfl⟩
def Gr.lists (cs:zy C4):Gr cs (.lst (cs.map corL)):=⟨corL, .inr rfl, .inr rfl⟩
def Gr.list (cs:zy C4):Gr cs (.lst (cs.map cor)):=⟨cor, .inl rfl, .inr rfl⟩
def laterC (b:Rat)(cs:zy C4):zy C4:=cs.map λc=>(c.1+b,c.2)
def Ej.laterC {B m:Nat}{b:Rat}{cs:zy C4}(h:∀c∈cs,Ej B c)(hb:Bd m b):∀c∈laterC b cs,Ej (B+m+1) c:=λc hc=>by obtain⟨d,hd,rfl⟩:=AAc.mp hc;have q:=h d hd;exact⟨q.m.add hb,q.x.mono (by omega),q.y.mono (by omega),q.z.mono (by omega)⟩
theorem EM {i m:Type}{g:AG}{j:AE}{d:Ay}{Q:zy PV->Prop}(f:i->PV)(k:m->PV)(e:i->m)(P:i->Prop)(hs:∀a,P a->∀R:PV->Prop,R (k (e a))->g (f a) d λl=>j l R):∀(xs:zy i) (c:zy PV),(∀a∈xs,P a)->Q (c++(xs.map e).map k)->C6 g E1 j d Q (xs.map f) c
 | [],c,_,h=>(by simpa using h:Q c)
 | a::xs,c,hp,h=>by refine hs a (hp a (by simp)) (λy=>C6 g E1 j d Q (xs.map f) (c ++ [y])) (EM f k e P hs xs _ (λb hb=>hp b (by simp[hb])) ?_);simpa using h
def Sh.cor {c:C4}(h:Ej 1900 c):Sh 2 17000 (cor c):=(Sh.tup (ae (Sh.fr h.m) (Sh.fr h.x) (Sh.fr h.y) (Sh.fr h.z))).mono (by decide) lz
def Sh.corL {c:C4}(h:Ej 1900 c):Sh 2 17000 (corL c):=(Sh.lst (ae (Sh.fr h.m) (Sh.fr h.x) (Sh.fr h.y) (Sh.fr h.z))).mono (by decide) lz
def Tt {x:PV}{Q:PV->Prop}(a:OE x)(hq:Jf x=true)(h:Q (.str (jb x))):Lm [x] Q:=by unfold Lm;cases x <;> first | exact⟨hq,a,h⟩|(simp[Jf] at hq)
abbrev T3:=Rat×Rat×Rat
def inter (a b:C4)(m:Rat):T3:=(a.2.1+(m-a.1)/(b.1-a.1)*(b.2.1-a.2.1),a.2.2.1+(m-a.1)/(b.1-a.1)*(b.2.2.1-a.2.2.1),a.2.2.2+(m-a.1)/(b.1-a.1)*(b.2.2.2-a.2.2.2))
def spotG:C4->zy C4->Rat->zt T3
 | _, [],_=>none
 | a,b::r,m=>if b.1<m then spotG b r m else some (inter a b m)
def spotC:zy C4->Rat->zt T3
 | [],_=>none
 | a::r,m=>if m<a.1 then none else spotG a r m
def FO (t:T3):PV:= .tup [fr t.1,fr t.2.1,fr t.2.2]
def VD:zt T3->PV
 | none=> .non
 | some t=>FO t
structure Dz (B:Nat) (t:T3):Prop where
 x:Bd B t.1
 y:Bd B t.2.1
 z:Bd B t.2.2
def Dz.mono {B a:Nat}{t:T3}(h:Dz B t)(k:B<=a):Dz a t:=⟨h.x.mono k,h.y.mono k,h.z.mono k⟩
section
variable {B M:Nat}{a b:C4}{m:Rat}
theorem ZA {x y:Rat}(h:x<y):y-x≠0:=by grind
theorem Bd.share (ha:Ej B a)(hb:Ej B b)(c:Bd M m)(h:a.1<b.1):Bd (M+B+1+(B+B+1)) ((m-a.1)/(b.1-a.1)):=(c.sub ha.m).div (ZA h) (hb.m.sub ha.m)
theorem Dz.inter (ha:Ej B a)(hb:Ej B b)(c:Bd M m)(h:a.1<b.1):Dz (M+6*B+10) (inter a b m):=by have s:=Bd.share ha hb c h;exact⟨(ha.x.add (s.mul (hb.x.sub ha.x))).mono (by omega),(ha.y.add (s.mul (hb.y.sub ha.y))).mono (by omega),(ha.z.add (s.mul (hb.z.sub ha.z))).mono (by omega)⟩
end
theorem Dz.spotG {B M:Nat}{m:Rat}(d:Bd M m):∀{a:C4} {r:zy C4},Hr (a::r)->(∀c∈a::r,Ej B c)->∀t,spotG a r m=some t->Dz (M+6*B+10) t
 | a, [],_,_,t,e=>by cases e
 | a,b::r,hr,hb,t,e=>by
   unfold PL.spotG at e;split at e
   .exact Dz.spotG d (AAK.mp hr).2 (λc hc=>hb c (by simp[hc])) t e
   .cases e;exact .inter (hb a (by simp)) (hb b (by simp)) d ((AAK.mp hr).1 b (by simp))
def Dz.spotC {B M:Nat}{m:Rat}{cs:zy C4}(b:Bd M m)(d:Hr cs)(hb:∀c∈cs,Ej B c):∀t,spotC cs m=some t->Dz (M+6*B+10) t:=λt e=>by
 cases cs with
 | nil=>cases e
 | cons a r=>
   simp only[PL.spotC] at e;split at e
   .cases e
   .exact Dz.spotG b d hb t e
def KL {f:C4->PV}{cs:zy C4}{i:Int}{k:Nat}{c:C4}{Q:PV->Prop}(hk:i=(k:Int))(e:cs[k]? =some c)(h:Q (f c)):aw (Ih (cs.map f) i) Q:=by have q:Ih (cs.map f) ((k:Nat):Int)=some (f c):=C3 (by rw[AAk,e] <;> rfl);rw[hk,q];exact h
def QU {f:C4->PV}{cs:zy C4}{c:C4}{Q:PV->Prop}(e:cs.getLast?=some c)(h:Q (f c)):aw (Ih (cs.map f) (-1)) Q:=by
 have a:cs≠ [] :=by intro z;subst z;cases e
 have hl:0<cs.length:=List.length_pos_iff.mpr a;have q:Ih (cs.map f) (-1)=some (f c):=by
  unfold Ih aX;rw[AAJ,AAC (by decide),AAE (by omega)];have b:(-1+(cs.length:Int)).toNat=cs.length-1:=by omega
  rw[Option.bind_some,b,AAk,<-List.getLast?_eq_getElem?,e];rfl
 rw[q];exact h
def U3 {cs:zy C4}(h:Hr cs){k:Nat}{a b:C4}(c:cs[k]? =some a)(d:cs[k+1]? =some b):a.1<b.1:=by have h1:=(AAp.mp c);have h2:=(AAp.mp d);obtain⟨e,rfl⟩:=h1;obtain⟨f,rfl⟩:=h2;exact List.pairwise_iff_getElem.mp h k (k+1) e f (by omega)
theorem MQ {m:Rat}:∀{a:C4} {r:zy C4},Hr (a::r)->(∀l,(a::r).getLast?=some l->l.1<m)->spotG a r m=none
 | a, [],_,_=>rfl
 | a,b::r,hr,h=>by
   have d:Hr (b::r):=(AAK.mp hr).2;have hb:b.1<m:=by
    cases r with
    | nil=>exact h b rfl
    | cons c r=> obtain⟨l,hl⟩:∃l,(c::r).getLast?=some l:=⟨_,ABr (by simp)⟩;have h1:l.1<m:=h l (by simpa[ABs] using hl);have h2:b.1<l.1:=(AAK.mp d).1 l (ABt hl);grind
   simp only[spotG,AAE hb];exact MQ d λl hl=>h l (by simpa[ABs] using hl)
def Jd {a b:C4}(h:a.1<b.1):inter a b a.1=a.2:=by
 have s:(a.1-a.1)/(b.1-a.1)=0:=by grind
 simp only[inter,s];obtain⟨m,x,y,z⟩:=a;show (x+0*(b.2.1-x),y+0*(b.2.2.1-y),z+0*(b.2.2.2-z))=(x,y,z);rw[show x+0*(b.2.1-x)=x by grind,show y+0*(b.2.2.1-y)=y by grind,show z+0*(b.2.2.2-z)=z by grind]
def HH {a b:C4}(h:a.1<b.1):inter a b b.1=b.2:=by
 have s:(b.1-a.1)/(b.1-a.1)=1:=by grind
 simp only[inter,s];obtain⟨m,x,y,z⟩:=b;show (a.2.1+1*(x-a.2.1),a.2.2.1+1*(y-a.2.2.1),a.2.2.2+1*(z-a.2.2.2))=(x,y,z);rw[show a.2.1+1*(x-a.2.1)=x by grind,show a.2.2.1+1*(y-a.2.2.1)=y by grind,show a.2.2.2+1*(z-a.2.2.2)=z by grind]
def Jm {a:C4}{r:zy C4}{m:Rat}(h:m<a.1):spotC (a::r) m=none:=by simp only[spotC,AAE h]
def Pf {a:C4}{r:zy C4}{m:Rat}(b:Hr (a::r))(h:∀l,(a::r).getLast?=some l->l.1<m):spotC (a::r) m=none:=by
 simp only[spotC];split
 .rfl
 .exact MQ b h
def Hy:AS:=
 (Aa (Ak (G6 (Cu (Mw (BB (AB (aC (.int 1)) (AB (aC (.int 2)) (AB (aC (.int 3)) AM))))) 1 [4,3,2] (Am 0) E1 (AR 2 BU (AB (aV 1) (AB (AR 2 BS (AB (AW Ai (aV 2) (aV 0)) (AB (AW Ai (aV 3) (aV 0)) AM))) AM))))) (Am 5))
   (Ar (Fx Dd (AB (G6 (Cu (QG (AB (aC (.int 3)) AM)) 1 [2,5] (Am 0) E1 (AR 2 BW (AB (AW Ai (aV 1) (AW Bb (aV 0) (aC (.int 1)))) (AB (AW Ai (aV 2) (aV 0)) AM))))) AM))))
def K5:AS:=
 (Aa (Ak (AR 2 CU (AB (AR 2 BS (AB (aV 1) (AB (AW Ai (aV 2) (aC (.int 0))) AM))) (AB (AR 2 BS (AB (AW Ai (aV 3) (aC (.int 0))) (AB (AW Ai (aV 2) (aC (.int 0))) AM))) AM))) (Am 4))
   Hy)
def K6:AS:=
 (Aa (EY (cU (AB (aV 0) (AB (ZY (aV 0) (Za (aC (.int 1))) ZZ) AM))) (Ja 2 (Ad (Am 2) (Ad (Am 3) Bw))) (CJ (LZ (Aw (AR 2 A5 (AB (AW Ai (aV 3) (aC (.int 0))) (AB (aV 1) AM))))) K5 BK))
   (Ar (aC .non)))
def Pt:AS:=
 (Aa (CJ (R6 (Aw (AR 2 A5 (AB (aV 1) (AB (AW Ai (AW Ai (aV 0) (aC (.int 0))) (aC (.int 0))) AM)))) (Aw (AR 2 A5 (AB (AW Ai (AW Ai (aV 0) (W9 Li (aC (.int 1)))) (aC (.int 0))) (AB (aV 1) AM))))) (Ar (aC .non)) BK)
   K6)
def EK:AF:=Al 6 Pt
def LS {cs:zy C4}{B M:Nat}{m:Rat}(hc:∀c∈cs,Ej B c)(E:Hr cs)(I:cs≠ [])(hl:cs.length<=1000)(t:Bd M m)(P:M+6*B+10<=3990){Q:PV->Prop}(q:Q (VD (spotC cs m))):EK [Bx cs,fr m] Q:=by
 have m1:=t.mono (n:=4000) (by omega);cases cs with
 | nil=>exact absurd rfl I
 | cons a r=>
   have J:=hc a (by simp);have K:=J.m.mono (n:=4000) (by omega);obtain⟨l,u⟩:∃l,(a::r).getLast?=some l:=⟨_,ABr (by simp)⟩;have L:=hc l (ABt u);refine KL (f:=cor) (k:=0) (c:=a) rfl rfl ⟨rfl,EL m1 K ?_⟩;refine HI (b:=decide (m<a.1)) (λz=> ?_) (λz=> ?_)
   .rw [Jm (ABM z)] at q;exact q
   refine QU (f:=cor) u ⟨rfl,EL (L.m.mono (by omega)) m1 ?_⟩;refine HI (b:=decide (l.1<m)) (λo=> ?_) (λo=> ?_)
   .rw [Pf E (λS F=>by rw[u] at F;cases F;exact ABM o)] at q;exact q
   simp only[spotC,AAC (ABN z)] at q;have N:r.length+1<=1000:=hl;refine VB (cs:=a::r) (i:=1) (k:=1) rfl (by simp) ?_;refine GT (λG τ=>∃(c:C4) (h:zy C4) (o v w A:zt AV),G=Gk ((c::h).map cor) (h.map cor)/\Hr (c::h)/\(∀d∈c::h,Ej B d)/\spotG c h m=spotG a r m/\τ= [some (.val (Bx (a::r))),some (.val (fr m)),o,v,w,A]) ?_ ?_ _ _ ⟨a,r,none,none,none,none,rfl,E,hc,rfl,rfl⟩
   .rintro τ ⟨c,h,o,v,w,A,p,C,hb,es,rfl⟩;have:h= [] :=by cases h with | nil=>rfl|cons d h=>cases p
    subst this;rw[<-es] at q;exact q
   .rintro x G τ R O ⟨c,h,o,v,w,A,p,C,hb,es,rfl⟩;cases h with
    | nil=>cases p
    | cons d h=>
      cases p;have g:=hb c (by simp);have j:=hb d (by simp);have H:=(AAK.mp C).1 d (by simp);refine⟨rfl,rfl,EL (j.m.mono (by omega)) m1 ?_⟩;refine HI (b:= !decide (d.1<m)) (λz=> ?_) (λz=> ?_)
      .have D:¬d.1<m:=by simpa using z
       rw[<-es] at q;simp only[spotG,AAC D,VD,FO,inter] at q;have s:=Bd.share g j t H;refine⟨rfl,CA m1 (g.m.mono (by omega)) ⟨rfl,CA (j.m.mono (by omega)) (g.m.mono (by omega)) ⟨rfl,FX (ZA H) ((t.sub g.m).mono (by omega)) ((j.m.sub g.m).mono (by omega)) ?_⟩⟩⟩;refine⟨lz,lz, ?_⟩;refine⟨rfl,CA (j.x.mono (by omega)) (g.x.mono (by omega)) ⟨rfl,CF (s.mono (by omega)) ((j.x.sub g.x).mono (by omega)) ?_⟩⟩;refine⟨rfl,CA (j.y.mono (by omega)) (g.y.mono (by omega)) ⟨rfl,CF (s.mono (by omega)) ((j.y.sub g.y).mono (by omega)) ?_⟩⟩;refine⟨rfl,CA (j.z.mono (by omega)) (g.z.mono (by omega)) ⟨rfl,CF (s.mono (by omega)) ((j.z.sub g.z).mono (by omega)) ?_⟩⟩;refine⟨⟨by decide,by decide⟩,lz, ?_⟩;refine⟨rfl,Ce (g.x.mono (by omega)) ((s.mul (j.x.sub g.x)).mono (by omega)) ?_⟩;refine⟨rfl,Ce (g.y.mono (by omega)) ((s.mul (j.y.sub g.y)).mono (by omega)) ?_⟩;exact⟨rfl,Ce (g.z.mono (by omega)) ((s.mul (j.z.sub g.z)).mono (by omega)) q⟩
      .have D:d.1<m:=by simpa using z
       exact O _ ⟨d,h,_,_,_,_,rfl,(AAK.mp C).2,λe he=>hb e (by simp[he]),by rw[<-es];simp only[spotG,AAE D],rfl⟩
def OE.t3 {t:T3}(h:Dz 1900 t):OE (FO t):=(Sh.tup (ab (Sh.fr h.x) (Sh.fr h.y) (Sh.fr h.z))).go (by decide) lz
def sp (cs:zy C4)(m:Rat):C4:=(m,(spotC cs m).getD (0,0,0))
def gb (f t:Rat)(c:C4):zq:=decide (f<c.1)&&decide (c.1<t)
theorem MR {m:Rat}:∀{a:C4} {r:zy C4} {l:C4},r≠ [] ->(a::r).getLast?=some l->m<=l.1->∃t,spotG a r m=some t
 | a, [],l,h,_,_=>absurd rfl h
 | a,b::r,l,_,e,hm=>by
   simp only[spotG];split
   .rename_i h;cases r with
    | nil=>
      have:b=l:=by simpa using e
      subst this;grind
    | cons c r=>exact MR (l:=l) (by simp) (by simpa[ABs] using e) hm
   .exact ⟨_,rfl⟩
def MP {a:C4}{r:zy C4}{l:C4}{m:Rat}(h2:r≠ [])(e:(a::r).getLast?=some l)(b:a.1<=m)(h1:m<=l.1):∃t,spotC (a::r) m=some t:=by simp only[spotC];rw[AAC (by grind)];exact MR h2 e h1
def V4 {a b l:C4}{r:zy C4}(e:(a::b::r).getLast?=some l):(b::r).getLast?=some l:=by simpa[ABs] using e
def mx (b a:Rat):Rat:=if b<a then a else b
def mn (e l:Rat):Rat:=if e<l then e else l
def both {f t:Rat}{c:C4}{b:(zq->Prop)->Prop}{A:Prop}{N:Prop}(h1:gb f t c=true->A)(h2:gb f t c=false->N):if decide (f<c.1)=true then (if decide (c.1<t)=true then A else N) else N:=by unfold gb at h1 h2;refine HI (λz=>HI (λa=>h1 (by rw[z,a];rfl)) (λa=>h2 (by rw[z,a];rfl))) (λz=>h2 (by rw[z];rfl))
def Bd.mx {n:Nat}{a b:Rat}(ha:Bd n a)(hb:Bd n b):Bd n (mx a b):=by unfold PL.mx;split <;> assumption
def Bd.mn {n:Nat}{a b:Rat}(ha:Bd n a)(hb:Bd n b):Bd n (mn a b):=by unfold PL.mn;split <;> assumption
section
variable {a b:AS}{ta tb:AE}{tt tu:AT}{g:AG}{gs:Ri}{nx bk ct:Ay->Prop}{rt:PV->Prop}{τ:Ay}{Q:PV->Prop}{QB:zq->Prop}{QL:zy PV->Prop}{QT:Ay->Prop}{r:AA}{ai:AI}{F:AF}{n i j:Nat}{x y z:PV}{xs ys:zy PV}
def jS {f:Hq}(e:Po τ i=some (.val x))(h:ta τ λy=>f x y λz=>nx (τ.set i (some (.val z)))):R3 i f ta ⟨nx,rt,bk,ct⟩ τ:=by unfold R3;rw[e];exact h
def jY (e:Po τ i=some (.own xs))(h:QL xs):OG i τ QL:=by unfold OG;rw[e];exact h
def tG (e:Po τ i=some (.val x))(h:Q x):aV i τ Q:=by unfold aV;rw[e];exact h
def og (x:PV)(i:Int):zt PV:=match x with | .tup xs=>Ih xs i | .lst xs=>Ih xs i|_=>none
def mM {i:Int}(e:og x i=some z)(h:Q z):Ai x (.int i) Q:=by cases x <;> first | (cases e;done)|(show aw (Ih _ i) Q;rw[show Ih _ i=some z from e];exact h)
def fq {l:C4}{cs:zy C4}(c:cs.getLast?=some l)(h:Q (cor l)):Ai (Bx cs) (.int (-1)) Q:=QU c h
def jX {a b:Rat}(h:Q (.bl (!decide (a=b)))):We (fr a) (fr b) Q:=⟨⟨cu 29 _,cu 29 _⟩,by rw[dn];exact h⟩
def jR {g:zy zq->zq}{bs:zy zq}(e:Lc xs=some bs)(h:Q (.bl (g bs))):XY g [.lst xs] Q:=by show (match Lc xs with | some bs=>Q (.bl (g bs))|none=>False);rw[e];exact h
def jU {c:zq}{A B:Prop}(e:c=true)(h:A):if c=true then A else B:=by rw[AAE e];exact h
def jT {c:zq}{A B:Prop}(e:c=false)(h:B):if c=true then A else B:=by rw[AAC (by rw[e];exact AAN)];exact h
def jV {p:Prop}[Decidable p]{A B:Prop}(h1:p->A)(h2:¬p->B):if decide p=true then A else B:=by
 by_cases h:p
 .rw [AAE (AAi h)];exact h1 h
 .rw [AAC (by simp[h])];exact h2 h
def jW {p:Prop}[Decidable p]{A B:Prop}(h1:¬p->A)(h2:p->B):if (!decide p)=true then A else B:=by
 by_cases h:p
 .rw [AAC (by simp[h])];exact h2 h
 .rw [AAE (by simp[h])];exact h1 h
end
def dc:Bd 1 (0:Rat):=⟨by decide,by decide⟩
def iG:Bd 1 (1:Rat):=⟨by decide,by decide⟩
section
variable {g:AG}{b:AS}{nx bk ct:Ay->Prop}{rt:PV->Prop}
def Z8 (P:Nat->Ay->Prop){lo:Int}{n:Nat}(hd:∀τ,P n τ->nx τ)(hs:∀i,i<n->∀τ (R:Ay->Prop),(∀τ,P (i+1) τ->R τ)->P i τ->g (.int (lo+i)) τ λc=>b ⟨R,rt,nx,R⟩ c){τ:Ay}(f:P 0 τ):Ci g b ⟨nx,rt,bk,ct⟩ (rng lo n) τ:=by
 refine GT (λr τ=>∃i,i<=n/\r=rng (lo+i) (n-i)/\P i τ) ?_ ?_ _ _ ⟨0,AAq _,by simp,f⟩
 .rintro τ ⟨i,hi,a,hp⟩;have:n-i=0:=by
   cases e:n-i with
   | zero=>rfl
   | succ k=>rw[e,IX] at a;cases a
  have:i=n:=by omega
  subst this;exact hd τ hp
 .rintro x r τ R h ⟨i,hi,a,hp⟩;cases e:n-i with
  | zero=>rw[e] at a;cases a
  | succ k=> rw[e,IX] at a;cases a;exact hs i (by omega) τ R (λd h2=>h d ⟨i+1,by omega,by rw[show n-(i+1)=k by omega,show lo+((i+1:Nat):Int)=lo+i+1 by omega],h2⟩) hp
def C8 {a:Type}(f:a->PV)(P:zy a->zy a->Ay->Prop){cs:zy a}(hd:∀τ,P cs [] τ->nx τ)(hs:∀us c vs,us++c::vs=cs->∀τ (R:Ay->Prop),(∀τ,P (us ++ [c]) vs τ->R τ)->P us (c::vs) τ->g (f c) τ λh=>b ⟨R,rt,nx,R⟩ h){τ:Ay}(j:P [] cs τ):Ci g b ⟨nx,rt,bk,ct⟩ (cs.map f) τ:=by
 refine GT (λr τ=>∃us vs,us++vs=cs/\r=vs.map f/\P us vs τ) ?_ ?_ _ _ ⟨[],cs,rfl,rfl,j⟩
 .rintro τ ⟨us,vs,e,d,hp⟩;cases vs with
  | nil=>rw[AB0] at e;subst e;exact hd τ hp
  | cons v vs=>cases d
 .rintro x r τ R k ⟨us,vs,e,d,hp⟩;cases vs with
  | nil=>cases d
  | cons c vs=> cases d;exact hs us c vs e τ R (λi h2=>k i ⟨us ++ [c],vs,by simpa using e,rfl,h2⟩) hp
def dC {c:AT}(P:Nat->Ay->Prop)(hs:∀n τ (R:Ay->Prop),(∀τ,P n τ->R τ)->P (n+1) τ->c (frz τ) λk=>if k=true then b ⟨R,rt,nx,R⟩ τ else nx τ)(a:∀τ,¬P 0 τ){n:Nat}{τ:Ay}(d:P n τ):G7 c b ⟨nx,rt,bk,ct⟩ τ:=
 ⟨n,UD P a (λn τ R e hp=>hs n τ R e hp) n τ d⟩
end
section
variable {g:AG}{tt:AT}{te:AE}{τ0:Ay}{Q:zy PV->Prop}
def UR (P:Nat->zy PV->Prop){lo:Int}{n:Nat}(hd:∀a,P n a->Q a)(hs:∀i,i<n->∀a (R:zy PV->Prop),(∀a,P (i+1) a->R a)->P i a->g (.int (lo+i)) τ0 λc=>tt c λok=>if ok=true then te c λy=>R (a ++ [y]) else R a)(f:P 0 []):C6 g tt te τ0 Q (rng lo n) [] :=by
 refine UQ (λr a=>∃i,i<=n/\r=rng (lo+i) (n-i)/\P i a) ?_ ?_ _ _ ⟨0,AAq _,by simp,f⟩
 .rintro a ⟨i,hi,b,hp⟩;have:n-i=0:=by
   cases e:n-i with
   | zero=>rfl
   | succ k=>rw[e,IX] at b;cases b
  have:i=n:=by omega
  subst this;exact hd a hp
 .rintro x r a R h ⟨i,hi,b,hp⟩;cases e:n-i with
  | zero=>rw[e] at b;cases b
  | succ k=> rw[e,IX] at b;cases b;exact hs i (by omega) a R (λd h2=>h d ⟨i+1,by omega,by rw[show n-(i+1)=k by omega,show lo+((i+1:Nat):Int)=lo+i+1 by omega],h2⟩) hp
end
end PL
namespace PL
open PySem PySem.Spec PyProof.Rows L2
def Kc (K:AAB)(mg:Str->zt zx)(x:Str)(v:PV):Prop:=∃(u:zx) (V:V),mg x=some u/\RelV V u/\∀T M H,Bs K T M H V v
section
variable {K:AAB}{T M:zu->Prop}{H:Hp}
def Ka {i:Int}{t:Tok}:∃V,RelV V (.int i t)/\∀T M H,Bs K T M H V (.int i):=⟨.int i,⟨t,rfl⟩,λ_ _ _=> .int i⟩
inductive KR (K:AAB):List Value->List PV->Prop where
 | nil:KR K [] []
 | cons {u:Value} {x:PV} {us:List Value} {xs:List PV} (h:∃V,RelV V u/\∀T M H,Bs K T M H V x) (t:KR K us xs):KR K (u::us) (x::xs)
theorem KR.reps:∀{us:zy zx} {xs:zy PV},KR K us xs->∃vs,Aj vs us/\∀T M H,An K T M H vs xs
 | _,_, .nil=>⟨[], .nil,λ_ _ _=> .nil⟩
 | _,_, .cons ⟨V,r,h⟩ t=>by obtain⟨vs,a,h2⟩:=KR.reps t;exact⟨V::vs, .cons r a,λT M H=> .cons (h T M H) (h2 T M H)⟩
def KR.length:∀{us:zy zx} {xs:zy PV},KR K us xs->us.length=xs.length
 | _,_, .nil=>rfl
 | _,_, .cons _ t=>by simp[t.length]
def U0 {a:zu}{us:zy zx}{xs:zy PV}{n:Nat}{b:zt zu}{c:Array (zt zx)}(hl:K.lookup a=some ⟨.type "tuple",b, .seq us.toArray n,c⟩)(h:KR K us xs)(hs:xs.length<=sizeLine:=by decide):∃V,RelV V (.ref a)/\∀T M H,Bs K T M H V (.tup xs):=by obtain⟨vs,r,q⟩:=h.reps;refine⟨.ref a,rfl,λT M H=> .tup (vs:=vs) (.inr ⟨_,us.toArray,n,hl,rfl,rfl, ?_,by simpa using r⟩) (q T M H)⟩;rw[AAQ,h.length];exact hs
end
def ck {K:AAB}{mg:Str->zt zx}{x:Str}{u:zx}{v:PV}(a:mg x=some u)(h:∃V,RelV V u/\∀T M H,Bs K T M H V v):Kc K mg x v:=let ⟨V,r,q⟩:=h;⟨u,V,a,r,q⟩
def Zu (K:AAB)(d:zu):zy (Str×PV)->Prop
 | [] =>True
 | p::r=>(∃(u:zx) (V:V),PySem.W.nsIn K d p.1=some (some u)/\RelV V u/\∀T M H,Bs K T M H V p.2)/\Zu K d r
theorem Zu.get {K:AAB}{d:zu}:∀{c:zy (Str×PV)},Zu K d c->∀s v,c.lookup s=some v->∃(u:zx) (V:V),PySem.W.nsIn K d s=some (some u)/\RelV V u/\∀T M H,Bs K T M H V v
 | [],_,s,v,e=>by cases e
 | (a,b)::r,h,s,v,e=>by
   rw[ADF] at e;split at e
   .rename_i hb;cases e;have:s=a:=eq_of_beq hb;subst this;exact h.1
   .exact Zu.get h.2 s v e
section
variable {X:Cx}
def RP {x:Str}{v:PV}{a:Pos}(c:Kc X.K X.mg x v)(b:Gl X x)(hd:(x==("__debug__" :Str))=false:=by decide):SE X (.Name x a) (aC v):=by obtain⟨u,V,d,r,h⟩:=c;exact⟨_,bC b d r hd,RR h⟩
end
end PL
namespace PL
open PySem L2 PyProof.Rows
class Wp (P:Prop) (P':outParam Prop):Prop where
 go:P'->P
class QE (P:Prop) (C P':outParam Prop):Prop where
 go:C->P'->P
class oE (P:Prop) (P':outParam Prop):Prop where
 go:P'->P
class kq (P:Prop) (A B:outParam Prop):Prop where
 go:A->B->P
class cS (τ:Ay) (i:Nat) (x:outParam AV):Prop where
 e:Po τ i=some x
instance{v:AV}{r:Ay}:cS (some v::r) 0 v:=⟨rfl⟩
instance{y:zt AV}{r:Ay}{i:Nat}{v:AV}[h:cS r i v] :cS (y::r) (i+1) v:=⟨h.e⟩
class W2 (τ:Ay) (i:Nat) (v:AV) (τ':outParam Ay):Prop where
 e:τ.set i (some v)=τ'
instance{y:zt AV}{r:Ay}{v:AV}:W2 (y::r) 0 v (some v::r):=⟨rfl⟩
instance{y:zt AV}{r a:Ay}{i:Nat}{v:AV}[h:W2 r i v a] :W2 (y::r) (i+1) v (y::a):=⟨by rw[List.set_cons_succ,h.e]⟩
class Wc (τ:Ay) (τ':outParam Ay):Prop where
 e:frz τ=τ'
instance:Wc [] [] :=⟨rfl⟩
instance (priority:=low){z:zt AV}{r a:Ay}[h:Wc r a] :Wc (z::r) (Z9 z::a):=⟨by rw[<-h.e];rfl⟩
instance{r a:Ay}[h:Wc r a] :Wc (none::r) (none::a):=⟨by rw[<-h.e];rfl⟩
instance{x:PV}{r a:Ay}[h:Wc r a] :Wc (some (.val x)::r) (some (.val x)::a):=⟨by rw[<-h.e];rfl⟩
instance{x:zy PV}{r a:Ay}[h:Wc r a] :Wc (some (.own x)::r) (some (.val (.lst x))::a):=⟨by rw[<-h.e];rfl⟩
class jr (ix:List Nat) (τ:Ay) (τ':outParam Ay):Prop where
 e:(ix.map λi=>Ve (Po τ i))=τ'
instance{τ:Ay}:jr [] τ [] :=⟨rfl⟩
instance{τ r:Ay}{i:Nat}{ix:zy Nat}{x:PV}[h:cS τ i (.val x)][h2:jr ix τ r] :jr (i::ix) τ (some (.val x)::r):=⟨by rw[AAL,h.e,h2.e];rfl⟩
class ju (n:Nat) (τ:outParam Ay):Prop where
 e:List.replicate n none=τ
instance:ju 0 [] :=⟨rfl⟩
instance{n:Nat}{τ:Ay}[h:ju n τ] :ju (n+1) (none::τ):=⟨by rw[List.replicate_succ,h.e]⟩
class Zl (xs ys:Ay) (zs:outParam Ay):Prop where
 e:xs++ys=zs
instance{ys:Ay}:Zl [] ys ys:=⟨rfl⟩
instance{x:zt AV}{xs ys a:Ay}[h:Zl xs ys a] :Zl (x::xs) ys (x::a):=⟨by rw[ACm,h.e]⟩
class Wr (xs ys:List PV) (zs:outParam (List PV)):Prop where
 e:xs++ys=zs
instance{ys:zy PV}:Wr [] ys ys:=⟨rfl⟩
instance{x:PV}{xs ys a:zy PV}[h:Wr xs ys a] :Wr (x::xs) ys (x::a):=⟨by rw[ACm,h.e]⟩
class Zv (xs:List PV) (n:outParam Nat):Prop where
 e:xs.length=n
instance:Zv [] 0:=⟨rfl⟩
instance{x:PV}{xs:zy PV}{n:Nat}[h:Zv xs n] :Zv (x::xs) (n+1):=⟨by rw[AAZ,h.e]⟩
class Ix (x:PV) (i:Int) (y:outParam PV):Prop where
 e:og x i=some y
class uB (xs:List PV) (n:Nat) (y:outParam PV):Prop where
 e:xs[n]? =some y
section
variable {a b:AS}{ta tb:AE}{tt tu:AT}{g:AG}{gs:Ri}{nx bk ct:Ay->Prop}{rt:PV->Prop}{τ τ' τ2:Ay}{Q:PV->Prop}{QB:zq->Prop}{QL:zy PV->Prop}{QT:Ay->Prop}{r:AA}{ai:AI}{F:AF}{n i j:Nat}{x y z:PV}{xs ys zs:zy PV}
instance{c:PV}{q:zy PV}:Ix (.tup (c::q)) 0 c:=⟨C3 (j:=0) rfl⟩
instance{d c:PV}{q:zy PV}:Ix (.tup (d::c::q)) 1 c:=⟨C3 (j:=1) rfl⟩
instance{d c:PV}{q:zy PV}:Ix (.lst (d::c::q)) 1 c:=⟨C3 (j:=1) rfl⟩
instance{d e c:PV}{q:zy PV}:Ix (.tup (d::e::c::q)) 2 c:=⟨C3 (j:=2) rfl⟩
instance{d e c:PV}{q:zy PV}:Ix (.lst (d::e::c::q)) 2 c:=⟨C3 (j:=2) rfl⟩
instance{q:Rat}:Ix (fr q) 0 (.int q.num):=⟨rfl⟩
instance{q:Rat}:Ix (fr q) 1 (.int q.den):=⟨rfl⟩
instance{c:C4}:Ix (cor c) 0 (fr c.1):=⟨rfl⟩
instance{c:C4}:Ix (corL c) 0 (fr c.1):=⟨rfl⟩
instance{t:T3}:Ix (FO t) 0 (fr t.1):=⟨rfl⟩
instance{t:T3}:Ix (FO t) 1 (fr t.2.1):=⟨rfl⟩
instance{t:T3}:Ix (FO t) 2 (fr t.2.2):=⟨rfl⟩
instance:Wp (Aa a b ⟨nx,rt,bk,ct⟩ τ) (a ⟨b ⟨nx,rt,bk,ct⟩,rt,bk,ct⟩ τ):=⟨id⟩
instance:Wp (Ak ta g ⟨nx,rt,bk,ct⟩ τ) (ta τ λx=>g x τ nx):=⟨id⟩
instance[h:Wc τ τ'] :Wp (Ar ta ⟨nx,rt,bk,ct⟩ τ) (ta τ' rt):=⟨λk=>by unfold Ar;rw[h.e];exact k⟩
instance:Wp (BK ⟨nx,rt,bk,ct⟩ τ) (nx τ):=⟨id⟩
instance:Wp (CJ tt a b ⟨nx,rt,bk,ct⟩ τ) (tt τ λk=>if k=true then a ⟨nx,rt,bk,ct⟩ τ else b ⟨nx,rt,bk,ct⟩ τ):=⟨id⟩
def Yr (τ:Ay)(i:Nat)(v:AV)(QT:Ay->Prop):Prop:=QT (τ.set i (some v))
instance{v:AV}[h:W2 τ i v τ'] :Wp (Yr τ i v QT) (QT τ'):=⟨λk=>by unfold Yr;rw[h.e];exact k⟩
instance:Wp (Fy r i ⟨nx,rt,bk,ct⟩ τ) (r τ λxs=>Yr τ i (.own xs) nx):=⟨id⟩
instance[h:W2 τ i (.val x) τ'] :Wp (Am i x τ QT) (QT τ'):=⟨λk=>by unfold Am;rw[h.e];exact k⟩
instance{f:Hq}[h:cS τ i (.val x)] :Wp (R3 i f ta ⟨nx,rt,bk,ct⟩ τ) (ta τ λy=>f x y λz=>Yr τ i (.val z) nx):=⟨λk=>jS h.e k⟩
instance[h:cS τ i (.own xs)] :Wp (OG i τ QL) (QL xs):=⟨λk=>jY h.e k⟩
instance{f:dR}:Wp (C2 i f r ⟨nx,rt,bk,ct⟩ τ) (OG i τ λxs=>r τ λys=>f xs ys λzs=>Yr τ i (.own zs) nx):=⟨id⟩
instance:Wp (F2 xs [y] QL) (xs.length<sizeLine/\QL (xs ++ [y])):=⟨id⟩
instance{k:Int}:Wp (X3 xs [.int k,y] QL) ((0<=k/\k<=(xs.length:Int)/\xs.length<sizeLine)/\QL (xs.take k.toNat++y::xs.drop k.toNat)):=⟨id⟩
instance:Wp (EY ai g b ⟨nx,rt,bk,ct⟩ τ) (ai τ λxs=>Ci g b ⟨nx,rt,bk,ct⟩ xs τ):=⟨id⟩
instance:Wp (Ci g b ⟨nx,rt,bk,ct⟩ [] τ) (nx τ):=⟨id⟩
instance{q:zy PV}:oE (Ci g b ⟨nx,rt,bk,ct⟩ (x::q) τ) (g x τ λc=>b ⟨Ci g b ⟨nx,rt,bk,ct⟩ q,rt,nx,Ci g b ⟨nx,rt,bk,ct⟩ q⟩ c):=⟨id⟩
instance:Wp (Bw [] τ QT) (QT τ):=⟨id⟩
instance{t:zy PV}:Wp (Ad g gs (x::t) τ QT) (g x τ λτ'=>gs t τ' QT):=⟨id⟩
instance:Wp (Ja n gs x τ QT) (Mb x λxs=>xs.length=n/\gs xs τ QT):=⟨id⟩
instance[h:cS τ i (.val x)] :Wp (aV i τ Q) (Q x):=⟨λk=>tG h.e k⟩
instance:Wp (aC x τ Q) (Q x):=⟨id⟩
instance{f:Hq}:Wp (AW f ta tb τ Q) (ta τ λx=>tb τ λy=>f x y Q):=⟨id⟩
instance{f:PV->(PV->Prop)->Prop}:Wp (W9 f ta τ Q) (ta τ λx=>f x Q):=⟨id⟩
instance:Wp (W5 ta tb τ Q) (ta τ λx=>av x λc=>if c=true then tb τ Q else Q (.bl false)):=⟨id⟩
instance:Wp (kr ta tb τ Q) (ta τ λx=>av x λc=>if c=true then Q (.bl true) else tb τ Q):=⟨id⟩
instance:Wp (Aw ta τ QB) (ta τ λx=>av x QB):=⟨id⟩
instance:Wp (LZ tt τ QB) (tt τ λc=>QB (!c)):=⟨id⟩
instance:Wp (Fw tt tu τ QB) (tt τ λc=>if c=true then tu τ QB else QB false):=⟨id⟩
instance:Wp (R6 tt tu τ QB) (tt τ λc=>if c=true then QB true else tu τ QB):=⟨id⟩
instance:Wp (ga tt ta tb τ Q) (tt τ λc=>if c=true then ta τ Q else tb τ Q):=⟨id⟩
instance:Wp (E1 τ QB) (QB true):=⟨id⟩
instance[h:Wc τ τ'] :Wp (R4 ta τ Q) (ta τ' λx=>Ze x=true/\Q x):=⟨λk=>by unfold R4;rw[h.e];exact k⟩
instance[h:Wc τ τ'] :Wp (QF tt τ QB) (tt τ' QB):=⟨λk=>by unfold QF;rw[h.e];exact k⟩
instance:Wp (AM τ QL) (QL []):=⟨id⟩
instance:Wp (AB ta r τ QL) (ta τ λx=>r τ λxs=>QL (x::xs)):=⟨id⟩
def aj (xs:zy PV)(Q:PV->Prop):Prop:=xs.length<=sizeLine/\Q (.tup xs)
instance:Wp (BB r τ Q) (r τ λxs=>aj xs Q):=⟨id⟩
instance:Wp (D9 r τ QL) (r τ λxs=>xs.length<=sizeLine/\QL xs):=⟨id⟩
instance:Wp (G6 r τ Q) (r τ λxs=>Q (.lst xs)):=⟨id⟩
instance:Wp (AR n F r τ Q) (r τ λxs=>xs.length=n/\F xs Q):=⟨id⟩
instance:Wp (Fx F r τ Q) (r τ λxs=>F xs Q):=⟨id⟩
instance:Wp (NU r τ QL) (r τ λxs=>QS xs QL):=⟨id⟩
instance{own:Nat}{ix:zy Nat}{f:AE}{c d:Ay}[h1:ju own c][h2:jr ix τ d][h:Zl c d τ'] :Wp (Cu ai own ix g tt f τ QL) (ai τ λxs=>xs.length<sizeLine/\C6 g tt f τ' QL xs []):=⟨λk=>by unfold Cu Mx;rw[h1.e,h2.e,h.e];exact k⟩
instance{d:AE}{c:zy PV}:Wp (C6 g tt d τ QL [] c) (QL c):=⟨id⟩
instance{e:AE}{c q:zy PV}:Wp (C6 g tt e τ QL (x::q) c) (g x τ λd=>tt d λok=>if ok=true then e d λy=>C6 g tt e τ QL q (c ++ [y]) else C6 g tt e τ QL q c):=⟨id⟩
instance:Wp (Mw ta τ QL) (ta τ λx=>Mb x QL):=⟨id⟩
instance:Wp (QG (AB ta AM) τ QL) (ta τ λx=>Wl x λj=>(-(2^62)<=j/\j<2^62)/\QL (rng 0 j.toNat)):=⟨λh=>by have e:(λx=>Wl x λj=>(-(2^62)<=j/\j<2^62)/\QL (rng 0 j.toNat))=(λx=>match [x] with | [.int j] =>(-(2^62)<=j/\j<2^62)/\QL (rng 0 j.toNat)|_=>False):=(funext λx=>by cases x <;> rfl);rw[e] at h;exact h⟩
instance:Wp (cU (AB ta (AB tb AM)) τ QL) (ta τ λx=>tb τ λy=>Mb x λxs=>Mb y λys=>QL (Gk xs ys)):=⟨id⟩
instance{R:Int->Prop}{k:Int}:Wp (Wl (.int k) R) (R k):=⟨id⟩
instance{R:zq->Prop}{c:zq}:Wp (av (.bl c) R) (R c):=⟨id⟩
instance:Wp (Mb (.tup xs) QL) (QL xs):=⟨id⟩
instance:Wp (Mb (.lst xs) QL) (QL xs):=⟨id⟩
instance{q:Rat}:Wp (Mb (fr q) QL) (QL [.int q.num, .int q.den]):=⟨id⟩
instance{cs:zy C4}:Wp (Mb (Bx cs) QL) (QL (cs.map cor)):=⟨id⟩
instance{f:Int->Int->PV}{k l:Int}:Wp (fI f (.int k) (.int l) Q) (Q (f k l)):=⟨id⟩
instance{C:Int->Int->Prop}{f:Int->Int->PV}{k l:Int}:Wp (gc C f (.int k) (.int l) Q) (C k l/\Q (f k l)):=⟨id⟩
instance:Wp (Gg .non .non Q) (Q (.bl true)):=⟨id⟩
instance:Wp (Ng .non .non Q) (Q (.bl false)):=⟨id⟩
instance:Wp (Gg (.tup xs) .non Q) (Q (.bl false)):=⟨id⟩
instance:Wp (Ng (.tup xs) .non Q) (Q (.bl true)):=⟨id⟩
instance{k:T3}:Wp (Gg (FO k) .non Q) (Q (.bl false)):=⟨id⟩
instance{k:Int}[h:Ix x k z] :Wp (Ai x (.int k) Q) (Q z):=⟨λq=>mM h.e q⟩
instance{k:Int}:Wp (Li (.int k) Q) (Q (.int (-k))):=⟨id⟩
instance{k l:Int}:Wp (Bb (.int k) (.int l) Q) (Q (.int (k+l))):=⟨id⟩
instance (priority:=high)[h:Wr xs ys zs]{n:Nat}[h2:Zv zs n] :Wp (Bb (.tup xs) (.tup ys) Q) (n<=sizeLine/\Q (.tup zs)):=⟨λk=>⟨by have e:=h2.e;rw[<-h.e,AAr] at e;rw[e];exact k.1,by rw[h.e];exact k.2⟩⟩
instance:Wp (Bb (.lst xs) (.lst ys) Q) (xs.length+ys.length<=sizeLine/\Q (.lst (xs++ys))):=⟨id⟩
instance{k l:Int}:Wp (Rh (.int k) (.int l) Q) (Q (.bl (decide (k=l)))):=⟨id⟩
instance{k l:Int}:Wp (We (.int k) (.int l) Q) (Q (.bl (!decide (k=l)))):=⟨id⟩
instance{k l:Str}:Wp (We (.str k) (.str l) Q) (Q (.bl (!decide (k=l)))):=⟨id⟩
instance{k l:Rat}:Wp (We (fr k) (fr l) Q) (Q (.bl (!decide (k=l)))):=⟨jX⟩
instance:Wp (IK [.lst xs] Q) (Q (.int xs.length)):=⟨id⟩
instance{c:zy Int}:Wp (IK [.scr c] Q) (Q (.int c.length)):=⟨id⟩
instance (priority:=high){c:Type}{f:c->PV}{cs:zy c}:Wp (IK [.tup (cs.map f)] Q) (Q (.int cs.length)):=⟨λh=>by show Q (.int (cs.map f).length);rw[AAJ];exact h⟩
instance (priority:=high){c:Type}{f:c->PV}{cs:zy c}:Wp (IK [.lst (cs.map f)] Q) (Q (.int cs.length)):=⟨λh=>by show Q (.int (cs.map f).length);rw[AAJ];exact h⟩
instance{f:Int->Int->Int}{k l:Int}:Wp (dv f [.int k, .int l] Q) (Q (.int (f k l))):=⟨id⟩
instance:Wp (Dd [.lst xs] Q) (Q (.tup xs)):=⟨id⟩
instance:Wp (QS [.tup xs] QL) (QL xs):=⟨id⟩
instance{c:C4}:Wp (QS [cor c] QL) (QL [fr c.1,fr c.2.1,fr c.2.2.1,fr c.2.2.2]):=⟨id⟩
instance{lo hi:zt Int}:Wp (Vq (.lst xs) lo hi Q) (Q (.lst (Ip xs lo hi))):=⟨Dr⟩
instance{l h:AO}:Wp (ZY ta l h τ Q) (ta τ λx=>l τ λlo=>h τ λhi=>Vq x lo hi Q):=⟨id⟩
instance{R:zt Int->Prop}:Wp (ZZ τ R) (R none):=⟨id⟩
instance{R:zt Int->Prop}:Wp (Za ta τ R) (ta τ λx=>Wl x λi=>R (some i)):=⟨id⟩
instance{A B:Prop}:Wp (if true=true then A else B) (A):=⟨λh=>by rw[AAE rfl];exact h⟩
instance{A B:Prop}:Wp (if false=true then A else B) (B):=⟨λh=>by rw[AAC AAN];exact h⟩
instance{A B:Prop}:Wp (if (!true)=true then A else B) (B):=⟨λh=>h⟩
instance{A B:Prop}:Wp (if (!false)=true then A else B) (A):=⟨λh=>h⟩
instance{p A B:Prop}[Decidable p] :kq (if decide p=true then A else B) (p->A) (¬p->B):=⟨jV⟩
instance{p A B:Prop}[Decidable p] :kq (if (!decide p)=true then A else B) (¬p->A) (p->B):=⟨jW⟩
instance{A:Prop}:Wp (([] :zy PV).length<=sizeLine/\A) (A):=⟨λh=>⟨lz,h⟩⟩
instance{A:Prop}:Wp (([] :zy PV).length<sizeLine/\A) (A):=⟨λh=>⟨lz,h⟩⟩
instance{c:PV}{A:Prop}:Wp ([c].length=1/\A) (A):=⟨λh=>⟨rfl,h⟩⟩
instance{c:PV}{A:Prop}:Wp ([c].length<=sizeLine/\A) (A):=⟨λh=>⟨lz,h⟩⟩
instance{c d:PV}{A:Prop}:Wp ([c,d].length=2/\A) (A):=⟨λh=>⟨rfl,h⟩⟩
instance{c d:PV}{A:Prop}:Wp ([c,d].length<=sizeLine/\A) (A):=⟨λh=>⟨lz,h⟩⟩
instance{c d:PV}{A:Prop}:Wp ([c,d].length<sizeLine/\A) (A):=⟨λh=>⟨lz,h⟩⟩
instance{c d e:PV}{A:Prop}:Wp ([c,d,e].length=3/\A) (A):=⟨λh=>⟨rfl,h⟩⟩
instance{c d e:PV}{A:Prop}:Wp ([c,d,e].length<=sizeLine/\A) (A):=⟨λh=>⟨lz,h⟩⟩
instance{c d e f:PV}{A:Prop}:Wp ([c,d,e,f].length=4/\A) (A):=⟨λh=>⟨rfl,h⟩⟩
instance{c d e f:PV}{A:Prop}:Wp ([c,d,e,f].length<=sizeLine/\A) (A):=⟨λh=>⟨lz,h⟩⟩
instance{c:PV}:Wp (aj [c] Q) (Q (.tup [c])):=⟨λh=>⟨lz,h⟩⟩
instance{c d:PV}:Wp (aj [c,d] Q) (Q (.tup [c,d])):=⟨λh=>⟨lz,h⟩⟩
instance{c d e:PV}:Wp (aj [c,d,e] Q) (Q (.tup [c,d,e])):=⟨λh=>⟨lz,h⟩⟩
instance{c d e f:PV}:Wp (aj [c,d,e,f] Q) (Q (.tup [c,d,e,f])):=⟨λh=>⟨lz,h⟩⟩
instance (priority:=high+10):Wp (aj [.int 0, .int 1] Q) (Q (fr 0)):=⟨λh=>⟨lz,h⟩⟩
instance (priority:=high+10):Wp (aj [.int 1, .int 1] Q) (Q (fr 1)):=⟨λh=>⟨lz,h⟩⟩
instance (priority:=high){k:Int}:Wp (aj [.int k, .int 1] Q) (Q (fr (k:Rat))):=⟨λh=>⟨lz,Pk h⟩⟩
instance (priority:=high){k:Rat}{p q r:Rat}:Wp (Bb (.tup [fr k]) (.tup [fr p,fr q,fr r]) Q) (Q (cor (k,p,q,r))):=⟨λh=>⟨lz,h⟩⟩
def du:PV.tup [.int 1, .int 2] =fr (1/2):=by unfold fr;rw[show ((1:Rat)/2).num=1 by decide +kernel,show ((1:Rat)/2).den=2 by decide +kernel];rfl
instance (priority:=high):Wp (aj [.int 1, .int 2] Q) (Q (fr (1/2))):=⟨λh=>⟨lz,by rw[du];exact h⟩⟩
instance{k:Int}{A:Prop}:Wp (Ze (.int k)=true/\A) (A):=⟨λh=>⟨rfl,h⟩⟩
class Zp (xs ys:List PV) (zs:outParam (List PV)):Prop where
 e:Gk xs ys=zs
instance:Zp [] [] [] :=⟨rfl⟩
instance[h:Zp xs ys zs] :Zp (x::xs) (y::ys) (.tup [x,y] :: zs):=⟨by rw[<-h.e];rfl⟩
instance[h:Zp xs ys zs] :Wp (Ci g b ⟨nx,rt,bk,ct⟩ (Gk xs ys) τ) (Ci g b ⟨nx,rt,bk,ct⟩ zs τ):=⟨λk=>by rw[h.e];exact k⟩
instance{d:AE}{c:zy PV}[h:Zp xs ys zs] :Wp (C6 g tt d τ QL (Gk xs ys) c) (C6 g tt d τ QL zs c):=⟨λk=>by rw[h.e];exact k⟩
instance{A:Prop}[h:Zp xs ys zs] :Wp ((Gk xs ys).length<sizeLine/\A) (zs.length<sizeLine/\A):=⟨λk=>by rw[h.e];exact k⟩
instance (priority:=high){d:AE}{c q zs:zy PV}[h:Wr c [y] zs] :Wp (C6 g tt d τ QL q (c ++ [y])) (C6 g tt d τ QL q zs):=⟨λk=>by rw[h.e];exact k⟩
instance{m:Int}:QE (BX [.tape, .int m] Q) (0<m/\m<4611686018427387904) (∀r,0<=r->r<m->Q (.int r)):=⟨λc h=>CV c.1 c.2 h⟩
instance{d:zy Int}{k:Int}:QE (LV [.scr d, .int k] Q) (0<=k/\k<=1000) (Q .tape):=⟨λc h=>⟨c,h⟩⟩
instance{a b:Rat}:QE (Im [fr a,fr b] Q) (Bd 4000 a/\Bd 4000 b) (Q (fr (a+b))):=⟨λc h=>VZ c.1 c.2 h⟩
instance{a b:Rat}:QE (DR [fr a,fr b] Q) (Bd 4000 a/\Bd 4000 b) (Q (fr (a-b))):=⟨λc h=>Ru c.1 c.2 h⟩
instance{a b:Rat}:QE (IA [fr a,fr b] Q) (Bd 4000 a/\Bd 4000 b) (Q (fr (a*b))):=⟨λc h=>Rx c.1 c.2 h⟩
instance{a b:Rat}:QE (BW [fr a,fr b] Q) (Bd 4000 a/\Bd 4000 b) (Q (fr (a+b))):=⟨λc h=>Ce c.1 c.2 h⟩
instance{a b:Rat}:QE (BS [fr a,fr b] Q) (Bd 4000 a/\Bd 4000 b) (Q (fr (a-b))):=⟨λc h=>CA c.1 c.2 h⟩
instance{a b:Rat}:QE (BU [fr a,fr b] Q) (Bd 4000 a/\Bd 4000 b) (Q (fr (a*b))):=⟨λc h=>CF c.1 c.2 h⟩
instance{a b:Rat}:QE (A5 [fr a,fr b] Q) (Bd 4000 a/\Bd 4000 b) (Q (.bl (decide (a<b)))):=⟨λc h=>EL c.1 c.2 h⟩
instance{a b:Rat}:QE (LU [fr a,fr b] Q) (b≠0/\Bd 4000 a/\Bd 4000 b) (Q (fr (a/b))):=⟨λc h=>VY c.1 c.2.1 c.2.2 h⟩
instance{a b:Rat}:QE (CU [fr a,fr b] Q) (b≠0/\Bd 4000 a/\Bd 4000 b) (Q (fr (a/b))):=⟨λc h=>FX c.1 c.2.1 c.2.2 h⟩
instance:QE (CO [.tape] Q) (True) (∀a,Bd 8 a->0<a->Q (fr a)):=⟨λ_ h=>LR h⟩
instance:QE (Az [.tape] Q) (True) (∀a,Bd 8 a->Q (fr a)):=⟨λ_ h=>Aq λa m=>h a (m.bd (by decide) (by decide))⟩
instance{lo:Int}{A:Prop}:Wp ((rng lo n).length<sizeLine/\A) (n<16777216/\A):=⟨λk=>⟨by rw[TU];exact k.1,k.2⟩⟩
instance{c:Type}{f:c->PV}{cs:zy c}{A:Prop}:Wp ((cs.map f).length<sizeLine/\A) (cs.length<16777216/\A):=⟨λk=>⟨by rw[AAJ];exact k.1,k.2⟩⟩
instance (priority:=high){c:Type}{k:c}[Decidable (k=k)]{A B:Prop}:Wp (if decide (k=k)=true then A else B) A:=⟨λh=>by rw[AAE (AAi rfl)];exact h⟩
instance (priority:=high){c:Type}{k:c}[Decidable (k=k)]{A B:Prop}:Wp (if (!decide (k=k))=true then A else B) B:=⟨λh=>by rw[AAC (by simp)];exact h⟩
instance{cs:zy C4}{k:Int}:QE (Vq (Bx cs) (some k) none Q) (0<=k/\k<=cs.length) (Q (Bx (cs.drop k.toNat))):=⟨λc h=>VB (k:=k.toNat) (by omega) (by omega) h⟩
def ir {d:Type}{f:d->PV}{cs:zy d}{k:Int}{R:PV->Prop}(c:0<=k/\k<cs.length)(h:∀c,cs[k.toNat]? =some c->c∈cs->R (f c)):aw (Ih (cs.map f) k) R:=by
 have hk:k.toNat<cs.length:=by omega
 have e:Ih (cs.map f) ((k.toNat:Nat):Int)=some (f cs[k.toNat]):=C3 (by rw[AAk,AAT hk] <;> rfl);rw[show k=((k.toNat:Nat):Int) by omega,e];exact h _ (AAT hk) (ABk hk)
instance{d:Type}{f:d->PV}{cs:zy d}{k:Int}:QE (Ai (.lst (cs.map f)) (.int k) Q) (0<=k/\k<cs.length) (∀c,cs[k.toNat]? =some c->c∈cs->Q (f c)):=⟨λc h=>ir c h⟩
instance{c:C4}:Wp (Vq (cor c) (some 1) none Q) (Q (.tup [fr c.2.1,fr c.2.2.1,fr c.2.2.2])):=⟨λh=>VC h⟩
instance:QE (Lm [x] Q) (Jf x=true/\OE x) (Q (.str (jb x))):=⟨λc h=>Tt c.2 c.1 h⟩
class Lk (tb:List (Str×PV)) (s:Str) (v:outParam PV):Prop where
 e:tb.lookup s=some v
end
end PL
namespace L2
open PySem PySem.Spec PyProof.Rows
abbrev Wx (h:zl)(T:zu)(a b c:zx):Prop:=h.get? T=some {cls:= .type "tuple",data:= .seq #[a,b,c] }
structure uE (z TI TO i j k l m n:Addr):Prop where
 TIz:TI≠z
 TOz:TO≠z
 iz:i≠z
 jz:j≠z
 kz:k≠z
 TITO:TI≠TO
 TIi:TI≠i
 TIj:TI≠j
 TIk:TI≠k
 TOi:TO≠i
 TOj:TO≠j
 TOk:TO≠k
 ij:i≠j
 ik:i≠k
 jk:j≠k
 lo:∀x∈ [l,m,n],x≠z/\x≠TI/\x≠TO/\x≠i/\x≠j/\x≠k
structure Z3 (b c d:Bool) (z TI TO i j k l m n:Addr) (t:Nat) (f:Value) (h:Heap):Prop where
 zip:IsZip h z TI TO f
 its:Wx h TI (.ref i) (.ref j) (.ref k)
 own:∃x y w,Wx h TO x y w
 one:J3 b h i l t
 two:J3 c h j m t
 tre:J3 d h k n t
def Z3.mv {b c d:zq}{z TI TO i j k l m n:zu}{t:Nat}{f:zx}{h h':zl}(Z:Z3 b c d z TI TO i j k l m n t f h)(e:∀p∈ [z,TI,TO,i,j,k],∀o,h.get? p=some o->h'.get? p=some o):Z3 b c d z TI TO i j k l m n t f h':=by obtain⟨a,g,⟨x,y,w,r⟩,s,u,v⟩:=Z;exact⟨e z (by simp) _ a,e TI (by simp) _ g,⟨x,y,w,e TO (by simp) _ r⟩,s.mv (e i (by simp)),u.mv (e j (by simp)),v.mv (e k (by simp))⟩
abbrev y1 (b:zq)(h:zl)(l:zu):zl:=h.push (Sy b l)
abbrev y2 (b c:zq)(h:zl)(l m:zu):zl:=(y1 b h l).push (Sy c m)
abbrev y3 (b c d:zq)(h:zl)(l m n:zu):zl:=(y2 b c h l m).push (Sy d n)
abbrev y4 (b c d:zq)(h:zl)(l m n:zu):zl:=(y3 b c d h l m n).push {cls:= .type "tuple",data:= .seq #[.ref h.objs.size, .ref (y1 b h l).objs.size, .ref (y2 b c h l m).objs.size] }
abbrev y5 (b c d:zq)(h:zl)(l m n:zu):zl:=(y4 b c d h l m n).push {cls:= .type "tuple",data:= .seq #[.none, .none, .none] }
end L2
namespace L2
open PySem PySem.Spec PyProof.Rows
def tF (m:zu)(i:Int):Obj:={cls:= .type "reversed",data:= .fields #[.ref m,rawInt i] }
def dJ (h:zl)(q m:zu)(i:Int):Prop:=h.get? q=some (tF m i)
section
variable {prog:zp}{w:zm}{A:zk}{E:zx->zw->Prop}{s:zw}
def dJ.typeIs {q m:zu}{i:Int}(x:dJ s.heap q m i):s.TypeIs (.ref q) "reversed" :=⟨_,x,rfl⟩
end
structure ZR (z TI TO i j l m:Addr) (n:Nat) (k:Nat) (f:Value) (h:Heap):Prop where
 zip:IsZip h z TI TO f
 its:IsPair h TI (.ref i) (.ref j)
 own:∃x y,IsPair h TO x y
 one:J3 false h i l k
 two:dJ h j m ((n:Int)-1-k)
def ZR.mv {z TI TO i j l m:zu}{n k:Nat}{f:zx}{h h':zl}(Z:ZR z TI TO i j l m n k f h)(e:∀p∈ [z,TI,TO,i,j],∀o,h.get? p=some o->h'.get? p=some o):ZR z TI TO i j l m n k f h':=by obtain⟨a,b,⟨x,y,c⟩,d,g⟩:=Z;exact⟨e z (by simp) _ a,e TI (by simp) _ b,⟨x,y,e TO (by simp) _ c⟩,d.mv (e i (by simp)),e j (by simp) _ g⟩
end L2
namespace L2
open PySem PySem.Spec PyProof.Rows
def df (X:Cx)(sc:Scope)(N:zy Str)(a:Str)(cl:zy (Str×zu))(C:zu)(s:zw)(H:Hp)(ex:zy zu)(pn:zy (zu×Obj)):Cx:=
 {blk X sc N ((a,C+1)::cl) C s H ex pn with fn:=λx=>x==a}
section
variable {X:Cx}{tg elt iter:zr}{ifs:zy zr}{scope:Scope}{pos:Pos}{wi:TI}{own:Nat}{ix:zy Nat}{N:zy Str}{y0:Str}{g:TG}{tt:TT}{te:TE}
structure Zn (X:Cx) (tg elt:Expr) (ifs:List Expr) (scope:Scope) (own:Nat) (ix:List Nat) (N:List Str) (y0:Str) (g:TG) (tt:TT) (te:TE):Prop where
 kind:scope.kind= .function
 cells:∀y∈scope.names,y.2= .cell->y.1=y0
 cf:∀n acc,cellsFrom n scope.names acc=(y0,n)::acc
 pc:∀h,pushCells h scope.names=h.push {cls:= .type "cell",data:= .cell none}
 far:∀(j i:Nat) (x:Str),ix[j]? =some i->N[own+j]? =some x->x≠y0
 names:∀y∈scope.names,y.2= .local->scope.names.lookup y.1=some .local
 frees:∀y∈scope.names,y.2= .free->X.env.scope.names.lookup y.1=some .cell
 ins:P9 X (relabel scope X.env) own ix N
 keep:Gq own g
 tgt:∀cl C s H ex pn,PG (df X (relabel scope X.env) N y0 cl C s H ex pn) tg g
 tst:∀cl C s H ex pn,ZX (df X (relabel scope X.env) N y0 cl C s H ex pn) ifs tt
 val:∀cl C s H ex pn,PE (df X (relabel scope X.env) N y0 cl C s H ex pn) elt te
end
end L2
namespace PL
open PySem PySem.Spec PyProof.Rows L2
section
variable {X:Cx}{ta:AE}{pos:Pos}
structure kU (X:Cx) (tg elt:Expr) (ifs:List Expr) (scope:Scope) (own:Nat) (ix:List Nat) (N:List Str) (y0:Str) (g:AG) (t:AT) (te:AE):Prop where
 ex:∃g' t' te',Zn X tg elt ifs scope own ix N y0 g' t' te'/\J4 X.K g' g/\Mu X.K t' t/\Fc X.K te' te
end
end PL
namespace PL
open PySem L2 PyProof.Rows
class W1 (Ts:List String):Prop where
 q:Ts.any (V0 .tup)=true/\Ts.any (V0 .lst)=true/\Ts.any (V0 .int)=false/\Ts.any (V0 .bl)=false/\Ts.any (V0 .non)=false/\Ts.any (V0 .str)=false
instance:W1 ["tuple","list"] :=⟨by decide⟩
instance:W1 ["list","tuple"] :=⟨by decide⟩
end PL
namespace L2
open PySem PySem.Spec PyProof.Rows
section
variable {κ:Type}[DecidableEq κ]
def Dt (kvs:zy (κ×V))(k:κ):zt V:=(kvs.find? λa=>decide (a.1=k)).map (·.2)
def DP (kvs:zy (κ×V))(k:κ)(v:V):zy (κ×V):=
 if (kvs.any λa=>decide (a.1=k))=true then kvs.map (λa=>if a.1=k then (a.1,v) else a) else kvs ++ [(k,v)]
def cW (kvs:zy (κ×V))(k:κ):zy (κ×V):=kvs.filter λa=>decide (a.1≠k)
def GM {p:κ×V}{r:zy (κ×V)}{k:κ}(e:p.1=k):Dt (p::r) k=some p.2:=by simp[Dt,ABP,e]
def GL {p:κ×V}{r:zy (κ×V)}{k:κ}(e:¬p.1=k):Dt (p::r) k=Dt r k:=by simp[Dt,ABP,e]
theorem MX (k:κ):∀kvs:zy (κ×V),(kvs.any λa=>decide (a.1=k))=(Dt kvs k).isSome
 | [] =>rfl
 | p::r=>by
   rw[AAy];by_cases e:p.1=k
   .simp only[GM e,AAi e,Bool.true_or,Option.isSome_some]
   .rw [GL e,AAY e,Bool.false_or];exact MX k r
def DY (kvs:zy (κ×V))(k:κ)(v:V):(DP kvs k v).length<=kvs.length+1:=by
 unfold DP;split
 .rw [AAJ];omega
 .rw [AAr,AAZ,ACn];omega
def IB.isSome_eq {o:zt V}{u:zt zx}(r:IB o u):o.isSome=u.isSome:=by
 cases o with
 | none=>cases u with
   | none=>rfl
   | some _=>exact(show False from r).elim
 | some _=>cases u with
   | none=>exact(show False from r).elim
   | some _=>rfl
def IB.getD {o:zt V}{u:zt zx}{d:V}{d':zx}(r:IB o u)(a:RelV d d'):RelV (o.getD d) (u.getD d'):=by
 cases o with
 | none=>cases u with
   | none=>exact a
   | some _=>exact(show False from r).elim
 | some _=>cases u with
   | none=>exact(show False from r).elim
   | some _=>exact r
def KV.val {kvs:zy (κ×V)}{vs:zy (κ×zx)}(r:KV kvs vs)(k:κ):IB (Dt kvs k) (valueAt vs k):=by
 unfold KV at r;induction r with
 | nil=>exact True.intro
 | @cons p q c qs h t ih=>
   obtain⟨h1,h2⟩:=h;by_cases e:p.1=k
   .have a:q.1=k:=h1.symm.trans e;have b:valueAt (q::qs) k=some q.2:=by simp[valueAt,ABP,a]
    rw[GM e,b];exact h2
   .have a:¬q.1=k:=λz=>e (h1.trans z);have b:valueAt (q::qs) k=valueAt qs k:=by simp[valueAt,ABP,a]
    rw[GL e,b];exact ih
def KV.any {kvs:zy (κ×V)}{vs:zy (κ×zx)}(r:KV kvs vs)(k:κ):(kvs.any λa=>decide (a.1=k))=vs.any λa=>decide (a.1=k):=by
 unfold KV at r;induction r with
 | nil=>rfl
 | cons h t ih=>rw[AAy,AAy,ih,h.1]
def KV.repl {kvs:zy (κ×V)}{vs:zy (κ×zx)}(r:KV kvs vs)(k:κ){y:V}{u:zx}(b:RelV y u):KV (kvs.map λa=>if a.1=k then (a.1,y) else a) (vs.map λa=>if a.1=k then (a.1,u) else a):=by
 unfold KV at r ⊢;induction r with
 | nil=>exact .nil
 | @cons p q c qs h t ih=>
   rw[AAL,AAL];refine .cons ?_ ih;obtain⟨h1,h2⟩:=h;by_cases e:p.1=k
   .rw [AAE e,AAE (h1.symm.trans e)];exact⟨h1,b⟩
   .rw [AAC e,AAC (λz=>e (h1.trans z))];exact⟨h1,h2⟩
def KV.put {kvs:zy (κ×V)}{vs:zy (κ×zx)}(r:KV kvs vs)(k:κ){y:V}{u:zx}(a:RelV y u):KV (DP kvs k y) (stored vs k u):=by
 unfold DP stored;rw[r.any k];by_cases e:(vs.any λb=>decide (b.1=k))=true
 .rw [AAE e,AAE e];exact r.repl k a
 .rw [AAC e,AAC e];exact Paired.snoc r ⟨rfl,a⟩
def KV.drop {kvs:zy (κ×V)}{vs:zy (κ×zx)}(r:KV kvs vs)(k:κ):KV (cW kvs k) (without vs k):=by
 unfold KV at r ⊢;unfold cW without;induction r with
 | nil=>exact .nil
 | @cons p q d qs h t ih=>
   obtain⟨h1,h2⟩:=h;rw[ABD,ABD];by_cases e:p.1=k
   .have a:¬decide (p.1≠k)=true:=by simp[e]
    have b:¬decide (q.1≠k)=true:=by simp[h1.symm.trans e]
    rw[AAC a,AAC b];exact ih
   .have c:¬q.1=k:=λz=>e (h1.trans z);have a:decide (p.1≠k)=true:=by simp[e]
    have b:decide (q.1≠k)=true:=by simp[c]
    rw[AAE a,AAE b];exact .cons ⟨h1,h2⟩ ih
def KV.keys {kvs:zy (κ×V)}{vs:zy (κ×zx)}(r:KV kvs vs):kvs.map (·.1)=vs.map (·.1):=by
 unfold KV at r;induction r with
 | nil=>rfl
 | cons h t ih=>rw[AAL,AAL,ih,h.1]
def KV.length {kvs:zy (κ×V)}{vs:zy (κ×zx)}(r:KV kvs vs):kvs.length=vs.length:=ABx r
end
def Qn {P:zp}{w:zm}{k:CK}{u:zx}(r:RelV (kV k) u):(A0 P w).is k u=true:=by
 cases k with
 | inl i=>obtain⟨t,e⟩:=(show ∃t,u=Value.int i t from r);subst e;exact Qs P w i t
 | inr x=>obtain⟨t,e⟩:=(show ∃t,u=Value.str x t from r);subst e;exact Qt P w x t
theorem Nk {P:zp}{w:zm}:∀{a:zy CK} {us:zy zx},Aj (a.map kV) us->ItemsAre (A0 P w) a us
 | [],_,r=>by rw[ABi] at r;cases r;exact .nil
 | k::a,_,r=>by
   rw[AAL] at r;cases r with
   | cons h t=>exact .cons (Qn h) (Nk t)
abbrev KT (H:Hp):zy (zy CK×V)->zy (zy CK×zu×zx)->Prop:=Paired λp q=>p.1=q.1/\H q.2.1=some (.tup (p.1.map kV))/\RelV p.2 q.2.2
def KT.val {H:Hp}{kvs:zy (zy CK×V)}{xs:zy (zy CK×zu×zx)}(r:KT H kvs xs)(k:zy CK):IB (Dt kvs k) ((atKey xs k).map (·.2)):=by
 induction r with
 | nil=>exact True.intro
 | @cons p q c qs h t ih=>
   obtain⟨h1,_,h2⟩:=h;by_cases e:p.1=k
   .have a:q.1=k:=h1.symm.trans e;have b:atKey (q::qs) k=some q.2:=by simp[atKey,ABP,a]
    rw[GM e,b];exact h2
   .have a:¬q.1=k:=λz=>e (h1.trans z);have b:atKey (q::qs) k=atKey qs k:=by simp[atKey,ABP,a]
    rw[GL e,b];exact ih
def KT.repl {H:Hp}{kvs:zy (zy CK×V)}{xs:zy (zy CK×zu×zx)}(r:KT H kvs xs)(k:zy CK){y:V}{u:zx}(b:RelV y u):KT H (kvs.map λa=>if a.1=k then (a.1,y) else a) (xs.map (putAt k u)):=by
 induction r with
 | nil=>exact .nil
 | @cons p q d qs h t ih=>
   rw[AAL,AAL];refine .cons ?_ ih;obtain⟨h1,h2,c⟩:=h;unfold putAt;by_cases e:p.1=k
   .rw [AAE e,AAE (h1.symm.trans e)];exact⟨h1,h2,b⟩
   .rw [AAC e,AAC (λz=>e (h1.trans z))];exact⟨h1,h2,c⟩
def KT.put {H:Hp}{kvs:zy (zy CK×V)}{xs:zy (zy CK×zu×zx)}(r:KT H kvs xs)(k:zy CK){b:zu}{y:V}{u:zx}(hb:H b=some (.tup (k.map kV)))(a:RelV y u):KT H (DP kvs k y) (storedH xs k b u):=by
 have e:(kvs.any λc=>decide (c.1=k))=(atKey xs k).isSome:=by rw[MX,(r.val k).isSome_eq,ACB]
 unfold DP storedH;rw[e];by_cases q:(atKey xs k).isSome=true
 .rw [AAE q,AAE q];exact r.repl k a
 .rw [AAC q,AAC q];exact Paired.snoc r ⟨rfl,hb,a⟩
def KT.keeps {H a:Hp}{kvs:zy (zy CK×V)}{xs:zy (zy CK×zu×zx)}(r:KT H kvs xs)(c:∀b ys,H b=some (.tup ys)->a b=some (.tup ys)):KT a kvs xs:=
 Paired.mapP r λ_ _ z=>⟨z.1,c _ _ z.2.1,z.2.2⟩
section
variable {P:zp}{w:zm}{H:Hp}{h:zl}{a:zu}
def c3 {u:HO}(ok:G4 P w H h)(e:Rd H a u):Bn P w H h a u:=e.ok ok
def XI {kvs:zy (CK×V)}(ok:G4 P w H h)(e:Rd H a (.dK kvs)):kvs.length<=sizeLine/\(a==sysModules)=false/\∃vs,KV kvs vs/\h.DictOf (A0 P w) a vs:=
 show Bn P w H h a (.dK kvs) from c3 ok e
def UX {kvs:zy (CK×V)}(ok:G4 P w H h)(e:H a=some (.dK kvs)):kvs.length<=sizeLine/\(a==sysModules)=false/\∃vs,KV kvs vs/\h.DictOf (A0 P w) a vs:=XI ok (.inl e)
def S1 {b:zy CK}(ok:G4 P w H h)(e:H a=some (.tup (b.map kV))):(tupleKind (A0 P w)).is h b a:=by obtain⟨_,c,r,o,h1,h2,n,d⟩:=(show Bn P w H h a (.tup (b.map kV)) from ok a _ e);exact⟨o,c.toArray,n,h1,h2,d,by simpa using Nk r⟩
def XN {kvs:zy (zy CK×V)}(ok:G4 P w H h)(e:Rd H a (.dT kvs)):kvs.length<=sizeLine/\(a==sysModules)=false/\ ∃xs,KT H kvs xs/\h.DictOfH (tupleKind (A0 P w)) a xs:=by
 obtain⟨z,y,xs,r,o,es,ep,h1,h2,b,c,d⟩:=(show Bn P w H h a (.dT kvs) from c3 ok e);refine⟨z,y,xs,r,o,es,ep,h1,h2,b,c,λx hx=> ?_,d⟩;have all:∀{l:zy (zy CK×V)} {m:zy (zy CK×zu×zx)},KT H l m->∀x∈m,(tupleKind (A0 P w)).is h x.1 x.2.1:=by
  intro l m q;induction q with
  | nil=>intro x hx;exact nomatch hx
  | @cons p q f qs hq t ih=>
    intro x hx;rcases AAF.mp hx with e|hx
    .subst e;exact S1 ok (by rw[<-hq.1];exact hq.2.1)
    .exact ih x hx
 exact all r x hx
def iH {kvs:zy (zy CK×V)}(ok:G4 P w H h)(e:H a=some (.dT kvs)):kvs.length<=sizeLine/\(a==sysModules)=false/\ ∃xs,KT H kvs xs/\h.DictOfH (tupleKind (A0 P w)) a xs:=XN ok (.inl e)
end
def Rl (H:Hp)(a:zu)(y:V)(r:zt V):Prop:=
 (∃kvs k,Rd H a (.dK kvs)/\y=kV k/\r=Dt kvs k)\/∃kvs k b,Rd H a (.dT kvs)/\y= .ref b/\H b=some (.tup (k.map kV))/\r=Dt kvs k
def Rm (H:Hp)(a:zu)(y v:V)(c:Hp):Prop:=
 (∃kvs k,H a=some (.dK kvs)/\y=kV k/\kvs.length<sizeLine/\c=upd H a (.dK (DP kvs k v)))\/
 ∃kvs k b,H a=some (.dT kvs)/\y= .ref b/\H b=some (.tup (k.map kV))/\kvs.length<sizeLine/\c=upd H a (.dT (DP kvs k v))
def Rl.k {H:Hp}{a:zu}{kvs:zy (CK×V)}{k:CK}(e:H a=some (.dK kvs)):Rl H a (kV k) (Dt kvs k):= .inl ⟨kvs,k, .inl e,rfl,rfl⟩
def Rl.t {H:Hp}{a b:zu}{kvs:zy (zy CK×V)}{k:zy CK}(e:H a=some (.dT kvs))(c:H b=some (.tup (k.map kV))):Rl H a (.ref b) (Dt kvs k):= .inr ⟨kvs,k,b, .inl e,rfl,c,rfl⟩
def Rm.k {H:Hp}{a:zu}{kvs:zy (CK×V)}{k:CK}{v:V}(e:H a=some (.dK kvs))(hl:kvs.length<sizeLine):Rm H a (kV k) v (upd H a (.dK (DP kvs k v))):= .inl ⟨kvs,k,e,rfl,hl,rfl⟩
def Rm.t {H:Hp}{a b:zu}{kvs:zy (zy CK×V)}{k:zy CK}{v:V}(e:H a=some (.dT kvs))(c:H b=some (.tup (k.map kV)))(hl:kvs.length<sizeLine):Rm H a (.ref b) v (upd H a (.dT (DP kvs k v))):= .inr ⟨kvs,k,b,e,rfl,c,hl,rfl⟩
section
variable {X:Cx}{zj:zy (zu×Obj)}{σ:St}{H:Hp}{s:zw}{a:zu}{y v:V}{u r:zx}{o:zt V}{A:zk}{E:zx->zw->Prop}
def Inv.big (I:Inv X zj σ H s):sysModules<s.heap.objs.size:=by have h:mainGlobals<s.heap.objs.size:=(I.mod.glob.keeps I.bk).lt;exact ACX (by decide) h
def GQ {h':zl}{t':Nat}{c:HO}(I:Inv X zj σ H s)(d:iC (H a))(hs:Heap.SameBut a s.heap h')(he:∃q,h'.get? a=some q)(new:Bn X.prog X.w (upd H a c) h' a c):Inv X zj σ (upd H a c) {s with heap:=h',toks:=t'}:=
 I.write (x:=a) (e:=a) d (.inl rfl) (λb q hb z=>(hs.2 b hb).trans z) he new
def OJ {P:zp}{w:zm}{c:Hp}{h':zl}{kvs:zy (CK×V)}{vs:zy (CK×zx)}(z:kvs.length<=sizeLine)(hd:(a==sysModules)=false)(b:KV kvs vs)(d:h'.DictOf (A0 P w) a vs):Bn P w c h' a (.dK kvs):=⟨z,hd,vs,b,d⟩
def Vn {n:Hp}{Q:Unit->zw->Prop}(hu:A.units+1<cLine)(I:Inv X zj σ H s)(g:Rm H a y v n)(p:RelV y u)(rv:RelV v r)(h:∀t,Inv X zj σ n t->Q () t):wpAny (model X.prog X.w) A (setItem (.ref a) u r) Q E s:=by
 rcases g with⟨kvs,k,e,i,l,j⟩|⟨kvs,k,b,e,i,x,l,j⟩
 .subst i j;obtain⟨z,hd,vs,d,m⟩:=UX I.hok e;have hz:vs.length<=sizeLine:=by rw[<-d.length];exact z
  have hl:(DP kvs k v).length<=sizeLine:=by have:=DY kvs k v;omega
  refine wpAny_setItem_pairs (hsz:=hz) (Qn p) m λh' f hs=>h _ ?_;have he:∃q,h'.get? a=some q:=let ⟨q,_,_,hq,_⟩:=f;⟨q,hq⟩;exact GQ I (by rw[e];exact True.intro) hs he (OJ hl hd (d.put k rv) f)
 .subst i j;cases (show u=Value.ref b from p);obtain⟨z,hd,xs,d,m⟩:=iH I.hok e;have hz:xs.length<=sizeLine:=by rw[<-ABx d];exact z
  have hl:(DP kvs k v).length<=sizeLine:=by have:=DY kvs k v;omega
  refine wpAny_setItem_heap (hsz:=hz) (tupleKind_room_in1 hu) (S1 I.hok x) m λh' f hs=>h _ ?_;obtain⟨q,es,ep,hq,h2,C,D,_,F⟩:=f;refine GQ I (by rw[e];exact True.intro) hs ⟨q,hq⟩ ⟨hl,hd,_,(d.put k x rv).keeps λc ys B=> ?_,q,es,ep,hq,h2,C,D,F⟩;rw[AZ (cr B e (λz=>nomatch z))];exact B
end
def dO (i:zr):Prop:=∀a b,subscripted i false a b=operate [a,b] (getItem a b)
def cG {prog:zp}{w:zm}{A:zk}{E:zx->zw->Prop}{s:zw}{env:Env}{value slice:zr}{j:Pos}{T id:String}{Q:zx->zw->Prop}(hl:typeLookup (.type T) "__getitem__" =pure (some (.builtin id)))(hs:dO slice)(h:wpAny (model prog w) A (eval value env) (λo c=>wpAny (model prog w) A (eval slice env) (λi a=>a.TypeIs o T/\wpAny (model prog w) A (getItem o i) Q E a) E c) E s):wpAny (model prog w) A (eval (.Subscript value slice j) env) Q E s:=by
 refine Subscript_ (AA4 h (λo c f=>AA4 f (λi a b=> ?_) λ_ _ x=>x) λ_ _ x=>x);obtain⟨k,b⟩:=b;unfold subscriptTail;refine AAA ?_;rw[getitemInPython_of_ne k.not_modules];refine AAA (ABS k hl ?_);have e:wpAny (model prog w) A (subscripted slice false o i) (λr d=>wpAny (model prog w) A (letTemporaryGo value o r >>= λ_=>pure r) Q E d) E a:=by rw[hs o i];exact wpAny_operating (AA4 b (λr d g=>AAA (wpAny_letTemporaryGo (AAD g))) λ_ _ x=>x)
 first
  | exact AAD (AAA e)
  | exact AAA (AAD (AAA e))
  | exact AAA e
def c4 (d e f:TE):TS:=λD b H=>f b H λv H1=>d b H1 λx g=>e b g λy h=>∃a c,x= .ref a/\Rm h a y v c/\D.nx b c
section
variable {X:Cx}{o i e value:zr}{pos pos' tpos:Pos}{td ty tv:TE}
def bM (hu:X.A.units+1<cLine)(d:PE X o td)(hi:PE X i ty)(hv:PE X value tv)(hs:swapsWith value (some (.Subscript o i pos')) pos.line X.env=pure false):PS X (.Assign [.Subscript o i pos'] value pos) (c4 td ty tv):=by intro c s b H D I h;refine wpAny_Assign_Subscript (BJ (hv c s b H _ I h) λr f ⟨v,H1,j,rv,k⟩=>BJ (d c f b H1 _ j k) λu l ⟨x,m,n,p,t⟩=>BJ (hi c l b m _ n t) λF G ⟨y,J,w,z,a,B,ex,g,C⟩=> ?_) hs;subst ex;obtain rfl:u=Value.ref a:=p;exact Vn hu w g z rv λK E=>⟨b,B,E,C⟩
end
def QP {P:zp}{w:zm}{H:Hp}(h:zl)(hb:sysModules<h.objs.size):Bn P w H (h.push {cls:= .type "dict",data:= .dict #[] }) h.objs.size (.dK []):=
 ⟨AAq _,ACO.mpr (AAb (AAM hb)), [], .nil,Heap.DictOf.new h⟩
def Tv:zy (TE×TE)->St->Hp->(zy (V×V)->Hp->Prop)->Prop
 | [],_,H,Q=>Q [] H
 | (tk,tv)::r,σ,H,Q=>tk σ H λx H1=>tv σ H1 λy a=>Tv r σ a λb c=>Q ((x,y)::b) c
abbrev VV:zy (V×V)->zy (zx×zx)->Prop:=Paired λp q=>RelV p.1 q.1/\RelV p.2 q.2
def jt (X:Cx)(a:Pos)(keys:zy (zt zr))(values:zy zr)(b:zy (TE×TE)):Prop:=
 ∀(d:zy (zu×Obj)) (s:zw) (c:St) (H:Hp) (Q:zy (V×V)->Hp->Prop),Inv X d c H s->Tv b c H Q->
  wpAny (model X.prog X.w) X.A (evalPairs (pairTrees keys values X.env a)) (λvs g=>∃e f,Inv X d c f g/\VV e vs/\Q e f) X.xe s
def bK {X:Cx}{a:Pos}:jt X a [] [] [] :=λb s c H Q I h=>pairTrees_nil_walk ⟨[],H,I, .nil,h⟩
def YX {X:Cx}{a:Pos}{k v:zr}{f:zy (zt zr)}{vs:zy zr}{g i:TE}{b:zy (TE×TE)}(hk:PE X k g)(hv:PE X v i)(j:jt X a f vs b):jt X a (some k::f) (v::vs) ((g,i)::b):=λc s d H Q I h=>
 pairTrees_cons_walk (BJ (hk c s d H _ I h) λu l ⟨x,H1,m,n,o⟩=>BJ (hv c l d H1 _ m o) λE p ⟨y,r,t,w,z⟩=>
  BJ (j c p d r _ t z) λF G ⟨A,B,C,e,D⟩=>⟨(x,y)::A,B,C, .cons ⟨n,w⟩ e,D⟩)
def Lx (kvs more:zy (CK×V)):zy (CK×V):=more.foldl (λa b=>DP a b.1 b.2) kvs
def KV.merge:∀{more:zy (CK×V)} {a:zy (CK×zx)} {kvs:zy (CK×V)} {vs:zy (CK×zx)},KV more a->KV kvs vs->KV (Lx kvs more) (merged vs a):=by
 intro more a kvs vs r;unfold KV at r;induction r generalizing kvs vs with
 | nil=>intro q;exact q
 | @cons p q c qs h t ih=>
   intro b;have e:KV (DP kvs p.1 p.2) (stored vs q.1 q.2):=by have:=b.put p.1 h.2;rw[<-h.1];exact this
   exact ih e
theorem Gs:∀(more kvs:zy (CK×V)),(Lx kvs more).length<=kvs.length+more.length
 | [],kvs=>by show kvs.length<=kvs.length+0;omega
 | p::r,kvs=>by have h1:=Gs r (DP kvs p.1 p.2);have h2:=DY kvs p.1 p.2;show (Lx (DP kvs p.1 p.2) r).length<=_;rw[AAZ];omega
theorem Lf {P:zp}{w:zm}:∀{kvs:zy (CK×V)} {e:zy (zx×zx)},VV (kvs.map λf=>(kV f.1,f.2)) e->∃d,Carries (A0 P w) e d/\KV kvs d
 | [],_,r=>by rw[ABi] at r;cases r;exact⟨[],True.intro, .nil⟩
 | p::kvs,_,r=>by
   rw[AAL] at r;cases r with
   | @cons a b as bs h t=> obtain⟨d,c,q⟩:=Lf (P:=P) (w:=w) t;obtain⟨g,b2⟩:=b;exact⟨(p.1,b2)::d,⟨Qn h.1,rfl,c⟩, .cons ⟨rfl,h.2⟩ q⟩
structure M1 (X:Cx) (o:Expr) (m:Str) (apos:Pos) (e:Expr) (cpos:Pos):Prop where
 base:attributeBase o m X.env (eval o X.env)=eval o X.env
 few:((backTo cpos (starEach [e] X.env)).all (λx=> !x.1)&&(backToKw cpos (keywordEach [] X.env)).all (λx=>x.1.isSome)
  && decide (([e] :List Expr).length+([] :List Keyword).length+(if ([] :List Keyword).isEmpty then 0 else 1)<30))=true
 line:(apos.endLine==cpos.line)=true
 trees:backTo cpos (starEach [e] X.env)= [(false,eval e X.env)]
structure M2 (X:Cx) (o:Expr) (m:Str) (apos:Pos) (e f:Expr) (cpos:Pos):Prop where
 base:attributeBase o m X.env (eval o X.env)=eval o X.env
 few:((backTo cpos (starEach [e,f] X.env)).all (λx=> !x.1)&&(backToKw cpos (keywordEach [] X.env)).all (λx=>x.1.isSome)
  && decide (([e,f] :List Expr).length+([] :List Keyword).length+(if ([] :List Keyword).isEmpty then 0 else 1)<30))=true
 line:(apos.endLine==cpos.line)=true
 trees:backTo cpos (starEach [e,f] X.env)= [(false,eval e X.env),(false,eval f X.env)]
def n9 (H:Hp)(a:zu):Prop:=(∃kvs,Rd H a (.dK kvs))\/∃kvs,Rd H a (.dT kvs)
def Xn {X:Cx}{g:zy (zu×Obj)}{h:St}{H:Hp}{s:zw}{a:zu}(I:Inv X g h H s)(d:n9 H a):s.TypeIs (.ref a) "dict" /\(∀b,Value.ref a= .ref b->∃c,s.heap.get? b=some c/\c.dict=none)/\(a==sysModules)=false:=by
 rcases d with⟨kvs,e⟩|⟨kvs,e⟩
 .obtain ⟨_,hd,vs,_,f⟩:=XI I.hok e;refine⟨f.typeIs,λb q=> ?_,hd⟩;cases q;obtain⟨c,_,_,h1,h2,_⟩:=f;exact⟨c,h1,h2.2.1⟩
 .obtain ⟨_,hd,xs,_,f⟩:=XN I.hok e;refine⟨f.typeIs,λb q=> ?_,hd⟩;cases q;obtain⟨c,_,_,h1,h2,_⟩:=f;exact⟨c,h1,h2.2.1⟩
section
variable {X:Cx}{zj:zy (zu×Obj)}{σ:St}{H:Hp}{s:zw}{a:zu}{y d:V}{u r:zx}{o:zt V}{A:zk}{E:zx->zw->Prop}
def dh {Q:zx->zw->Prop}(hu:A.units+1<cLine)(I:Inv X zj σ H s)(g:Rl H a y o)(j:RelV y u)(m:RelV d r)(h:∀n p,Inv X zj σ H p->RelV (o.getD d) n->Q n p):wpAny (model X.prog X.w) A (call (.builtin "dict.get") [.ref a,u,r]) Q E s:=by
 rcases g with⟨kvs,k,e,i,l⟩|⟨kvs,k,b,e,i,t,l⟩
 .subst i;obtain⟨z,hd,vs,c,f⟩:=XI I.hok e;refine ACo ACC f.typeIs ADP (ADQ _ _ _) (meets_dict_get_default (A0 X.prog X.w) a (Qn j) hd r) ⟨_,f.mapOf,h _ _ (I.tok _) ?_⟩;rw[l];exact(c.val k).getD m
 .subst i;cases (show u=Value.ref b from j);obtain⟨z,hd,xs,c,f⟩:=XN I.hok e;refine ACo ACC f.typeIs ADP (ADQ _ _ _) (meetsH_dict_get_default (tupleKind (A0 X.prog X.w)) a b hd r) ⟨tupleKind_room_in1 hu,k,xs,S1 I.hok t,f,h _ _ (I.tok _) ?_⟩;rw[l];exact(c.val k).getD m
end
def ZD (d e f:TE):TE:=λb H Q=>d b H λx H1=>∃a,x= .ref a/\n9 H1 a/\e b H1 λy g=>f b g λz c=>∃o,Rl c a y o/\Q (o.getD z) c
section
variable {X:Cx}{o e f:zr}{apos cpos:Pos}{td ty tx:TE}
def YJ (hu:X.A.units+1<cLine)(k:PE X o td)(he:PE X e ty)(l:PE X f tx)(m:M2 X o "get" apos e f cpos):PE X (.Call (.Attribute o "get" apos) [e,f] [] cpos) (ZD td ty tx):=by
 intro b s c H Q I h;refine ADR m.base m.few m.line ADS ACC ADl (BJ (k b s c H _ I h) λu n ⟨x,H1,j,p,a,ex,d,r⟩=> ?_);subst ex;obtain rfl:u=Value.ref a:=p;obtain⟨t,v,_⟩:=Xn j d;refine⟨t,v, ?_⟩;rw[m.trees];refine ACU rfl (ADE (ABz (BJ (he b n c H1 _ j r) λM w ⟨y,B,C,D,E⟩=>
  ABz (BJ (l b w c B _ C E) λN O ⟨z,F,G,J,P,g,K⟩=>AC7 ?_))))
 exact dh hu G g D J λR S L i=>⟨_,F,L,i,K⟩
end
abbrev KN (K:AAB)(H:Hp):zy (FK×V)->zy (FK×zu×zx)->Prop:=Paired λp q=>p.1=q.1/\Ey K H q.2.1 p.1/\RelV p.2 q.2.2
def KN.val {K:AAB}{H:Hp}{kvs:zy (FK×V)}{xs:zy (FK×zu×zx)}(r:KN K H kvs xs)(k:FK):IB (Dt kvs k) ((atKey xs k).map (·.2)):=by
 induction r with
 | nil=>exact True.intro
 | @cons p q c qs h t ih=>
   obtain⟨h1,_,h2⟩:=h;by_cases e:p.1=k
   .have a:q.1=k:=h1.symm.trans e;have b:atKey (q::qs) k=some q.2:=by simp[atKey,ABP,a]
    rw[GM e,b];exact h2
   .have a:¬q.1=k:=λz=>e (h1.trans z);have b:atKey (q::qs) k=atKey qs k:=by simp[atKey,ABP,a]
    rw[GL e,b];exact ih
def KN.repl {K:AAB}{H:Hp}{kvs:zy (FK×V)}{xs:zy (FK×zu×zx)}(r:KN K H kvs xs)(k:FK){y:V}{u:zx}(b:RelV y u):KN K H (kvs.map λa=>if a.1=k then (a.1,y) else a) (xs.map (putAt k u)):=by
 induction r with
 | nil=>exact .nil
 | @cons p q d qs h t ih=>
   rw[AAL,AAL];refine .cons ?_ ih;obtain⟨h1,h2,c⟩:=h;unfold putAt;by_cases e:p.1=k
   .rw [AAE e,AAE (h1.symm.trans e)];exact⟨h1,h2,b⟩
   .rw [AAC e,AAC (λz=>e (h1.trans z))];exact⟨h1,h2,c⟩
def KN.put {K:AAB}{H:Hp}{kvs:zy (FK×V)}{xs:zy (FK×zu×zx)}(r:KN K H kvs xs)(k:FK){b:zu}{y:V}{u:zx}(hb:Ey K H b k)(a:RelV y u):KN K H (DP kvs k y) (storedH xs k b u):=by
 have e:(kvs.any λc=>decide (c.1=k))=(atKey xs k).isSome:=by rw[MX,(r.val k).isSome_eq,ACB]
 unfold DP storedH;rw[e];by_cases q:(atKey xs k).isSome=true
 .rw [AAE q,AAE q];exact r.repl k a
 .rw [AAC q,AAC q];exact Paired.snoc r ⟨rfl,hb,a⟩
def KN.keeps {K:AAB}{H a:Hp}{kvs:zy (FK×V)}{xs:zy (FK×zu×zx)}(r:KN K H kvs xs)(c:∀b ys,H b=some (.tup ys)->a b=some (.tup ys)):KN K a kvs xs:=
 Paired.mapP r λ_ _ z=>⟨z.1,z.2.1.stay c,z.2.2⟩
section
variable {P:zp}{w:zm}{H:Hp}{h:zl}{a:zu}{K:AAB}
def IQ {k:FK}(ok:G4 P w H h)(d:K.In h)(e:Ey K H a k):(fkKind P w).is h k a:=by
 obtain⟨b,h1,h2⟩:=e;obtain⟨_,j,r,o,l,m,n,p⟩:=(show Bn P w H h a (.tup [.ref b, .int k.2]) from ok a _ h1);cases r with
 | cons s r=>
 cases r with
 | cons f r=>
 cases r;cases s;obtain⟨u,rfl⟩:=f;have two:∀{us:zy zx},Aj [.int k.1.1, .int k.1.2] us->ItemsAre (intKind P w) [k.1.1,k.1.2] us:=λhv=>by
  cases hv with
  | cons t hv=>
  cases hv with
  | cons v hv=> cases hv;obtain⟨E,rfl⟩:=t;obtain⟨F,rfl⟩:=v;exact .cons (by simp[intKind,Value.isInt]) (.cons (by simp[intKind,Value.isInt]) .nil)
 refine⟨o,_,n,b,u,l,m,p,by simp, ?_⟩;rcases h2 with h2|⟨i,c,g,x,y,z,A⟩
 .obtain ⟨_,c,f,B,f1,C,g,D⟩:=(show Bn P w H h b (.tup [.int k.1.1, .int k.1.2]) from ok b _ h2);exact⟨B,c.toArray,g,f1,C,D,by simpa using two f⟩
 .exact ⟨i,c,g,d b i x,y,z,two A⟩
def Nc {kvs:zy (FK×V)}(ok:G4 P w H h)(b:K.In h)(e:H a=some (.dN K kvs)):kvs.length<=sizeLine/\(a==sysModules)=false/\∃xs,KN K H kvs xs/\h.DictOfH (fkKind P w) a xs:=by
 obtain⟨z,y,xs,r,o,es,ep,h1,h2,c,d,f⟩:=(show Bn P w H h a (.dN K kvs) from ok a _ e);refine⟨z,y,xs,r,o,es,ep,h1,h2,c,d,λx hx=> ?_,f⟩;have all:∀{l:zy (FK×V)} {m:zy (FK×zu×zx)},KN K H l m->∀x∈m,(fkKind P w).is h x.1 x.2.1:=by
  intro l m q;induction q with
  | nil=>intro x hx;exact nomatch hx
  | @cons p q g qs hq t ih=>
    intro x hx;rcases AAF.mp hx with e|hx
    .subst e;exact IQ ok b (by rw[<-hq.1];exact hq.2.1)
    .exact ih x hx
 exact all r x hx
end
section
variable {X:Cx}{zj:zy (zu×Obj)}{σ:St}{H:Hp}{s:zw}{a b:zu}{v d:V}{r:zx}{kvs:zy (FK×V)}{k:FK}{A:zk}{E:zx->zw->Prop}
def WA {Q:zx->zw->Prop}(hu:A.units+2<cLine)(I:Inv X zj σ H s)(e:H a=some (.dN X.K kvs))(hb:Ey X.K H b k)(l:Dt kvs k=some v)(h:∀c i,Inv X zj σ H i->RelV v c->Q c i):wpAny (model X.prog X.w) A (getItem (.ref a) (.ref b)) Q E s:=by obtain⟨z,hd,xs,f,j⟩:=Nc I.hok I.kIn e;obtain⟨c,hw,g⟩:=IB.some_of (v:=v) (o:=(atKey xs k).map (·.2)) (by rw[<-l];exact f.val k);obtain⟨p,hp,m⟩:=ABa.mp hw;refine wpAny_getItem_heap (Co hu) (IQ I.hok I.kIn hb) j hp ?_;rw[m];exact h c _ (I.tok _) g
def mF {Q:zx->zw->Prop}(hu:A.units+2<cLine)(I:Inv X zj σ H s)(e:H a=some (.dN X.K kvs))(hb:Ey X.K H b k)(h:∀f,Inv X zj σ H f->Q (.bool (Dt kvs k).isSome) f):wpAny (model X.prog X.w) A (compareOp .In (.ref b) (.ref a)) Q E s:=by obtain⟨z,hd,xs,c,g⟩:=Nc I.hok I.kIn e;refine wpAny_in_heap (Co hu) (IQ I.hok I.kIn hb) hd g ?_;have q:=(c.val k).isSome_eq;rw[ACB] at q;rw[<-q];exact h _ (I.tok _)
def WB {Q:Unit->zw->Prop}(hu:A.units+2<cLine)(I:Inv X zj σ H s)(e:H a=some (.dN X.K kvs))(hb:Ey X.K H b k)(hl:kvs.length<sizeLine)(rv:RelV v r)(h:∀i,Inv X zj σ (upd H a (.dN X.K (DP kvs k v))) i->Q () i):wpAny (model X.prog X.w) A (setItem (.ref a) (.ref b) r) Q E s:=by
 obtain⟨z,hd,xs,f,l⟩:=Nc I.hok I.kIn e;have hz:xs.length<=sizeLine:=by rw[<-ABx f];exact z
 have hl:(DP kvs k v).length<=sizeLine:=by have:=DY kvs k v;omega
 refine wpAny_setItem_heap (hsz:=hz) (Co hu) (IQ I.hok I.kIn hb) l λh' g hs=>h _ ?_;obtain⟨q,es,ep,hq,h2,m,n,_,o⟩:=g;refine GQ I (by rw[e];exact True.intro) hs ⟨q,hq⟩ ⟨hl,hd,_,(f.put k hb rv).keeps λc ys j=> ?_,q,es,ep,hq,h2,m,n,o⟩;rw[AZ (cr j e (λz=>nomatch z))];exact j
def e7 {Q:zx->zw->Prop}(hu:A.units+2<cLine)(I:Inv X zj σ H s)(e:H a=some (.dN X.K kvs))(hb:Ey X.K H b k)(j:RelV d r)(h:∀f g,Inv X zj σ H g->RelV ((Dt kvs k).getD d) f->Q f g):wpAny (model X.prog X.w) A (call (.builtin "dict.get") [.ref a, .ref b,r]) Q E s:=by obtain⟨z,hd,xs,c,i⟩:=Nc I.hok I.kIn e;refine ACo ACC i.typeIs ADP (ADQ _ _ _) (meetsH_dict_get_default (fkKind X.prog X.w) a b hd r) ⟨Co hu,k,xs,IQ I.hok I.kIn hb,i,h _ _ (I.tok _) ?_⟩;exact(c.val k).getD j
end
def c9 (K:AAB):TE:=λ_ H Q=>∀p,H p=none->Q (.ref p) (upd H p (.dN K []))
def ji (K:AAB)(e f:TE):TE:=λd H Q=>e d H λx H1=>f d H1 λy c=>∃a b kvs k v,x= .ref a/\y= .ref b/\c a=some (.dN K kvs)/\Ey K c b k/\Dt kvs k=some v/\Q v c
def jj (K:AAB)(e f:TE):TE:=λd H Q=>e d H λy H1=>f d H1 λx c=>∃a b kvs k,x= .ref a/\y= .ref b/\c a=some (.dN K kvs)/\Ey K c b k/\Q (.bl (Dt kvs k).isSome) c
def Yn (K:AAB)(e f g:TE):TS:=λD c H=>g c H λv H1=>e c H1 λx h=>f c h λy d=>∃a b kvs k,x= .ref a/\y= .ref b/\d a=some (.dN K kvs)/\Ey K d b k/\kvs.length<sizeLine/\D.nx c (upd d a (.dN K (DP kvs k v)))
def Tu (K:AAB)(e f g:TE):TE:=λc H Q=>e c H λx H1=>∃a kvs,x= .ref a/\H1 a=some (.dN K kvs)/\f c H1 λy h=>g c h λz d=>∃b kvs k,y= .ref b/\d a=some (.dN K kvs)/\Ey K d b k/\Q ((Dt kvs k).getD z) d
section
variable {X:Cx}{o i e f value:zr}{pos pos' apos cpos:Pos}{td ty tv tx:TE}
def XJ {P:zp}{w:zm}{H:Hp}{K:AAB}(h:zl)(hb:sysModules<h.objs.size):Bn P w H (h.push {cls:= .type "dict",data:= .dict #[] }) h.objs.size (.dN K []):=
 ⟨AAq _,ACO.mpr (AAb (AAM hb)), [], .nil,_, #[],0,AAP _ rfl,⟨rfl,rfl,rfl⟩,rfl,rfl,List.nodup_nil⟩
def bE:PE X (.Dict [] [] pos) (c9 X.K):=λb s c H Q I h=>
 wpAny_Dict_empty ⟨.ref s.heap.objs.size,_,I.laid (a:=s.heap.objs.size) (o:= .dN X.K []) (t':=s.toks) (λ_ _ q=>AAH _ q) (AAI _) (XJ s.heap I.big),rfl,h _ (I.hok.fresh (AAI _))⟩
def cV {g:zy (zu×Obj)}{h:St}{H:Hp}{s:zw}{a:zu}{kvs:zy (FK×V)}(I:Inv X g h H s)(e:H a=some (.dN X.K kvs)):s.TypeIs (.ref a) "dict" /\(∀b,Value.ref a= .ref b->∃c,s.heap.get? b=some c/\c.dict=none):=by obtain⟨_,hd,xs,_,d⟩:=Nc I.hok I.kIn e;refine⟨d.typeIs,λb q=> ?_⟩;cases q;obtain⟨c,_,_,h1,h2,_⟩:=d;exact⟨c,h1,h2.2.1⟩
def bD (hu:X.A.units+2<cLine)(m:PE X o td)(hi:PE X i ty)(hs:dO i):PE X (.Subscript o i pos) (ji X.K td ty):=by intro d s g H Q I h;refine cG PySem.F.slot_dict_getitem.lookup hs (BJ (m d s g H _ I h) λu n ⟨x,H1,p,r,t⟩=>BJ (hi d n g H1 _ p t) λw G ⟨y,z,j,B,a,b,kvs,k,v,ex,C,e,hb,l,D⟩=> ?_);subst ex C;obtain rfl:u=Value.ref a:=r;obtain rfl:w=Value.ref b:=B;exact⟨(cV j e).1,WA hu j e hb l λJ L E c=>⟨v,z,E,c,D⟩⟩
def fM (hu:X.A.units+2<cLine)(hi:PE X i ty)(g:PE X o td):PC X .In i o (jj X.K ty td):=by intro c s d H Q I h;refine BJ (hi c s d H _ I h) λj l ⟨y,H1,m,n,p⟩=>BJ (g c l d H1 _ m p) λu C ⟨x,r,t,v,a,b,kvs,k,ex,w,e,hb,z⟩=> ?_;subst ex w;obtain rfl:u=Value.ref a:=v;obtain rfl:j=Value.ref b:=n;exact mF hu t e hb λD B=>⟨.bl _,r,B,rfl,z⟩
def Uw (hu:X.A.units+2<cLine)(g:PE X o td)(hi:PE X i ty)(hv:PE X value tv)(hs:swapsWith value (some (.Subscript o i pos')) pos.line X.env=pure false):PS X (.Assign [.Subscript o i pos'] value pos) (Yn X.K td ty tv):=by intro d s c H D I h;refine wpAny_Assign_Subscript (BJ (hv d s c H _ I h) λr j ⟨v,H1,l,rv,m⟩=>BJ (g d j c H1 _ l m) λu n ⟨x,p,t,w,z⟩=>BJ (hi d n c p _ t z) λB L ⟨y,M,C,E,a,b,kvs,k,ex,F,e,hb,hl,G⟩=> ?_) hs;subst ex F;obtain rfl:u=Value.ref a:=w;obtain rfl:B=Value.ref b:=E;exact WB hu C e hb hl rv λN J=>⟨c,_,J,G⟩
def RE (hu:X.A.units+2<cLine)(n:PE X o td)(he:PE X e ty)(p:PE X f tx)(m:M2 X o "get" apos e f cpos):PE X (.Call (.Attribute o "get" apos) [e,f] [] cpos) (Tu X.K td ty tx):=by
 intro c s d H Q I h;refine ADR m.base m.few m.line ADS ACC ADl (BJ (n c s d H _ I h) λu r ⟨x,H1,j,t,a,l,ex,v,w⟩=> ?_);subst ex;obtain rfl:u=Value.ref a:=t;obtain⟨B,C⟩:=cV j v;refine⟨B,C, ?_⟩;rw[m.trees];refine ACU rfl (ADE (ABz (BJ (he c r d H1 _ j w) λD E ⟨y,F,G,J,L⟩=>
  ABz (BJ (p c E d F _ G L) λT U ⟨z,M,N,O,b,kvs,k,P,e,hb,R⟩=>AC7 ?_))))
 subst P;obtain rfl:D=Value.ref b:=J;exact e7 hu N e hb O λW Y S g=>⟨_,M,S,g,R⟩
end
end L2
namespace PySem
open Sem (wp)
def Io (h:zl)(d:zu)(es:Array DictEntry)(ep:Nat):Prop:=∃o,h.get? d=some o/\o.ExactDict/\o.data= .dict es ep
section
variable {prog:zp}{w:zm}{A:zk}{E:zx->zw->Prop}{s:zw}{d it:zu}{es:Array DictEntry}{ep i:Nat}
def Io.typeIs (x:Io s.heap d es ep):s.TypeIs (.ref d) "dict" :=let ⟨o,a,hc,_⟩:=x;⟨o,a,hc.1⟩
def Io.at {h h':zl}(x:Io h d es ep)(e:∀o,h.get? d=some o->h'.get? d=some o):Io h' d es ep:=let ⟨o,a,r⟩:=x;⟨o,e _ a,r⟩
def Yh {Q:zx->zw->Prop}(hd:(d==sysModules)=false)(b:Io s.heap d es ep)(hQ:Q (.ref s.heap.objs.size) {s with heap:=s.heap.push {cls:= .type "dict_keyiterator",data:= .fields #[.ref d, .int 0 0, .int es.size 0, .int ep 0] }}):wpAny (model prog w) A (pyIter (.ref d)) Q E s:=by have a:=b.typeIs;obtain⟨o,c,hc,e⟩:=b;refine wpAny_pyIter_slot a F.slot_dict_iter (AAv F.slot_dict_iter a F.entry_dict_iter ?_ (F.args_dict_iter_1 _));unfold Builtin.«dict.__iter__»;refine AAA ?_;unfold Builtin.Dict.dictSlotNone;refine AAA (wpAny_notOrdered_dict a (AAD ?_));show wpAny _ _ (Builtin.Dict.showsAll d >>= _) _ _ s;unfold Builtin.Dict.showsAll;rw[AAC (by rw[hd];exact AAN)];refine AAA (AAD (AAA (ADT c e (AAA (ADU c e ?_)))));exact AAA (AAw (AAD ⟨_,rfl,"dict_keyiterator",_,⟨_,AAP _ rfl,rfl⟩,ACD.lookup,by simpa[rawInt] using hQ⟩))
def Yi {Q:zt zx->zw->Prop}(a:s.heap.IsKeyIter it d i es.size ep)(h:Io s.heap d es ep)(j:i<es.size)(hQ:∀h',h'.IsKeyIter it d (i+1) es.size ep->Heap.SameBut it s.heap h'->Q (some es[i].key) {s with heap:=h'}):wpAny (model prog w) A (pyNext (.ref it)) Q E s:=by
 have b:=a.typeIs;obtain⟨o,c,hc,hd⟩:=a;obtain⟨k,e,l,f⟩:=h;unfold pyNext;refine AAA (ACf (ABK (name:=Str.ofString "__next__") b ACD (AAv ACD b ADm ?_ (ADn _))));refine AAA (AAD (AAA (AAA ?_)));refine AAA (ACp b (AAD (AAA (wpAny_fieldsOf c hd ?_))));simp only[show Builtin.Dict_items.ownsTuple "dict_keyiterator" =false by decide,AAh,AAX];show wpAny _ _ (if (Value.ref d==Value.none)=true then _ else _) _ _ s;rw[AAC (show ¬((Value.ref d==Value.none)=true) from AAN)];refine AAA (AAD (AAA (ADT e f ?_)));rw[AAC (by simp)];refine AAA (AAD (AAA (ADU e f ?_)));rw[AAC (by simp)];refine AAD ?_;simp only[show ¬((i:Int)<0) from by omega,AAX,ABf,ADo j];refine AAA ?_;refine AAA (ACp b (AAD (AAA (wpAny_isOneOf_keyiter b ?_))));show wpAny _ _ (setField (.ref it) 1 (rawInt ((i:Int)+1)) >>= _) _ _ s;refine AAA (ACa c hd (by simp) ?_);have g:(s.heap.update it (Obj.mapFields (·.setIfInBounds 1 (rawInt ((i:Int)+1))))).IsKeyIter it d (i+1) es.size ep:=
  ⟨_,ABh _ c (Obj.isFreed_of_fields (ACc hd _)),(Obj.cls_mapFields ..).trans hc,by rw[ACc hd];simp[rawInt]⟩
 refine AAA (AAj (AAA (wpAny_isOneOf_keyiter (s:={s with heap:=s.heap.update it (Obj.mapFields (·.setIfInBounds 1 (rawInt ((i:Int)+1))))}) g.typeIs ?_)));show wpAny _ _ (pure es[i].key) _ _ _;exact AAD (AAD ⟨_,rfl,AAD (hQ _ g (ACb ..))⟩)
def bS {Q:zt zx->zw->Prop}(j:A.handled=none)(c:s.heap.IsKeyIter it d es.size es.size ep)(k:Io s.heap d es ep)(hQ:∀h',Heap.ExtBut it s.heap h'->Q none {s with heap:=h'}):wpAny (model prog w) A (pyNext (.ref it)) Q E s:=by have e:=c.typeIs;obtain⟨o,f,hc,hd⟩:=c;obtain⟨l,g,n,h⟩:=k;unfold pyNext;refine AAA (ACf (ABK (name:=Str.ofString "__next__") e ACD (AAv ACD e ADm ?_ (ADn _))));refine AAA (AAD (AAA (AAA ?_)));refine AAA (ACp e (AAD (AAA (wpAny_fieldsOf f hd ?_))));simp only[show Builtin.Dict_items.ownsTuple "dict_keyiterator" =false by decide,AAh,AAX];show wpAny _ _ (if (Value.ref d==Value.none)=true then _ else _) _ _ s;rw[AAC (show ¬((Value.ref d==Value.none)=true) from AAN)];refine AAA (AAD (AAA (ADT g h ?_)));rw[AAC (by simp)];refine AAA (AAD (AAA (ADU g h ?_)));rw[AAC (by simp)];refine AAD ?_;simp only[show ¬((es.size:Int)<0) from by omega,AAX,ABf,Array.getElem?_eq_none (AAI es.size)];refine AAA ?_;refine AAA (ACp e (AAD ?_));show wpAny _ _ (setField (.ref it) 0 .none >>= _) _ _ s;refine AAA (ACa f hd (by simp) ?_);show wpAny _ _ (newExc (.type "StopIteration") [] >>= _) _ _ _;refine AAA ?_;simp only[newExc,newTuple];refine AAA (AAw ?_ (by size_fits));refine AAA (m:=firstArgMember _ _) (wpAny_of_eq (a:=Value.none) (by first | rfl|(simp only[firstArgMember];rfl)) (AAw ?_ (by size_fits)));simp only[raiseNew];refine AAA (wpAny_handled ?_);rw[show A.in1.handled=none from j];refine AAA (AAD (wpAny_throw ?_));refine AAA (ABb (T:="StopIteration") (b:=true) ⟨_,AAP _ rfl,rfl⟩ isSubtype_stop ?_);exact AAD (hQ _ (((ACb ..).extBut.push _).push _))
def Wa (c:A.handled=none)(f:d≠it):Walks prog w A it [it,d] [it] es.size (λi v=>∃e,es[i]? =some e/\v=e.key) (λi h=>h.IsKeyIter it d i es.size ep/\Io h d es ep) where
 sub:=λb hb=>by simp at hb;simp[hb]
 frame:=λ_ _ _ st hk=>⟨st.1.at λo e=>hk it (by simp) o e,st.2.at λo e=>hk d (by simp) o e⟩
 item:=λi s Q E hi st hQ=>Yi st.1 st.2 hi λh' g a=>
  hQ _ h' s.toks ⟨es[i],by simp[hi],rfl⟩ ⟨g,st.2.at λo e=>a.extBut d o f e⟩ λb o hb e=>a.extBut b o (λh=>hb (by simp[h])) e
 done:=λs Q E st hQ=>bS c st.1 st.2 λh' j=>hQ h' s.toks λb o hb e=>j b o (λh=>hb (by simp[h])) e
 self:=λ_ _ _ _ st hQ=>wpAny_pyIter_keyiter st.1 hQ
end
def Yg {prog:zp}{w:zm}{A:zk}{E:zx->zw->Prop}{s:zw}{d:zu}{es:Array DictEntry}{ep:Nat}{Q:zq->zw->Prop}(b:Io s.heap d es ep)(h:Q false s):wpAny (model prog w) A (Builtin.List.listLengthHint (.ref d)) Q E s:=by
 have a:=b.typeIs;unfold Builtin.List.listLengthHint;refine AAA (ABS a F.slot_dict_len.lookup ?_);have hs:splitId "dict.__len__" =some ("dict","__len__"):=by decide +kernel
 simp only[hs];refine AAA (ABb a (by rw[isSubtype_type];kernel_rfl:isSubtype (.type "dict") (.type "dict")=pure true) ?_);simp only[AA7,AAh,AAX];rw[AAE (by decide +kernel)];refine AAA (AB3 a ?_);exact AAD h
section
variable {prog:zp}{w:zm}{A:zk}{s:zw}{R:Result->zw->Prop}{d:zu}{es:Array DictEntry}{ep:Nat}
def TR (G:A.handled=none)(S:zu)(res:zx)(h:Nat)(hd:(d==sysModules)=false)(n:Io s.heap d es ep)(H:es.size<=sizeLine)(p:d≠S)(x:s.heap.get? S=some {cls:= .type "list",data:= .seq #[] h})(I:∀h' J a l,(∀b o,b≠S->s.heap.get? b=some o->h'.get? b=some o)->h'.get? S=some {cls:= .type "list",dict:=none,data:= .seq a l,slots:= #[] }->ItemsOf (λi v=>∃e,es[i]? =some e/\v=e.key) a es.size->R (.ok (.ret res)) {s with heap:=h',toks:=J}):wpAny (model prog w) A.in1 (Builtin.List.listExtendWith (.ref S) (.ref d) res) (λr c=>match r with | .done f=>R (.ok f) c | .again l=>l.quiet=true/\codeAny (model prog w) A l R c) (λe c=>R (.error e) c) s:=by
 have K:=n.typeIs;unfold Builtin.List.listExtendWith;refine AAA (AB3 K ?_);have h1:Builtin.List.listSameRef (.ref S) (.ref d)=false:=by simp[Builtin.List.listSameRef,AAb p]
 have h2:(Value.type "dict" == Value.type "list")=false:=by decide
 have L:(Value.type "dict" == Value.type "tuple")=false:=by decide
 simp only[h1,h2,L,Bool.or_false,AAh,AAX];refine AAA (Yh hd n ?_);have M:d<s.heap.objs.size:=let ⟨o,N,_⟩:=n;AAG N;have O:S<s.heap.objs.size:=AAG x;have t:Io (s.heap.push {cls:= .type "dict_keyiterator",data:= .fields #[.ref d, .int 0 0, .int es.size 0, .int ep 0] }) d es ep:=n.at λo e=>AAH _ e;refine AAA (AAj (Yg (s:={s with heap:=s.heap.push {cls:= .type "dict_keyiterator",data:= .fields #[.ref d, .int 0 0, .int es.size 0, .int ep 0] }}) t ?_));generalize u:({cls:= .type "dict_keyiterator",data:= .fields #[.ref d, .int 0 0, .int es.size 0, .int ep 0] }:Obj)=io at t ⊢;have y:(s.heap.push io).get? S=some {cls:= .type "list",data:= .seq #[] h}:=AAH _ x;have P:(s.heap.push io).get? s.heap.objs.size=some io:=AAP _ (by rw[<-u];rfl);have z:S≠s.heap.objs.size:=AAM O;rw[AAE (by decide +kernel)];refine AAA (ABG (AAA ?_));show wpAny _ A.in1 (updateSeq S (·.push .none) >>= λ_=>updateSeq S (·.pop)) _ _ _;refine AAA (ADV (s:={s with heap:=s.heap.push io}) y rfl ?_);have g:=ABh (Obj.mapSeq (·.push Value.none)) y rfl;refine ADV (hz:=by seq_fits) g rfl ?_;have j:=ABh (Obj.mapSeq (·.pop)) g rfl;have k:∀b o,b≠S->(s.heap.push io).get? b=some o->(((s.heap.push io).update S (Obj.mapSeq (·.push Value.none))).update S (Obj.mapSeq (·.pop))).get? b=some o:=
  λb o hb e=>(AB4 _ _ (AAb hb)).trans ((AB4 _ _ (AAb hb)).trans e)
 have W:=(Wa (prog:=prog) (w:=w) (A:=A.in1) (d:=d) (it:=s.heap.objs.size) (es:=es) (ep:=ep) G (AAM M)).toS;refine AAD ⟨plainId_quiet F.plain_extend_loop _,codeAny_extend_loopS W H S ?_ res es.size 0 _ _ _ rfl (AAq _) ⟨⟨io,k _ _ (AAb z) P,by rw[<-u],by rw[<-u];rfl⟩,t.at λo e=>k _ _ p e⟩ j (ItemsOf.nil _) λc a l Q T U=> ?_⟩
 .intro m;simp only[AAF,AAg,AAd] at m;rcases m with e|e
  .exact z e
  .exact p e.symm
 .obtain ⟨X,B,C,D,Y⟩:=Q;have e:c={s with heap:=c.heap,toks:=c.toks}:=by obtain⟨Z,a2,a3,a4,a5⟩:=c;simp only at B C D;subst B;subst C;subst D;rfl
  rw[e];refine I c.heap c.toks a l (λb o hb E=>X b o ?_ (k b o hb (AAH _ E))) T U;intro m;simp only[AAF,AAg,AAd] at m;rcases m with e|e
  .exact hb e
  .exact AAM (AAG E) e
end
section
variable {prog:zp}{w:zm}{A:zk}{E:zx->zw->Prop}{s:zw}{d:zu}{es:Array DictEntry}{ep:Nat}
def My {Q:zx->zw->Prop}(r:A.handled=none)(hd:(d==sysModules)=false)(n:Io s.heap d es ep)(t:es.size<=sizeLine)(hQ:∀h' k l,(∀b o,s.heap.get? b=some o->h'.get? b=some o)->h'.get? s.heap.objs.size=some {cls:= .type "list",dict:=none,data:= .seq (es.map (·.key)) l,slots:= #[] }->Q (.ref s.heap.objs.size) {s with heap:=h',toks:=k}):wpAny (model prog w) A (call (.type "list") [.ref d]) Q E s:=by
 have u:d<s.heap.objs.size:=let ⟨o,v,_⟩:=n;AAG v;refine callType_codes (Q₁:=λobj c=>obj= .ref s.heap.objs.size/\c={s with heap:=s.heap.push {cls:= .type "list",data:= .seq #[] }}) F.called_list (F.typeCall_list_1 _) F.entry_list_init (code_list_new _ ⟨rfl,rfl⟩) λobj c g=> ?_;obtain⟨rfl,rfl⟩:=g;have j:(s.heap.push {cls:= .type "list",data:= .seq #[] }).get? s.heap.objs.size=some {cls:= .type "list",data:= .seq #[] }:=AAP _ rfl;refine⟨⟨_,j,rfl⟩,F.args_list_init_2 _ _, ?_⟩;show wpAny _ A.in1.in1 (do let m <-Builtin.List.listItems (.ref s.heap.objs.size);Builtin.List.listUpdate (.ref s.heap.objs.size) (λ_=> #[]);letGo m.toList.reverse;Builtin.List.listExtendWith (.ref s.heap.objs.size) (.ref d) .none) _ _ _;refine AAA ?_;unfold Builtin.List.listItems;refine AAA (AA0 j rfl (AAD ?_));refine AAA (ADV j rfl ?_);have f:=ABh (Obj.mapSeq (λ_=>(#[] :Array zx))) j rfl;refine AAA (ACe ?_);have h:∀b o,s.heap.get? b=some o->((s.heap.push {cls:= .type "list",data:= .seq #[] }).update s.heap.objs.size (Obj.mapSeq (λ_=>(#[] :Array zx)))).get? b=some o:=λb o e=>by have hb:b≠s.heap.objs.size:=λz=>AA9 _ (z ▸ AAG e);exact(AB4 _ _ (AAb hb)).trans (AAH _ e)
 refine TR (s:={s with heap:=(s.heap.push {cls:= .type "list",data:= .seq #[] }).update s.heap.objs.size (Obj.mapSeq (λ_=>(#[] :Array zx)))}) (d:=d) (es:=es) (ep:=ep) (A:=A.in1) r s.heap.objs.size .none _ hd (n.at λo e=>h d o e) t (AAM u) f ?_;intro h' k a l x y B;refine⟨rfl,hQ h' k l (λb o e=>x b o (λz=>AA9 _ (z ▸ AAG e)) (h b o e)) ?_⟩;have C:a=es.map (·.key):=by
  obtain⟨h1,h2⟩:=B;refine Array.ext (by simp[h1]) λi hi hj=> ?_;obtain⟨e,p,D⟩:=h2 i _ (by simp[hi] :a[i]? =some a[i]);have G:i<es.size:=by simpa using hj
  rw[ADo G] at p;cases p;rw[D];simp
 rw[<-C];exact y
end
end PySem
namespace L2
open PySem PySem.Spec PyProof.Rows
section
variable {X:Cx}
def fb (K:AAB):zy V->Hp->VK->Prop:=λxs H Q=>∃p kvs,xs= [.ref p] /\H p=some (.dN K kvs)/\∀l cs,H l=none->Paired (λ(q:FK×V) (c:zu)=>Ey K H c q.1) kvs cs->Q (.ref l) (upd H l (.lst (cs.map V.ref)))
def SB {k:Nat}(g:Room k X.A):Bu X (.type "list") (fb X.K):=by
 intro B s C H xs us Q I r h;obtain⟨p,kvs,rfl,hp,q⟩:=h;obtain⟨u,rfl,i⟩:=vals1 r;cases i;obtain⟨z,hd,ys,b,o,es,ep,h1,h2,j,c,m,n⟩:=Nc I.hok I.kIn hp;have hl:ys.length=kvs.length:=(ABx b).symm;have d:es.size=ys.length:=by rw[<-ABT,c,AAJ]
 refine My (es:=es) (ep:=ep) g.hd hd ⟨o,h1,h2,j⟩ (by rw[d,hl];exact z) λh' v x y e=> ?_;have f:es.map (·.key)=((ys.map (·.2.1)).map Value.ref).toArray:=by apply Array.ext';rw[Array.toList_map,c];simp[entryOfKey]
 rw[f] at e;have hv:∀l:zy zu,Aj (l.map V.ref) (l.map Value.ref):=λl=>by
  induction l with
  | nil=>exact .nil
  | cons a l ih=>exact .cons rfl ih
 refine⟨.ref s.heap.objs.size,_,I.laid (t':=v) y (AAI _) (show Bn X.prog X.w _ h' _ (.lst ((ys.map (·.2.1)).map V.ref)) from⟨by simp only[AAJ];rw[hl];exact z,_,x,hv _,e⟩),rfl,q _ _ (I.hok.fresh (AAI _)) ?_⟩;clear q e f c n m d hl z hp;induction b with
 | nil=>exact .nil
 | cons h t ih=>exact .cons h.2.1 ih
end
end L2
namespace PL
open PySem PySem.Spec PyProof.Rows L2
def S0 (k:FK):PV:= .tup [.tup [.int k.1.1, .int k.1.2], .int k.2]
def A4 (kvs:zy (FK×Int))(k:FK):zt Int:=(kvs.find? λp=>decide (p.1=k)).map (·.2)
def UC (kvs:zy (FK×Int))(k:FK):Dt (Bo kvs) k=(A4 kvs k).map V.int:=by
 induction kvs with
 | nil=>rfl
 | cons p r ih=>
   by_cases e:p.1=k
   .simp [A4,Bo,Dt,e]
   .simpa [A4,Bo,Dt,e] using ih
section
variable {K:AAB}{T M:zu->Prop}{H:Hp}
def Kk {v:V}{t d:Int}(r:Bs K T M H v (.tup [.int t, .int d])):∃b,v= .ref b/\W4 K H b t d:=by
 obtain⟨a,vs,rfl,hq,c⟩:=Yz r;cases c with
 | cons f c=>
 cases c with
 | cons g c=>
 cases c;cases f;cases g;refine⟨a,rfl, ?_⟩;rcases hq with h|⟨o,e,n,h1,h2,i,_,j⟩
 .exact .inl h
 .exact .inr ⟨o,e,n,h1,h2,i,j⟩
def Yk {b:zu}{t d:Int}(h:W4 K H b t d):Bs K T M H (.ref b) (.tup [.int t, .int d]):=by
 refine .tup (vs:= [.int t, .int d]) ?_ (.cons (.int _) (.cons (.int _) .nil));rcases h with h|⟨o,a,n,h1,h2,e,c⟩
 .exact .inl h
 .refine .inr ⟨o,a,n,h1,h2,e, ?_,c⟩;have:=c.length;simp only[AAZ,ACn,ABT] at this;rw[<-this];exact AAm rfl
def Yj {c:zu}{k:FK}(h:Ey K H c k):Bs K T M H (.ref c) (S0 k):=by obtain⟨b,h1,h2⟩:=h;exact .tup (.inl h1) (.cons (Yk h2) (.cons (.int _) .nil))
end
section
variable {X:Cx}{a b d:zr}{pos p1:Pos}{ta tb td:AE}
def L5 (x y:PV)(R:FK->Prop):Prop:=match x,y with | .tup [.int t, .int e], .int s=>R ((t,e),s)|_,_=>False
def RC {x y:PV}{R:FK->Prop}(h:L5 x y R):∃t e s,x= .tup [.int t, .int e] /\y= .int s/\R ((t,e),s):=by
 unfold L5 at h;split at h
 .exact ⟨_,_,_,rfl,rfl,h⟩
 .exact h.elim
def gt (m:PV)(R:zy (FK×Int)->Prop):Prop:=match m with | .dct kvs=>R kvs|_=>False
def YC {m:PV}{R:zy (FK×Int)->Prop}(h:gt m R):∃kvs,m= .dct kvs/\R kvs:=by cases m <;> first | exact⟨_,rfl,h⟩|exact h.elim
def Zz (ta tb td:AE):AE:=λτ Q=>ta τ λx=>tb τ λy=>td τ λm=>gt m λkvs=>L5 x y λk=>Q (.bl (A4 kvs k).isSome)
def W8 (td ta tb:AE):AE:=λτ Q=>td τ λm=>ta τ λx=>tb τ λy=>gt m λkvs=>L5 x y λk=>match A4 kvs k with | some i=>Q (.int i)|none=>False
def Qp {K:AAB}{B:CZ}{T:zu->Prop}{H:Hp}{f:L2.St}{τ:Ay}{q:zu}{vs:zy V}(c:SR K B T H f τ)(hq:H q=none):Ct T H T (upd H q (.tup vs))/\¬T q:=by refine⟨Ct.lay c.tp hq,λz=> ?_⟩;obtain⟨o,e,_⟩:=(c.tp q z).mut;rw[hq] at e;cases e
def bj {r z A:TE}(D:Fc X.K r ta)(E:Fc X.K z tb)(F:Fc X.K A td):Fc X.K (jj X.K (cK (MW r (MW z cI))) A) (Zz ta tb td):=by
 intro B T p τ H Q Y C h k;refine D B T p τ H _ _ C h λv x G H1 n I h1=> ?_;have f:=C.stp n;refine E B G p τ H1 _ _ f h1 λw y J Z g L h2=> ?_;have i:=f.stp g;refine⟨AAm rfl,λq hq=> ?_⟩;obtain⟨j,M⟩:=Qp (vs:= [v,w]) i hq;have o:=i.stp j;refine F B J p τ _ _ _ o h2 λu m N O l P R=> ?_;obtain⟨kvs,rfl,S⟩:=YC R;obtain⟨t,e,s,rfl,rfl,U⟩:=RC S;have rv:=((I.stp g f.va).stp j i.va).stp l o.va;obtain⟨c,rfl,tn⟩:=Kk rv;cases L;cases P with
 | dct W _ _=> refine⟨_,q,_,((t,e),s),rfl,rfl,W,⟨c,l.keep _ _ M AX,tn⟩, ?_⟩;rw[UC,ACB];exact k _ _ N O (((n.trans g).trans j).trans l) (.bl _) U
def gH {c:Nat}{k:Nat}(e:Room k X.A)(ha:SE X a ta)(hb:SE X b tb)(hd:SE X d td)(f:behindInMarks .In d=false:=by rfl)(g:starEach (a :: [b]) X.env=(false,eval a X.env)::starEach [b] X.env:=by rfl)(h:starEach [b] X.env=(false,eval b X.env)::starEach [] X.env:=by rfl):Rg X (.Compare (.Tuple [a,b] c p1) [.In] [d] pos) (Aw (Zz ta tb td)):=by obtain⟨p,i,j⟩:=ha;obtain⟨r,l,m⟩:=hb;obtain⟨s,n,o⟩:=hd;exact⟨_,fV (fM (by have:=e.un;omega) (L7 (B0 i (B0 l EZ h) g)) n) f,Pa (bj j m o)⟩
def bW {C:Nat}{k:Nat}(E:Room k X.A)(hd:SE X d td)(ha:SE X a ta)(hb:SE X b tb)(hs:dO (.Tuple [a,b] C p1))(F:starEach (a :: [b]) X.env=(false,eval a X.env)::starEach [b] X.env:=by rfl)(G:starEach [b] X.env=(false,eval b X.env)::starEach [] X.env:=by rfl):SE X (.Subscript d (.Tuple [a,b] C p1) pos) (W8 td ta tb):=by
 obtain⟨t1,I,J⟩:=ha;obtain⟨t2,K,L⟩:=hb;obtain⟨t3,M,N⟩:=hd;refine⟨_,bD (by have:=E.un;omega) M (L7 (B0 I (B0 K EZ G) F)) hs,λB T z τ H Q AQ D h k=> ?_⟩;refine N B T z τ H _ _ D h λu m O P p R S=> ?_;have j:=D.stp p;refine J B O z τ P _ _ j S λv x U H1 l W h1=> ?_;have f:=j.stp l;refine L B U z τ H1 _ _ f h1 λw y Y H2 g Z h2=> ?_;have n:=f.stp g;refine⟨AAm rfl,λq hq=> ?_⟩;obtain⟨o,nt⟩:=Qp (vs:= [v,w]) n hq;obtain⟨kvs,rfl,h5⟩:=YC h2;obtain⟨t,e,s,rfl,rfl,r⟩:=RC h5;have rv:=(W.stp g f.va).stp o n.va;have r3:=((R.stp l j.va).stp g f.va).stp o n.va;obtain⟨c,rfl,tn⟩:=Kk rv;cases Z;cases ev:A4 kvs ((t,e),s) with
 | none=>rw[ev] at r;exact r.elim
 | some i=>
   rw[ev] at r;cases r3 with
   | dct hh _ _=> exact⟨_,q,_,((t,e),s), .int i,rfl,rfl,hh,⟨c,AX,tn⟩,by rw[UC,ev];rfl,k _ _ Y _ (((p.trans l).trans g).trans o) (.int _) r⟩
def R5 (r:AA):AA:=λτ Q=>r τ λxs=>match xs with | [.dct kvs] =>Q (kvs.map λp=>S0 p.1)|_=>False
def Ys {x:Str}{p pos:Pos}{e:zr}{es:zy zr}{r:AA}{k:Nat}(v:Room k X.A)(w:Gl X x)(y:X.mg x=none)(hv:bootBuiltins x=some (.type "list"))(ha:SA X (e::es) r)(z:x≠"__name__" :=by decide)(hdb:(x==("__debug__" :Str))=false:=by decide)(he:starEach (e::es) X.env=(false,eval e X.env)::starEach es X.env:=by rfl)(hpl:(backTo pos (starEach es X.env)).any (·.1)=false:=by rfl):SF X (.Call (.Name x p) (e::es) [] pos) (R5 r):=by
 obtain⟨t,C,s⟩:=ha;refine⟨_,GV (SB v) w y hv C z hdb he hpl,λB T j τ H Q I m h k=>s B T j τ H _ _ m h λvs xs n H1 c D h1=> ?_⟩;have f:=m.stp c;split at h1 <;> first | exact h1.elim|skip
 rename_i kvs;cases D with
 | cons r t=>
   cases t;cases r with
   | dct o J L=>
     refine⟨_,_,rfl,o,λl cs hl u=> ?_⟩;have E:An X.K n (mt B j τ) H1 (cs.map V.ref) (kvs.map λp=>S0 p.1):=by
      clear h1 o;induction kvs generalizing cs with
      | nil=>cases u;exact .nil
      | cons q r ih=>
        cases u with
        | cons h t=>exact .cons (Yj h) (ih _ t)
     obtain⟨F,g,i,G⟩:=Oa f hl E;exact k l _ _ n _ (c.trans F) g (c.none hl) AX i G h1
end
def ND (m:zy (FK×Int))(k:FK)(v:Int):zy (FK×Int):=if (m.any λp=>decide (p.1=k)) then m.map λp=>if p.1=k then (p.1,v) else p else m ++ [(k,v)]
def bump (m:zy (FK×Int))(k:FK)(d:Int):zy (FK×Int):=ND m k ((A4 m k).getD 0+d)
def Ya (m:zy (FK×Int))(k:FK)(v:Int):DP (Bo m) k (.int v)=Bo (ND m k v):=by
 unfold DP ND;have e:((Bo m).any λa=>decide (a.1=k))=(m.any λp=>decide (p.1=k)):=by unfold Bo;rw[List.any_map];rfl
 rw[e];split
 .unfold Bo;rw[AAo,AAo];apply AA1;intro p _;by_cases h:p.1=k <;> simp[h]
 .simp [Bo]
def IW (m:zy (FK×Int))(k:FK)(v:Int):(ND m k v).length<=m.length+1:=by unfold ND;split <;> simp
def XZ (m:zy (FK×Int))(k:FK):(Dt (Bo m) k).getD (.int 0)= .int ((A4 m k).getD 0):=by rw[UC];cases A4 m k <;> rfl
def Nf:PV->zt (zt (Int×Int))
 | .non=>some none
 | .tup [.int t, .int d] =>some (some (t,d))
 | _=>none
def cj:PV->zt Int
 | .int i=>some i
 | _=>none
def U5:zy PV->zt ((Int×Int)×Int×zt (Int×Int))
 | [b,h,e] =>(Nf b).bind λo=>o.bind λp=>(cj h).bind λi=>(Nf e).map λq=>(p,i,q)
 | _=>none
def U6 (x:PV):zt ((Int×Int)×Int×zt (Int×Int)):=
 match x with
 | .tup xs=>U5 xs
 | .lst xs=>U5 xs
 | _=>none
def FM (m:zy (FK×Int))(b:Int×Int)(h:Int)(e:zt (Int×Int)):zy (FK×Int):=
 match e with
 | none=>bump m (b,1-h) 1
 | some e=>bump (bump m (b,1-h) 1) (e,0) (-1)
def Ed:zy PV->zy (FK×Int)->zt (zy (FK×Int))
 | [],m=>some m
 | x::r,m=>match U6 x with | some (b,h,e)=>Ed r (FM m b h e)|none=>none
def Yc:R2:=λx y H Q=>y= .non/\Q (.bl (!decide (x= .non))) H
def To (K:AAB):TS:=
 Tw (NL (cK (MW (Cm 2) (MW (WV (NE λi j=> .int (i-j)) (tC (.int 1)) (Cm 3)) cI))) (BL 5))
  (Tw (Yn K (Cm 1) (Cm 5) (WV (NE λi j=> .int (i+j)) (Tu K (Cm 1) (Cm 5) (tC (.int 0))) (tC (.int 1))))
    (jh (ZF (WV Yc (Cm 4) (tC .non)))
      (Tw (NL (cK (MW (Cm 4) (MW (tC (.int 0)) cI))) (BL 6))
        (Yn K (Cm 1) (Cm 6) (WV (NE λi j=> .int (i-j)) (Tu K (Cm 1) (Cm 6) (tC (.int 0))) (tC (.int 1))))) dA))
def gI (K:AAB):TS:=
 Tw (NL (c9 K) (BL 1)) (Tw (gK (ii K (Cm 0)) (M4 K 3 (CY (BL 2) (CY (BL 3) (CY (BL 4) J6)))) (To K)) (ZE (Cm 1)))
section
variable {K:AAB}{T M:zu->Prop}{H H':Hp}
def Fv.ext (va:Fv T M H)(ex:∀b o,H b=some o->H' b=some o):Mv K T M H T M H':=⟨va,λb o _ _ e=>ex b o e,λ_ t=>t,λ_ _ t=>t,λ_ _ m=>m⟩
def fj {v:V}{x:PV}{b:Int×Int}{h:Int}{e:zt (Int×Int)}(r:Bs K T M H v x)(m:U6 x=some (b,h,e)):∃a n f,v= .ref a/\(JZ K H a [n, .int h,f] \/Ee K H a [n, .int h,f])/\Bs K T M H n (.tup [.int b.1, .int b.2])/\((e=none/\f= .non)\/∃t d,e=some (t,d)/\Bs K T M H f (.tup [.int t, .int d])):=by
 have g:∀{f:V} {ep:PV},Bs K T M H f ep->Nf ep=some e->((e=none/\f= .non)\/∃t d,e=some (t,d)/\Bs K T M H f (.tup [.int t, .int d])):=by
  intro f ep y he;unfold Nf at he;split at he
  .cases he;cases y;exact .inl ⟨rfl,rfl⟩
  .cases he;exact .inr ⟨_,_,rfl,y⟩
  .cases he
 have j:∀{xs:zy PV},U5 xs=some (b,h,e)->∃ep,xs= [.tup [.int b.1, .int b.2], .int h,ep] /\Nf ep=some e:=λ{xs} hx=>by
  unfold U5 at hx;split at hx
  .rename_i bp hp ep;obtain⟨o,k,hx⟩:=ADW.mp hx;obtain⟨p,z,hx⟩:=ADW.mp hx;obtain⟨i,l,hx⟩:=ADW.mp hx;obtain⟨q,A,hx⟩:=ABa.mp hx;cases hx;subst z;unfold Nf at k;split at k
   .cases k
   .cases k;unfold cj at l;split at l
    .cases l;exact⟨ep,rfl,A⟩
    .cases l
   .cases k
  .cases hx
 cases x with
 | tup xs=>
   obtain⟨ep,rfl,he⟩:=j m;obtain⟨a,vs,rfl,hq,c⟩:=Di r;cases c with
   | cons s c=>
   cases c with
   | cons u c=>
   cases c with
   | cons w c=> cases c;cases u;exact⟨a,_,_,rfl, .inl hq,s,g w he⟩
 | lst xs=>
   obtain⟨ep,rfl,he⟩:=j m;obtain⟨a,vs,rfl,hq,_,_,c⟩:=Cc r;cases c with
   | cons s c=>
   cases c with
   | cons u c=>
   cases c with
   | cons w c=> cases c;cases u;exact⟨a,_,_,rfl, .inr (.inl (.inl hq)),s,g w he⟩
 | _=>cases m
def Tq {D:J1}{p:zu}{P s u w A B:zt V}{f:Hp}{m:zy (FK×Int)}{v:V}{b:Int×Int}{h:Int}{e:zt (Int×Int)}{x:PV}(va:Fv T M H)(ex:∀b o,H b=some o->f b=some o)(Q:H p=none)(hp:f p=some (.dN K (Bo m)))(hl:m.length+2<sizeLine)(r:Bs K T M f v x)(U:U6 x=some (b,h,e))(nx:∀s u w A B k,(∀b o,H b=some o->k b=some o)->k p=some (.dN K (Bo (FM m b h e)))->D.nx [P,some (.ref p),s,u,w,A,B] k):M4 K 3 (CY (BL 2) (CY (BL 3) (CY (BL 4) J6))) v [P,some (.ref p),s,u,w,A,B] f λC k=>To K D C k:=by
 obtain⟨a,E,ve,rfl,hq,W,F⟩:=fj r U;refine⟨a,_,rfl,hq,rfl,_,_,rfl,_,_,rfl,_,_,rfl,rfl, ?_⟩;have Y:Fv T M H:=va;refine⟨E,rfl,_,rfl,_,_,rfl,rfl,AAm rfl,λq R=> ?_⟩;have g:∀b o,f b=some o->upd f q (.tup [E, .int (1-h)]) b=some o:=λb o e=>by rw[AZ (Af e R)];exact e
 have G:upd f q (.tup [E, .int (1-h)]) p=some (.dN K (Bo m)):=g _ _ hp;have qp:q≠p:=λz=>by subst z;rw[R] at hp;cases hp
 obtain⟨c,rfl,tn⟩:=Kk W;have I:W4 K (upd f q (.tup [.ref c, .int (1-h)])) c b.1 b.2:=tn.elim (λz=> .inl (g _ _ z)) .inr;have S:Ey K (upd f q (.tup [.ref c, .int (1-h)])) q (b,1-h):=⟨c,AX,I⟩;refine⟨_,rfl,p,_,rfl,G,_,rfl,q,_,(b,1-h),rfl,G,S,_,_,XZ m (b,1-h),rfl,_,rfl,_,rfl,p,q,_,(b,1-h),rfl,rfl,G,S,by rw[Bo,AAJ];omega, ?_⟩;rw[Ya];have Z:Bo (ND m (b,1-h) ((A4 m (b,1-h)).getD 0+1))=Bo (bump m (b,1-h) 1):=rfl;rw[Z];have hb:∀o,f p=some o->True:=λ_ _=>trivial;have ext2:∀(X:HO) b o,H b=some o->upd (upd f q (.tup [.ref c, .int (1-h)])) p X b=some o:=λX b o e=>by rw[AZ (Af e Q)];exact g _ _ (ex _ _ e)
 have bl:(bump m (b,1-h) 1).length<=m.length+1:=IW _ _ _;rcases F with⟨rfl,rfl⟩|⟨t,d,rfl,F⟩
 .refine ⟨_,rfl,rfl,false,rfl, ?_⟩;exact nx _ _ _ _ _ _ (ext2 _) AX
 .obtain ⟨l,rfl,J⟩:=Kk F;refine⟨_,rfl,rfl,true,rfl, ?_⟩;refine⟨_,rfl,AAm rfl,λi L=> ?_⟩;have q2p:p≠i:=λz=>by subst z;rw[AX] at L;cases L
  have j:∀(a:zu) o,upd (upd f q (.tup [.ref c, .int (1-h)])) p (.dN K (Bo (bump m (b,1-h) 1))) a=some o->upd (upd (upd f q (.tup [.ref c, .int (1-h)])) p (.dN K (Bo (bump m (b,1-h) 1)))) i (.tup [.ref l, .int 0]) a=some o:=λa o e=>by rw[AZ (Af e L)];exact e
  have N:=j p _ AX;have O:W4 K (upd (upd (upd f q (.tup [.ref c, .int (1-h)])) p (.dN K (Bo (bump m (b,1-h) 1)))) i (.tup [.ref l, .int 0])) l t d:=J.elim (λz=> .inl (j _ _ (by
   rw[AZ (λy=>by subst y;rw[hp] at z;cases z)];exact g _ _ z))) .inr
  have n:Ey K (upd (upd (upd f q (.tup [.ref c, .int (1-h)])) p (.dN K (Bo (bump m (b,1-h) 1)))) i (.tup [.ref l, .int 0])) i ((t,d),0):=⟨l,AX,O⟩;refine⟨_,rfl,p,_,rfl,N,_,rfl,i,_,((t,d),0),rfl,N,n,_,_,XZ _ ((t,d),0),rfl,_,rfl,_,rfl,p,i,_,((t,d),0),rfl,rfl,N,n,by rw[Bo,AAJ];omega, ?_⟩;rw[Ya];refine nx _ _ _ _ _ _ (λa o e=> ?_) AX;rw[AZ (Af e Q)];exact j _ _ (ext2 _ _ _ e)
def Jn {m:zy (FK×Int)}{b:Int×Int}{h:Int}{e:zt (Int×Int)}:(FM m b h e).length<=m.length+2:=by
 unfold FM;cases e with
 | none=>have:=IW m (b,1-h) ((A4 m (b,1-h)).getD 0+1);unfold bump;simp only;omega
 | some e=> have h1:=IW m (b,1-h) ((A4 m (b,1-h)).getD 0+1);have h2:=IW (bump m (b,1-h) 1) (e,0) ((A4 (bump m (b,1-h) 1) (e,0)).getD 0 + -1);unfold bump at *;simp only;omega
theorem U1:∀{vs:zy V} {ys:zy PV},An K T M H vs ys->∀{i:Nat} {x:V},vs[i]? =some x->∃y,ys[i]? =some y/\Bs K T M H x y
 | _,_, .nil,i,x,ev=>by simp at ev
 | _,_, .cons h t,0,x,ev=>by simp at ev;subst ev;exact⟨_,rfl,h⟩
 | _,_, .cons h t,i+1,x,ev=>by simpa using U1 t (i:=i) (by simpa using ev)
def MU {D:J1}{J:It}{s:V}{p:zu}{ys:zy PV}{a:zy (FK×Int)}{H1:Hp}(va:Fv T M H)(C:H p=none)(go:∀H',(∀b o,H b=some o->H' b=some o)->∃vs,An K T M H' vs ys/\(∀i,i<ys.length->J.go i H')/\(∀i,ys.length<=i->J.stop i H')/\∀i x d,J.yld i H' x d->d=H'/\vs[i]? =some x)(E:∀b o,H b=some o->H1 b=some o)(hp:H1 p=some (.dN K (Bo [])))(hl:2*ys.length+2<sizeLine)(hs:Ed ys [] =some a)(t:∀f g j k l H',(∀b o,H b=some o->H' b=some o)->H' p=some (.dN K (Bo a))->D.nx [some s,some (.ref p),f,g,j,k,l] H'):∃W:Nat->Nat->L2.St->Hp->Prop,(∃m,W 0 m [some s,some (.ref p),none,none,none,none,none] H1)/\∀i m n H,W i m n H-> (J.stop i H/\D.nx n H)\/(J.go i H/\∃N:L2.St->Hp->Prop,(∀σ' H',N σ' H'->∃z,z<m/\W (i+1) z σ' H')/\∀x H',J.yld i H x H'->M4 K 3 (CY (BL 2) (CY (BL 3) (CY (BL 4) J6))) x n H' λu d=>To K {D with nx:=N,ct:=N,bk:=D.nx} u d):=by
 let W:Nat->Nat->L2.St->Hp->Prop:=λi m n H'=>i+m=ys.length/\∃f g j k l r,n= [some s,some (.ref p),f,g,j,k,l] /\(∀b o,H b=some o->H' b=some o)/\H' p=some (.dN K (Bo r))/\Ed (ys.drop i) r=some a/\r.length<=2*i;refine⟨W,⟨ys.length,ACE _,_,_,_,_,_, [],rfl,E,hp,hs,AAq _⟩, ?_⟩;rintro i m n H' ⟨hi,f,g,j,k,l,r,rfl,ex,A,c,S⟩;obtain⟨vs,F,G,I,L⟩:=go H' ex;cases m with
 | zero=> left;refine⟨I i (by omega),t _ _ _ _ _ _ ex ?_⟩;rw[ADJ (by omega)] at c;cases c;exact A
 | succ m=>
   right;refine⟨G i (by omega),λσ' H'=>W (i+1) m σ' H',λσ' H' h=>⟨m,by omega,h⟩,λx d O=> ?_⟩;obtain⟨rfl,ev⟩:=L i x d O;have hy:ys[i]? =some ys[i] :=AAT (by omega);obtain⟨y,B,P⟩:=U1 F ev;rw[AB6 (by omega:i<ys.length)] at c;have v:ys[i] =y:=by rw[hy] at B;exact AAV B
   rw[v] at c;unfold Ed at c;split at c
   .rename_i b h e Q;refine Tq (H:=H) (m:=r) (b:=b) (h:=h) (e:=e) (x:=y) va ex C A (by omega) P Q λf g j k l U w R=>⟨by omega,f,g,j,k,l,_,rfl,w,R,c, ?_⟩
    .have:=Jn (m:=r) (b:=b) (h:=h) (e:=e);omega
   .cases c
def Tp {D:J1}{l:V}{x:PV}{ys:zy PV}{f:zy (FK×Int)}(va:Fv T M H)(r:Bs K T M H l x)(hx:x= .tup ys\/x= .lst ys)(hl:2*ys.length+2<sizeLine)(hs:Ed ys [] =some f)(m:∀p H',(∀b o,H b=some o->H' b=some o)->H p=none->H' p=some (.dN K (Bo f))->D.rt (.ref p) H'):gI K D [some l,none,none,none,none,none,none] H:=by
 intro p hp;have k:∀b o,H b=some o->upd H p (.dN K []) b=some o:=λb o e=>by rw[AZ (Af e hp)];exact e
 have last:∀n s t u v H',(∀b o,H b=some o->H' b=some o)->H' p=some (.dN K (Bo f))->(ZE (Cm 1)) D [some l,some (.ref p),n,s,t,u,v] H':=λn s t u v H' ex h=>⟨_,rfl,m p H' ex hp h⟩;rcases hx with rfl|rfl
 .obtain ⟨a,vs,rfl,hq,w⟩:=Di (r.mv (va.ext k));refine⟨_,rfl,a,rfl, .inr ⟨⟨vs,hq⟩, ?_⟩⟩;refine MU (D:={D with nx:=(ZE (Cm 1)) D}) va hp (λH' ex=> ?_) k AX hl hs last;obtain⟨y,c,e,g,d⟩:=Di (r.mv (va.ext ex));cases e;refine⟨c,d,λi hi=>⟨c,c[i]'(by rw[d.length];exact hi),g,AAT _⟩,λi hi=>⟨c,g,by rw[d.length];exact hi⟩,λi x z j=>⟨j.1,j.2 c g⟩⟩
 .obtain ⟨a,vs,rfl,hq,_,_,w⟩:=Cc (r.mv (va.ext k));refine⟨_,rfl,a,rfl, .inl ⟨⟨vs, .inl (.inl hq)⟩, ?_⟩⟩;refine MU (D:={D with nx:=(ZE (Cm 1)) D}) va hp (λH' ex=> ?_) k AX hl hs last;obtain⟨y,c,e,g,_,_,d⟩:=Cc (r.mv (va.ext ex));cases e;refine⟨c,d,λi hi=>⟨c,c[i]'(by rw[d.length];exact hi), .inl (.inl g),AAT _⟩,λi hi=>⟨c, .inl (.inl g),by rw[d.length];exact hi⟩,λi x z j=>⟨j.1,j.2 c (.inl (.inl g))⟩⟩
end
def GO:AF:=λxs Q=>match xs with | [x] =>Mb x λys=>2*ys.length+2<sizeLine/\∃m,Ed ys [] =some m/\Q (.dct m)|_=>False
def Rv {xs:zy PV}{Q:PV->Prop}(h:GO xs Q):∃x ys m,xs= [x] /\(x= .tup ys\/x= .lst ys)/\2*ys.length+2<sizeLine/\Ed ys [] =some m/\Q (.dct m):=by
 unfold GO at h;split at h
 .obtain ⟨ys,hx,hz,m,a,q⟩:=HM h;exact⟨_,ys,m,rfl,hx,hz,a,q⟩
 .exact h.elim
section
variable {K:AAB}{T M:zu->Prop}{H H':Hp}
def bU {k:Nat}{A:zk}(a:Room k A):A.units+2<cLine:=by have:=a.un;omega
def VG (va:Fv T M H)(ex:∀b o,H b=some o->H' b=some o):Ct T H T H' where
 keep:=λb u _ e=>ex b u e
 sub:=λ_ t=>t
 new:=λ_ t=> .inl t
 tp:=λa t=>let ⟨d,x,e,q⟩:=va.tp a t;⟨d,x,ex _ _ e,q⟩
def bT {p:zu}{m:zy (FK×Int)}(va:Fv T M H)(a:H p=none)(hp:H' p=some (.dN K (Bo m))):Bs K T M H' (.ref p) (.dct m):=by
 refine .dct hp (λz=> ?_) (λz=> ?_)
 .obtain ⟨o,e,_⟩:=(va.tp p z).mut;rw[a] at e;cases e
 .obtain ⟨o,e,_⟩:=va.mu p z;rw[a] at e;cases e
end
end PL
namespace L2
open PySem PySem.Spec PyProof.Rows
def SM (own:Nat)(a:St):St:=List.replicate own none++a.drop own
def Vm {own:Nat}{a:St}{j:Nat}{v:V}(h:(SM own a)[j]? =some (some v)):own<=j/\a[j]? =some (some v):=by
 unfold SM at h;by_cases hj:j<own
 .rw [ABB (by simpa using hj),ABI,AAE hj] at h;cases h
 .have Wh:own<=j:=by omega
  rw[AA6 (by simpa using Wh),ABJ,ACq] at h;rw[show own+(j-own)=j by omega] at h;exact⟨Wh,h⟩
section
variable {X:Cx}{tg elt iter tg2 iter2:zr}{ifs ifs2:zy zr}{scope:Scope}{pos:Pos}{wi wi2:TI}{own own2:Nat}{ix:zy Nat}{N:zy Str}{g g2:TG}{tt tt2:TT}{te:TE}
structure Zm (X:Cx) (tg elt:Expr) (ifs:List Expr) (tg2 iter2:Expr) (ifs2:List Expr) (scope:Scope) (own:Nat) (ix:List Nat) (N:List Str) (g:TG) (tt:TT) (wi2:TI) (own2:Nat) (g2:TG) (tt2:TT) (te:TE):Prop where
 kind:scope.kind= .function
 nocell:∀y∈scope.names,y.2≠ .cell
 names:∀y∈scope.names,y.2= .local->scope.names.lookup y.1=some .local
 frees:∀y∈scope.names,y.2= .free->X.env.scope.names.lookup y.1=some .cell
 ins:P9 X (relabel scope X.env) own ix N
 keep:Gq own g
 keep2:Gq own2 g2
 le2:own2<=own
 tgt:∀cl C s H ex pn,PG (blk X (relabel scope X.env) N cl C s H ex pn) tg g
 tst:∀cl C s H ex pn,ZX (blk X (relabel scope X.env) N cl C s H ex pn) ifs tt
 itr2:∀cl C s H ex pn,PI (blk X (relabel scope X.env) N cl C s H ex pn) tg2 iter2 wi2
 set2:∀cl C s H ex pn x,foldedSetIterable iter2 (blk X (relabel scope X.env) N cl C s H ex pn).env x=pure x
 tgt2:∀cl C s H ex pn,PG (blk X (relabel scope X.env) N cl C s H ex pn) tg2 g2
 tst2:∀cl C s H ex pn,ZX (blk X (relabel scope X.env) N cl C s H ex pn) ifs2 tt2
 val:∀cl C s H ex pn,PE (blk X (relabel scope X.env) N cl C s H ex pn) elt te
end
end L2
namespace PL
open PySem PySem.Spec PyProof.Rows L2
def SL (own:Nat)(τ:Ay):Ay:=List.replicate own none++τ.drop own
def SR.noOwn {K:AAB}{B:CZ}{T:zu->Prop}{H:Hp}{a:L2.St}{τ:Ay}(s:SR K B T H a τ)(c:∀b,¬CW a τ b){i:Nat}{xs:zy PV}:τ[i]? ≠some (some (.own xs)):=λe=>by obtain⟨p,vs,d,_⟩:=s.own i xs e;exact c p ⟨i,xs,e,d⟩
def II {own:Nat}{τ:Ay}{j:Nat}{x:AV}(h:(SL own τ)[j]? =some (some x)):own<=j/\τ[j]? =some (some x):=by
 unfold SL at h;by_cases hj:j<own
 .rw [ABB (by simpa using hj),ABI,AAE hj] at h;cases h
 .have Wh:own<=j:=by omega
  rw[AA6 (by simpa using Wh),ABJ,ACq] at h;rw[show own+(j-own)=j by omega] at h;exact⟨Wh,h⟩
def SR.cut {K:AAB}{B:CZ}{T:zu->Prop}{H:Hp}{c:L2.St}{τ:Ay}{own:Nat}(s:SR K B T H c τ)(d:∀b,¬CW c τ b):SR K B T H (SM own c) (SL own τ)/\∀b,¬CW (SM own c) (SL own τ) b:=by have g:∀b,¬CW (SM own c) (SL own τ) b:=λb ⟨i,xs,h,f⟩=>d b ⟨i,xs,(II h).2,(Vm f).2⟩;refine⟨⟨by simp[SM,SL,s.len],λi x e=> ?_,λi xs e=>absurd (II e).2 (s.noOwn d),λi j xs ys p e=>absurd (II e).2 (s.noOwn d),s.tp,s.bm,s.bt,s.st⟩,g⟩;obtain⟨Wh,f⟩:=II e;obtain⟨v,hv,r⟩:=s.val i x f;refine⟨v, ?_,r.mv (.anti s.va λa z=>z.elim .inl λz=>absurd z (g a))⟩;unfold SM;rw[AA6 (by simpa using Wh),ABJ,ACq,show own+(i-own)=i by omega];exact hv
structure QD (D:Addr) (T:Addr->Prop) (H:Hp) (T':Addr->Prop) (H':Hp):Prop where
 keep:∀b o,¬T b->b≠D->H b=some o->H' b=some o
 sub:∀b,T b->T' b
 new:∀b,T' b->T b\/H b=none
 tp:∀b,H b≠none->H' b≠none
def QD.refl {D:zu}{T:zu->Prop}{H:Hp}:QD D T H T H:=⟨λ_ _ _ _ e=>e,λ_ e=>e,λ_ e=> .inl e,λ_ e=>e⟩
def QD.upd {D:zu}{T:zu->Prop}{H:Hp}{o:HO}:QD D T H T (upd H D o):=⟨λb a _ n e=>by rw[AZ n];exact e,λ_ e=>e,λ_ e=> .inl e,λb e=>by
 by_cases h:b=D
 .subst h;rw[AX];exact λz=>nomatch z
 .rw [AZ h];exact e⟩
def QD.trans {D:zu}{T c d:zu->Prop}{H H1 f:Hp}(a:QD D T H c H1)(b:QD D c H1 d f):QD D T H d f where
 keep:=λx o t n e=>b.keep x o (λz=>(a.new x z).elim t λz=>by rw[e] at z;cases z) n (a.keep x o t n e)
 sub:=λx t=>b.sub x (a.sub x t)
 new:=λx t=>(b.new x t).elim (λz=>a.new x z) λz=> .inr (by
  cases e:H x with
  | none=>rfl
  | some o=>exact absurd z (a.tp x (by rw[e];exact λz=>nomatch z)))
 tp:=λx e=>b.tp x (a.tp x e)
def sw (K:AAB)(s:zq)(a:AI):TI:=λf H R=>∃(B:CZ) (T:zu->Prop) (τ:Ay) (g:zy PV->Prop),SR K B T H f τ/\a τ g/\
 ∀J xs d b,Ct T H d b->(∀M2 e c,Mv K d (mt B f τ) b e M2 c->Fv e M2 c->(s=true\/UH d b c)->QA K M2 J xs e c)->g xs->R J b
section
variable {X:Cx}
def SI.of {b iter:zr}{s:zq}{a:AI}(h:SI X b iter s a):PI X b iter (sw X.K s a):=by obtain⟨t,p,e⟩:=h;intro f g d H R I hw;obtain⟨B,T,τ,i,j,h,c⟩:=hw;exact p f g d H R I (e B T d τ H R i j h c)
structure kT (X:Cx) (tg elt:Expr) (ifs:List Expr) (tg2 iter2:Expr) (ifs2:List Expr) (scope:Scope) (own:Nat) (ix:List Nat) (N:List Str) (g:AG) (t:AT) (ai2:AI) (own2:Nat) (g2:AG) (t2:AT) (te:AE):Prop where
 ex:∃g' t' wi2 g2' t2' te',Zm X tg elt ifs tg2 iter2 ifs2 scope own ix N g' t' wi2 own2 g2' t2' te'/\J4 X.K g' g/\Mu X.K t' t/\dU X.K true wi2 ai2/\J4 X.K g2' g2/\Mu X.K t2' t2/\Fc X.K te' te
end
end PL
namespace PL
open PySem L2 PyProof.Rows
class qM (n:Nat) (τ:Ay) (τ':outParam Ay):Prop where
 e:SL n τ=τ'
end PL
namespace L2
open PySem PySem.Spec PyProof.Rows
def rH {P:zp}{w:zm}{h:zl}{d:zu}{o:Obj}{es:Array DictEntry}{ep:Nat}{vs:zy (CK×zx)}(g:h.get? d=some o)(e:o.data= .dict es ep)(x:h.DictOf (A0 P w) d vs):h.DictAt (A0 P w) d vs ep:=by obtain⟨i,b,f,g',c,a,r⟩:=x;rw[g] at g';cases g';rw[e] at a;cases a;exact⟨o,es,g,c,e,r⟩
def Re (H:Hp)(d:zu)(n ep:Nat)(kvs:zy (CK×V)):Prop:=∃o es,H d=some (.frz o (.dK kvs))/\o.data= .dict es ep/\kvs.length=n
def Itm (d:zu)(n ep:Nat):It:=
 ⟨λi H=>∃kvs k x,Re H d n ep kvs/\kvs[i]? =some (k,x),
  λi H v a=>∃T k x,v= .ref T/\H T=none/\a=upd H T (.tup [kV k,x])/\∀kvs,Re H d n ep kvs->kvs[i]? =some (k,x),
  λi H=>∃kvs,Re H d n ep kvs/\kvs.length<=i⟩
def Re.one {H:Hp}{d:zu}{n ep:Nat}{a b:zy (CK×V)}(x:Re H d n ep a)(y:Re H d n ep b):a=b:=by obtain⟨o,es,e,_⟩:=x;obtain⟨g,f,c,_⟩:=y;rw[e] at c;cases c;rfl
def Re.at {X:Cx}{b:zy (zu×Obj)}{c:St}{H:Hp}{s:zw}{d:zu}{n ep:Nat}{kvs:zy (CK×V)}(I:Inv X b c H s)(x:Re H d n ep kvs):∃vs,KV kvs vs/\s.heap.DictAt (A0 X.prog X.w) d vs ep:=by obtain⟨o,es,e,f,_⟩:=x;obtain⟨g,z,hd,vs,a,h⟩:=(show Bn X.prog X.w H s.heap d (.frz o (.dK kvs)) from I.hok d _ e);exact⟨vs,a,rH g f h⟩
def eQ {P:zp}{w:zm}{k:CK}{u:zx}(h:(A0 P w).is k u=true):RelV (kV k) u:=by
 rcases BP h with⟨i,t,rfl,rfl⟩|⟨x,t,rfl,rfl⟩
 .exact ⟨_,rfl⟩
 .exact ⟨_,rfl⟩
def eZ {kvs:zy (CK×V)}{vs:zy (CK×zx)}(r:KV kvs vs):∀{i:Nat} {k:CK} {x:V},kvs[i]? =some (k,x)->∃u,vs[i]? =some (k,u)/\RelV x u:=by
 unfold KV at r;induction r with
 | nil=>intro i k x h;simp at h
 | @cons p q c qs h t ih=>
   intro i k x e;cases i with
   | zero=> simp at e;subst e;obtain⟨d,a⟩:=q;obtain⟨h1,h2⟩:=h;exact⟨a,by simp at h1;simp[h1],h2⟩
   | succ i=> obtain⟨u,hu,b⟩:=ih (i:=i) (k:=k) (x:=x) (by simpa using e);exact⟨u,by simpa using hu,b⟩
def M3:entryFor table "dict_itemiterator.__iter__" =some Builtin.«dict_keyiterator.__iter__»:=
 entryFor_alias (id':="dict_keyiterator.__iter__") (by kernel_rfl) (by first | rfl|decide +kernel|(unfold String.splitOn;simp +decide [String.splitOnAux])) (by decide +kernel) (by kernel_rfl)
def M7 {prog:zp}{w:zm}{A:zk}{E:zx->zw->Prop}{s:zw}{it d:zu}{k n ep:Nat}{ok b:zx}{Q:zx->zw->Prop}(he:IsItemIter s.heap it d k n ep ok b)(h:Q (.ref it) s):wpAny (model prog w) A (pyIter (.ref it)) Q E s:=by have a:s.TypeIs (.ref it) "dict_itemiterator" :=⟨_,he,rfl⟩;refine wpAny_pyIter_slot a ADp (AAv ADp a M3 ?_ (F.args_dict_itemiterator_iter_1 _));show wpAny _ _ (ret (.ref it)) _ _ s;exact AAD ⟨_,rfl,"dict_itemiterator",_,a,F.slot_dict_itemiterator_next.lookup,h⟩
def T9 {P:zp}{w:zm}{K:AAB}{es:zy zr}{G:Nat}{j:Pos}{it d:zu}{n ep:Nat}:J5 P w K (.Tuple es G j) (Itm d n ep) [it] it (λk h=>∃ok c,IsItemIter h it d k n ep ok c) where
 mem:=by simp
 obj:=λk h st p hp=>by
  obtain⟨ok,c,he⟩:=st;have b:p=it:=by simpa using hp
  subst b;exact⟨_,he,λv z=>nomatch z⟩
 keep:=λk h h' st l=>by obtain⟨ok,c,he⟩:=st;exact⟨ok,c,l it (by simp) _ he⟩
 item:=by
  intro X m hw r hc k B s C H E I i st t;subst m hw r;obtain⟨ok,c,he⟩:=st;obtain⟨kvs,y,x,hq,hx⟩:=t;obtain⟨vs,a,A⟩:=hq.at I;have hl:vs.length=n:=by obtain⟨_,_,_,_,e⟩:=hq;rw[<-e];exact a.length.symm
  subst hl;obtain⟨u,hu,J⟩:=eZ a hx;have f:it<s.heap.objs.size:=AAG he;refine wpAny_pyNext_items_item he A hu λkey h1 L M N U O=> ?_;refine⟨_,rfl,wpAny_letOwnedTupleGo_items (s:={s with heap:=h1}) M λh2 Q R=> ?_⟩;have g:∀p o,p≠it->h1.get? p=some o->h2.get? p=some o:=λp o q z=>R.extBut _ _ q z;have D:∀p∈ [it],p<s.heap.objs.size:=λp hp=>by
   have b:p=it:=by simpa using hp
   rw[b];exact f
  have l:∀p o,p ∉ [it] ->s.heap.get? p=some o->h2.get? p=some o:=λp o hp z=>by
   have b:p≠it:=by simpa using hp
   exact g p o b (O p o b z)
  have S:Inv X B C (upd H s.heap.objs.size (.tup [kV y,x])) {s with heap:=h2,toks:=s.toks}:=I.turnedN i D l (AAI _)
   ⟨(by show 2<=sizeLine;decide), [key,u], .cons (eQ L) (.cons J .nil),⟨_,g _ _ (AAx f) N,rfl,_,rfl⟩⟩
  refine⟨.ref s.heap.objs.size,upd H s.heap.objs.size (.tup [kV y,x]),S,rfl,⟨_,y,x,rfl,I.fresh,rfl,λF h'=> ?_⟩,⟨key,u,Q⟩,λp hp=> ?_⟩
  .rw [h'.one hq];exact hx
  .rw [AZ (AAM (D p hp))];exact(i p hp).1
 done:=by
  intro X m hw r hc k B s C H E I i st t;subst m hw r;obtain⟨ok,c,he⟩:=st;obtain⟨kvs,hq,hx⟩:=t;obtain⟨vs,a,A⟩:=hq.at I;have hl:vs.length=n:=by obtain⟨_,_,_,_,e⟩:=hq;rw[<-e];exact a.length.symm
  have W:=a.length;subst hl;refine wpAny_pyNext_items_end (I.ok.hd hc) he A (by rw[AC2];omega) λh' T=>⟨rfl, ?_⟩;exact I.turnedL (t':=s.toks) i λp o hp z=>by
   have b:p≠it:=by simpa using hp
   exact T p o b z
 self:=λ_ _ _ _ _ st h=>by obtain⟨ok,c,he⟩:=st;exact M7 he h
section
variable {X:Cx}
def RF {e:zr}{z:TE}{apos f j:Pos}{es:zy zr}{C:Nat}(he:PE X e z)(hb:attributeBase e "items" X.env (eval e X.env)=eval e X.env)(D:((backTo f (starEach [] X.env)).all (λx=> !x.1)&&(backToKw f (keywordEach [] X.env)).all (λx=>x.1.isSome)&&decide (([] :zy zr).length+([] :zy Keyword).length+(if ([] :zy Keyword).isEmpty then 0 else 1)<30))=true)(hl:(apos.endLine==f.line)=true)(E:backTo f (starEach [] X.env)= []):PI X (.Tuple es C j) (.Call (.Attribute e "items" apos) [] [] f) (λm H R=>z m H λv H1=>∃d n ep kvs,v= .ref d/\Re H1 d n ep kvs/\R (Itm d n ep) H1):=by
 intro G s m H R I h;refine ADR hb D hl ADS ADq PySem.F.type_dict_items (BJ (he G s m H _ I h) λu i ⟨x,H1,k,J,d,n,ep,kvs,ex,t,K⟩=> ?_);subst ex;obtain rfl:u=Value.ref d:=J;obtain⟨vs,y,A⟩:=t.at k;have L:vs.length=n:=by obtain⟨_,_,_,_,e⟩:=t;rw[<-e];exact y.length.symm
 obtain⟨o,M,N,U,_⟩:=id t;obtain⟨O,P,Q⟩:=Xn k (.inl ⟨kvs, .inr ⟨o,N⟩⟩);have B:i.heap.DictOf (A0 X.prog X.w) d vs:=let ⟨o,es,a,b,c,r⟩:=A;⟨o,es,ep,a,b,c,r⟩;refine⟨O,P, ?_⟩;rw[E];refine ACU rfl (PySem.evalArgs_none ?_);refine ACo ADq B.typeIs PySem.F.entry_dict_items (PySem.F.args_dict_items_1 _) (meets_dict_items (A0 X.prog X.w) d Q) ⟨⟨vs,B⟩, ?_⟩;have S:(i.heap.push {cls:= .type "dict_items",data:= .fields #[.ref d] }).DictAt (A0 X.prog X.w) d vs ep:=by obtain⟨o,es,g,r⟩:=A;exact⟨o,es,AAH _ g,r⟩
 refine wpAny_pyIter_items (s:={i with heap:=i.heap.push {cls:= .type "dict_items",data:= .fields #[.ref d] }}) (knd:=A0 X.prog X.w) (d:=d) ?_ S ?_
 .exact ⟨_,AAP _ rfl,rfl,rfl⟩
 subst L;have l:(i.heap.push {cls:= .type "dict_items",data:= .fields #[.ref d] }).objs.size=i.heap.objs.size+1:=ABA ..;refine⟨_, [i.heap.objs.size+1],_,_,H1,congrArg Value.ref l,k.kept (t':=i.toks) λb W q=>AAH _ (AAH _ q),T9,⟨.none, .none, ?_⟩,λp hp=> ?_,K⟩
 .have:=AAP (i.heap.push {cls:= .type "dict_items",data:= .fields #[.ref d] }) (o:={cls:= .type "dict_itemiterator",data:= .fields #[Value.none,Value.bool false,Value.ref d,Value.int 0 0,Value.int (vs.length:Int) 0,Value.int (ep:Int) 0,Value.none,Value.none] }) rfl;rw[l] at this;exact this
 .have T:p=i.heap.objs.size+1:=by simpa using hp
  subst T;exact k.fpOk (Nat.le_add_right _ _) (k.hok.fresh (Nat.le_add_right _ _))
end
end L2
namespace PL
open PySem PySem.Spec PyProof.Rows L2
section
variable {X:Cx}
def gJ (a:zy (TE×TE)):TE:=λd H Q=>∀p,H p=none->Tv a d (upd H p (.dK [])) λe b=>b p=some (.dK [])/\∃kvs:zy (CK×V),e=kvs.map (λc=>(kV c.1,c.2))/\kvs.length<=15/\∀o es ep,o.data= .dict es ep->Q (.ref p) (upd b p (.frz o (.dK (Lx [] kvs))))
def YK {b:Pos}{keys:zy (zt zr)}{values:zy zr}{d:zy (TE×TE)}(h:jt X b keys values d)(k:keys.all (·.isSome)=true)(hl:keys.length=values.length)(l:keys≠ [])(m:keys.length<=15):PE X (.Dict keys values b) (gJ d):=by
 intro n s p H Q I q;have r:=I.hok.fresh (AAI s.heap.objs.size);have t:=I.laid (a:=s.heap.objs.size) (o:= .dK []) (h':=s.heap.push {cls:= .type "dict",data:= .dict #[] }) (t':=s.toks) (λ_ _ q=>AAH _ q) (AAI _) (QP s.heap I.big);refine wpAny_Dict_walk (knd:=A0 X.prog X.w) k hl l m (BJ (h n _ p _ _ t (q _ r)) λD E ⟨F,G,i,g,e,kvs,ep,J,u⟩=> ?_);subst ep;obtain⟨v,c,x⟩:=Lf (P:=X.prog) (w:=X.w) g;obtain⟨z,hd,y,A,B⟩:=UX i.hok e;cases A;have hz:(Lx [] kvs).length<=sizeLine:=by have h1:=Gs kvs [];rw[ACn] at h1;rw[sizeLine_eq];omega
 refine⟨v,c,B,λh' f hs=> ?_⟩;obtain⟨o,es,ep,j,C⟩:=id f;refine⟨.ref s.heap.objs.size,_, ?_,rfl,u o es ep C.2.1⟩;exact GQ i (by rw[e];exact True.intro) hs ⟨o,j⟩ ⟨j,OJ hz hd (x.merge .nil) f⟩
def cF {T c:zu->Prop}{H f:Hp}{d:zu}{o:HO}(s:Ct T H c f)(hd:H d=none)(g:¬c d):Ct T H c (upd f d o) where
 keep b q t e:=by
  have n:b≠d:=λz=>by subst z;rw[hd] at e;cases e
  rw[AZ n];exact s.keep b q t e
 sub:=s.sub
 new:=s.new
 tp a t:=by
  have n:a≠d:=λz=>by subst z;exact g t
  obtain⟨x,y,e,r⟩:=s.tp a t;exact⟨x,y,by rw[AZ n];exact e,r⟩
def W6 (a b:AE):AE:=λτ Q=>a τ λx=>b τ λy=>match x,y with | .int i, .int j=>Q (.dk [(i,j)])|_,_=>False
def fz {a b:zr}{u w:AE}{p:Pos}(ha:SE X a u)(hb:SE X b w):SE X (.Dict [some a] [b] p) (W6 u w):=by
 obtain⟨t,E,s⟩:=ha;obtain⟨t',h,F⟩:=hb;refine⟨_,YK (YX E h bK) rfl rfl (List.cons_ne_nil _ _) (AAm rfl),λB T y τ H Q O k q G=> ?_⟩;intro d hd;have c:Ct T H T (upd H d (.dK [])):=Ct.lay k.tp hd;have f:=k.stp c;have A:¬T d:=λz=>by obtain⟨o,e,_⟩:=(k.tp d z).mut;rw[hd] at e;cases e
 refine s B T y τ _ _ _ f q λv x I H1 l J K=>F B I y τ _ _ _ (f.stp l) K λP R C L D M m=> ?_;split at m <;> first | exact m.elim|skip
 rename_i i j;cases J;cases M;have n:L d=some (.dK []):=(l.trans D).keep _ _ A AX;have g:=l.trans D;have r:¬C d:=λz=>by
  rcases g.new d z with z|z
  .exact A z
  .rw [AX] at z;cases z
 refine⟨n, [(.inl i, .int j)],rfl,AAm rfl,λo es ep N=> ?_⟩;exact G _ _ C _ (cF (c.trans g) hd r) (.dk (kvs:= [(i,j)]) AX N) m
end
end PL
namespace L2
open PySem PySem.Spec PyProof.Rows
def OI (J:It)(D:zu)(σ0:St)(g:TG)(f:TT)(h j:TE)(Q:Hp->Prop)(W:Nat->Nat->Hp->Prop):Prop:=
 ∀i m H,W i m H->(J.stop i H/\Q H)\/(J.go i H/\∀x c,J.yld i H x c->g x σ0 c λa l=>f a l λok d=>
  if ok=true then h a d λy n=>j a n λz e=>∃k kvs,y=kV k/\e D=some (.dK kvs)/\kvs.length<sizeLine/\∃b,b<m/\W (i+1) b (upd e D (.dK (DP kvs k z))) else ∃b,b<m/\W (i+1) b d)
def ZC (b:TI)(own:Nat)(ix:zy Nat)(g:TG)(c:TT)(d e:TE):TE:=λa H Q=>b a H λJ H1=>∀D,H1 D=none->
 ∃W:Nat->Nat->Hp->Prop,(∃m,W 0 m (upd H1 D (.dK [])))/\OI J D (CG own ix a) g c d e (Q (.ref D)) W
section
variable {X:Cx}{tg kx vx iter:zr}{ifs:zy zr}{scope:Scope}{pos:Pos}{wi:TI}{own:Nat}{ix:zy Nat}{N:zy Str}{g:TG}{tt:TT}{tk tv:TE}
def SN {F:zy (zu×Obj)}{S:St}{H:Hp}{s:zw}{fp:zy zu}{cl:zy (Str×zu)}{it:zu}{tn:Nat->zl->Prop}{J:It}{D:zu}{R:Result->zw->Prop}{Qh:Hp->Prop}{W:Nat->Nat->Hp->Prop}(hc:X.calm=true)(O:Eu X tg kx ifs scope own ix N g tt tk)(OV:∀cl C s H ex pn,PE (blk X (relabel scope X.env) N cl C s H ex pn) vx tv)(T:J5 X.prog X.w X.K tg J fp it tn)(I:Inv X F S H s)(hf:∀b∈fp,Ex X F H b)(Ep:∀b∈fp,b<s.heap.objs.size)(hW:OI J D (CG own ix S) g tt tk tv Qh W)(hR:∀σ' a U,Inv (blk X (relabel scope X.env) N cl s.heap.objs.size s H fp (X.pn++F)) [] σ' a U->Qh a->R (.ok .next) U)(n:Nat)(s0:zw)(h0:∃i a,Inv (blk X (relabel scope X.env) N cl s.heap.objs.size s H fp (X.pn++F)) [] (CG own ix S) a s0/\tn i s0.heap/\(∀b∈fp,a b=none)/\W i n a):codeAny (model X.prog X.w) X.A (.compLoop (.DictComp kx vx [⟨tg,iter,ifs,0⟩] scope pos) 0 (.ref it) (.ref D) (G9 X.env (relabel scope X.env) cl s.heap.objs.size)) R s0:=by
 refine codeAny_loop rfl (λn U=>∃i a,Inv (blk X (relabel scope X.env) N cl s.heap.objs.size s H fp (X.pn++F)) [] (CG own ix S) a U/\tn i U.heap/\(∀b∈fp,a b=none)/\W i n a) (λn s1 h1=> ?_) n h0;obtain⟨i,H1,B1,Z,fr1,w1⟩:=h1;generalize f:blk X (relabel scope X.env) N cl s.heap.objs.size s H fp (X.pn++F)=Y at *;have eA:Y.A=X.A:=by rw[<-f];rfl
 have eP:Y.prog=X.prog:=by rw[<-f];rfl
 have eW:Y.w=X.w:=by rw[<-f];rfl
 have eK:Y.K=X.K:=by rw[<-f];rfl
 have eE:G9 X.env (relabel scope X.env) cl s.heap.objs.size=Y.env:=by rw[<-f];rfl
 have eX:Y.xe=λ_ _=>False:=by rw[<-f];rfl
 have eC:Y.calm=true:=by rw[<-f];exact hc
 have hg:PG Y tg g:=by rw[<-f];exact O.tgt _ _ _ _ _ _
 have ht:ZX Y ifs tt:=by rw[<-f];exact O.tst _ _ _ _ _ _
 have hk:PE Y kx tk:=by rw[<-f];exact O.val _ _ _ _ _ _
 have hv:PE Y vx tv:=by rw[<-f];exact OV _ _ _ _ _ _
 have l:∀{a:Hp},(∀b∈fp,a b=none)->∀b∈fp,Ex Y [] a b:=λ{a} hn b hb=>by
  obtain⟨_,a1,a2,a3,a4,a5⟩:=hf b hb;refine⟨hn b hb, ?_, ?_, ?_, ?_, ?_⟩
  .rw [<-f];exact AAM (Ep b hb)
  .rw [<-f];exact I.notStk a1 a2
  .rw [<-f];exact .inl hb
  .intro x c e;exact(B1.ok.exf b (by rw[<-f];exact hb)).2 x c e
  .intro p hp;have:p∈X.pn++F:=by rw[<-f] at hp;simpa[blk] using hp
   exact a5 p this
 rw[eE,<-eA,<-eP,<-eW];show wpAny _ _ ((compTurn (.DictComp kx vx [⟨tg,iter,ifs,0⟩] scope pos) 0 (.ref it) (.ref D) Y.env).onRaise (λx=>do noteFrame x Y.env;theTreesLotGoes x)) _ _ s1;refine wpAny_noted ?_;rw[compTurn_dict];have ff:∀{α:Type} {t:Sem α} {Q:α->zw->Prop} {E:zx->zw->Prop} {s:zw},wpAny (model Y.prog Y.w) Y.A t Q Y.xe s->wpAny (model Y.prog Y.w) Y.A t Q E s:=λh=>AA4 h (λ_ _ q=>q) λ_ _ z=>by rw[eX] at z;exact z.elim
 refine AAA (ABH (AAA ?_));rcases hW i n H1 w1 with⟨stop,qn⟩|⟨go,step⟩
 .have zd:=λE=>T.done Y eP eW eK eC i [] s1 _ H1 E B1 (l fr1) Z stop;rw[<-eP,<-eW] at zd;refine BJ (zd _) λr s4 ⟨hr,I4⟩=> ?_;subst hr;exact AAD (hR _ _ _ I4 qn)
 .have zi:=λE=>T.item Y eP eW eK eC i [] s1 _ H1 E B1 (l fr1) Z go;rw[<-eP,<-eW] at zi;refine BJ (zi _) λr s4 ⟨u,hr,h4⟩=> ?_;subst hr;refine AAA (BJ h4 λ_ s5 ⟨x,H5,I5,r5,y5,G,fr5⟩=> ?_);have I5':=I5.pinned (l fr5) (T.obj _ _ G);refine AAA (BJ (ff (hg _ s5 _ H5 x u _ I5' r5 (O.keep _ _ _ _ (step x H5 y5)))) λ_ s6 ⟨B,H6,I6,q6,l6,k6⟩=> ?_);refine AAA (BJ (ff (ht _ s6 B H6 _ I6 q6)) λok s7 ⟨H7,I7,q7⟩=> ?_);have back:∀{L:Hp} {M:zw} {P:Nat},Inv Y ([] ++ JF fp s5.heap) B L M->P<n->W (i+1) P L->
   ∃m,m<n/\∃i a,Inv Y [] (CG own ix S) a M/\tn i M.heap/\(∀b∈fp,a b=none)/\W i m a:=λ{L M P} I8 hm w8=>by
   refine⟨P,hm,i+1,L,I8.unpinned.weak l6.symm (λj v hj=> ?_),T.keep _ _ _ G λb hb o e=>(I8.pin (b,o) (AAf _ (AAf _ (DN hb e)))).1,λb hb=> ?_,w8⟩
   .rw [k6 j (HA hj).1];exact hj
   .obtain ⟨o,e,d⟩:=T.obj _ _ G b hb;exact(I8.pin (b,o) (AAf _ (AAf _ (DN hb e)))).2.1
  cases ok with
  | false=> obtain⟨P,hm,w8⟩:=q7;exact AAD ⟨rfl,back I7 hm w8⟩
  | true=>
    refine AAA (AAA (BJ (ff (hk _ s7 B H7 _ I7 q7)) λkv M ⟨y,L,I8,r8,q8⟩=> ?_));refine AAA (AAj (BJ (ff (hv _ M B L _ I8 q8)) λvv s9 ⟨z,H9,I9,r9,k,kvs,ey,hD,hz,P,hm,w9⟩=> ?_));subst ey;refine AAA (ABH (AAj ?_));obtain⟨z1,rZ,vs,rel,dd⟩:=UX I9.hok hD;have sf:vs.length<=sizeLine:=by rw[<-rel.length];exact z1
    have hl:(DP kvs k z).length<=sizeLine:=by have:=DY kvs k z;omega
    refine wpAny_dictSet_pairs (hsz:=sf) (Qn r8) dd λh' dd' hs=> ?_;have he:∃q,h'.get? D=some q:=let ⟨q,_,_,hq,_⟩:=dd';⟨q,hq⟩;have I10:=GQ (t':=s9.toks+1) I9 (by rw[hD];exact True.intro) hs he (OJ hl rZ (rel.put k r9) dd');exact AAD ⟨rfl,back I10 hm w9⟩
def Vo {h:zy (zu×Obj)}{v:St}{H:Hp}{s:zw}{use:zt (zx->Sem Unit)}{Q:zx->zw->Prop}{it:zu}{fp:zy zu}{cl:zy (Str×zu)}{tn:Nat->zl->Prop}{J:It}{Qd:zu->Hp->Prop}(hc:X.calm=true)(O:Eu X tg kx ifs scope own ix N g tt tk)(R:∀cl C s H ex pn,PE (blk X (relabel scope X.env) N cl C s H ex pn) vx tv)(T:J5 X.prog X.w X.K tg J fp it tn)(I:Inv X h v H s)(S:∀b∈fp,Ex X h H b)(st:tn 0 s.heap)(h1:∀y c,cl.lookup y=some c->X.env.cells.lookup y=some c)(h2:∀y,(y,NameKind.free)∈scope.names->∃c,cl.lookup y=some c)(hq:∀D,H D=none->∃W:Nat->Nat->Hp->Prop,(∃m,W 0 m (upd H D (.dK [])))/\OI J D (CG own ix v) g tt tk tv (Qd D) W)(U:∀D C k l,(∃m,l.heap.Ns C m)->Inv X h v k l->(∀i E,Inv X h i k E->∀h',Heap.SameBut C E.heap h'->Inv X h i k {E with heap:=h'})->C≠X.env.locals->(∀x c,X.env.cells.lookup x=some c->C≠c)->Qd D k-> compPost (model X.prog X.w) X.A X.xe use Q (.ref D) C (.ok .next) l):wpAny (model X.prog X.w) X.A (newDict #[]) (λn p=>wpAny (model X.prog X.w) X.A (newFunctionEnv scope X.env.globals cl [] X.env.qual none .none (some X.env)) (λf r=> codeAny (model X.prog X.w) X.A (.compStart (.DictComp kx vx [⟨tg,iter,ifs,0⟩] scope pos) 0 (.ref it) n {f with scope:=relabel scope X.env}) (compPost (model X.prog X.w) X.A X.xe use Q n f.locals) r) X.xe p) X.xe s:=by
 refine AAw ?_ (by simp[sizeOk]);have j:Inv X h v (upd H s.heap.objs.size (.dK [])) {s with heap:=s.heap.push {cls:= .type "dict",data:= .dict #[] }}:=I.laid (a:=s.heap.objs.size) (o:= .dK []) (t':=s.toks) (λ_ _ q=>AAH _ q) (AAI _) (QP s.heap I.big);have Y:=I.fresh;obtain⟨W,⟨m0,Z⟩,hW⟩:=hq _ Y;have d7:∀b∈fp,b<s.heap.objs.size:=λb hb=>by obtain⟨o,e,_⟩:=T.obj _ _ st b hb;exact AAG e
 have F:∀b∈fp,Ex X h (upd H s.heap.objs.size (.dK [])) b:=λb hb=>by obtain⟨a0,ar⟩:=S b hb;exact⟨by rw[AZ (AAM (d7 b hb))];exact a0,ar⟩
 generalize lh:({s with heap:=s.heap.push {cls:= .type "dict",data:= .dict #[] }}:zw)=s3 at j;have t:tn 0 s3.heap:=T.keep _ _ _ st λb hb o e=>by rw[<-lh];exact AAH _ e
 have G:∀b∈fp,b<s3.heap.objs.size:=λb hb=>by obtain⟨o,e,_⟩:=T.obj _ _ t b hb;exact AAG e
 refine wpAny_newFunctionEnv O.nocell (by intro y hy;simp at hy) (λd gj lj=> ?_) O.kind;have P:∀b o,s3.heap.get? b=some o->d.get? b=some o:=λb o e=>lj.extBut b o (AAM (AAG e)) (AAH _ e);have ca:∀y,((relabel scope X.env).names.lookup y=some .cell\/(relabel scope X.env).names.lookup y=some .free)->∃c,cl.lookup y=some c:=λy hy=>by
  rcases hy with z|z
  .exact h2 y (ES O.nocell (Iz z) (.inl rfl))
  .exact h2 y (ES O.nocell (Iz z) (.inr rfl))
 have B:=XB (N:=N) (t':=s3.toks+([] :zy (Str×zx)).length) j F G (sc:=relabel scope X.env) O.kind h1 ca O.ins gj P;have u:tn 0 d:=T.keep _ _ _ t λb hb o e=>P b o e;have loop:∀L:zw,L={s3 with heap:=d,toks:=s3.toks+([] :zy (Str×zx)).length}->
  codeAny (model X.prog X.w) X.A (.compLoop (.DictComp kx vx [⟨tg,iter,ifs,0⟩] scope pos) 0 (.ref it) (.ref s.heap.objs.size) (G9 X.env (relabel scope X.env) cl s3.heap.objs.size)) (compPost (model X.prog X.w) X.A X.xe use Q (.ref s.heap.objs.size) s3.heap.objs.size) L:=by rintro L rfl;refine SN (cl:=cl) (Qh:=Qd s.heap.objs.size) hc O R T j F G hW (λσ' k l M q'=> ?_) m0 _ ⟨0,_,B,u,λb hb=>(F b hb).1,Z⟩;refine U _ _ k l (let ⟨m,hm,_⟩:=M.loc;⟨m,hm⟩) (UN (own:=own) (ix:=ix) j F G M) (λi E I2 h' hs=>QH j rfl I2 M.free hs) (AAx j.lt) (λx c e=>AAx (j.szLt e)) q'
 exact codeAny_compStart_dict (loop _ rfl) (T.self _ 0 _ _ _ u (loop _ rfl))
def YY {i:Nat}{x:Str}{pos' b:Pos}(hc:X.calm=true)(hN:X.N.Nodup)(n:X.N[i]? =some x)(hx:Loc X.env.scope x)(hi:PI X tg iter wi)(O:Eu X tg kx ifs scope own ix N g tt tk)(o:∀cl C s H ex pn,PE (blk X (relabel scope X.env) N cl C s H ex pn) vx tv)(p:swapsWith (.DictComp kx vx [⟨tg,iter,ifs,0⟩] scope pos) (some (.Name x pos')) b.line X.env=pure true:=by rfl)(hs:∀x,foldedSetIterable iter X.env x=pure x:=by intro _;rfl)(r:X.fn x=true\/X.env.scope.names.lookup x=some .local:=by first | exact .inl rfl|exact .inr rfl|assumption):PS X (.Assign [.Name x pos'] (.DictComp kx vx [⟨tg,iter,ifs,0⟩] scope pos) b) (NL (ZC wi own ix g tt tk tv) (BL i)):=by
 intro k s l H D I h;obtain⟨cl,t,h1,h2⟩:=HB (env:=X.env) (scope:=scope) λy hy e=>I.ok.has y.1 (.inl (O.frees y hy e));rw[exec_Assign_Name_used _ _ _ _ p];refine AAA (ABH (AAA ?_));show wpAny _ _ (do let _ <-comprehension (.DictComp kx vx [⟨tg,iter,ifs,0⟩] scope pos) scope X.env _ (newDict #[]) false (eval iter X.env) (some (assign (.Name x pos') X.env))) _ _ s;refine AAA (BJ (ADG (use:=some (assign (.Name x pos') X.env)) (Q:=λ_ c=>SP X k D .next c) rfl hs t O.kind O.names (BJ (hi k s l H _ I h) λv W hv=>BJ hv λu Y w=> ?_)) λ_ c hq=>AAD (AAD hq));obtain⟨it,fp,tn,J,Z,rfl,A,T,f,B,q⟩:=w;refine Vo (Qd:=λd j=>BL i (.ref d) l j D.nx) hc O o T A B f h1 h2 q λd C j c E F gone G K L=> ?_;obtain⟨m,M⟩:=E;show wpAny _ _ (assign (.Name x pos') X.env (.ref d)) _ _ c;refine AC5 (JQ (v:= .ref d) F hN n hx rfl (λP R ⟨a,S,ha⟩=> ?_) r);have U:C≠a:=by
  rcases ha with z|z
  .rw [z];exact G
  .exact K x a z
 exact⟨m,M.sameBut S U,λh' hs=>⟨_,j,gone _ P R h' hs,L⟩⟩
end
section
variable {X:Cx}
def gL (i:Nat)(t:TS):TS:=λD b H=>∃a kvs,b[i]? =some (some (.ref a))/\H a=some (.dK kvs)/\∀o es ep,o.data= .dict es ep->t D b (upd H a (.frz o (.dK kvs)))
def bO {rest:zy Stmt}{t:TS}{i:Nat}(h:Rf X rest t):Rf X rest (gL i t):=by intro c s d H D I q;obtain⟨a,kvs,_,e,q⟩:=q;obtain⟨z,hd,vs,b,f⟩:=UX I.hok e;obtain⟨o,es,ep,g,j⟩:=id f;have k:Inv X c d (upd H a (.frz o (.dK kvs))) {s with heap:=s.heap,toks:=s.toks}:=GQ (h':=s.heap) I (by rw[e];exact True.intro) ⟨rfl,λ_ _=>rfl⟩ ⟨o,g⟩ ⟨g,OJ z hd b f⟩;exact h c s d _ D k (q o es ep j.2.1)
end
end L2
namespace PL
open PySem PySem.Spec PyProof.Rows L2
def MB (m:zy (Int×Int))(k v:Int):zy (Int×Int):=if (m.any λp=>decide (p.1=k))=true then m.map (λp=>if p.1=k then (p.1,v) else p) else m ++ [(k,v)]
def Ln (m:zy (Int×Int))(k:Int):Int:=((m.find? λp=>decide (p.1=k)).map (·.2)).getD 0
def aR (m:zy (Int×Int))(k:Int):((HG m).any λa=>decide (a.1=(.inl k:CK)))=m.any λp=>decide (p.1=k):=by
 induction m with
 | nil=>rfl
 | cons p r ih=> unfold HG at ih ⊢;rw[AAL,AAy,AAy,ih];congr 1;simp
def Ui (m:zy (Int×Int))(k v:Int):HG (MB m k v)=DP (HG m) (.inl k) (.int v):=by
 unfold MB DP;rw[aR];split
 .unfold HG;rw[AAo,AAo];apply AA1;intro p _;simp only[Function.comp];by_cases h:p.1=k
  .simp [h]
  .simp [h]
 .unfold HG;rw[AAU];rfl
def aS (m:zy (Int×Int))(k:Int):(Dt (HG m) (.inl k)).getD (.int 0)= .int (Ln m k):=by
 induction m with
 | nil=>rfl
 | cons p r ih=>
   unfold HG at ih ⊢;rw[AAL];by_cases h:p.1=k
   .rw [GM (by simp[h])];simp[Ln,h]
   .rw [GL (by simp[h]),ih];simp[Ln,h]
def MC (m:zy (Int×Int))(k v:Int):(MB m k v).length<=m.length+1:=by
 unfold MB;split
 .rw [AAJ];omega
 .simp
def B2 (many:Int)(m:zy (Int×Int)):zy (Int×Int):=m.foldl (λa p=>MB a p.1 (many*p.2)) []
def OW {m:zy (Int×Int)}{i:Nat}(h:i<m.length):(HG m)[i]? =some (.inl m[i].1, .int m[i].2):=by unfold HG;rw[AAk,AAT h];rfl
def GX {c a:Type}{f:a->c->a}{b:a}{m:zy c}{i:Nat}(h:i<m.length):(m.take (i+1)).foldl f b=f ((m.take i).foldl f b) m[i] :=by rw[List.take_succ_eq_append_getElem h,ABQ];rfl
def Z5 {K:AAB}{H:Hp}{r:L2.St}{s:Nat}{many:Int}{d n ep:Nat}{m:zy (Int×Int)}{Q:V->Hp->Prop}(y:Re H d n ep (HG m))(A:r[s]? =some (some (.int many)))(hl:m.length<sizeLine)(ok:∀p∈m,MulOk many p.2)(q:∀D c,H D=none->(∀b o,H b=some o->c b=some o)->c D=some (.dK (HG (B2 many m)))->Q (.ref D) c):∀D,H D=none->∃W:Nat->Nat->Hp->Prop,(∃k,W 0 k (upd H D (.dK [])))/\OI (Itm d n ep) D (CG 2 [s] r) (M4 K 2 (CY (BL 0) (CY (BL 1) J6))) cM (Cm 0) (WV (rI MulOk λi j=> .int (i*j)) (Cm 2) (Cm 1)) (Q (.ref D)) W:=by
 intro D u;have B:CG 2 [s] r= [none,none,some (.int many)] :=by unfold CG;simp[A]
 rw[B];let W:Nat->Nat->Hp->Prop:=λi k c=>i+k=m.length/\(∀b o,H b=some o->c b=some o)/\c D=some (.dK (HG (B2 many (m.take i))))/\(B2 many (m.take i)).length<=i;refine⟨W,⟨m.length,ACE _,λb o e=>by rw[AZ (Af e u)];exact e,AX,AAI _⟩, ?_⟩;rintro i k c ⟨hi,ex,l,C⟩;have f:Re c d n ep (HG m):=let ⟨o,es,a,b⟩:=y;⟨o,es,ex _ _ a,b⟩;cases k with
 | zero=> left;refine⟨⟨_,f,by unfold HG;rw[AAJ];omega⟩,q D c u ex ?_⟩;rw[ABl (by omega)] at l;exact l
 | succ k=>
   right;have g:i<m.length:=by omega
   refine⟨⟨_,_,_,f,OW g⟩,λx F E=> ?_⟩;obtain⟨t,G,I,rfl,v,rfl,hu⟩:=E;have hx:=hu _ f;rw[OW g] at hx;cases hx;have J:D≠t:=λz=>by subst z;rw[l] at v;cases v
   have h:∀b o,c b=some o->upd c t (.tup [kV (.inl m[i].1), .int m[i].2]) b=some o:=λb o e=>by rw[AZ (Af e v)];exact e
   refine⟨t,_,rfl, .inl (.inl (.inl AX)),rfl,_,_,rfl,_,_,rfl,rfl, ?_⟩;dsimp only[cM];rw[AAE rfl];refine⟨_,rfl,_,rfl,_,rfl,many,m[i].2,rfl,rfl,ok _ (ABk g), ?_⟩;refine⟨.inl m[i].1,_,rfl,h _ _ l,by unfold HG;rw[AAJ];omega,k,by omega,by omega,λb o e=> ?_, ?_, ?_⟩
   .rw [AZ (Af e u)];exact h _ _ (ex _ _ e)
   .rw [AX];unfold B2;rw[GX g,Ui]
   .unfold B2 at C ⊢;rw[GX g];have:=MC ((m.take i).foldl (λw p=>MB w p.1 (many*p.2)) []) m[i].1 (many*m[i].2);omega
def DO (more:Int)(a m:zy (Int×Int)):zy (Int×Int):=m.foldl (λa p=>MB a p.1 (Ln a p.1+more*p.2)) a
def X5 (d a b c:Nat):TS:=c4 (Cm d) (Cm a) (WV (NE λi j=> .int (i+j)) (ZD (Cm d) (Cm a) (tC (.int 0))) (WV (rI MulOk λi j=> .int (i*j)) (Cm c) (Cm b)))
def af {K:AAB}{H H1:Hp}{σ0:L2.St}{D:J1}{B c f s:Nat}{more:Int}{d n ep a:Nat}{m acc0:zy (Int×Int)}(U:B≠c)(X:B≠f)(Y:s≠c)(Z:s≠f)(n5:c≠f)(l1:c<σ0.length)(l2:f<σ0.length)(fd:Re H d n ep (HG m))(ha:H a=none)(J:∀b o,H b=some o->H1 b=some o)(h1:H1 a=some (.dK (HG acc0)))(hw:σ0[B]? =some (some (.ref a)))(hm:σ0[s]? =some (some (.int more)))(ok:∀p∈m,MulOk more p.2)(hl:acc0.length+m.length<sizeLine)(L:∀σ' g,σ'.length=σ0.length->(∀j,j≠c->j≠f->σ'[j]? =σ0[j]?)->(∀b o,H b=some o->g b=some o)->g a=some (.dK (HG (DO more acc0 m)))->D.nx σ' g):∃W:Nat->Nat->L2.St->Hp->Prop,(∃k,W 0 k σ0 H1)/\∀i k v g,W i k v g-> ((Itm d n ep).stop i g/\D.nx v g)\/((Itm d n ep).go i g/\∃N:L2.St->Hp->Prop,(∀σ' w,N σ' w->∃Q,Q<k/\W (i+1) Q σ' w)/\∀x w,(Itm d n ep).yld i g x w->M4 K 2 (CY (BL c) (CY (BL f) J6)) x v w λl R=>X5 B c f s {D with nx:=N,ct:=N,bk:=D.nx} l R):=by
 let W:Nat->Nat->L2.St->Hp->Prop:=λi k v g=>i+k=m.length/\(v.length=σ0.length/\∀j,j≠c->j≠f->v[j]? =σ0[j]?)/\(∀b o,H b=some o->g b=some o)/\g a=some (.dK (HG (DO more acc0 (m.take i))))/\(DO more acc0 (m.take i)).length<=acc0.length+i;refine⟨W,⟨m.length,ACE _,⟨rfl,λ_ _ _=>rfl⟩,J,h1,AAI _⟩, ?_⟩;rintro i k v g ⟨hi,⟨S,T⟩,ex,M,sJ⟩;have y:Re g d n ep (HG m):=let ⟨o,es,a,b⟩:=fd;⟨o,es,ex _ _ a,b⟩;cases k with
 | zero=> left;refine⟨⟨_,y,by unfold HG;rw[AAJ];omega⟩,L v g S T ex ?_⟩;rw[ABl (by omega)] at M;exact M
 | succ k=>
   right;have C:i<m.length:=by omega
   refine⟨⟨_,_,_,y,OW C⟩,λσ' w=>W (i+1) k σ' w,λσ' w h=>⟨k,by omega,h⟩,λx w yl=> ?_⟩;obtain⟨t,kk,xx,rfl,hn,rfl,hu⟩:=yl;have hx:=hu _ y;rw[OW C] at hx;cases hx;have z:∀b o,g b=some o->upd g t (.tup [kV (.inl m[i].1), .int m[i].2]) b=some o:=λb o e=>by rw[AZ (Af e hn)];exact e
   refine⟨t,_,rfl, .inl (.inl (.inl AX)),rfl,_,_,rfl,_,_,rfl,rfl, ?_⟩;generalize G:(v.set c (some (kV (.inl m[i].1)))).set f (some (V.int m[i].2))=l;have A:l.length=σ0.length:=by rw[<-G];simp[S]
   have r:∀j,j≠c->j≠f->l[j]? =σ0[j]? :=λj h h'=>by rw[<-G,AAW (AAb h'),AAW (AAb h)];exact T j h h'
   have E:l[c]? =some (some (.int m[i].1)):=by rw[<-G,AAW (AAb n5),ABe (by omega)];rfl
   have O:l[f]? =some (some (.int m[i].2)):=by rw[<-G,ABe (by simp;omega)]
   have F:l[B]? =some (some (.ref a)):=by rw[r B U X];exact hw
   have P:l[s]? =some (some (.int more)):=by rw[r s Y Z];exact hm
   have I:=z _ _ M;generalize hH:upd g t (.tup [kV (.inl m[i].1), .int m[i].2])=R at z I;refine⟨_,F,a,rfl, .inl ⟨_, .inl I⟩,_,E,_,Rl.k (k:= .inl m[i].1) I,_,P,_,O,more,m[i].2,rfl,rfl,ok _ (ABk C), ?_⟩;rw[aS];refine⟨_,_,rfl,rfl,_,F,_,E,a,_,rfl,Rm.k (k:= .inl m[i].1) I (by unfold HG;rw[AAJ];omega),by omega,⟨A,r⟩,λb o e=> ?_, ?_, ?_⟩
   .rw [AZ (Af e ha)];exact z _ _ (ex _ _ e)
   .rw [AX];unfold DO;rw[GX C,Ui]
   .unfold DO at sJ ⊢;rw[GX C];have:=MC ((m.take i).foldl (λu p=>MB u p.1 (Ln u p.1+more*p.2)) acc0) m[i].1 (Ln ((m.take i).foldl (λu p=>MB u p.1 (Ln u p.1+more*p.2)) acc0) m[i].1+more*m[i].2);omega
def oZ (a:TE):TI:=λb H R=>a b H λv H1=>∃d n ep kvs,v= .ref d/\Re H1 d n ep kvs/\R (Itm d n ep) H1
def rJ (K:AAB)(a:TE)(b c:Nat):TS:=NL (ZC (oZ a) 2 [c] (M4 K 2 (CY (BL 0) (CY (BL 1) J6))) cM (Cm 0) (WV (rI MulOk λi j=> .int (i*j)) (Cm 2) (Cm 1))) (BL b)
def ox (K:AAB)(d:TE)(e a b c:Nat):TS:=gK (oZ d) (M4 K 2 (CY (BL a) (CY (BL b) J6))) (X5 e a b c)
section
variable {K:AAB}{B:CZ}{T:zu->Prop}{H:Hp}{σ σ':L2.St}{τ τ':Ay}
def SR.loose (s:SR K B T H σ τ)(hl:σ'.length=τ'.length)(h:∀(j:Nat) (a:AV),τ'[j]? =some (some a)->τ[j]? =some (some a)/\σ'[j]? =σ[j]?):SR K B T H σ' τ'/\∀b,CW σ' τ' b->CW σ τ b:=by
 have g:∀b,CW σ' τ' b->CW σ τ b:=λb ⟨j,xs,h1,h2⟩=>let ⟨c,d⟩:=h j _ h1;⟨j,xs,c,by rw[<-d];exact h2⟩;have i:Mv K T (mt B σ τ) H T (mt B σ' τ') H:= .anti s.va λa m=>m.elim .inl λz=> .inr (g a z);refine⟨⟨hl,λj y e=> ?_,λj ys e=> ?_,λj k ys o p r t l n=> ?_,s.tp,s.bm,s.bt,s.st⟩,g⟩
 .obtain ⟨c,d⟩:=h j _ e;obtain⟨w,hw,f⟩:=s.val j y c;exact⟨w,by rw[d];exact hw,f.mv i⟩
 .obtain ⟨c,d⟩:=h j _ e;obtain⟨p,vs,h1,h2,u,v⟩:=s.own j ys c;exact⟨p,vs,by rw[d];exact h1,h2,u.mv i,v⟩
 .obtain ⟨c,d⟩:=h j _ r;obtain⟨x,b2⟩:=h k _ t;rw[d] at l;rw[b2] at n;exact s.dist j k ys o p c x l n
end
def fB (x:PV)(R:zy (Int×Int)->Prop):Prop:=match x with | .dk m=>R m|_=>False
def Up {x:PV}{R:zy (Int×Int)->Prop}(h:fB x R):∃m,x= .dk m/\R m:=by cases x <;> first | exact⟨_,rfl,h⟩|exact h.elim
def W7 (c a b e d:Nat)(f g:AE):AS:=λD τ=>(c<τ.length/\a<τ.length/\b<τ.length)/\f τ λx=>fB x λm1=>∃many,τ[e]? =some (some (.val (.int many)))/\m1.length<sizeLine/\(∀p∈m1,MulOk many p.2)/\
 g (τ.set c none) λy=>fB y λm2=>∃more,τ[d]? =some (some (.val (.int more)))/\(B2 many m1).length+m2.length<sizeLine/\(∀p∈m2,MulOk more p.2)/\
 D.nx (((τ.set c (some (.val (.dk (DO more (B2 many m1) m2))))).set a none).set b none)
def o9 {k:Nat}{A:zk}(a:Room k A):A.units+1<cLine:=by have:=a.un;omega
section
variable {X:Cx}
def Y3 {e1 e2:zr}{ta tb:AE}{m p:Stmt}{rest:zy Stmt}{b:AS}{f g k im s:Nat}(n1:f≠g)(n2:f≠k)(n3:s≠g)(n4:s≠k)(n5:g≠k)(n6:s≠f)(h1:SE X e1 ta)(h2:SE X e2 tb)(p1:∀I,PE X e1 I->PS X m (rJ X.K I f im))(p2:∀I,PE X e2 I->PS X p (ox X.K I f g k s))(h3:Wd X rest b):Wd X (m::p::rest) (Aa (W7 f g k im s ta tb) b):=by
 obtain⟨t1,q1,s1⟩:=h1;obtain⟨t2,q2,s2⟩:=h2;obtain⟨t3,q3,s3⟩:=h3;refine⟨_,BM (p1 t1 q1) (BM (p2 t2 q2) (bO (i:=f) q3)),λB T J τ H D AD A h er=> ?_⟩;obtain⟨⟨l0,l1,l2⟩,h⟩:=h;refine s1 B T J τ H _ _ A h λv x U H1 m r1 h1=> ?_;obtain⟨m1,rfl,many,iU,Z,ok1,h1⟩:=Up h1;have u:=A.stp m;obtain⟨vm,sX,rvm⟩:=u.val _ _ iU;cases rvm;cases r1 with
 | dk hh eo=>
 rename_i d o es ep;have L:Re H1 d m1.length ep (HG m1):=⟨o,es,hh,eo,by unfold HG;rw[AAJ]⟩;refine⟨_,_,_,_,rfl,L, ?_⟩;refine Z5 (K:=X.K) (Q:=λx H1=>BL f x J H1 (Tw (ox X.K t2 f g k s) (gL f t3) D)) L sX Z ok1 λa H2 ha ex hD=> ?_;have M:¬U a:=λz=>by obtain⟨o,e,_⟩:=(u.tp a z).mut;rw[ha] at e;cases e
 have N:Ct U H1 U H2:=VG u.va ex;have sr2:=u.stp N;obtain⟨O,_⟩:=sr2.loose (σ':=J.set f (some (.ref a))) (τ':=τ.set f none) (by simp[A.len]) λj c e=>by
  rcases A7 e with⟨_,C,_⟩|⟨n,C⟩
  .cases C
  .exact ⟨C,AAW (λz=>n z.symm)⟩
 refine s2 B U _ _ H2 _ _ O h1 λv2 y W G p r2 h2=> ?_;obtain⟨m2,rfl,more,iW,hsz,ok2,h2⟩:=Up h2;obtain⟨vr,sY,rvr⟩:=A.val _ _ iW;cases rvr;have gf:G a=some (.dK (HG (B2 many m1))):=p.keep _ _ M hD;have na2:¬W a:=λz=>by
  rcases p.new a z with z|z
  .exact M z
  .rw [hD] at z;cases z
 cases r2 with
 | dk Y P=>
 rename_i d2 o2 R ep2;have da:d2≠a:=λz=>by subst z;rw[gf] at Y;cases Y
 have fd2:Re G d2 m2.length ep2 (HG m2):=⟨o2,R,Y,P,by unfold HG;rw[AAJ]⟩;refine⟨_,_,_,_,rfl,fd2, ?_⟩;let H0:Hp:=λb=>if b=a then none else G b
 have E:(J.set f (some (V.ref a))).length=τ.length:=by simp[A.len]
 refine af (K:=X.K) (H:=H0) (H1:=G) (σ0:=J.set f (some (V.ref a))) (D:={D with nx:=gL f t3 D}) (acc0:=B2 many m1) (a:=a) (more:=more) n1 n2 n3 n4 n5 (by rw[E];exact l1) (by rw[E];exact l2) ⟨o2,R,(AAC da).trans Y,P,by unfold HG;rw[AAJ]⟩ (AAE rfl) (λb o e=> ?_) gf ?_ ?_ ok2 hsz λσ' H4 sl so S rR=> ?_
 .by_cases z:b=a
  .rw [show H0 b=none from AAE z] at e;cases e
  .rw [show H0 b=G b from AAC z] at e;exact e
 .rw [ABe (by rw[A.len];exact l0)]
 .rw [AAW (λz=>n6 z.symm)];exact sY
 refine⟨a,_, ?_,rR,λo es ep eo=> ?_⟩
 .rw [so f n1 n2,ABe (by rw[A.len];exact l0)]
 have l:Ct T H W G:=(m.trans N).trans p;have St:Ct T H W (upd H4 a (.frz o (.dK (HG (DO more (B2 many m1) m2))))):=by
  refine⟨λb q nt e=> ?_,l.sub,l.new,λx t=> ?_⟩
  .have z:b≠a:=λz=>by subst z;have:=m.keep _ _ nt e;rw[ha] at this;cases this
   rw[AZ z];exact S b q ((AAC z).trans (l.keep b q nt e))
  .have z:x≠a:=λz=>by subst z;exact na2 t
   obtain⟨d,w,e,r⟩:=l.tp x t;exact⟨d,w,by rw[AZ z];exact S _ _ ((AAC z).trans e),r⟩
 have sr5:=A.stp St;have sr6:=sr5.set (i:=f) (v:= .ref a) (x:= .dk (DO more (B2 many m1) m2)) (.dk AX eo);obtain⟨sr7,ow⟩:=sr6.loose (σ':=σ') (τ':=((τ.set f (some (.val (.dk (DO more (B2 many m1) m2))))).set g none).set k none) (by rw[sl,E];simp) λj c e=>by
  rcases A7 e with⟨_,C,_⟩|⟨k2,C⟩
  .cases C
  .rcases A7 C with⟨_,F,_⟩|⟨k1,F⟩
   .cases F
   .exact ⟨F,so j k1 k2⟩
 exact s3 B W σ' _ _ D AD sr7 h2 (er.shift (St.prog.trans (.less λb z=>CQ (ow b z))))
end
end PL
namespace L2
open PySem PySem.Spec PyProof.Rows
def kX (K:AAB)(l:zu):It:=
 ⟨λi H=>∃xs x,Ee K H l xs/\xs[i]? =some x,
  λi H v a=>∃T x,v= .ref T/\H T=none/\a=upd H T (.tup [.int i,x])/\∀xs,Ee K H l xs->xs[i]? =some x,
  λi H=>∃xs,Ee K H l xs/\xs.length<=i⟩
def WX {P:zp}{w:zm}{K:AAB}{es:zy zr}{J:Nat}{n:Pos}{e it l:zu}(C:e≠it):J5 P w K (.Tuple es J n) (kX K l) [e,it] e (λk h=>(∃b,IsEnum h e it (k:Nat) b)/\h.IsListIter it l k) where
 mem:=by simp
 obj:=λk h st p hp=>by
  obtain⟨⟨b,he⟩,hi⟩:=st;have f:p=e\/p=it:=by simpa using hp
  rcases f with q|q
  .subst q;exact⟨_,he,λv z=>nomatch z⟩
  .subst q;obtain⟨o,a,c,d⟩:=hi;exact⟨o,a,λv z=>by rw[d] at z;cases z⟩
 keep:=λk h h' st j=>by obtain⟨⟨b,he⟩,hi⟩:=st;exact⟨⟨b,j e (by simp) _ he⟩,hi.at λo a=>j it (by simp) o a⟩
 item:=by
  intro X r hw t hc k D s F H E I m st y;subst r hw t;obtain⟨⟨b,he⟩,hi⟩:=st;obtain⟨xs,x,hq,hx⟩:=y;obtain⟨A,rv,p,hz⟩:=I.list hq;obtain⟨u,hu,L⟩:=rv.get hx;have i:e<s.heap.objs.size:=AAG he;have B:it<s.heap.objs.size:=by obtain⟨o,a,_⟩:=id hi;exact AAG a
  refine wpAny_pyNext_enum_item he hi p.isList (x:=u) (by simpa using hu) C λh1 M N O Z Q=> ?_;refine⟨_,rfl,wpAny_letOwnedTupleGo_enum (s:={s with heap:=h1,toks:=s.toks+1}) M λh2 R S=> ?_⟩;have g:∀p o,p≠e->h1.get? p=some o->h2.get? p=some o:=λp o q z=>S.extBut _ _ q z;have G:∀p∈ [e,it],p<s.heap.objs.size:=λp hp=>by
   have f:p=e\/p=it:=by simpa using hp
   rcases f with q|q
   .rw [q];exact i
   .rw [q];exact B
  have j:∀p o,p ∉ [e,it] ->s.heap.get? p=some o->h2.get? p=some o:=λp o hp z=>by
   have f:p≠e/\p≠it:=by simpa using hp
   exact g p o f.1 (Q p o f.1 f.2 z)
  have T:Inv X D F (upd H s.heap.objs.size (.tup [.int k,x])) {s with heap:=h2,toks:=s.toks+1}:=I.turnedN m G j (AAI _)
   ⟨(by show 2<=sizeLine;decide), [.int k s.toks,u], .cons ⟨_,rfl⟩ (.cons L .nil),⟨_,g _ _ (AAx i) O,rfl,_,rfl⟩⟩
  have U:H s.heap.objs.size=none:=I.fresh;refine⟨.ref s.heap.objs.size,upd H s.heap.objs.size (.tup [.int k,x]),T,rfl,⟨_,x,rfl,U,rfl,λW h'=> ?_⟩,⟨⟨u, ?_⟩, ?_⟩,λp hp=> ?_⟩
  .rw [I.list_inj h' hq];exact hx
  .have:((k+1:Nat):Int)=(k:Int)+1:=by push_cast;rfl
   rw[this];exact R
  .exact N.at λo z=>g it o C.symm z
  .rw [AZ (AAM (G p hp))];exact(m p hp).1
 done:=by
  intro X r hw t hc k D s F H E I m st y;subst r hw t;obtain⟨⟨b,he⟩,hi⟩:=st;obtain⟨xs,hq,hx⟩:=y;obtain⟨A,rv,p,hz⟩:=I.list hq;have hl:=rv.length;refine wpAny_pyNext_enum_end (I.ok.hd hc) he hi p.isList (by simp;omega) λh' Y=>⟨rfl, ?_⟩;exact I.turnedL (t':=s.toks) m λp o hp z=>by
   have f:p≠e/\p≠it:=by simpa using hp
   exact Y p o f.2 z
 self:=λ_ _ _ _ _ st h=>by obtain⟨⟨b,he⟩,_⟩:=st;exact ACr he h
section
variable {X:Cx}
def ie (K:AAB)(a:TA):TI:=λb H R=>a b H λvs H1=>∃l,vs= [.ref l] /\(∃xs,Ee K H1 l xs)/\R (kX K l) H1
def bF {e:zr}{f:TA}{p b c:Pos}{es:zy zr}{j:Nat}(k:Gl X "enumerate")(m:X.mg "enumerate" =none)(ha:PA X [e] f)(hs:starEach [e] X.env= [(false,eval e X.env)] :=by rfl):PI X (.Tuple es j c) (.Call (.Name "enumerate" p) [e] [] b) (ie X.K f):=by
 intro n s o H R I h;refine Call_ (Iy I k m boot_enumerate (ABy (BJ (ha b n s o H _ I h) λus a ⟨vs,H1,d,t,u⟩=> ?_) (by rw[hs];rfl) rfl));obtain⟨l,rfl,⟨xs,hl⟩,q⟩:=u;cases t with
 | cons r v=>
 cases v;cases r;obtain⟨w,rv,p,hz⟩:=d.list hl;refine call_enumerate_list p.isList λh' g b2 y x=> ?_;refine ACr g ?_;have i:∀p∈ [a.heap.objs.size+1,a.heap.objs.size],a.heap.objs.size<=p:=λp hp=>by
  have z:p=a.heap.objs.size+1\/p=a.heap.objs.size:=by simpa using hp
  omega
 exact⟨_,_,_,_,H1,rfl,d.kept (t':=a.toks) x,WX (Nat.succ_ne_self _),⟨⟨.none,g⟩,b2⟩,λp hp=>d.fpOk (i p hp) (d.hok.fresh (i p hp)),q⟩
end
end L2
namespace PL
open PySem PySem.Spec PyProof.Rows L2
def DG (k:Nat):zy PV->zy PV
 | [] => []
 | x::r=> .tup [.int k,x] :: DG (k+1) r
theorem Iq:∀(xs:zy PV) (k:Nat),(DG k xs).length=xs.length
 | [],_=>rfl
 | _::r,k=>by rw[DG,AAZ,Iq r,AAZ]
theorem Eo:∀(xs:zy PV) (k i:Nat) (z:PV),(DG k xs)[i]? =some z->∃x,xs[i]? =some x/\z= .tup [.int ((k+i:Nat):Int),x]
 | [],_,_,_,h=>by simp[DG] at h
 | x::r,k,0,z,h=>⟨x,rfl,by simp[DG] at h;rw[<-h];rfl⟩
 | x::r,k,i+1,z,h=>by obtain⟨y,h1,h2⟩:=Eo r (k+1) i z (by simpa[DG] using h);refine⟨y,by simpa using h1, ?_⟩;rw[h2,show k+1+i=k+(i+1) by omega]
def V1 {K:AAB}{T M:zu->Prop}{H:Hp}{l:zu}{xs:zy PV}(va:Fv T M H)(r:Bs K T M H (.ref l) (.lst xs)):QA K M (kX K l) (DG 0 xs) T H:=by
 obtain⟨a,vs,e,hq,k,m,b⟩:=Cc r;cases e;have c:Ee K H l vs:= .inl (.inl hq);refine⟨λi z h=> ?_,λi z v n h f=> ?_,λi h=>⟨vs,c, ?_⟩⟩
 .obtain ⟨x,hx,_⟩:=Eo xs 0 i z h;obtain⟨u,hu,_⟩:=b.get hx;exact⟨vs,u,c,hu⟩
 .obtain ⟨x,hx,rfl⟩:=Eo xs 0 i z h;obtain⟨p,u,rfl,g,rfl,hu⟩:=f;obtain⟨s,d,j⟩:=b.get' (hu vs c);rw[hx] at d;cases d;have st:=Ct.lay (o:= .tup [.int (i:Nat),u]) va.tp g;rw[ACE];exact⟨st, .tup (.inl AX) (.cons (.int _) (.cons (j.stp st va) .nil))⟩
 .rw [b.length];rw[Iq] at h;exact h
section
variable {X:Cx}
def k9 (r:AA):AI:=λτ Q=>r τ λa=>match a with | [.lst xs] =>Q (DG 0 xs)|_=>False
def mN {e:zr}{r:AA}{p c b:Pos}{es:zy zr}{d:Nat}(f:Gl X "enumerate")(g:X.mg "enumerate" =none)(ha:SA X [e] r)(hs:starEach [e] X.env= [(false,eval e X.env)] :=by rfl):SI X (.Tuple es d b) (.Call (.Name "enumerate" p) [e] [] c) true (k9 r):=by
 obtain⟨t,i,s⟩:=ha;refine⟨_,bF f g i hs,λB T j τ H R v l h k=>s B T j τ H _ _ l h λvs xs m H1 n o h1=> ?_⟩;split at h1 <;> first | exact h1.elim|skip
 cases o with
 | cons ra t=> cases t;obtain⟨a,us,rfl,hq,_,_,w⟩:=Cc ra;exact⟨a,rfl,⟨us, .inl (.inl hq)⟩,k _ _ m H1 n (λM2 x y u va _=>V1 va (ra.mv u)) h1⟩
end
end PL
namespace L2
open PySem PySem.Spec PyProof.Rows
def XM {prog:zp}{w:zm}{A:zk}(c:A.handled=none)(b:zq)(it l:zu)(d:l≠it)(items:Array zx):Draws prog w A it [it,l] items.size (λi v=>items[i]? =some v) (λi h=>J3 b h it l i/\KJ b h l items) where
 live:=λ_ _ st=>let ⟨o,f,_⟩:=st.1.obj;⟨o,f⟩
 frame:=λ_ _ _ st hk=>⟨st.1.mv λo e=>hk it (by simp) o e,st.2.mv λo e=>hk l (by simp) o e⟩
 item:=λi s Q E hi st hQ=>by refine IJ st.1 st.2 (x:=items[i]) (by simp[hi]) λh' g a=> ?_;exact hQ _ h' s.toks (by simp[hi]) ⟨g,st.2.mv λo e=>a.extBut _ _ d e⟩ a
 done:=λs Q E st j=>GR c st.1 st.2 (by simp) j
def dL (K:AAB)(b:zq)(l:zu):It:=
 ⟨λi H=>∃xs x,Sq K b H l xs/\xs[i]? =some x,
  λi H v a=>∃T x,v= .ref T/\H T=none/\a=upd H T (.tup [.int i,x])/\∀xs,Sq K b H l xs->xs[i]? =some x,
  λi H=>∃xs,Sq K b H l xs/\xs.length<=i⟩
def bo {b:zq}{h:zl}{q l:zu}{k:Nat}(x:J3 b h q l k):∃o,h.get? q=some o/\(o.cls= .type "list_iterator" \/o.cls= .type "tuple_iterator"):=by
 cases b with
 | true=>obtain⟨o,a,c,_⟩:=x;exact⟨o,a, .inl c⟩
 | false=>obtain⟨o,a,c,_⟩:=x;exact⟨o,a, .inr c⟩
def cD {b:zq}{h:zl}{l:zu}{xs:Array zx}(x:KJ b h l xs):∃o,h.get? l=some o/\(o.cls= .type "list" \/o.cls= .type "tuple"):=by
 cases b with
 | true=>obtain⟨o,a,c,_⟩:=x;exact⟨o,a, .inl c⟩
 | false=>obtain⟨o,a,c,_⟩:=x;exact⟨o,a, .inr c⟩
def Y4 {b:zq}{h:zl}{e it l:zu}{k:Nat}{i:Int}{f:zx}{xs:Array zx}(x:KJ b h l xs)(y:J3 b h it l k)(z:IsEnum h e it i f):l≠it/\l≠e:=by
 obtain⟨o,a,c⟩:=cD x;obtain⟨j,g,d⟩:=bo y;refine⟨λq=> ?_,λq=> ?_⟩
 .subst q;rw[a] at g;cases g;rcases c with c|c <;> rcases d with d|d <;> (rw[c] at d;simp at d)
 .subst q;rw[z] at a;cases a;rcases c with c|c <;> simp at c
def T8 {P:zp}{w:zm}{K:AAB}{es:zy zr}{S:Nat}{t:Pos}{b:zq}{e it l:zu}(B:e≠it):J5 P w K (.Tuple es S t) (dL K b l) [e,it] e (λk h=>(∃c,IsEnum h e it (k:Nat) c)/\J3 b h it l k) where
 mem:=by simp
 obj:=λk h st p hp=>by
  obtain⟨⟨c,he⟩,hi⟩:=st;have f:p=e\/p=it:=by simpa using hp
  rcases f with q|q
  .subst q;exact⟨_,he,λv z=>nomatch z⟩
  .subst q;exact hi.obj
 keep:=λk h h' st m=>by obtain⟨⟨c,he⟩,hi⟩:=st;exact⟨⟨c,m e (by simp) _ he⟩,hi.mv λo a=>m it (by simp) o a⟩
 item:=by
  intro X C hw D hc k L s M H E I r st F;subst C hw D;obtain⟨⟨c,he⟩,hi⟩:=st;obtain⟨xs,x,hq,hx⟩:=F;obtain⟨d,rv,p,hz⟩:=I.sq hq;obtain⟨u,hu,T⟩:=rv.get hx;have j:e<s.heap.objs.size:=AAG he;have G:it<s.heap.objs.size:=by obtain⟨o,a,_⟩:=hi.obj;exact AAG a
  obtain⟨N,O⟩:=Y4 p hi he;have U:k<d.toArray.size:=by have:=(AAp.mp hu).1;simpa using this
  refine wpAny_pyNext_enum_itemD (XM (prog:=X.prog) (w:=X.w) (A:=X.A.in1) (I.ok.hd hc) b it l N d.toArray) he ⟨hi,p⟩ U B (by simp only[AAF,AAg,AAd];rintro(z|z);exact B z;exact O z.symm) λy h1 J hy W Y Z a4 a5=> ?_;have sd:y=u:=by
   have:d[k]? =some y:=by simpa using hy
   rw[hu] at this;exact(AAV this).symm
  subst sd;refine⟨_,rfl,wpAny_letOwnedTupleGo_enum (s:={s with heap:=h1,toks:=J+1}) W λh2 c1 c2=> ?_⟩;have g:∀p o,p≠e->h1.get? p=some o->h2.get? p=some o:=λp o q z=>c2.extBut _ _ q z;have R:∀p∈ [e,it],p<s.heap.objs.size:=λp hp=>by
   have f:p=e\/p=it:=by simpa using hp
   rcases f with q|q
   .rw [q];exact j
   .rw [q];exact G
  have m:∀p o,p ∉ [e,it] ->s.heap.get? p=some o->h2.get? p=some o:=λp o hp z=>by
   have f:p≠e/\p≠it:=by simpa using hp
   exact g p o f.1 (a5 p o f.1 f.2 z)
  have I2:Inv X L M (upd H s.heap.objs.size (.tup [.int k,x])) {s with heap:=h2,toks:=J+1}:=I.turnedN r R m (AAI _)
   ⟨(by show 2<=sizeLine;decide), [.int k J,y], .cons ⟨_,rfl⟩ (.cons T .nil),⟨_,g _ _ (AAx j) Z,rfl,_,rfl⟩⟩
  have Ss:H s.heap.objs.size=none:=I.fresh;refine⟨.ref s.heap.objs.size,upd H s.heap.objs.size (.tup [.int k,x]),I2,rfl,⟨_,x,rfl,Ss,rfl,λxs' h'=> ?_⟩,⟨⟨y, ?_⟩, ?_⟩,λp hp=> ?_⟩
  .rw [I.sq_inj h' hq];exact hx
  .have:((k+1:Nat):Int)=(k:Int)+1:=by push_cast;rfl
   rw[this];exact c1
  .exact Y.1.mv λo z=>g it o B.symm z
  .rw [AZ (AAM (R p hp))];exact(r p hp).1
 done:=by
  intro X C hw D hc k L s M H E I r st F;subst C hw D;obtain⟨⟨c,he⟩,hi⟩:=st;obtain⟨xs,hq,hx⟩:=F;obtain⟨d,rv,p,hz⟩:=I.sq hq;have hl:=rv.length;have sz:d.toArray.size<=k:=by simp;omega
  obtain⟨N,O⟩:=Y4 p hi he;refine wpAny_pyNext_enum_endD (n:=k) (P:=λ_ _=>True) (St:=λi h=>i=k/\J3 b h it l k/\KJ b h l d.toArray) (fp:= [it,l]) ⟨λ_ _ st=>let ⟨o,ho,_⟩:=st.2.1.obj;⟨o,ho⟩,λ_ _ _ st hk=>⟨st.1,st.2.1.mv λo e=>hk it (by simp) o e,st.2.2.mv λo e=>hk l (by simp) o e⟩,λi s Q E hi st hQ=>absurd hi (by rw[st.1];omega),λs Q E st hE=>GR (A:=X.A.in1) (I.ok.hd hc) st.2.1 st.2.2 (by simp;simpa using sz) hE⟩ he ⟨rfl,hi,p⟩ λh' eb=>⟨rfl, ?_⟩;exact I.turnedL (t':=s.toks) r λp o hp z=>by
   have f:p≠e/\p≠it:=by simpa using hp
   exact eb p o f.2 z
 self:=λ_ _ _ _ _ st h=>by obtain⟨⟨c,he⟩,_⟩:=st;exact ACr he h
def HJ (b:zq)(l:zu)(items:Array zx):Meets (Builtin.«enumerate.__new__» ⟨[.type "enumerate", .ref l], []⟩) (λ_ R s=>KJ b s.heap l items/\ R (.ok (.ret (.ref (s.heap.push (Sy b l)).objs.size))) {s with heap:=(s.heap.push (Sy b l)).push {cls:= .type "enumerate",data:= .fields #[.none, .bool false, .ref s.heap.objs.size,rawInt 0, .none, .none] }}):=
 .of_wp λprog w A R s h=>by
   obtain⟨hp,g,d,e,os⟩:=s;obtain⟨hl,h⟩:=h;have f:=sub_enumerate;have a:KJ b hp l items:=hl
   wp_walk using Iw a
   refine wpAny_stack_any λst=>AAD ?_;split
   .rename_i c _ _ _ _ _;cases (c==Value.type "enumerate")
    .wp_walk using Iw a
     exact⟨_,rfl,h⟩
    .wp_walk using Iw a
     exact⟨_,rfl,h⟩
   .wp_walk using Iw a
    exact⟨_,rfl,h⟩
section
variable {prog:zp}{w:zm}{A:zk}{E:zx->zw->Prop}{s:zw}
def IF {b:zq}{l:zu}{items:Array zx}{Q:zx->zw->Prop}(a:KJ b s.heap l items)(h:∀h',IsEnum h' (s.heap.objs.size+1) s.heap.objs.size 0 .none->J3 b h' s.heap.objs.size l 0->h'.objs.size=s.heap.objs.size+2-> (∀b o,s.heap.get? b=some o->h'.get? b=some o)->Q (.ref (s.heap.objs.size+1)) {s with heap:=h'}):wpAny (model prog w) A (call (.type "enumerate") [.ref l]) Q E s:=by
 refine callType_new F.called_enumerate (by decide) (F.typeCall_enumerate_1 _) (F.newCall_enumerate_1 _) (λobj=>F.args_object_init_2 obj _) F.entry_enumerate_new
  (HJ b l items) ⟨a, ?_⟩
 have hz:(s.heap.push (Sy b l)).objs.size=s.heap.objs.size+1:=ABA ..;show _/\_;rw[hz];have he:IsEnum ((s.heap.push (Sy b l)).push
  {cls:= .type "enumerate",data:= .fields #[.none, .bool false, .ref s.heap.objs.size,rawInt 0, .none, .none] }) (s.heap.objs.size+1) s.heap.objs.size 0 .none:=by
  have:=AAP (s.heap.push (Sy b l))
   (o:={cls:= .type "enumerate",data:= .fields #[.none, .bool false, .ref s.heap.objs.size,rawInt 0, .none, .none] }) rfl
  rw[hz] at this;exact this
 exact⟨⟨_,he,rfl⟩,h _ he (Xs (AAH _ (AAP _ rfl))) (by rw[ABA,hz]) λb o x=>AAH _ (AAH _ x)⟩
end
section
variable {X:Cx}
def eG (K:AAB)(a:TA):TI:=λc H R=>a c H λvs H1=>∃b l,vs= [.ref l] /\(∃xs,Sq K b H1 l xs)/\R (dL K b l) H1
def YR {e:zr}{g:TA}{p c d:Pos}{es:zy zr}{k:Nat}(m:Gl X "enumerate")(n:X.mg "enumerate" =none)(ha:PA X [e] g)(hs:starEach [e] X.env= [(false,eval e X.env)] :=by rfl):PI X (.Tuple es k d) (.Call (.Name "enumerate" p) [e] [] c) (eG X.K g):=by
 intro o s t H R I h;refine Call_ (Iy I m n boot_enumerate (ABy (BJ (ha c o s t H _ I h) λus a ⟨vs,H1,f,u,v⟩=> ?_) (by rw[hs];rfl) rfl));obtain⟨b,l,rfl,⟨xs,hl⟩,q⟩:=v;cases u with
 | cons r w=>
 cases w;cases r;obtain⟨x,rv,p,hz⟩:=f.sq hl;refine IF p λh' i b2 z y=> ?_;refine ACr i ?_;have j:∀p∈ [a.heap.objs.size+1,a.heap.objs.size],a.heap.objs.size<=p:=λp hp=>by
  have A:p=a.heap.objs.size+1\/p=a.heap.objs.size:=by simpa using hp
  omega
 exact⟨_,_,_,_,H1,rfl,f.kept (t':=a.toks) y,T8 (Nat.succ_ne_self _),⟨⟨.none,i⟩,b2⟩,λp hp=>f.fpOk (j p hp) (f.hok.fresh (j p hp)),q⟩
end
end L2
namespace PL
open PySem PySem.Spec PyProof.Rows L2
def Sx {K:AAB}{T M:zu->Prop}{H:Hp}{l:zu}{x:PV}{xs:zy PV}(va:Fv T M H)(hx:x= .tup xs\/x= .lst xs)(r:Bs K T M H (.ref l) x):QA K M (dL K (db x) l) (DG 0 xs) T H:=by
 obtain⟨_,vs,e,hq,a⟩:=Ny hx r;cases e;refine⟨λi z h=> ?_,λi z v g h c=> ?_,λi h=>⟨vs,hq, ?_⟩⟩
 .obtain ⟨x,hx,_⟩:=Eo xs 0 i z h;obtain⟨u,hu,_⟩:=a.get hx;exact⟨vs,u,hq,hu⟩
 .obtain ⟨x,hx,rfl⟩:=Eo xs 0 i z h;obtain⟨p,u,rfl,d,rfl,hu⟩:=c;obtain⟨j,b,f⟩:=a.get' (hu vs hq);rw[hx] at b;cases b;have st:=Ct.lay (o:= .tup [.int (i:Nat),u]) va.tp d;rw[ACE];exact⟨st, .tup (.inl AX) (.cons (.int _) (.cons (f.stp st va) .nil))⟩
 .rw [a.length];rw[Iq] at h;exact h
section
variable {X:Cx}
def dZ (r:AA):AI:=λτ Q=>r τ λa=>match a with | [x] =>Mb x λxs=>Q (DG 0 xs)|_=>False
def jd {e:zr}{r:AA}{p b a:Pos}{es:zy zr}{c:Nat}(d:Gl X "enumerate")(f:X.mg "enumerate" =none)(ha:SA X [e] r)(hs:starEach [e] X.env= [(false,eval e X.env)] :=by rfl):SI X (.Tuple es c a) (.Call (.Name "enumerate" p) [e] [] b) true (dZ r):=by
 obtain⟨t,g,s⟩:=ha;refine⟨_,YR d f g hs,λB T i τ H R v j h k=>s B T i τ H _ _ j h λvs xs m H1 n o h1=> ?_⟩;split at h1 <;> first | exact h1.elim|skip
 rename_i x;obtain⟨xs,hx,h2⟩:=HM h1;cases o with
 | cons ra t=> cases t;obtain⟨l,us,rfl,hq,w⟩:=Ny hx ra;exact⟨db x,l,rfl,⟨us,hq⟩,k _ _ m H1 n (λM2 y z u va _=>Sx va hx (ra.mv u)) h2⟩
end
instance{r:AA}{τ:Ay}{a:zy PV->Prop}:Wp (dZ r τ a) (r τ λb=>match b with | [x] =>Mb x λxs=>a (DG 0 xs)|_=>False):=⟨id⟩
section
variable {X:Cx}{a b c d e:zr}{ta tb tc td:AE}{pos:Pos}
def Bp (ha:SE X a ta)(h:starEach [a] X.env=(false,eval a X.env)::starEach [] X.env:=by rfl):SA X [a] (AB ta AM):=DT ha EF h
def Ao (ha:SE X a ta)(hb:SE X b tb)(h:starEach [a,b] X.env=(false,eval a X.env)::starEach [b] X.env:=by rfl)(h2:starEach [b] X.env=(false,eval b X.env)::starEach [] X.env:=by rfl):SA X [a,b] (AB ta (AB tb AM)):=DT ha (Bp hb h2) h
def Fe (ha:SE X a ta)(hb:SE X b tb)(hc:SE X c tc)(h:starEach [a,b,c] X.env=(false,eval a X.env)::starEach [b,c] X.env:=by rfl)(h2:starEach [b,c] X.env=(false,eval b X.env)::starEach [c] X.env:=by rfl)(f:starEach [c] X.env=(false,eval c X.env)::starEach [] X.env:=by rfl):SA X [a,b,c] (AB ta (AB tb (AB tc AM))):=DT ha (Ao hb hc h2 f) h
def AU (ha:SE X a ta)(hb:SE X b tb)(hs:OD b:=by exact λ_ _=>rfl):SE X (.Subscript a b pos) (AW Ai ta tb):=jZ jf ha hb hs
def Fa {op:CmpOp}{r:R2}{f:Hq}(g:Dy X (compareOp op) r/\B8 X.K r f)(ha:SE X a ta)(hb:SE X b tb)(h:behindInMarks op b=false:=by exact Ca _):Rg X (.Compare a [op] [b] pos) (Aw (AW f ta tb)):=gG g ha hb h
def Ck (i:Nat){x:Str}{pos':Pos}(hN:X.N.Nodup)(he:SE X e ta)(hi:X.N[i]? =some x:=by rfl)(hx:Loc X.env.scope x:=by exact Or.inl rfl)(hs:swapsWith e (some (.Name x pos')) pos.line X.env=pure false:=by rfl)(f:X.fn x=true\/X.env.scope.names.lookup x=some .local:=by first | exact .inl rfl|exact .inr rfl|assumption):SS X (.Assign [.Name x pos'] e pos) (Ak ta (Am i)):=MS hN hi hx he hs f
def Es (i:Nat){x:Str}(hN:X.N.Nodup)(hi:X.N[i]? =some x:=by rfl)(hx:Loc X.env.scope x:=by exact Or.inl rfl)(f:X.fn x=true\/X.env.scope.names.lookup x=some .local:=by first | exact .inl rfl|exact .inr rfl|assumption):SG X (.Name x pos) (Am i):=PQ hN hi hx f
def Pp (i:Nat){own:Nat}{x:Str}(hN:X.N.Nodup)(hi:X.N[i]? =some x:=by rfl)(hx:Loc X.env.scope x:=by exact Or.inl rfl)(hk:i<own:=by decide)(f:X.fn x=true\/X.env.scope.names.lookup x=some .local:=by first | exact .inl rfl|exact .inr rfl|assumption):SK own X (.Name x pos) (Am i):=b6 hN hi hx hk f
end
def map_pair {a b c:Type}{o:zt a}{f:a->b}{g:a->c}{x:b}{y:c}(h1:o.map f=some x)(h2:o.map g=some y):o.map (λs=>(f s,g s))=some (x,y):=by
 cases o with
 | none=>cases h1
 | some s=>cases h1;cases h2;rfl
def map5 {a A B C D E:Type}{o:zt a}{F:a->A×B×C×D×E}{X:A×B×C×D×E}(h1:o.map (λs=>(F s).1)=some X.1)(h2:o.map (λs=>(F s).2.1)=some X.2.1)(b:o.map (λs=>(F s).2.2.1)=some X.2.2.1)(c:o.map (λs=>(F s).2.2.2.1)=some X.2.2.2.1)(d:o.map (λs=>(F s).2.2.2.2)=some X.2.2.2.2):o.map F=some X:=by
 cases o with
 | none=>cases h1
 | some s=>exact congrArg some (AB2 (AAV h1) (AB2 (AAV h2) (AB2 (AAV b) (AB2 (AAV c) (AAV d)))))
def Bj {P:zp}{w:zm}{K:AAB}{mg:Str->zt zx}{base:zl}{k a:Nat}{x:Str}{b:zy Str}{sp:Sp}(H:Has P w K mg base k x b sp)(h:k<=a:=by decide):Has P w K mg base a x b sp:=H.mono h
end PL
open PySem L2 PL PyProof.Rows
local macro_rules | `(tactic| decreasing_trivial_pre_omega)=> `(tactic| first | assumption|omega|((apply Bd.mono);(focus (repeat' (first | assumption|exact Ej.m (by assumption)|exact Ej.x (by assumption)|exact Ej.y (by assumption)|exact Ej.z (by assumption)|exact dc|exact iG|with_reducible apply Bd.add|with_reducible apply Bd.sub|with_reducible apply Bd.mul|with_reducible apply Bd.neg|with_reducible apply Bd.mx|with_reducible apply Bd.mn)));first | omega|decide)|decide|(simp only [List.length_map,List.length_append,List.length_cons,List.length_nil,List.length_take,List.length_drop,List.length_zip,List.length_reverse];omega)|(show _<=16777216;simp only [List.length_map,List.length_append,List.length_cons,List.length_nil,List.length_take,List.length_drop,List.length_zip,List.length_reverse];omega)|(show _<16777216;simp only [List.length_map,List.length_append,List.length_cons,List.length_nil,List.length_take,List.length_drop,List.length_zip,List.length_reverse];omega)|(refine And.intro ?_ ?_ <;> decreasing_trivial_pre_omega)|exact rfl)
local macro_rules | `(tactic| array_mem_dec)=> `(tactic| first
 | refine Wp.go ?_
 | ((refine QE.go ?_ ?_);focus (first | exact True.intro|decreasing_trivial_pre_omega))
 | ((with_reducible apply And.intro);focus decreasing_trivial_pre_omega)
 | ((with_reducible apply s_ifdT);focus decide)
 | ((with_reducible apply s_ifdF);focus decide)
 | ((with_reducible apply s_ifnT);focus decide)
 | ((with_reducible apply s_ifnF);focus decide)
 | refine kq.go (λ_=> ?_) (λ_=> ?_)
 | ((with_reducible apply fq);focus assumption)
 | ((with_reducible apply jR);focus exact rfl)
 | ((with_reducible apply s_isi);(focus (first | exact .inl rfl|exact .inr (.inl rfl)|exact .inr (.inr (.inl rfl))|exact .inr (.inr (.inr rfl))));(focus exact rfl))
 | ((with_reducible apply jU);focus exact rfl)
 | ((with_reducible apply jT);focus exact rfl)
 | intro _
 | with_reducible rfl)
local macro_rules | `(tactic| array_get_dec)=> `(tactic| first | array_mem_dec|refine oE.go ?_|fail)
local macro_rules | `(tactic| ac_rfl)=> `(tactic| repeat' array_mem_dec)
namespace PL
open PySem L2 PyProof.Rows
def Ez.open {n B:Nat}{cs:zy C4}(p:Ez n B cs):∃a r l,cs=a::r/\r≠ [] /\(a::r).getLast?=some l/\a.1<l.1:=by
 obtain⟨two,c,d,b⟩:=p;match cs,two,b with
 | a::b0::r,_,b=>exact⟨a,b0::r,_,rfl,by simp,ABr (by simp),(AAK.mp b).1 _ (ABt (V4 (ABr (by simp))))⟩
abbrev LA:AS:=
 (Ar (BB (AB (W9 Li (AW Ai (aV 0) (aC (.int 0)))) (AB (AW Ai (aV 0) (aC (.int 1))) AM))))
def DJ:AF:=Al 1 LA
def O4 {a:PV}{Q:PV->Prop}(h:LA ⟨λ_=>Q .non,Q,λ_=>False,λ_=>False⟩ [some (.val a)]):DJ [a] Q:=h
abbrev NP:AS:=
 (Ar (ga (Aw (AW Rh (aV 1) (aC (.int 2)))) (AW Ai (aV 0) (aC (.int 1))) (AW Ai (aV 0) (aC (.int 0)))))
def Dx:AF:=Al 2 NP
def RL {a b:PV}{Q:PV->Prop}(h:NP ⟨λ_=>Q .non,Q,λ_=>False,λ_=>False⟩ [some (.val a),some (.val b)]):Dx [a,b] Q:=h
def P4 (b:T3)(v:PV):Prop:=v=FO b\/v= .lst [fr b.1,fr b.2.1,fr b.2.2]
def Zs (cs:zy C4)(b:T3)(v:PV):Prop:=∃p w,Gr cs p/\P4 b w/\(v= .tup [p,w] \/v= .lst [p,w])
def e8 (r:Rat):PV.tup [.int (-r.num), .int r.den] =fr (-r):=by unfold fr;rw[Rat.neg_num,Rat.neg_den]
def Oe {r:Rat}{Q:PV->Prop}(q:Q (fr (-r))):DJ [fr r] Q:=by
 apply O4;repeat' array_get_dec
 rw[e8];exact q
def c0 {x:PV}{c:C4}{R:PV->Prop}(hx:x=cor c\/x=corL c)(h:R (fr c.1)):Ai x (.int 0) R:=by rcases hx with rfl|rfl <;> exact h
def f0 {cs:zy C4}{b:T3}{v:PV}{R:PV->Prop}(hv:Zs cs b v)(h:∀p,Gr cs p->R p):Ai v (.int 0) R:=by obtain⟨p,w,hp,hw,hv⟩:=hv;rcases hv with rfl|rfl <;> exact h p hp
def f1 {cs:zy C4}{b:T3}{v:PV}{R:PV->Prop}(hv:Zs cs b v)(h:∀w,P4 b w->R w):Ai v (.int 1) R:=by obtain⟨p,w,hp,hw,hv⟩:=hv;rcases hv with rfl|rfl <;> exact h w hw
def b2 {b:T3}{w:PV}{R:PV->Prop}(hw:P4 b w)(h:R (fr b.2.2)):Ai w (.int 2) R:=by rcases hw with rfl|rfl <;> exact h
def cm {k n:Nat}(h:k<=n)(a:n<1000000):k<sizeLine:=AAs h (AAS a (AAm rfl))
def bq {w:PV}{x y:Rat}{k:Int}(a:∀{R:PV->Prop},R (fr x)->Ai w (.int 0) R)(h1:∀{R:PV->Prop},R (fr y)->Ai w (.int 1) R){Q:PV->Prop}(q:Q (fr (if k=2 then y else x))):Dx [w, .int k] Q:=by
 apply RL;ac_rfl
 .rename_i h;rw[AAE h] at q;exact h1 q
 .rename_i h;rw[AAC h] at q;exact a q
def En {b:T3}{w:PV}{k:Int}(hw:P4 b w){Q:PV->Prop}(q:Q (fr (if k=2 then b.2.1 else b.1))):Dx [w, .int k] Q:=
 bq (λh=>by rcases hw with rfl|rfl <;> exact h) (λh=>by rcases hw with rfl|rfl <;> exact h) q
def aY {xs:zy PV}{k:Int}{R:PV->Prop}(a:0<=k)(h1:k<xs.length)(h:∀x∈xs,R x):Ai (.lst xs) (.int k) R:=by show aw (Ih xs k) R;have hk:xs[k.toNat]? =some (xs[k.toNat]'(by omega)):=AAT (by omega);have e:=C3 hk;rw[show ((k.toNat:Nat):Int)=k by omega] at e;rw[e];exact h _ (ABk _)
def Xu {xs:zy Rat}{k:Int}{R:PV->Prop}(a:0<=k)(h1:k<xs.length)(h:∀x∈xs,R (fr x)):Ai (.lst (xs.map fr)) (.int k) R:=by refine aY a (by simpa using h1) λx hx=> ?_;obtain⟨y,hy,rfl⟩:=AAc.mp hx;exact h y hy
section
variable {τ:Ay}
instance{i:Nat}{xs:zy PV}{P:zy PV->Prop}[h:cS τ i (.own xs)] :Wp (OG i τ P) (P xs):=⟨λk=>by unfold OG;rw[h.e];exact k⟩
end
def absR (r:Rat):Rat:=if r<0 then -r else r
def Bd.absR {n:Nat}{r:Rat}(h:Bd n r):Bd n (absR r):=by unfold PL.absR;split;exact h.neg;exact h
def X8 (p q:T3)(d:Rat×Rat):T3:=((p.1-q.1)/d.1,(p.2.1-q.2.1)/d.1,(p.2.2-q.2.2)/d.2)
def lE (o:T3):Rat:=mx (mx (mx 0 (absR o.1)) (absR o.2.1)) (absR o.2.2)
def ZI (a l b c:C4)(m:Rat):Prop:=(¬m<a.1/\¬m<b.1)/\m<l.1/\m<c.1
instance {a l b c:C4}{m:Rat}:Decidable (ZI a l b c m):=by unfold ZI;infer_instance
abbrev Ii:AS:=
 (Aa (Ak (AW QQ (AW Bb (aV 2) (aV 3)) (aC (.int 2))) (Am 4))
   (CJ (Aw (AR 2 A5 (AB (AW Ai (aV 0) (aV 4)) (AB (aV 1) AM)))) (Ak (AW Bb (aV 4) (aC (.int 1))) (Am 2)) (Ak (aV 4) (Am 3))))
abbrev Ik:AS:=
 (Aa (G7 (Aw (AW XR (aV 2) (aV 3))) Ii)
   (Ar (aV 2)))
abbrev Ij:AS:=
 (Aa (Ak (Fx IK (AB (aV 0) AM)) (Am 3))
   Ik)
abbrev Gm:AS:=
 (Aa (Ak (aC (.int 0)) (Am 2))
   Ij)
def Cf:AF:=Al 5 Gm
def KF {a b:PV}{Q:PV->Prop}(h:Gm ⟨λ_=>Q .non,Q,λ_=>False,λ_=>False⟩ [some (.val a),some (.val b),none,none,none]):Cf [a,b] Q:=h
abbrev JX:AS:=
 (Aa (Ak (R4 (AR 2 Cf (AB (aV 1) (AB (aV 2) AM)))) (Am 3))
   (CJ (QF (R6 (Aw (AW Rh (aV 3) (Fx IK (AB (aV 1) AM)))) (Aw (AW We (AW Ai (aV 1) (aV 3)) (aV 2))))) (C2 1 X3 (AB (aV 3) (AB (aV 2) AM))) BK))
abbrev P1:AS:=
 (Aa (EY (Mw (aV 0)) (Am 2) JX)
   (Ar (aV 1)))
abbrev P0:AS:=
 (Aa (Fy (D9 AM) 1)
   P1)
def Ft:AF:=Al 4 P0
def TX {a:PV}{Q:PV->Prop}(h:P0 ⟨λ_=>Q .non,Q,λ_=>False,λ_=>False⟩ [some (.val a),none,none,none]):Ft [a] Q:=h
abbrev Pw:AS:=
 (Aa (R3 3 iJ (W8 (aV 1) (aV 4) (aV 5)))
   (C2 2 F2 (AB (BB (AB (aV 4) (AB (aV 5) (AB (aV 3) AM)))) AM)))
abbrev Pz:AS:=
 (Aa (EY (Mw (AR 1 Ft (AB (G6 (Cu (Mw (G6 (R5 (AB (aV 1) AM)))) 2 [] (Ja 2 (Ad (Am 0) (Ad (Am 1) Bw))) E1 (aV 0))) AM))) (Am 4) (EY (Mw (BB (AB (aC (.int 0)) (AB (aC (.int 1)) AM)))) (Am 5) (CJ (Aw (Zz (aV 4) (aV 5) (aV 1))) Pw BK)))
   (Ar (aV 2)))
abbrev Py:AS:=
 (Aa (Ak (aC (.int 0)) (Am 3))
   Pz)
abbrev Px:AS:=
 (Aa (Fy (D9 AM) 2)
   Py)
abbrev Pu:AS:=
 (Aa (Ak (AR 1 GO (AB (aV 0) AM)) (Am 1))
   Px)
def Fs:AF:=Al 6 Pu
def TW {a:PV}{Q:PV->Prop}(h:Pu ⟨λ_=>Q .non,Q,λ_=>False,λ_=>False⟩ [some (.val a),none,none,none,none,none]):Fs [a] Q:=h
abbrev N5:AS:=
 (Aa (C2 2 F2 (AB (BB (AB (AW Ai (aV 3) (aC (.int 0))) (AB (AW Ai (aV 3) (aC (.int 1))) (AB (aV 4) AM)))) AM))
   (Ak (aC .non) (Am 3)))
abbrev Et:AS:=
 (Aa (CJ (Aw (AW Ng (aV 3) (aC .non))) (C2 2 F2 (AB (BB (AB (AW Ai (aV 3) (aC (.int 0))) (AB (AW Ai (aV 3) (aC (.int 1))) (AB (aC .non) AM)))) AM)) BK)
   (Ar (Fx Dd (AB (aV 2) AM))))
abbrev N7:AS:=
 (Aa (EY (Mw (AR 1 Fs (AB (aV 0) AM))) (Ja 3 (Ad (Am 4) (Ad (Am 5) (Ad (Am 6) Bw)))) (CJ (Fw (Aw (AW Gg (aV 3) (aC .non))) (Aw (AW oH (aV 6) (aV 1)))) (Ak (BB (AB (aV 4) (AB (AW Gh (aC (.int 1)) (aV 5)) AM))) (Am 3)) (CJ (Fw (Aw (AW Ng (aV 3) (aC .non))) (Aw (AW XR (aV 6) (aV 1)))) N5 BK)))
   Et)
abbrev N6:AS:=
 (Aa (Ak (aC .non) (Am 3))
   N7)
abbrev NM:AS:=
 (Aa (Fy (D9 AM) 2)
   N6)
def Du:AF:=Al 7 NM
def RI {a b:PV}{Q:PV->Prop}(h:NM ⟨λ_=>Q .non,Q,λ_=>False,λ_=>False⟩ [some (.val a),some (.val b),none,none,none,none,none]):Du [a,b] Q:=h
abbrev LK:AS:=
 (Ar (AR 2 Du (AB (aV 0) (AB (aC (.int 1)) AM))))
def D6:AF:=Al 1 LK
def O8 {a:PV}{Q:PV->Prop}(h:LK ⟨λ_=>Q .non,Q,λ_=>False,λ_=>False⟩ [some (.val a)]):D6 [a] Q:=h
def ins:zy Rat->Rat->zy Rat
 | [],x=> [x]
 | q::r,x=>if q<x then q::ins r x else if q=x then q::r else x::q::r
abbrev Pn (qs:zy Rat):Prop:=qs.Pairwise (· < ·)
theorem Oc {x y:Rat}:∀{qs:zy Rat},y∈ins qs x↔y=x\/y∈qs
 | [] =>by simp[ins]
 | q::r=>by
   unfold ins;split
   .rw [AAF,Oc,AAF];grind
   .split
    .rename_i h;subst h;simp
    .simp
theorem VF {x:Rat}:∀{qs:zy Rat},Pn qs->Pn (ins qs x)
 | [],_=>by simp[ins]
 | q::r,h=>by
   obtain⟨h1,h2⟩:=AAK.mp h;unfold ins;split
   .rename_i hq;refine AAK.mpr ⟨λy hy=> ?_,VF h2⟩;rcases Oc.mp hy with rfl|hy
    .exact hq
    .exact h1 y hy
   .split
    .exact h
    .refine AAK.mpr ⟨λy hy=> ?_,h⟩;rcases AAF.mp hy with rfl|hy
     .grind
     .have:=h1 y hy;grind
theorem Uj {x:Rat}:∀{qs:zy Rat},(ins qs x).length<=qs.length+1
 | [] =>by simp[ins]
 | q::r=>by
   have:=Uj (x:=x) (qs:=r);unfold ins;split
   .simp;omega
   .split <;> simp
structure At (qs:List Rat) (x:Rat) (k:Nat):Prop where
 le:k<=qs.length
 lo:∀q∈qs.take k,q<x
 hi:∀q∈qs.drop k,¬q<x
theorem R8:∀{qs:zy Rat} {x:Rat} {k:Nat},Pn qs->At qs x k->ins qs x=if qs[k]? =some x then qs else qs.take k++x::qs.drop k
 | [],x,k,_,h=>by have:=h.le;simp at this;subst this;simp[ins]
 | q::r,x,0,_,h=>by
   have:=h.hi q (by simp);unfold ins;rw[AAC this];by_cases e:q=x
   .rw [AAE e,AAE (by simp[e])]
   .rw [AAC e,AAC (by simp[e])];rfl
 | q::r,x,k+1,hs,h=>by have hq:=h.lo q (by simp);have ih:=R8 (qs:=r) (x:=x) (k:=k) (AAK.mp hs).2 ⟨by have:=h.le;simp at this;exact this,λy hy=>h.lo y (by simp[hy]),λy hy=>h.hi y (by simpa using hy)⟩;unfold ins;rw[AAE hq,ih];simp only[List.getElem?_cons_succ,ADK,List.drop_succ_cons];split <;> rfl
theorem Pg:∀{a b:zy Rat},Pn a->Pn b->(∀x,x∈a↔x∈b)->a=b
 | [], [],_,_,_=>rfl
 | [],y::b,_,_,h=>by have:=(h y).mpr (by simp);simp at this
 | x::a, [],_,_,h=>by have:=(h x).mp (by simp);simp at this
 | x::a,y::b,ha,hb,h=>by
   obtain⟨f,i⟩:=AAK.mp ha;obtain⟨g,b2⟩:=AAK.mp hb;have c:x=y:=by
    rcases AAF.mp ((h x).mp (by simp)) with e|e
    .exact e
    .rcases AAF.mp ((h y).mpr (by simp)) with d|d
     .exact d.symm
     .have:=g x e;have:=f y d;grind
   subst c;congr 1;refine Pg i b2 λz=>⟨λhz=> ?_,λhz=> ?_⟩
   .rcases AAF.mp ((h z).mp (by simp[hz])) with e|e
    .subst e;have:=f z hz;grind
    .exact e
   .rcases AAF.mp ((h z).mpr (by simp[hz])) with e|e
    .subst e;have:=g z hz;grind
    .exact e
def BQ (xs:zy Rat):zy Rat:=xs.foldl ins []
theorem Kb:∀(xs qs:zy Rat),Pn qs->Pn (xs.foldl ins qs)/\(∀y,y∈xs.foldl ins qs↔y∈xs\/y∈qs)/\(xs.foldl ins qs).length<=qs.length+xs.length
 | [],qs,h=>⟨h,by simp,by simp⟩
 | x::xs,qs,h=>by
   obtain⟨h1,h2,a⟩:=Kb xs (ins qs x) (VF h);refine⟨h1,λy=> ?_, ?_⟩
   .rw [AA2,h2,Oc,AAF];grind
   .have:=Uj (x:=x) (qs:=qs);rw[AA2,AAZ];omega
def Bt {xs:zy Rat}:Pn (BQ xs):=(Kb xs [] .nil).1
def BC {xs:zy Rat}{y:Rat}:y∈BQ xs↔y∈xs:=by rw[BQ,(Kb xs [] .nil).2.1];simp
def EC {xs:zy Rat}:(BQ xs).length<=xs.length:=by have:=(Kb xs [] .nil).2.2;unfold BQ;simpa using this
def ME {a b:zy Rat}(h:∀x,x∈a↔x∈b):BQ a=BQ b:=Pg Bt Bt λx=>by rw[BC,BC,h]
theorem Pj:∀{qs:zy Rat} {m:Nat} {c x:Rat},Pn qs->qs[m]? =some c->c<x->∀q∈qs.take (m+1),q<x
 | [],m,c,x,_,e,_=>by simp at e
 | a::r,0,c,x,_,e,h=>by simp at e;subst e;simp[h]
 | a::r,m+1,c,x,hs,e,h=>by
   obtain⟨h1,h2⟩:=AAK.mp hs;have b:r[m]? =some c:=by simpa using e
   intro q hq;rw[ADK] at hq;rcases AAF.mp hq with rfl|hq
   .have:=h1 c (ABX b);grind
   .exact Pj h2 b h q hq
theorem UY:∀{qs:zy Rat} {m:Nat} {c x:Rat},Pn qs->qs[m]? =some c->¬c<x->∀q∈qs.drop m,¬q<x
 | [],m,c,x,_,e,_=>by simp at e
 | a::r,0,c,x,hs,e,h=>by
   simp at e;subst e;intro q hq;rcases AAF.mp hq with rfl|hq
   .exact h
   .have:=(AAK.mp hs).1 q hq;grind
 | a::r,m+1,c,x,hs,e,h=>by intro q hq;exact UY (AAK.mp hs).2 (by simpa using e) h q (by simpa using hq)
def XF {qs:zy Rat}{x:Rat}{B M:Nat}(hs:Pn qs)(hl:qs.length<=1000000)(hq:∀q∈qs,Bd B q)(hx:Bd M x)(r:B<=4000)(s:M<=4000){Q:PV->Prop}(q:∀k:Nat,At qs x k->Q (.int k)):Cf [.lst (qs.map fr),fr x] Q:=by
 apply KF;repeat' array_get_dec
 refine dC (λn τ=>∃(lo hi:Nat) (z:zt AV),hi-lo<n/\lo<=hi/\hi<=qs.length/\(∀q∈qs.take lo,q<x)/\(∀q∈qs.drop hi,¬q<x)/\τ= [some (.val (.lst (qs.map fr))),some (.val (fr x)),some (.val (.int lo)),some (.val (.int hi)),z]) ?_ ?_ (n:=qs.length+1) ⟨0,qs.length,none,by omega,by omega,by omega,by simp,by simp,rfl⟩
 .rintro n τ R d ⟨lo,hi,z,h1,h2,i,f,g,rfl⟩;have j:frz [some (.val (.lst (qs.map fr))),some (.val (fr x)),some (.val (.int lo)),some (.val (.int hi)),z] = [some (.val (.lst (qs.map fr))),some (.val (fr x)),some (.val (.int lo)),some (.val (.int hi)),Z9 z] :=rfl;rw[j];repeat' array_get_dec
  .rename_i l;refine⟨⟨by decide,by decide⟩, ?_⟩;have o:((lo:Int)+hi).fdiv 2=((lo+hi)/2:Nat):=by rw[ABL _ (by decide)];omega
   rw[o];have m1:(lo+hi)/2<hi:=by omega
   have m2:lo<=(lo+hi)/2:=by omega
   generalize (lo+hi)/2=m at *;repeat' array_get_dec
   rename_i c p hc;have a:qs[m]? =some c:=p;have t:=hq c hc;repeat' array_get_dec
   .rename_i b;refine d _ ⟨m+1,hi,_,by omega,by omega,i,Pj hs a b,g,rfl⟩
   .rename_i b;refine d _ ⟨lo,m,_,by omega,m2,by omega,f,UY hs a b,rfl⟩
  .rename_i l;have e:lo=hi:=by omega
   subst e;exact q lo ⟨by omega,f,g⟩
 .rintro τ ⟨lo,hi,z,h,_⟩;omega
def WO {v:PV}{xs:zy Rat}{B:Nat}(hv:v= .lst (xs.map fr)\/v= .tup (xs.map fr))(hl:xs.length<=1000)(hx:∀x∈xs,Bd B x)(m:B<=4000){Q:PV->Prop}(q:Q (.lst ((BQ xs).map fr))):Ft [v] Q:=by
 apply TX;have key:∀{a b:zt AV},Ci (Am 2) JX ⟨Ar (aV 1) ⟨λ_=>Q .non,Q,λ_=>False,λ_=>False⟩,Q,λ_=>False,λ_=>False⟩ (xs.map fr) [some (.val v),some (.own []),a,b] :=by
  intro a b;refine C8 fr (λus vs τ=>∃a b,τ= [some (.val v),some (.own ((BQ us).map fr)),a,b]) ?_ ?_ ⟨_,_,rfl⟩
  .rintro τ ⟨a,b,rfl⟩;repeat' array_get_dec
   exact q
  .rintro us c vs e τ R n ⟨a,b,rfl⟩;have ul:us.length<=1000:=by have:=congrArg List.length e;simp at this;omega
   have r:=EC (xs:=us);have o:∀y∈BQ us,Bd B y:=λy hy=>hx y (by rw[<-e];simp[BC.mp hy]);have p:Bd B c:=hx c (by rw[<-e];simp);have f:∀(l:zy Rat) a b,l=ins (BQ us) c->R [some (.val v),some (.own (l.map fr)),a,b] :=λl a b h=>n _ ⟨a,b,by rw[h,show BQ (us ++ [c])=ins (BQ us) c by unfold BQ;rw[ABQ];rfl]⟩;repeat' array_get_dec
   refine XF Bt (by omega) o p m m λk hk=> ?_;have s:=hk.le;have i:=R8 Bt hk;repeat' array_get_dec
   .rename_i h1;have j:(BQ us)[k]? =none:=List.getElem?_eq_none (by omega);rw[j,AAC (by simp)] at i;have:=f _ (some (.val (fr c))) (some (.val (.int k))) i.symm;rw[AAU,AAL,ADX,ACA] at this;exact this
   .rename_i h1 d j _ h2;have g:(BQ us)[k]? =some d:=j;rw[g,AAC (by simpa using h2)] at i;have:=f _ (some (.val (fr c))) (some (.val (.int k))) i.symm;rw[AAU,AAL,ADX,ACA] at this;exact this
   .rename_i h1 d j _ h2;have g:(BQ us)[k]? =some d:=j;rw[g,AAE (by rw[h2])] at i;exact f _ _ _ i.symm
 rcases hv with rfl|rfl;all_goals
  ac_rfl;exact key
abbrev Pl:=Rat×Int
abbrev A8:=Rat×Int×zt Rat
def bp (s:A8):Pl:=(s.1,1-s.2.1)
def ep (s:A8):zt Pl:=s.2.2.map λe=>(e,0)
def EQ (p:Pl):FK:=((p.1.num,p.1.den),p.2)
def OX {p q:Pl}(h:EQ p=EQ q):p=q:=by obtain⟨a,i⟩:=p;obtain⟨b,j⟩:=q;unfold EQ at h;simp only[ADY,Int.ofNat_inj] at h;obtain⟨⟨h1,h2⟩,c⟩:=h;have:a=b:=Rat.ext h1 h2;rw[this,c]
def Vp:zt Rat->PV|none=> .non|some e=>fr e
def CS (s:A8):PV:= .tup [fr s.1, .int s.2.1,Vp s.2.2]
def bV (s:A8):PV:= .lst [fr s.1, .int s.2.1,Vp s.2.2]
def fi {s:A8}{x:PV}(h:x=CS s\/x=bV s):U6 x=some ((s.1.num,(s.1.den:Int)),s.2.1,s.2.2.map λe=>(e.num,(e.den:Int))):=by obtain⟨b,i,e⟩:=s;rcases h with rfl|rfl <;> cases e <;> rfl
def ZP {m:zy (FK×Int)}{k a:FK}{v:Int}:A4 (ND m k v) a=if a=k then some v else A4 m a:=by
 unfold ND;by_cases hk:(m.any λp=>decide (p.1=k))=true
 .rw [AAE hk];induction m with
  | nil=>simp at hk
  | cons p r ih=>
    by_cases e:p.1=k
    .by_cases b:a=k
     .subst b;simp[A4,e]
     .have:¬k=a:=λz=>b z.symm;by_cases d:(r.any λp=>decide (p.1=k))=true
      .have:=ih d;simpa[A4,e,b,this, ‹¬k=a›] using this
      .have f:r.map (λp=>if p.1=k then (p.1,v) else p)=r:=by
        conv=>rhs;rw[<-List.map_id r]
        apply AA1;intro q hq;have:¬q.1=k:=λz=>d (ABu.mpr ⟨q,hq,by simpa using z⟩);rw[AAC this];rfl
       simp only[AAL,e,AA3,f];simp[A4,e,b,this]
    .have d:(r.any λp=>decide (p.1=k))=true:=by simpa[e] using hk
     have:=ih d;by_cases c:p.1=a
     .have:¬a=k:=λz=>e (c.trans z);simp[A4,e,c,this]
     .simpa [A4,e,c] using this
 .rw [AAC hk];induction m with
  | nil=>
    by_cases b:a=k
    .subst b;simp[A4]
    .have:¬k=a:=λz=>b z.symm;simp[A4,b,this]
  | cons p r ih=>
    have e:¬p.1=k:=λz=>hk (by simp[z]);have d:¬(r.any λp=>decide (p.1=k))=true:=λz=>hk (by simp only[AAy,z,Bool.or_true]);have:=ih d;by_cases c:p.1=a
    .have:¬a=k:=λz=>e (c.trans z);simp[A4,c,this]
    .simpa [A4,c] using this
def aZ {m:zy (FK×Int)}{k a:FK}{v:Int}:a∈(ND m k v).map (·.1)↔a=k\/a∈m.map (·.1):=by
 unfold ND;split
 .rename_i hk;obtain⟨q,hq,e⟩:=ABu.mp hk;have e:q.1=k:=by simpa using e
  have:(m.map λp=>if p.1=k then (p.1,v) else p).map (·.1)=m.map (·.1):=by rw[AAo];apply AA1;intro p _;by_cases z:p.1=k <;> simp[z]
  rw[this];refine⟨.inr,λh=>h.elim (λz=> ?_) id⟩;rw[z,<-e];exact AAc.mpr ⟨q,hq,rfl⟩
 .rw [AAU,AAO];simp only[AAL,ABi,AAa];exact Or.comm
def cP {m:zy (FK×Int)}{k:FK}:(A4 m k).isSome=true↔k∈m.map (·.1):=by
 unfold A4;rw[ACB,List.find?_isSome,AAc];constructor
 .rintro ⟨p,hp,e⟩;exact⟨p,hp,by simpa using e⟩
 .rintro ⟨p,hp,e⟩;exact⟨p,hp,by simpa using e⟩
def L6 (s:A8)(p:Pl):Int:=(if bp s=p then 1 else 0)-(if ep s=some p then 1 else 0)
def cnt (ss:zy A8)(p:Pl):Int:=(ss.map λs=>L6 s p).sum
def IP (ss:zy A8)(p:Pl):Prop:=∃s∈ss,bp s=p\/ep s=some p
def Ir {m:zy (FK×Int)}{k a:FK}{d:Int}:(A4 (bump m k d) a).getD 0=(A4 m a).getD 0+if a=k then d else 0:=by
 unfold bump;rw[ZP];by_cases e:a=k
 .subst e;simp
 .simp [e]
def Lu {m:zy (FK×Int)}{k a:FK}{d:Int}:a∈(bump m k d).map (·.1)↔a=k\/a∈m.map (·.1):=aZ
inductive Dk:List PV->List A8->Prop where
 | nil:Dk [] []
 | cons {x:PV} {s:A8} {xs:List PV} {ss:List A8} (h:x=CS s\/x=bV s) (t:Dk xs ss):Dk (x::xs) (s::ss)
def Dk.length:∀{xs:zy PV} {ss:zy A8},Dk xs ss->xs.length=ss.length
 | _,_, .nil=>rfl
 | _,_, .cons _ t=>by simp[t.length]
def JG (ss:zy A8):Dk (ss.map CS) ss:=by
 induction ss with
 | nil=>exact .nil
 | cons s ss ih=>exact .cons (.inl rfl) ih
def RW {m:zy (FK×Int)}{s:A8}:(∀p,(A4 (FM m (s.1.num,(s.1.den:Int)) s.2.1 (s.2.2.map λe=>(e.num,(e.den:Int)))) (EQ p)).getD 0=(A4 m (EQ p)).getD 0+L6 s p)/\ ∀k,k∈(FM m (s.1.num,(s.1.den:Int)) s.2.1 (s.2.2.map λe=>(e.num,(e.den:Int)))).map (·.1)↔k∈m.map (·.1)\/∃p,(bp s=p\/ep s=some p)/\k=EQ p:=by
 obtain⟨b,h,e⟩:=s;have a:∀p:Pl,(EQ p=((b.num,(b.den:Int)),1-h))↔bp (b,h,e)=p:=λp=>⟨λz=>(OX (p:=p) (q:=(b,1-h)) z).symm,λz=>by rw[<-z];rfl⟩;cases e with
 | none=>
   refine⟨λp=> ?_,λk=> ?_⟩
   .show (A4 (bump m ((b.num,(b.den:Int)),1-h) 1) (EQ p)).getD 0=_;rw[Ir];simp only[a,L6,ep];simp
   .show k∈(bump m ((b.num,(b.den:Int)),1-h) 1).map (·.1)↔_;rw[Lu];constructor
    .rintro (z|z)
     .exact .inr ⟨_, .inl rfl,z⟩
     .exact .inl z
    .rintro (z|⟨p,z|z,hk⟩)
     .exact .inr z
     .exact .inl (by rw[hk,<-z];rfl)
     .cases z
 | some e=>
   have c:∀p:Pl,(EQ p=((e.num,(e.den:Int)),0))↔ep (b,h,some e)=some p:=λp=>⟨λz=>by rw[<-OX (p:=(e,0)) (q:=p) z.symm];rfl,λz=>by cases z;rfl⟩;refine⟨λp=> ?_,λk=> ?_⟩
   .show (A4 (bump (bump m ((b.num,(b.den:Int)),1-h) 1) ((e.num,(e.den:Int)),0) (-1)) (EQ p)).getD 0=_;rw[Ir,Ir];simp only[a,c,L6];split <;> split <;> omega
   .show k∈(bump (bump m ((b.num,(b.den:Int)),1-h) 1) ((e.num,(e.den:Int)),0) (-1)).map (·.1)↔_;rw[Lu,Lu];constructor
    .rintro (z|z|z)
     .exact .inr ⟨(e,0), .inr rfl,z⟩
     .exact .inr ⟨_, .inl rfl,z⟩
     .exact .inl z
    .rintro (z|⟨p,z|z,hk⟩)
     .exact .inr (.inr z)
     .exact .inr (.inl (by rw[hk,<-z];rfl))
     .exact .inl (by rw[hk];exact(c p).mpr z)
theorem Nz:∀{xs:zy PV} {ss:zy A8} (m0:zy (FK×Int)),Dk xs ss->∃m,Ed xs m0=some m/\(∀p,(A4 m (EQ p)).getD 0=(A4 m0 (EQ p)).getD 0+cnt ss p)/\(∀k,k∈m.map (·.1)↔k∈m0.map (·.1)\/∃p,IP ss p/\k=EQ p)/\m.length<=m0.length+2*ss.length
 | _,_,m0, .nil=>⟨m0,rfl,λp=>by simp[cnt],λk=>by simp[IP],by simp⟩
 | x::xs,s::ss,m0, .cons h t=>by
   obtain⟨m,h1,h2,d,i⟩:=Nz (FM m0 (s.1.num,(s.1.den:Int)) s.2.1 (s.2.2.map λe=>(e.num,(e.den:Int)))) t;obtain⟨f,g⟩:=RW (m:=m0) (s:=s);refine⟨m, ?_,λp=> ?_,λk=> ?_, ?_⟩
   .unfold Ed;rw[fi h];exact h1
   .rw [h2,f];simp[cnt];omega
   .rw [d,g];constructor
    .rintro ((z|⟨p,z,e⟩)|⟨p,⟨c,a,z⟩,e⟩)
     .exact .inl z
     .exact .inr ⟨p,⟨s,by simp,z⟩,e⟩
     .exact .inr ⟨p,⟨c,by simp[a],z⟩,e⟩
    .rintro (z|⟨p,⟨c,a,z⟩,e⟩)
     .exact .inl (.inl z)
     .rcases AAF.mp a with rfl|a
      .exact .inl (.inr ⟨p,z,e⟩)
      .exact .inr ⟨p,⟨c,a,z⟩,e⟩
   .have:=Jn (m:=m0) (b:=(s.1.num,(s.1.den:Int))) (h:=s.2.1) (e:=s.2.2.map λe=>(e.num,(e.den:Int)));simp only[AAZ];omega
def Ma (x p:Pl):zq:=decide (x.1<p.1)||(decide (x.1=p.1)&&decide (x.2<=p.2))
def Av (s:A8)(p:Pl):zq:=(decide (s.1<p.1)||(decide (s.1=p.1)&&decide (0<s.2.1+p.2)))&&(match s.2.2 with | none=>true|some e=>decide (p.1<e))
structure Bl (B:Nat) (s:A8):Prop where
 b:Bd B s.1
 h:s.2.1=0\/s.2.1=1
 e:∀e,s.2.2=some e->s.1<e/\Bd B e
def tm (s:A8)(p:Pl):Int:=(if Ma (bp s) p=true then 1 else 0)-(if (ep s).any (Ma · p)=true then 1 else 0)
def jm {B:Nat}{s:A8}{p:Pl}(ok:Bl B s)(hp:0<=p.2):tm s p=if Av s p=true then 1 else 0:=by
 obtain⟨b,h,e⟩:=s;obtain⟨q,i⟩:=p;have g:h=0\/h=1:=ok.h;have hp:0<=i:=hp;have d:Ma (bp (b,h,e)) (q,i)=(decide (b<q)||(decide (b=q)&&decide (0<h+i))):=by unfold Ma bp;congr 2;exact ABq.mpr (by show 1-h<=i↔0<h+i;omega)
 cases e with
 | none=> unfold tm Av;rw[d];simp[ep]
 | some e=>
   have j:b<e:=(ok.e e rfl).1;have f:(ep (b,h,some e)).any (Ma · (q,i))= !decide (q<e):=by
    show Ma (e,0) (q,i)=_;unfold Ma;by_cases z:q<e
    .have a:¬e<q:=by grind
     have c:¬e=q:=by grind
     simp[z,a,c]
    .by_cases a:e<q
     .simp [z,a]
     .have c:e=q:=by grind
      simp[c,hp]
   unfold tm Av;rw[d,f];by_cases z:q<e
   .simp [z]
   .have a:b<q:=by grind
    simp[z,a]
def Hn (ss:zy A8)(p:Pl):Nat:=(ss.filter (Av · p)).length
theorem Su {B:Nat}{p:Pl}(hp:0<=p.2):∀{ss:zy A8},(∀s∈ss,Bl B s)->(Hn ss p:Int)=(ss.map λs=>tm s p).sum
 | [],_=>rfl
 | s::ss,h=>by
   have ih:=Su hp (ss:=ss) λx hx=>h x (by simp[hx]);have e:=jm (p:=p) (h s (by simp)) hp;rw[AAL,AB9,<-ih,e];unfold Hn;rw[ABD];split
   .simp;omega
   .simp
def KS (x p:Pl):Prop:=x.1<p.1\/(x.1=p.1/\x.2<p.2)
def I0 {a b c:Pl}(h:KS a b)(h2:KS b c):KS a c:=by
 unfold KS at *;rcases h with h|⟨h,h'⟩ <;> rcases h2 with h2|⟨h2,d⟩
 .left;grind
 .left;grind
 .left;grind
 .right;exact⟨by grind,by omega⟩
def F1 {x p:Pl}:Ma x p=true↔KS x p\/x=p:=by
 obtain⟨a,i⟩:=x;obtain⟨b,j⟩:=p;unfold Ma KS;simp only[ACF,AAn,ACs,ADY];constructor
 .rintro (h|⟨h,h2⟩)
  .exact .inl (.inl h)
  .by_cases e:i=j
   .exact .inr ⟨h,e⟩
   .exact .inl (.inr ⟨h,by omega⟩)
 .rintro ((h|⟨h,h2⟩)|⟨h,h2⟩)
  .exact .inl h
  .exact .inr ⟨h,by omega⟩
  .exact .inr ⟨h,by omega⟩
def KU {p:Pl}:¬KS p p:=by
 unfold KS;rintro(h|⟨_,h⟩)
 .grind
 .omega
def Qq (x:Pl):zt Pl->zq|none=>false|some p=>Ma x p
def cN (s:A8)(o:zt Pl):Int:=(if Qq (bp s) o=true then 1 else 0)-(if (ep s).any (Qq · o)=true then 1 else 0)
def mE:zt Pl->Pl->Prop|none,_=>True|some q,p=>KS q p
def Ig {x p:Pl}{o:zt Pl}(hx:Qq x o=true\/x=p\/KS p x)(a:mE o p):Ma x p=(Qq x o||decide (x=p))/\¬(Qq x o=true/\x=p):=by
 have h1:Qq x o=true->KS x p:=λh=>by
  cases o with
  | none=>cases h
  | some q=>rcases F1.mp h with h|h
            .exact I0 h a
            .rw [h];exact a
 refine⟨?_,λh=>by rw[h.2] at h1;exact KU (h1 (h.2 ▸ h.1))⟩;rw[AA5,ACF,ACs,F1];constructor
 .rintro (h|h)
  .rcases hx with z|z|z
   .exact .inl z
   .exact .inr z
   .exact absurd (I0 h z) KU
  .exact .inr h
 .rintro (h|h)
  .exact .inl (h1 h)
  .exact .inr h
def Xl {A:zq}{E:Prop}[Decidable E](h:¬(A=true/\E)):(if (A||decide E)=true then (1:Int) else 0)=(if A=true then 1 else 0)+if E then 1 else 0:=by cases A <;> by_cases e:E <;> simp_all
def cO {s:A8}{p:Pl}{o:zt Pl}(hb:Qq (bp s) o=true\/bp s=p\/KS p (bp s))(he:∀x,ep s=some x->Qq x o=true\/x=p\/KS p x)(a:mE o p):tm s p=cN s o+L6 s p:=by
 obtain⟨b,b2⟩:=Ig hb a;unfold tm cN L6;rw[b,Xl b2];cases e:ep s with
 | none=>simp
 | some x=>
   obtain⟨c,d⟩:=Ig (he x e) a;have h1:(if (some x).any (Ma · p)=true then (1:Int) else 0)=(if Qq x o=true then 1 else 0)+if x=p then 1 else 0:=by show (if Ma x p=true then (1:Int) else 0)=_;rw[c,Xl d]
   rw[h1];show _=(_-(if Qq x o=true then (1:Int) else 0))+(_-(if some x=some p then (1:Int) else 0));have h2:(if some x=some p then (1:Int) else 0)=if x=p then 1 else 0:=by by_cases z:x=p <;> simp[z]
   rw[h2];omega
def Wy (X:zy Pl):Prop:=X.Pairwise KS
def G2 (ss:zy A8):Int->zy Pl->Prop
 | _, [] =>True
 | c,p::r=>(Hn ss p:Int)=c+cnt ss p/\G2 ss (Hn ss p) r
theorem VI {a:Type}(f g:a->Int):∀xs:zy a,(xs.map λx=>f x+g x).sum=(xs.map f).sum+(xs.map g).sum
 | [] =>rfl
 | x::xs=>by simp only[AAL,AB9,VI f g xs];omega
theorem Lg {B:Nat}{ss:zy A8}(ok:∀s∈ss,Bl B s):∀(X:zy Pl) (o:zt Pl),Wy X->(∀p∈X,mE o p/\0<=p.2)->(∀s∈ss,(Qq (bp s) o=true\/bp s∈X)/\∀x,ep s=some x->Qq x o=true\/x∈X)->G2 ss ((ss.map λs=>cN s o).sum) X
 | [],_,_,_,_=>True.intro
 | p::r,o,hs,ho,hk=>by
   obtain⟨h1,h2⟩:=AAK.mp hs;obtain⟨op,a⟩:=ho p (by simp);have cls:∀x,(Qq x o=true\/x∈p::r)->Qq x o=true\/x=p\/KS p x:=λx h=>by
    rcases h with h|h
    .exact .inl h
    .rcases AAF.mp h with h|h
     .exact .inr (.inl h)
     .exact .inr (.inr (h1 x h))
   have e:(Hn ss p:Int)=(ss.map λs=>cN s o).sum+cnt ss p:=by rw[Su a ok];unfold cnt;rw[<-VI];congr 1;apply AA1;intro s hs;exact cO (cls _ (hk s hs).1) (λx ex=>cls x ((hk s hs).2 x ex)) op
   refine⟨e, ?_⟩;have:=Lg ok r (some p) h2 (λq hq=>⟨h1 q hq,(ho q (by simp[hq])).2⟩) (λs hs=>⟨?_,λx ex=> ?_⟩)
   .rw [show (ss.map λs=>cN s (some p)).sum=(Hn ss p:Int) from(Su a ok).symm] at this;exact this
   .rcases cls _ (hk s hs).1 with z|z|z
    .exact .inl (by rw[show Qq (bp s) (some p)=Ma (bp s) p from rfl,(Ig (.inl z) op).1,z];rfl)
    .exact .inl (F1.mpr (.inr z))
    .rcases (hk s hs).1 with y|y
     .exact .inl (by rw[show Qq (bp s) (some p)=Ma (bp s) p from rfl,(Ig (.inl y) op).1,y];rfl)
     .rcases AAF.mp y with y|y
      .exact .inl (F1.mpr (.inr y))
      .exact .inr y
   .rcases (hk s hs).2 x ex with y|y
    .exact .inl (by rw[show Qq x (some p)=Ma x p from rfl,(Ig (.inl y) op).1,y];rfl)
    .rcases AAF.mp y with y|y
     .exact .inl (F1.mpr (.inr y))
     .exact .inr y
def places (qs:zy Rat):zy Pl:=qs.flatMap λq=> [(q,0),(q,1)]
def BI {qs:zy Rat}{p:Pl}:p∈places qs↔p.1∈qs/\(p.2=0\/p.2=1):=by
 obtain⟨a,i⟩:=p;unfold places;simp only[ABR,AAF,AAg,AAd,ADY];constructor
 .rintro ⟨q,hq,⟨rfl,rfl⟩|⟨rfl,rfl⟩⟩
  .exact ⟨hq, .inl rfl⟩
  .exact ⟨hq, .inr rfl⟩
 .rintro ⟨h,h2⟩;exact⟨a,h,h2.elim (λz=> .inl ⟨rfl,z⟩) (λz=> .inr ⟨rfl,z⟩)⟩
theorem EH:∀{qs:zy Rat},Pn qs->Wy (places qs)
 | [],_=>List.Pairwise.nil
 | q::r,h=>by
   obtain⟨h1,h2⟩:=AAK.mp h;have ih:=EH h2;have a:∀(i:Int),∀p∈places r,KS (q,i) p:=λi p hp=> .inl (h1 _ (BI.mp hp).1);show Wy ((q,0)::(q,1)::places r);refine AAK.mpr ⟨λp hp=> ?_,AAK.mpr ⟨a 1,ih⟩⟩;rcases AAF.mp hp with rfl|hp
   .exact .inr ⟨rfl,by show (0:Int)<1;decide⟩
   .exact a 0 p hp
def BY (ss:zy A8):zy Rat:=ss.flatMap λs=>s.1::s.2.2.toList
def Cy (ss:zy A8):zy Pl:=places (BQ (BY ss))
def Lv {B:Nat}{ss:zy A8}(ok:∀s∈ss,Bl B s){s:A8}(hs:s∈ss):bp s∈Cy ss/\∀x,ep s=some x->x∈Cy ss:=by
 refine⟨BI.mpr ⟨BC.mpr (ABR.mpr ⟨s,hs,by simp[bp]⟩), ?_⟩,λx ex=> ?_⟩
 .have:=(ok s hs).h;unfold bp;simp only;omega
 .obtain ⟨e,he,rfl⟩:=ABa.mp ex;exact BI.mpr ⟨BC.mpr (ABR.mpr ⟨s,hs,by simp[he]⟩), .inl rfl⟩
def Fz {B:Nat}{ss:zy A8}(ok:∀s∈ss,Bl B s):G2 ss 0 (Cy ss):=by
 have h:=Lg ok (Cy ss) none (EH Bt) (λp hp=>⟨True.intro,by rcases (BI.mp hp).2 with z|z <;> omega⟩) (λs hs=>⟨.inr (Lv ok hs).1,λx ex=> .inr ((Lv ok hs).2 x ex)⟩);have:(ss.map λs=>cN s none).sum=0:=by
  clear h ok;induction ss with
  | nil=>rfl
  | cons s ss ih=> rw[AAL,AB9,ih];unfold cN;cases ep s <;> rfl
 rw[this] at h;exact h
def CI (val:Pl->zt Int)(st:zy (Pl×Int)×Int)(p:Pl):zy (Pl×Int)×Int:=match val p with | some v=>(st.1 ++ [(p,st.2+v)],st.2+v)|none=>st
theorem Pm {ss:zy A8}{val:Pl->zt Int}(h1:∀p v,val p=some v->v=cnt ss p)(h2:∀p,val p=none->cnt ss p=0):∀(X:zy Pl) (a:zy (Pl×Int)) (c:Int),G2 ss c X->(X.foldl (CI val) (a,c)).1=a++(X.filter λp=>(val p).isSome).map λp=>(p,(Hn ss p:Int))
 | [],a,c,_=>by simp
 | p::r,a,c,h=>by
   rw[AA2];cases e:val p with
   | none=>
     have hc:(Hn ss p:Int)=c:=by rw[h.1,h2 p e];omega
     rw[show CI val (a,c) p=(a,c) by unfold CI;rw[e],Pm h1 h2 r a c (hc ▸ h.2),ABD,AAC (by rw[e];decide)]
   | some v=>
     have hc:c+v=(Hn ss p:Int):=by rw[h.1,h1 p v e]
     rw[show CI val (a,c) p=(a ++ [(p,c+v)],c+v) by unfold CI;rw[e],hc,Pm h1 h2 r _ _ h.2,ABD,AAE (by rw[e];rfl),AAL,List.append_assoc];rfl
section
variable {ta tb td:AE}{r:AA}{τ:Ay}{Q:PV->Prop}{QL:zy PV->Prop}{m:zy (FK×Int)}
def i7 (xs:zy PV)(Q:zy PV->Prop):Prop:=match xs with | [.dct kvs] =>Q (kvs.map λp=>S0 p.1)|_=>False
instance:Wp (R5 r τ QL) (r τ λxs=>i7 xs QL):=⟨id⟩
instance:Wp (i7 [.dct m] QL) (QL (m.map λp=>S0 p.1)):=⟨id⟩
class Zy (m:List (FK×Int)) (k:FK) (i:outParam Int):Prop where
 e:A4 m k=some i
def mH (m:zy (FK×Int))(k:FK)(Q:PV->Prop):Prop:=match A4 m k with | some i=>Q (.int i)|none=>False
instance:Wp (Zz ta tb td τ Q) (ta τ λx=>tb τ λy=>td τ λm=>gt m λkvs=>L5 x y λk=>Q (.bl (A4 kvs k).isSome)):=⟨id⟩
instance:Wp (W8 td ta tb τ Q) (td τ λm=>ta τ λx=>tb τ λy=>gt m λkvs=>L5 x y λk=>mH kvs k Q):=⟨id⟩
instance{k:FK}{i:Int}[h:Zy m k i] :Wp (mH m k Q) (Q (.int i)):=⟨λz=>by unfold mH;rw[h.e];exact z⟩
instance{R:zy (FK×Int)->Prop}:Wp (gt (.dct m) R) (R m):=⟨id⟩
instance{q:Rat}{i:Int}{R:FK->Prop}:Wp (L5 (fr q) (.int i) R) (R (EQ (q,i))):=⟨id⟩
end
def Y9 {v:PV}{xs:zy PV}{m:zy (FK×Int)}(hv:v= .tup xs\/v= .lst xs)(hl:xs.length<=1000)(h:Ed xs [] =some m){Q:PV->Prop}(q:Q (.dct m)):GO [v] Q:=by
 have hz:2*xs.length+2<sizeLine:=AAs (by omega:_<=2002) (AAS (by decide:2002<2003) (AAm rfl));rcases hv with rfl|rfl
 .exact ⟨hz,m,h,q⟩
 .exact ⟨hz,m,h,q⟩
def un (k:FK):Rat:=mkRat k.1.1 k.1.2.toNat
def gQ (p:Pl):un (EQ p)=p.1:=by unfold un EQ;show mkRat p.1.num ((p.1.den:Int).toNat)=p.1;rw[ABf];exact Rat.mkRat_self p.1
def eS (p:Pl):S0 (EQ p)= .tup [fr p.1, .int p.2] :=rfl
def kE (x:Pl×Int):PV:= .tup [fr x.1.1, .int x.1.2, .int x.2]
def Ob (ss:zy A8)(key:Pl->zq):zy (Pl×Int):=((Cy ss).filter key).map λp=>(p,(Hn ss p:Int))
def V6 {v:PV}{xs:zy PV}{ss:zy A8}{B:Nat}(hv:v= .tup xs\/v= .lst xs)(E:Dk xs ss)(ok:∀s∈ss,Bl B s)(hl:ss.length<=400)(I:B<=4000){Q:PV->Prop}(q:∀key:Pl->zq,(∀p,key p=true↔IP ss p)->Q (.lst ((Ob ss key).map kE))):Fs [v] Q:=by
 obtain⟨m,J,F,C,K⟩:=Nz [] E;have hx:=E.length;have M:∀p:Pl,(A4 m (EQ p)).isSome=true↔IP ss p:=λp=>by
  rw[cP,C];constructor
  .rintro (z|⟨T,z,e⟩)
   .cases z
   .rw [OX e];exact z
  .exact λz=> .inr ⟨p,z,rfl⟩
 have G:=q (λp=>(A4 m (EQ p)).isSome) M;have g:∀p w,A4 m (EQ p)=some w->w=cnt ss p:=λp w e=>by have:=F p;rw[e] at this;simpa[A4] using this
 have N:∀p,A4 m (EQ p)=none->cnt ss p=0:=λp e=>by have:=F p;rw[e] at this;simp[A4] at this;omega
 have O:=Pm g N (Cy ss) [] 0 (Fz ok);have mk:∀k∈m,∃p,k.1=EQ p/\IP ss p:=λk hk=>by
  rcases (C k.1).mp (AAc.mpr ⟨k,hk,rfl⟩) with z|⟨p,z,e⟩
  .cases z
  .exact ⟨p,e,z⟩
 have ms:∀x,x∈m.map (λk=>un k.1)↔x∈BY ss:=λx=>by
  rw[AAc];unfold BY;rw[ABR];constructor
  .rintro ⟨k,hk,rfl⟩;obtain⟨p,e,s,hs,z⟩:=mk k hk;rw[e,gQ];refine⟨s,hs, ?_⟩;rcases z with z|z
   .rw [<-z];simp[bp]
   .obtain ⟨U,he,rfl⟩:=ABa.mp z;simp[he]
  .rintro ⟨s,hs,hx⟩;have go:∀p:Pl,IP ss p->∃a∈m,un a.1=p.1:=λp hp=>by obtain⟨a,ha,e⟩:=AAc.mp ((C (EQ p)).mpr (.inr ⟨p,hp,rfl⟩));exact⟨a,ha,by rw[e,gQ]⟩
   rcases AAF.mp hx with rfl|hx
   .exact go (bp s) ⟨s,hs, .inl rfl⟩
   .have hx:s.2.2=some x:=by simpa using hx
    exact go (x,0) ⟨s,hs, .inr (by unfold ep;rw[hx];rfl)⟩
 have bm:∀x∈m.map (λk=>un k.1),Bd B x:=λx h=>by
  obtain⟨s,hs,hx⟩:=ABR.mp ((ms x).mp h);rcases AAF.mp hx with rfl|hx
  .exact (ok s hs).b
  .exact ((ok s hs).e x (by simpa using hx)).2
 have H:BQ (m.map λk=>un k.1)=BQ (BY ss):=ME ms;have W:m.length<=800:=by simp at K;omega
 apply TW;ac_rfl;refine Y9 hv (by omega) J ?_;ac_rfl;refine EM (λk:FK×Int=>S0 k.1) fr (λk=>un k.1) (λk=>k∈m) (λk hk R y=> ?_) m [] (λ_ h=>h) ?_
 .obtain ⟨p,e,_⟩:=mk k hk;rw[e,gQ] at y;rw[e,eS];repeat' array_get_dec
  exact y
 ac_rfl;rw[ABO];refine WO (.inl rfl) (by rw[AAJ];omega) bm I ?_;rw[H];have Y:(BQ (BY ss)).length<=800:=by rw[<-H];exact AAe EC (by rw[AAJ];omega)
 ac_rfl;refine C8 fr (λus vs τ=>∃r t,τ= [some (.val v),some (.val (.dct m)),some (.own (((places us).foldl (CI λp=>A4 m (EQ p)) ([],0)).1.map kE)),some (.val (.int ((places us).foldl (CI λp=>A4 m (EQ p)) ([],0)).2)),r,t]) ?_ ?_ ⟨_,_,rfl⟩
 .rintro τ ⟨r,t,rfl⟩;repeat' array_get_dec
  have e:Ob ss (λp=>(A4 m (EQ p)).isSome)=((places (BQ (BY ss))).foldl (CI λp=>A4 m (EQ p)) ([],0)).1:=by rw[show places (BQ (BY ss))=Cy ss from rfl,O];rfl
  rw[e] at G;exact G
 .rintro us c vs e τ R y ⟨r,t,rfl⟩;have ep:places (us ++ [c])=places us ++ [(c,0),(c,1)] :=by unfold places;simp
  have es:(places (us ++ [c])).foldl (CI λp=>A4 m (EQ p)) ([],0)=CI (λp=>A4 m (EQ p)) (CI (λp=>A4 m (EQ p)) ((places us).foldl (CI λp=>A4 m (EQ p)) ([],0)) (c,0)) (c,1):=by rw[ep,ABQ];rfl
  have P:((places us).foldl (CI λp=>A4 m (EQ p)) ([],0)).1.length<=2*us.length:=by
   have go:∀(X:zy Pl) (st:zy (Pl×Int)×Int),(X.foldl (CI λp=>A4 m (EQ p)) st).1.length<=st.1.length+X.length:=by
    intro X;induction X with
    | nil=>intro st;simp
    | cons p X ih=>
      intro st;have h1:=ih (CI (λp=>A4 m (EQ p)) st p);have h2:(CI (λp=>A4 m (EQ p)) st p).1.length<=st.1.length+1:=by unfold CI;split <;> simp
      rw[AA2,AAZ];omega
   have h1:=go (places us) ([],0);have h2:(places us).length=2*us.length:=by
    unfold places;clear y es ep e h1;induction us with
    | nil=>rfl
    | cons u us ih=>rw[ACt,AAr,ih];simp;omega
   simp at h1;omega
  have ul:us.length<=800:=by have:=congrArg List.length e;simp at this;omega
  generalize (places us).foldl (CI λp=>A4 m (EQ p)) ([],0)=st at *;obtain⟨L,n⟩:=st;have i:∀(L2:zy (Pl×Int)) D r t,(L2,D)=CI (λp=>A4 m (EQ p)) (CI (λp=>A4 m (EQ p)) (L,n) (c,0)) (c,1)->R [some (.val v),some (.val (.dct m)),some (.own (L2.map kE)),some (.val (.int D)),r,t] :=λL2 D r t h=>y _ ⟨r,t,by rw[es,<-h]⟩;clear y;have l:(Rat.num 0:Int)=0:=rfl;have o:((Rat.den 0:Nat):Int)=1:=rfl;have S:L.length<=1600:=by have h:L.length<=2*us.length:=P;omega
  cases j:A4 m (EQ (c,0)) with
  | none=>
    cases d:A4 m (EQ (c,1)) with
    | none=>
      have f:=i L n;repeat' array_get_dec
      simp only[l,o,j];repeat' array_get_dec
      simp only[l,o,d];repeat' array_get_dec
      exact f _ _ (by unfold CI;simp only[j,d])
    | some g=>
      have f:=i (L ++ [((c,1),n+g)]) (n+g);rw[AAU] at f;haveI:Zy m (EQ (c,1)) g:=⟨d⟩;repeat' array_get_dec
      simp only[l,o,j];repeat' array_get_dec
      simp only[l,o,d];repeat' array_get_dec
      exact f _ _ (by unfold CI;simp only[j,d])
  | some A=>
    haveI:Zy m (EQ (c,0)) A:=⟨j⟩;cases d:A4 m (EQ (c,1)) with
    | none=>
      have f:=i (L ++ [((c,0),n+A)]) (n+A);rw[AAU] at f;repeat' array_get_dec
      simp only[l,o,j];repeat' array_get_dec
      simp only[l,o,d];repeat' array_get_dec
      exact f _ _ (by unfold CI;simp only[j,d])
    | some g=>
      have f:=i (L ++ [((c,0),n+A)] ++ [((c,1),n+A+g)]) (n+A+g);rw[AAU,AAU] at f;haveI:Zy m (EQ (c,1)) g:=⟨d⟩;repeat' array_get_dec
      simp only[l,o,j];repeat' array_get_dec
      simp only[l,o,d];repeat' array_get_dec
      exact f _ _ (by unfold CI;simp only[j,d])
def stepI (st:zy A8×zt Pl)(x:Pl×zq):zy A8×zt Pl:=
 match st.2,x.2 with
 | none,true=>(st.1,some x.1)
 | some b,false=>(st.1 ++ [(b.1,1-b.2,some x.1.1)],none)
 | _,_=>st
def OK (st:zy A8×zt Pl):zy A8:=match st.2 with | none=>st.1|some b=>st.1 ++ [(b.1,1-b.2,none)]
def DZ (X:zy (Pl×zq)):zy A8:=OK (X.foldl stepI ([],none))
def Vc:zt Pl->PV|none=> .non|some b=> .tup [fr b.1, .int (1-b.2)]
def WT {st:zy A8×zt Pl}{x:Pl×zq}:(stepI st x).1.length<=st.1.length+1:=by unfold stepI;split <;> simp
theorem GS:∀(X:zy (Pl×zq)) (st:zy A8×zt Pl),(X.foldl stepI st).1.length<=st.1.length+X.length
 | [],st=>by simp
 | x::X,st=>by have h1:=GS X (stepI st x);have h2:=WT (st:=st) (x:=x);rw[AA2,AAZ];omega
theorem JA:∀{ss:zy A8},(BY ss).length<=2*ss.length
 | [] =>by simp[BY]
 | s::ss=>by
   have ih:=JA (ss:=ss);unfold BY at *;rw[ACt,AAr,AAZ,AAZ];have:s.2.2.toList.length<=1:=by cases s.2.2 <;> simp
   omega
theorem HP:∀{qs:zy Rat},(places qs).length=2*qs.length
 | [] =>rfl
 | q::qs=>by have ih:=HP (qs:=qs);unfold places at *;rw[ACt,AAr,ih,AAZ];simp;omega
def X2 {ss:zy A8}{key:Pl->zq}:(Ob ss key).length<=4*ss.length:=by unfold Ob Cy;rw[AAJ];have h1:=List.length_filter_le key (places (BQ (BY ss)));have h2:=HP (qs:=BQ (BY ss));have a:=EC (xs:=BY ss);have b:=JA (ss:=ss);omega
def SH {v:PV}{xs:zy PV}{ss:zy A8}{B:Nat}{n:Int}(hv:v= .tup xs\/v= .lst xs)(t:Dk xs ss)(ok:∀s∈ss,Bl B s)(hl:ss.length<=400)(u:B<=4000){Q:PV->Prop}(q:∀key:Pl->zq,(∀p,key p=true↔IP ss p)->Q (.tup ((DZ ((Ob ss key).map λx=>(x.1,decide (n<=x.2)))).map CS))):Du [v, .int n] Q:=by
 apply RI;ac_rfl;refine V6 hv t ok hl u λkey hk=> ?_;have l:=q key hk;have w:(Ob ss key).length<=2000:=AAe X2 (by omega);clear q;generalize Ob ss key=Ls at *;ac_rfl;refine C8 kE (λus vs τ=>∃a d g,τ= [some (.val v),some (.val (.int n)),some (.own (((us.map λx=>(x.1,decide (n<=x.2))).foldl stepI ([],none)).1.map CS)),some (.val (Vc ((us.map λx=>(x.1,decide (n<=x.2))).foldl stepI ([],none)).2)),a,d,g]) ?_ ?_ ⟨_,_,_,rfl⟩
 .rintro τ ⟨a,d,g,rfl⟩;have m:=GS (Ls.map λx=>(x.1,decide (n<=x.2))) ([],none);unfold DZ at l;generalize (Ls.map λx=>(x.1,decide (n<=x.2))).foldl stepI ([],none)=st at *;obtain⟨L,b⟩:=st;have o:L.length<=2000:=by have h:L.length<=0+_:=m;rw[AAJ] at h;omega
  cases b with
  | none=>
    have j:Q (.tup (L.map CS)):=l;show Et _ [some (.val v),some (.val (.int n)),some (.own (L.map CS)),some (.val .non),a,d,g];repeat' array_get_dec
    exact j
  | some b=>
    have j:Q (.tup ((L ++ [(b.1,1-b.2,none)]).map CS)):=l;rw[AAU] at j;show Et _ [some (.val v),some (.val (.int n)),some (.own (L.map CS)),some (.val (.tup [fr b.1, .int (1-b.2)])),a,d,g];repeat' array_get_dec
    exact j
 .rintro us c vs e τ R r ⟨a,d,g,rfl⟩;have m:=GS (us.map λx=>(x.1,decide (n<=x.2))) ([],none);have ul:us.length<=2000:=by have:=congrArg List.length e;simp at this;omega
  have es:((us ++ [c]).map λx=>(x.1,decide (n<=x.2))).foldl stepI ([],none)=stepI ((us.map λx=>(x.1,decide (n<=x.2))).foldl stepI ([],none)) (c.1,decide (n<=c.2)):=by rw[AAU,ABQ];rfl
  generalize (us.map λx=>(x.1,decide (n<=x.2))).foldl stepI ([],none)=st at *;obtain⟨L,b⟩:=st;have o:L.length<=2000:=by have h:L.length<=0+_:=m;rw[AAJ] at h;omega
  have i:∀L2 b2 a d g,(L2,b2)=stepI (L,b) (c.1,decide (n<=c.2))->R [some (.val v),some (.val (.int n)),some (.own (L2.map CS)),some (.val (Vc b2)),a,d,g] :=λL2 b2 a d g h=>r _ ⟨a,d,g,by rw[es,<-h]⟩;clear r;obtain⟨p,k⟩:=c;show Ja 3 (Ad (Am 4) (Ad (Am 5) (Ad (Am 6) Bw))) (.tup [fr p.1, .int p.2, .int k]) _ _;cases b with
  | none=>
    show Ja 3 (Ad (Am 4) (Ad (Am 5) (Ad (Am 6) Bw))) (.tup [fr p.1, .int p.2, .int k]) [some (.val v),some (.val (.int n)),some (.own (L.map CS)),some (.val .non),a,d,g] _;repeat' array_get_dec
    .rename_i h;exact i L (some p) _ _ _ (by unfold stepI;simp only[AAi h])
    .rename_i h;exact i L none _ _ _ (by unfold stepI;simp only[AAY h])
  | some b=>
    show Ja 3 (Ad (Am 4) (Ad (Am 5) (Ad (Am 6) Bw))) (.tup [fr p.1, .int p.2, .int k]) [some (.val v),some (.val (.int n)),some (.own (L.map CS)),some (.val (.tup [fr b.1, .int (1-b.2)])),a,d,g] _;repeat' array_get_dec
    .rename_i h;have f:=i (L ++ [(b.1,1-b.2,some p.1)]) none (some (.val (fr p.1))) (some (.val (.int p.2))) (some (.val (.int k))) (by unfold stepI;simp only[AAY (show ¬n<=k by omega)]);rw[AAU] at f;exact f
    .rename_i h;exact i L (some b) _ _ _ (by unfold stepI;simp only[AAi (show n<=k by omega)])
def R0 (In key:Pl->zq):zq->zy Pl->Prop
 | _, [] =>True
 | c,p::r=>(key p=false->In p=c)/\R0 In key (In p) r
def Tn {st:zy A8×zt Pl}{p:Pl}{i:zq}:(stepI st (p,i)).2.isSome=i:=by obtain⟨L,b⟩:=st;cases b <;> cases i <;> rfl
def Tl {st:zy A8×zt Pl}{p:Pl}{i:zq}(h:i=st.2.isSome):stepI st (p,i)=st:=by obtain⟨L,b⟩:=st;cases b <;> cases i <;> first | rfl|cases h
theorem GW {In key:Pl->zq}:∀(X:zy Pl) (st:zy A8×zt Pl),R0 In key st.2.isSome X->(X.map λp=>(p,In p)).foldl stepI st=((X.filter key).map λp=>(p,In p)).foldl stepI st
 | [],st,_=>rfl
 | p::r,st,h=>by
   rw[AAL,AA2,ABD];cases k:key p with
   | true=> rw[AAE rfl,AAL,AA2];exact GW r _ (by rw[Tn];exact h.2)
   | false=> have e:=h.1 k;rw[AAC (by decide),Tl e];exact GW r st (by have:=h.2;rw[e] at this;exact this)
theorem Hj {ss:zy A8}{key:Pl->zq}{n:Int}(hk:∀p,key p=false->cnt ss p=0):∀(X:zy Pl) (c:Int),G2 ss c X->R0 (λp=>decide (n<=(Hn ss p:Int))) key (decide (n<=c)) X
 | [],_,_=>True.intro
 | p::r,c,h=>⟨λk=>(by show decide (n<=(Hn ss p:Int))=_;rw[h.1,hk p k,Int.add_zero]),Hj hk r _ h.2⟩
def canon (n:Int)(ss:zy A8):zy A8:=DZ ((Cy ss).map λp=>(p,decide (n<=(Hn ss p:Int))))
def QM {ss:zy A8}{p:Pl}(h:¬IP ss p):cnt ss p=0:=by
 have key:∀ss:zy A8,(∀s∈ss,¬(bp s=p\/ep s=some p))->cnt ss p=0:=by
  intro ss;induction ss with
  | nil=>intro _;rfl
  | cons s ss ih=>
    intro h;have h1:=h s (by simp);have e:cnt (s::ss) p=L6 s p+cnt ss p:=by simp[cnt]
    rw[e,ih λx hx=>h x (by simp[hx])];unfold L6;rw[AAC λz=>h1 (.inl z),AAC λz=>h1 (.inr z)];rfl
 exact key ss λs hs z=>h ⟨s,hs,z⟩
def XD {ss:zy A8}{B:Nat}{n:Int}{key:Pl->zq}(ok:∀s∈ss,Bl B s)(a:0<n)(hk:∀p,key p=true↔IP ss p):DZ ((Ob ss key).map λx=>(x.1,decide (n<=x.2)))=canon n ss:=by
 unfold canon DZ Ob;rw[AAo];have h:=GW (In:=λp=>decide (n<=(Hn ss p:Int))) (key:=key) (Cy ss) ([],none) (by
  have:=Hj (n:=n) (key:=key) (λp z=>QM λy=>by rw[(hk p).mpr y] at z;cases z) (Cy ss) 0 (Fz ok);rw[AAY (by omega)] at this;exact this)
 rw[h];rfl
def SD {v:PV}{xs:zy PV}{ss:zy A8}{B:Nat}{n:Int}(hv:v= .tup xs\/v= .lst xs)(a:Dk xs ss)(ok:∀s∈ss,Bl B s)(hl:ss.length<=400)(b:B<=4000)(c:0<n){Q:PV->Prop}(q:Q (.tup ((canon n ss).map CS))):Du [v, .int n] Q:=
 SH hv a ok hl b λkey hk=>by rw[XD ok c hk];exact q
def RY {v:PV}{xs:zy PV}{ss:zy A8}{B:Nat}(hv:v= .tup xs\/v= .lst xs)(a:Dk xs ss)(ok:∀s∈ss,Bl B s)(hl:ss.length<=400)(b:B<=4000){Q:PV->Prop}(q:Q (.tup ((canon 1 ss).map CS))):D6 [v] Q:=by
 apply O8;repeat' array_get_dec
 exact SD hv a ok hl b (by decide) q
def HF {ss:zy A8}{p:Pl}:decide ((1:Int)<=(Hn ss p:Int))=ss.any (Av · p):=by
 rw[AA5,ACs,ABu];unfold Hn;constructor
 .intro h;obtain⟨s,hs⟩:=List.exists_mem_of_length_pos (l:=ss.filter (Av · p)) (by omega);have:=ABd.mp hs;exact⟨s,this.1,this.2⟩
 .rintro ⟨s,hs,h⟩;have:=List.length_pos_of_mem (ABd.mpr ⟨hs,h⟩:s∈ss.filter (Av · p));omega
def De (In:Pl->zq):zy Pl->zt Pl->zy A8
 | [],none=> []
 | [],some b=> [(b.1,1-b.2,none)]
 | p::r,none=>if In p=true then De In r (some p) else De In r none
 | p::r,some b=>if In p=true then De In r (some b) else (b.1,1-b.2,some p.1)::De In r none
theorem MD {In:Pl->zq}:∀(X:zy Pl) (a:zy A8) (b:zt Pl),OK ((X.map λp=>(p,In p)).foldl stepI (a,b))=a++De In X b
 | [],a,none=>by simp[OK,De]
 | [],a,some b=>by simp[OK,De]
 | p::r,a,none=>by
   rw[AAL,AA2];unfold De;cases e:In p with
   | true=>exact MD r a (some p)
   | false=>exact MD r a none
 | p::r,a,some b=>by
   rw[AAL,AA2];unfold De;cases e:In p with
   | true=>exact MD r a (some b)
   | false=> show OK ((r.map λp=>(p,In p)).foldl stepI (a ++ [(b.1,1-b.2,some p.1)],none))=a++((b.1,1-b.2,some p.1)::De In r none);rw[MD r _ none];simp
def Nq {In:Pl->zq}{X:zy Pl}:DZ (X.map λp=>(p,In p))=De In X none:=by unfold DZ;rw[MD];rfl
def KO {q p:Pl}{e:zt Rat}(hq:q.2=0\/q.2=1)(hp:0<=p.2):Av (q.1,1-q.2,e) p=(Ma q p&&(match e with | none=>true|some e=>decide (p.1<e))):=by unfold Av Ma;congr 2;congr 1;exact ABq.mpr (by show 0<1-q.2+p.2↔q.2<=p.2;omega)
def Il (In:Pl->zq):zq->zy Pl->Prop
 | _, [] =>True
 | c,p::r=>(c=true->In p=false->p.2=0)/\Il In (In p) r
theorem Uz {In:Pl->zq}:∀(X:zy Pl),Wy X->(∀x∈X,x.2=0\/x.2=1)-> (Il In false X->(∀p:Pl,0<=p.2->(∀x∈X,KS p x)->(De In X none).any (Av · p)=false)/\∀p∈X,(De In X none).any (Av · p)=In p)/\ (Il In true X->∀q:Pl,(q.2=0\/q.2=1)->(∀x∈X,KS q x)->(∀p:Pl,0<=p.2->(∀x∈X,KS p x)->(De In X (some q)).any (Av · p)=Ma q p)/\∀p∈X,(De In X (some q)).any (Av · p)=In p)
 | [],_,_=>⟨λ_=>⟨λp _ _=>rfl,λp hp=>by cases hp⟩,λ_ q hq _=>⟨λp hp _=>by show (Av (q.1,1-q.2,none) p||false)=_;rw[KO hq hp];simp,λp hp=>by cases hp⟩⟩
 | x::r,hs,SZ=>by
   obtain⟨h1,h2⟩:=AAK.mp hs;have ih:=Uz (In:=In) r h2 λy hy=>SZ y (by simp[hy]);have j:=SZ x (by simp);have f:0<=x.2:=by omega
   have g:∀p:Pl,(∀y∈x::r,KS p y)->∀y∈r,KS p y:=λp h y hy=>h y (by simp[hy]);have l:∀p:Pl,KS p x->Ma x p=false:=λp h=>by
    rw[<-Bool.not_eq_true,F1];rintro(z|z)
    .exact KU (I0 z h)
    .rw [z] at h;exact KU h
   have m:Ma x x=true:=F1.mpr (.inr rfl);refine⟨λhd=> ?_,λhd q hq k=> ?_⟩
   .unfold De;cases e:In x with
    | true=>
      have a:=hd.2;rw[e] at a;obtain⟨b,d⟩:=ih.2 a x j h1;rw[AAE rfl];refine⟨λp c hp=> ?_,λp hp=> ?_⟩
      .rw [b p c (g p hp),l p (hp x (by simp))]
      .rcases AAF.mp hp with rfl|hp
       .rw [b p f h1,m,e]
       .exact d p hp
    | false=>
      have a:=hd.2;rw[e] at a;obtain⟨b,d⟩:=ih.1 a;rw[AAC (by decide)];refine⟨λp c hp=>b p c (g p hp),λp hp=> ?_⟩;rcases AAF.mp hp with rfl|hp
      .rw [b p f h1,e]
      .exact d p hp
   .unfold De;have n:Ma q x=true:=F1.mpr (.inl (k x (by simp)));cases e:In x with
    | true=>
      have a:=hd.2;rw[e] at a;obtain⟨b,d⟩:=ih.2 a q hq (g q k);rw[AAE rfl];refine⟨λp c hp=>b p c (g p hp),λp hp=> ?_⟩;rcases AAF.mp hp with rfl|hp
      .rw [b p f h1,n,e]
      .exact d p hp
    | false=>
      have a:=hd.2;rw[e] at a;obtain⟨b,d⟩:=ih.1 a;have s:=hd.1 rfl e;rw[AAC (by decide)];have i:∀p:Pl,(p=x\/KS x p)->¬p.1<x.1:=λp h=>by rcases h with h|h|⟨h,_⟩ <;> grind
      refine⟨λp c hp=> ?_,λp hp=> ?_⟩
      .have o:p.1<x.1:=by
        rcases hp x (by simp) with z|⟨_,z⟩
        .exact z
        .omega
       show (Av (q.1,1-q.2,some x.1) p||(De In r none).any (Av · p))=_;rw[KO hq c,b p c (g p hp)];simp[o]
      .show (Av (q.1,1-q.2,some x.1) p||(De In r none).any (Av · p))=_;rcases AAF.mp hp with rfl|hp
       .rw [KO hq f,b p f h1,e];simp[i p (.inl rfl)]
       .rw [KO hq (by have:=SZ p (by simp[hp]);omega),d p hp];simp[i p (.inr (h1 p hp))]
theorem RH {In:Pl->zq}(P:Rat->Prop):∀(X:zy Pl) (b:zt Pl),Wy X->(∀x∈X,(x.2=0\/x.2=1)/\P x.1)->Il In b.isSome X->(∀q,b=some q->(q.2=0\/q.2=1)/\P q.1/\∀x∈X,KS q x)-> ∀s∈De In X b,P s.1/\(s.2.1=0\/s.2.1=1)/\∀e,s.2.2=some e->s.1<e/\P e
 | [],none,_,_,_,_=>λs hs=>by cases hs
 | [],some q,_,_,_,hb=>λs hs=>by obtain⟨h1,h2,_⟩:=hb q rfl;simp only[De,AAa] at hs;subst hs;exact⟨h2,by show 1-q.2=0\/1-q.2=1;omega,λe he=>by cases he⟩
 | x::r,b,hs,SZ,hd,hb=>by
   obtain⟨h1,h2⟩:=AAK.mp hs;have ih:=λb d hb=>RH (In:=In) P r b h2 (λy hy=>SZ y (by simp[hy])) d hb;have a:=hd.2;cases b with
   | none=>
     unfold De;cases e:In x with
     | true=> rw[AAE rfl];rw[e] at a;exact ih (some x) a λq hq=>by cases hq;exact⟨(SZ x (by simp)).1,(SZ x (by simp)).2,h1⟩
     | false=> rw[AAC (by decide)];rw[e] at a;exact ih none a λq hq=>by cases hq
   | some q=>
     obtain⟨g,c,f⟩:=hb q rfl;unfold De;cases e:In x with
     | true=> rw[AAE rfl];rw[e] at a;exact ih (some q) a λh hq=>by cases hq;exact⟨g,c,λy hy=>f y (by simp[hy])⟩
     | false=>
       rw[AAC (by decide)];rw[e] at a;have i:=hd.1 rfl e;intro s hs;rcases AAF.mp hs with rfl|hs
       .refine ⟨c,by show 1-q.2=0\/1-q.2=1;omega,λj he=> ?_⟩;cases he;refine⟨?_,(SZ x (by simp)).2⟩;rcases f x (by simp) with z|⟨_,z⟩
        .exact z
        .omega
       .exact ih none a (λq hq=>by cases hq) s hs
theorem HD {ss:zy A8}:∀(X:zy Pl) (c:Int),(∀x∈X,x.2=0\/x.2=1)->G2 ss c X->Il (λp=>ss.any (Av · p)) (decide (1<=c)) X
 | [],_,_,_=>True.intro
 | p::r,c,SZ,h=>by
   have ih:=HD r (Hn ss p) (λx hx=>SZ x (by simp[hx])) h.2;rw[HF] at ih;refine⟨λhc hi=> ?_,ih⟩;rcases SZ p (by simp) with z|z
   .exact z
   .have hc:1<=c:=by simpa using hc
    have hi:ss.any (Av · p)=false:=hi;rw[<-HF] at hi;have hi:¬(1:Int)<=Hn ss p:=by simpa using hi
    have c0:0<=cnt ss p:=by
     have go:∀ss:zy A8,0<=cnt ss p:=by
      intro ss;induction ss with
      | nil=>exact Int.le_refl _
      | cons s ss ih=>
        have e:cnt (s::ss) p=L6 s p+cnt ss p:=by simp[cnt]
        have o:0<=L6 s p:=by
         unfold L6;have:¬ep s=some p:=λy=>by obtain⟨b,_,a⟩:=ABa.mp y;have:(0:Int)=p.2:=congrArg Prod.snd a;omega
         rw[AAC this];split <;> decide
        omega
     exact go ss
    have:=h.1;omega
def VE {ss:zy A8}:∀x∈Cy ss,x.2=0\/x.2=1:=λx hx=>(BI.mp hx).2
def Vk {ss:zy A8}:canon 1 ss=De (λp=>ss.any (Av · p)) (Cy ss) none:=by unfold canon;rw[<-Nq];congr 1;apply AA1;intro p _;rw[HF]
def Tj {ss:zy A8}{B:Nat}(ok:∀s∈ss,Bl B s):Il (λp=>ss.any (Av · p)) false (Cy ss):=HD (Cy ss) 0 VE (Fz ok)
def SC {ss:zy A8}{B:Nat}(ok:∀s∈ss,Bl B s):∀s∈canon 1 ss,s.1∈BY ss/\(s.2.1=0\/s.2.1=1)/\∀e,s.2.2=some e->s.1<e/\e∈BY ss:=by rw[Vk];exact RH (· ∈BY ss) (Cy ss) none (EH Bt) (λx hx=>⟨VE x hx,BC.mp (BI.mp hx).1⟩) (Tj ok) λq hq=>by cases hq
def Uo {ss:zy A8}{B:Nat}(ok:∀s∈ss,Bl B s):∀x∈BY ss,Bd B x:=λx h=>by
 obtain⟨s,hs,hx⟩:=ABR.mp h;rcases AAF.mp hx with rfl|hx
 .exact (ok s hs).b
 .exact ((ok s hs).e x (by simpa using hx)).2
def QJ {ss:zy A8}{B:Nat}(ok:∀s∈ss,Bl B s):∀s∈canon 1 ss,Bl B s:=λs hs=>by obtain⟨h1,h2,a⟩:=SC ok s hs;exact⟨Uo ok _ h1,h2,λe he=>⟨(a e he).1,Uo ok _ (a e he).2⟩⟩
theorem Gu (f:Rat->zq):∀qs:zy Rat,(places qs).filter (λp=>f p.1)=places (qs.filter f)
 | [] =>rfl
 | q::qs=>by show ((q,0)::(q,1)::places qs).filter (λp=>f p.1)=_;rw[ABD,ABD,ABD,Gu f qs];cases f q <;> rfl
def eM {xs:zy PV}{k:Int}{R:PV->Prop}(a:0<=k)(h1:k<xs.length)(h:∀x∈xs,R x):Ai (.lst xs) (.int k) R:=by
 have hk:k.toNat<xs.length:=by omega
 have e:Ih xs ((k.toNat:Nat):Int)=some xs[k.toNat] :=C3 (AAT hk);rw[show ((k.toNat:Nat):Int)=k by omega] at e;show aw (Ih xs k) R;rw[e];exact h _ (ABk hk)
def aW {o:zt Rat}{Q:PV->Prop}(h:Q (.bl (decide (o=none)))):Gg (Vp o) .non Q:=by cases o <;> exact h
instance{o:zt Rat}{Q:PV->Prop}:Wp (Gg (Vp o) .non Q) (Q (.bl (decide (o=none)))):=⟨aW⟩
theorem Xm:∀{qs:zy Rat} {x:Rat},Pn qs->x∈qs->ins qs x=qs
 | [],x,_,h=>by cases h
 | q::r,x,hs,h=>by
   obtain⟨h1,h2⟩:=AAK.mp hs;unfold ins;rcases AAF.mp h with e|h
   .subst e;rw[AAC (by grind),AAE rfl]
   .have:=h1 x h;rw[AAE this,Xm h2 h]
def Ym (xs ys:zy Rat):BQ (xs++ys)=ys.foldl ins (BQ xs):=by unfold BQ;rw[ABQ]
def CC (ms:zy Rat)(ss:zy A8):zy Pl:=places (BQ (ms++BY ss))
def IH {B:Nat}{ms:zy Rat}{ss:zy A8}(ok:∀s∈ss,Bl B s):G2 ss 0 (CC ms ss):=by
 have c:∀s∈ss,bp s∈CC ms ss/\∀x,ep s=some x->x∈CC ms ss:=λs hs=>by
  obtain⟨h1,h2⟩:=Lv ok hs;have d:∀x∈Cy ss,x∈CC ms ss:=λx hx=>by obtain⟨a,b⟩:=BI.mp hx;exact BI.mpr ⟨BC.mpr (AAf _ (BC.mp a)),b⟩
  exact⟨d _ h1,λx ex=>d _ (h2 x ex)⟩
 have h:=Lg ok (CC ms ss) none (EH Bt) (λp hp=>⟨True.intro,by rcases (BI.mp hp).2 with z|z <;> omega⟩) (λs hs=>⟨.inr (c s hs).1,λx ex=> .inr ((c s hs).2 x ex)⟩);have z:(ss.map λs=>cN s none).sum=0:=by
  clear h c ok;induction ss with
  | nil=>rfl
  | cons s ss ih=> rw[AAL,AB9,ih];unfold cN;cases ep s <;> rfl
 rw[z] at h;exact h
def E2 {B:Nat}{ms:zy Rat}{ss:zy A8}{n:Int}(ok:∀s∈ss,Bl B s)(c:0<n):DZ ((CC ms ss).map λp=>(p,decide (n<=(Hn ss p:Int))))=canon n ss:=by
 have hk:∀p:Pl,decide (p.1∈BY ss)=false->cnt ss p=0:=λp hp=>QM λ⟨s,hs,z⟩=>by
  have hp:¬p.1∈BY ss:=by simpa using hp
  refine hp (ABR.mpr ⟨s,hs, ?_⟩);rcases z with z|z
  .rw [<-z];simp[bp]
  .obtain ⟨d,he,rfl⟩:=ABa.mp z;simp[he]
 have a:=Hj (n:=n) (ss:=ss) (key:=λp=>decide (p.1∈BY ss)) hk (CC ms ss) 0 (IH ok);rw[AAY (by omega)] at a;have h:=GW (CC ms ss) ([],none) a;have b:(CC ms ss).filter (λp=>decide (p.1∈BY ss))=Cy ss:=by unfold CC Cy;rw[Gu (λx=>decide (x∈BY ss))];congr 1;refine Pg (Bt.filter _) Bt λx=> ?_;rw[ABd,BC,BC,ACs];exact⟨λh=>h.2,λh=>⟨AAf _ h,h⟩⟩
 rw[b] at h;show OK _=OK _;rw[h]
def QI {B:Nat}{ss:zy A8}(ok:∀s∈ss,Bl B s){p:Pl}(hp:p.2=0\/p.2=1):(canon 1 ss).any (Av · p)=ss.any (Av · p):=by
 have b:p∈CC [p.1] ss:=BI.mpr ⟨BC.mpr (by simp),hp⟩;have a:∀x∈CC [p.1] ss,x.2=0\/x.2=1:=λx hx=>(BI.mp hx).2;have c:=HD (CC [p.1] ss) 0 a (IH ok);have e:canon 1 ss=De (λp=>ss.any (Av · p)) (CC [p.1] ss) none:=by rw[<-E2 (ms:= [p.1]) ok (by decide),<-Nq];congr 1;apply AA1;intro q _;rw[HF]
 rw[e];exact((Uz (CC [p.1] ss) (EH Bt) a).1 c).2 p b
def hN (L:zy A8)(p:Pl):Nat:=(L.filter (Av · p)).length
def XC {B:Nat}{ss a:zy A8}(ok:∀s∈ss,Bl B s)(b:∀s∈a,Bl B s)(h:∀p:Pl,(p.2=0\/p.2=1)->ss.any (Av · p)=a.any (Av · p)):canon 1 ss=canon 1 a:=by
 rw[<-E2 (ms:=BY a) ok (by decide),<-E2 (ms:=BY ss) b (by decide)];have e:CC (BY a) ss=CC (BY ss) a:=by unfold CC;rw[ME λx=> ?_];rw[AAO,AAO];exact Or.comm
 rw[e];congr 1;apply AA1;intro p hp;rw[HF,HF,h p (BI.mp hp).2]
def Zd (y:Rat)(s:A8):A8:=(s.1,s.2.1,s.2.2.map (· + y))
def ej {B C:Nat}{y:Rat}(hy:0<=y)(c:Bd C y){s:A8}(o:Bl B s):Bl (B+C+1) (Zd y s):=by refine⟨o.b.mono (by omega),o.h,λe he=> ?_⟩;obtain⟨d,h1,rfl⟩:=ABa.mp he;obtain⟨a,b⟩:=o.e d h1;exact⟨by show s.1<d+y;grind,b.add c⟩
def X1 (s:A8):Zd 0 s=s:=by obtain⟨a,b,c⟩:=s;cases c <;> simp[Zd,Rat.add_zero]
def fE {v:PV}{xs:zy PV}{a:zy PV->Prop}(hv:v= .tup xs\/v= .lst xs)(h:a xs):Mb v a:=by rcases hv with rfl|rfl <;> exact h
def TV {x:PV}{r:zy PV}{ss:zy A8}(h:Dk (x::r) ss):∃s c,ss=s::c/\(x=CS s\/x=bV s)/\Dk r c:=by
 cases h with
 | cons a b=>exact⟨_,_,rfl,a,b⟩
def ax {x:PV}{s:A8}{a:zy PV->Prop}(h:x=CS s\/x=bV s)(q:a [fr s.1, .int s.2.1,Vp s.2.2]):Mb x a:=by rcases h with rfl|rfl <;> exact q
def lA (xs:zy PV):Ip xs (some 1) none=xs.drop 1:=by
 unfold Ip;rw[HT.sIx_none,show ((1:Int))=((1:Nat):Int) from rfl,HT.sIx_nat];cases xs with
 | nil=>rfl
 | cons x xs=> rw[Nat.min_eq_left (by simp)];simp
def gW (a b:zy Rat):Gk (a.map fr) (b.map fr)=(a.zip b).map λp=> .tup [fr p.1,fr p.2] :=by unfold Gk;rw[List.zipWith_map,List.zip,List.map_zipWith]
theorem Lj:∀(X:zy (Pl×zq)) (st:zy A8×zt Pl),2*(X.foldl stepI st).1.length+(if (X.foldl stepI st).2.isSome then 1 else 0)<=2*st.1.length+(if st.2.isSome then 1 else 0)+X.length
 | [],st=>AAI _
 | x::X,st=>by
   have h1:=Lj X (stepI st x);have h2:2*(stepI st x).1.length+(if (stepI st x).2.isSome then 1 else 0)<=2*st.1.length+(if st.2.isSome then 1 else 0)+1:=by obtain⟨L,b⟩:=st;obtain⟨p,c⟩:=x;cases b <;> cases c <;> simp[stepI] <;> omega
   rw[AA2,AAZ];omega
def WP (X:zy (Pl×zq)):2*(DZ X).length<=X.length+1:=by have h:=Lj X ([],none);unfold DZ;generalize X.foldl stepI ([],none)=st at *;obtain⟨L,b⟩:=st;cases b <;> simp[OK] at * <;> omega
def Le {n:Int}{ss:zy A8}:(canon n ss).length<=2*ss.length:=by unfold canon Cy;have h:=WP ((places (BQ (BY ss))).map λp=>(p,decide (n<=(Hn ss p:Int))));have a:=EC (xs:=BY ss);have b:=JA (ss:=ss);have c:=HP (qs:=BQ (BY ss));rw[AAJ] at h;omega
inductive QC:List PV->List (List A8)->Prop where
 | nil:QC [] []
 | cons {x:PV} {xs:List PV} {ss:List A8} {r:List PV} {rs:List (List A8)} (h:x= .tup xs\/x= .lst xs) (hr:Dk xs ss) (t:QC r rs):QC (x::r) (ss::rs)
def QC.length:∀{xs:zy PV} {ss:zy (zy A8)},QC xs ss->xs.length=ss.length
 | _,_, .nil=>rfl
 | _,_, .cons _ _ t=>by simp[t.length]
def lt_size {k n:Nat}(h:k<=n)(a:n<1000000):k<sizeLine:=AAs h (AAS a (AAm rfl))
def lin (p q:T3)(s:Rat):T3:=(p.1+s*(q.1-p.1),p.2.1+s*(q.2.1-p.2.1),p.2.2+s*(q.2.2-p.2.2))
def eh {a D b e m x X:Rat}(c:D≠0)(h:e-b≠0):x+(m-a)/D*X=(x+(b-a)/D*X)+(m-b)/(e-b)*((x+(e-a)/D*X)-(x+(b-a)/D*X)):=by grind
def Vy {a c:C4}{b e m:Rat}(h1:a.1<c.1)(h2:b<e):inter a c m=lin (inter a c b) (inter a c e) ((m-b)/(e-b)):=by
 have d:c.1-a.1≠0:=by grind
 have f:e-b≠0:=by grind
 simp only[inter,lin];rw[<-eh d f,<-eh d f,<-eh d f]
def Xz (p q:T3):lin p q 0=p:=by obtain⟨a,b,c⟩:=p;simp[lin,Rat.zero_mul,Rat.add_zero]
theorem JO {b e m:Rat}{p q:T3}(f:b<e)(h1:b<=m)(h2:m<=e):∀{a:C4} {r:zy C4},Hr (a::r)->(∀c∈r,¬(b<c.1/\c.1<e))->spotG a r b=some p->spotG a r e=some q->spotG a r m=some (lin p q ((m-b)/(e-b)))
 | a, [],_,_,hp,_=>by cases hp
 | a,c::r,hr,hn,hp,hq=>by
   have g:=(AAK.mp hr).1 c (by simp);have h:Hr (c::r):=(AAK.mp hr).2;by_cases i:c.1<b
   .simp only[spotG] at hp hq ⊢;rw[AAE i] at hp;rw[AAE (by grind)] at hq ⊢;exact JO f h1 h2 h (λx hx=>hn x (by simp[hx])) hp hq
   .simp only[spotG] at hp hq ⊢;rw[AAC i] at hp;by_cases k:b=c.1
    .subst k;rw[HH g] at hp;cases hp;by_cases j:c.1<m
     .rw [AAE j];rw[AAE (by grind)] at hq;refine JO f h1 h2 h (λx hx=>hn x (by simp[hx])) ?_ hq;cases r with
      | nil=>cases hq
      | cons d r=> have l:=(AAK.mp h).1 d (by simp);simp only[spotG];rw[AAC (by grind),Jd l]
     .have n:m=c.1:=by grind
      subst n;rw[AAC j,HH g];have z:(c.1-c.1)/(e-c.1)=0:=by grind
      rw[z,Xz]
    .have o:¬c.1<e:=λz=>hn c (by simp) ⟨by grind,z⟩;cases hp;rw[AAC o] at hq;cases hq;rw[AAC (by grind)];rw[<-Vy g f]
def Nx {b e m:Rat}{p q:T3}{cs:zy C4}(d:Hr cs)(f:b<e)(h1:b<=m)(h2:m<=e)(g:∀c∈cs,¬(b<c.1/\c.1<e))(hp:spotC cs b=some p)(hq:spotC cs e=some q):spotC cs m=some (lin p q ((m-b)/(e-b))):=by
 cases cs with
 | nil=>cases hp
 | cons a r=>
   simp only[spotC] at hp hq ⊢;by_cases k:b<a.1
   .rw [AAE k] at hp;cases hp
   .rw [AAC k] at hp;rw[AAC (by grind)] at hq ⊢;exact JO f h1 h2 d (λc hc=>g c (by simp[hc])) hp hq
def Nj {B:Nat}{ss:zy A8}(ok:∀s∈ss,Bl B s)(m:Rat):∀k:Rat,m<k->∃n:Rat,m<n/\n<k/\∀x:Rat,m<x->x<n->ss.any (Av · (x,0))=ss.any (Av · (m,1)):=by
 induction ss with
 | nil=>intro k hk;exact⟨(m+k)/2,by grind,by grind,λ_ _ _=>rfl⟩
 | cons s ss ih=>
   intro k hk;obtain⟨n,h1,h2,j⟩:=ih (λt l=>ok t (by simp[l])) k hk;have os:=ok s (by simp);obtain⟨b,h,e⟩:=s;have p:h=0\/h=1:=os.h;have one:∃c:Rat,m<c/\∀x:Rat,m<x->x<c->Av (b,h,e) (x,0)=Av (b,h,e) (m,1):=by
    have key:∃c:Rat,m<c/\(m<b->c<=b)/\(∀a,e=some a->m<a->c<=a):=by
     cases e with
     | none=>
       by_cases z:m<b
       .exact ⟨b,z,λ_=>by grind,λ_ h=>by cases h⟩
       .exact ⟨m+1,by grind,λh=>absurd h z,λ_ h=>by cases h⟩
     | some a=>
       by_cases z:m<b
       .by_cases y:m<a
        .by_cases w:b<a
         .exact ⟨b,z,λ_=>by grind,λ_ h _=>by cases h;grind⟩
         .exact ⟨a,y,λ_=>by grind,λ_ h _=>by cases h;grind⟩
        .exact ⟨b,z,λ_=>by grind,λ_ h k=>by cases h;exact absurd k y⟩
       .by_cases y:m<a
        .exact ⟨a,y,λk=>absurd k z,λ_ h _=>by cases h;grind⟩
        .exact ⟨m+1,by grind,λk=>absurd k z,λ_ h k=>by cases h;exact absurd k y⟩
    obtain⟨c,i,f,o⟩:=key;refine⟨c,i,λx d g=> ?_⟩;unfold Av;have A:(decide (b<x)||(decide (b=x)&&decide (0<h+0)))=(decide (b<m)||(decide (b=m)&&decide (0<h+1))):=by
     by_cases z:m<b
     .have:=f z;rw[AAY (show ¬b<x by grind),AAY (show ¬b=x by grind),AAY (show ¬b<m by grind),AAY (show ¬b=m by grind)];rfl
     .rw [AAi (show b<x by grind)];by_cases y:b=m
      .rw [AAi y,AAi (show 0<h+1 by omega)];simp
      .rw [AAi (show b<m by grind)];rfl
    show ((decide (b<x)||(decide (b=x)&&decide (0<h+0)))&&_)=((decide (b<m)||(decide (b=m)&&decide (0<h+1)))&&_);rw[A];congr 1;cases e with
    | none=>rfl
    | some a=> show decide (x<a)=decide (m<a);refine ABq.mpr ⟨λ_=>by grind,λy=> ?_⟩;have:=o a rfl y;grind
   obtain⟨c,i,f⟩:=one;by_cases z:n<c
   .exact ⟨n,h1,h2,λx d g=>by rw[AAy,AAy,j x d g,f x d (by grind)]⟩
   .exact ⟨c,i,by grind,λx d g=>by rw[AAy,AAy,j x d (by grind),f x d g]⟩
def S7 {B C:Nat}{ss b:zy A8}(ok:∀s∈ss,Bl B s)(c:∀s∈b,Bl C s)(h:∀m:Rat,ss.any (Av · (m,0))=b.any (Av · (m,0))):∀p:Pl,(p.2=0\/p.2=1)->ss.any (Av · p)=b.any (Av · p):=by
 rintro⟨m,i⟩ hi;have hi:i=0\/i=1:=hi;rcases hi with rfl|rfl
 .exact h m
 .obtain ⟨n,h1,h2,e⟩:=Nj ok m (m+1) (by grind);obtain⟨a,j,k,f⟩:=Nj c m n h1;have d:m<(m+a)/2:=by grind
  have g:(m+a)/2<a:=by grind
  rw[<-e ((m+a)/2) d (by grind),<-f ((m+a)/2) d g];exact h _
def Bl.mono {B C:Nat}{s:A8}(h:Bl B s)(k:B<=C):Bl C s:=⟨h.b.mono k,h.h,λe he=>⟨(h.e e he).1,(h.e e he).2.mono k⟩⟩
def Vj {B C:Nat}{ss b:zy A8}(ok:∀s∈ss,Bl B s)(a:∀s∈b,Bl C s)(h:∀m:Rat,ss.any (Av · (m,0))=b.any (Av · (m,0))):canon 1 ss=canon 1 b:=
 XC (B:=B+C) (λs hs=>(ok s hs).mono (by omega)) (λs hs=>(a s hs).mono (by omega)) (S7 ok a h)
abbrev G1:AS:=
 (Aa (EY (Mw (aV 0)) (Ja 2 (Ad (Am 2) (Ad (Am 3) Bw))) (R3 1 Ch (AW QQ (aV 3) (AR 2 Fq (AB (aV 1) (AB (aV 3) AM))))))
   (Ar (aV 1)))
abbrev FV:AS:=
 (Aa (Ak (aC (.int 1)) (Am 1))
   G1)
def B7:AF:=Al 4 FV
def Ia {a:PV}{Q:PV->Prop}(h:FV ⟨λ_=>Q .non,Q,λ_=>False,λ_=>False⟩ [some (.val a),none,none,none]):B7 [a] Q:=h
def JN (xs:zy Rat):Nat:=xs.foldl (λN r=>N*(r.den/Nat.gcd N r.den)) 1
def U8 (xs:zy Rat)(r:Rat):JN (xs ++ [r])=JN xs*(r.den/Nat.gcd (JN xs) r.den):=by unfold JN;rw[ABQ];rfl
def bY {N d:Nat}(hN:0<N)(hd:0<d):0<N*(d/Nat.gcd N d)/\N ∣ N*(d/Nat.gcd N d)/\d ∣ N*(d/Nat.gcd N d)/\N*(d/Nat.gcd N d)<=N*d:=by have g:Nat.gcd N d ∣ d:=AB8 ..;have a:0<Nat.gcd N d:=ABp _ hd;refine⟨Nat.mul_pos hN (Nat.div_pos (ACj hd g) a),Nat.dvd_mul_right .., ?_,Nat.mul_le_mul_left _ (ABY ..)⟩;rw[<-Nat.mul_div_assoc _ g];exact Nat.dvd_lcm_right ..
theorem PR {W:Nat}:∀(n:Nat) (xs:zy Rat),xs.length=n->(∀x∈xs,Bd W x)->0<JN xs/\(∀x∈xs,x.den ∣ JN xs)/\JN xs<2^(n*W+1)
 | 0,xs,e,_=>by have:xs= [] :=ADZ.mp e;subst this;exact⟨by decide,by simp,by simp[JN]⟩
 | n+1,xs,e,h=>by
   obtain⟨ys,r,rfl⟩:∃ys r,xs=ys ++ [r] :=⟨xs.dropLast,xs.getLast (by intro z;subst z;cases e),(ACu _).symm⟩;have a:ys.length=n:=by simpa using e
   obtain⟨h1,h2,b⟩:=PR n ys a λx hx=>h x (by simp[hx]);have c:=(h r (by simp)).bot;rw[U8];obtain⟨d,f,g,i⟩:=bY h1 r.den_pos;refine⟨d,λx hx=> ?_, ?_⟩
   .rcases AAO.mp hx with hx|hx
    .exact Nat.dvd_trans (h2 x hx) f
    .simp at hx;subst hx;exact g
   .refine AAs i ?_;have:=S8 b c;rw[show n*W+1+W=(n+1)*W+1 by rw[Nat.succ_mul];omega] at this;exact this
def NJ (N:Nat)(r:Rat):Int:=r.num*((N:Int).fdiv (r.den:Int))
def PM {N:Nat}{r:Rat}(h:r.den ∣ N):(NJ N r:Rat)=r*N:=by
 obtain⟨k,rfl⟩:=h;have hd:=r.den_pos;unfold NJ;rw[ACk,Int.mul_fdiv_cancel_left _ (by omega),ACv];have b:((r.den:Int):Rat)≠0:=λz=>by have:(r.den:Int)=0:=Rat.intCast_inj.mp z;omega
 have e:r=(r.num:Rat)/((r.den:Int):Rat):=by rw[<-Rat.divInt_eq_div,ABC]
 have a:r*((r.den:Int):Rat)=r.num:=by
  conv=>lhs;arg 1;rw[e]
  grind
 rw[<-a,show ((r.den*k:Nat):Rat)=((r.den:Int):Rat)*((k:Int):Rat) by rw[<-ACv,<-ACk,Rat.intCast_natCast]];grind
structure Pc where
 b:Rat
 e:Rat
 o0:T3
 o1:T3
def Pc.six (p:Pc):zy Rat:= [p.o0.1,p.o0.2.1,p.o0.2.2,p.o1.1,p.o1.2.1,p.o1.2.2]
def Pc.N (p:Pc):Nat:=JN p.six
def Pc.lns (p:Pc):zy (Int×Int):= [(NJ p.N p.o0.1,NJ p.N p.o1.1),(-NJ p.N p.o0.1, -NJ p.N p.o1.1),(NJ p.N p.o0.2.1,NJ p.N p.o1.2.1),(-NJ p.N p.o0.2.1, -NJ p.N p.o1.2.1),(NJ p.N p.o0.2.2,NJ p.N p.o1.2.2),(-NJ p.N p.o0.2.2, -NJ p.N p.o1.2.2)]
def JR (cs a:zy C4)(b e:Rat):zy Rat:=BQ ([b,e] ++ ((cs.filter (gb b e)++a.filter (gb b e)).map (·.1)))
def JS {cs d:zy C4}{b e x:Rat}:x∈JR cs d b e↔x=b\/x=e\/(b<x/\x<e/\∃c,(c∈cs\/c∈d)/\c.1=x):=by
 unfold JR;rw[BC];simp only[ACm,ABO,AAF,AAc,AAO,ABd,gb,AAn,AB5];constructor
 .rintro (h|h|⟨c,h,rfl⟩)
  .exact .inl h
  .exact .inr (.inl h)
  .rcases h with⟨h1,h2,a⟩|⟨h1,h2,a⟩
   .exact .inr (.inr ⟨h2,a,c, .inl h1,rfl⟩)
   .exact .inr (.inr ⟨h2,a,c, .inr h1,rfl⟩)
 .rintro (h|h|⟨h1,h2,c,h,rfl⟩)
  .exact .inl h
  .exact .inr (.inl h)
  .exact .inr (.inr ⟨c,h.elim (λh=> .inl ⟨h,h1,h2⟩) (λh=> .inr ⟨h,h1,h2⟩),rfl⟩)
def Wk (cs a:zy C4)(d:Rat×Rat)(m:Rat):T3:=X8 ((spotC cs m).getD (0,0,0)) ((spotC a m).getD (0,0,0)) d
def jC (cs a:zy C4)(d:Rat×Rat)(b:zy Rat):zy Pc:=(b.zip b.tail).map λp=>⟨p.1,p.2,Wk cs a d p.1,Wk cs a d p.2⟩
structure oC (cs ds:List C4) (b e:Rat):Prop where
 lt:b<e
 one:∀m,b<=m->m<=e->∃t,spotC cs m=some t
 other:∀m,b<=m->m<=e->∃t,spotC ds m=some t
def gN {a l b c:C4}{r d:zy C4}(f:r≠ [])(g:d≠ [])(i:(a::r).getLast?=some l)(e:(b::d).getLast?=some c)(h:mx a.1 b.1<mn l.1 c.1):oC (a::r) (b::d) (mx a.1 b.1) (mn l.1 c.1):=by
 have j:a.1<=mx a.1 b.1:=by unfold mx;split <;> grind
 have k:b.1<=mx a.1 b.1:=by unfold mx;split <;> grind
 have n:mn l.1 c.1<=l.1:=by unfold mn;split <;> grind
 have o:mn l.1 c.1<=c.1:=by unfold mn;split <;> grind
 exact⟨h,λm h1 h2=>MP f i (by grind) (by grind),λm h1 h2=>MP g e (by grind) (by grind)⟩
def WZ {cs a:zy C4}{b e:Rat}:Pn (JR cs a b e):=Bt
def ZO {cs a:zy C4}{b e x:Rat}(h:b<e)(hx:x∈JR cs a b e):b<=x/\x<=e:=by rcases JS.mp hx with rfl|rfl|⟨h1,h2,_⟩ <;> exact⟨by grind,by grind⟩
def ZN {cs a:zy C4}{b e x:Rat}{M:Nat}(hc:∀c∈cs,Bd M c.1)(d:∀c∈a,Bd M c.1)(f:Bd M b)(g:Bd M e)(hx:x∈JR cs a b e):Bd M x:=by
 rcases JS.mp hx with rfl|rfl|⟨_,_,c,h,rfl⟩
 .exact f
 .exact g
 .rcases h with h|h
  .exact hc c h
  .exact d c h
def XW (cs:zy C4):Rat:=(cs.head?.getD (0,0,0,0)).1
def lstM (cs:zy C4):Rat:=(cs.getLast?.getD (0,0,0,0)).1
def Lb (cs a:zy C4):Rat:=mx (XW cs) (XW a)
def Lh (cs a:zy C4):Rat:=mn (lstM cs) (lstM a)
def jn (cs a:zy C4):zy Rat:=JR cs a (Lb cs a) (Lh cs a)
structure Rc (cs ds:List C4) (d:Rat×Rat) (M W:Nat):Prop where
 c1:∀c∈cs,Ej 150 c
 c2:∀c∈ds,Ej 150 c
 r1:Hr cs
 r2:Hr ds
 t1:2<=cs.length
 t2:2<=ds.length
 f1:cs.length<=100
 f2:ds.length<=100
 m1:∀c∈cs,Bd M c.1
 m2:∀c∈ds,Bd M c.1
 b1:Bd 100 d.1
 b2:Bd 100 d.2
 p1:0<d.1
 p2:0<d.2
 w:Lb cs ds<Lh cs ds->∀m∈jn cs ds,Dz W (Wk cs ds d m)
 hM:M<=150
 hW:W<=1050
def open2 {cs:zy C4}(h:2<=cs.length):∃a r l,cs=a::r/\r≠ [] /\(a::r).getLast?=some l:=by
 match cs,h with
 | a::b::r,_=> obtain⟨l,c⟩:∃l,(a::b::r).getLast?=some l:=⟨_,ABr (by simp)⟩;exact⟨a,b::r,l,rfl,by simp,c⟩
def Ub {a:C4}{r:zy C4}:XW (a::r)=a.1:=rfl
def KQ {cs:zy C4}{l:C4}(e:cs.getLast?=some l):lstM cs=l.1:=by unfold lstM;rw[e];rfl
section
variable {cs ds:zy C4}{d:Rat×Rat}{M W:Nat}
theorem Rc.fstB (D:Rc cs ds d M W):Bd M (XW cs):=by obtain⟨a,r,l,rfl,b,c⟩:=open2 D.t1;exact D.m1 a (by simp)
theorem Rc.fstB2 (D:Rc cs ds d M W):Bd M (XW ds):=by obtain⟨a,r,l,rfl,b,c⟩:=open2 D.t2;exact D.m2 a (by simp)
theorem Rc.lstB (D:Rc cs ds d M W):Bd M (lstM cs):=by obtain⟨a,r,l,rfl,c,b⟩:=open2 D.t1;rw[KQ b];exact D.m1 l (ABt b)
theorem Rc.lstB2 (D:Rc cs ds d M W):Bd M (lstM ds):=by obtain⟨a,r,l,rfl,c,b⟩:=open2 D.t2;rw[KQ b];exact D.m2 l (ABt b)
theorem Rc.begB (D:Rc cs ds d M W):Bd M (Lb cs ds):=D.fstB.mx D.fstB2
theorem Rc.endB (D:Rc cs ds d M W):Bd M (Lh cs ds):=D.lstB.mn D.lstB2
theorem Rc.tog (D:Rc cs ds d M W)(h:Lb cs ds<Lh cs ds):oC cs ds (Lb cs ds) (Lh cs ds):=by obtain⟨a,r,l,rfl,e,c⟩:=open2 D.t1;obtain⟨g,i,j,rfl,f,b⟩:=open2 D.t2;unfold Lb Lh at h ⊢;rw[Ub,Ub,KQ c,KQ b] at h ⊢;exact gN e f c b h
end
def mI (cs a:zy C4)(d:Rat×Rat):zy Pc:=if Lb cs a<Lh cs a then jC cs a d (jn cs a) else []
abbrev Mi:AS:=
 (Aa (Ak (Fx Dd (AB (G6 (Cu (Mw (aV 0)) 2 [3] (Ja 2 (Ad (Am 0) (Ad (Am 1) Bw))) E1 (AW Ch (aV 0) (AW QQ (aV 2) (aV 1))))) AM)) (Am 4))
   (Ar (BB (AB (aV 4) (AB (aV 1) (AB (W6 (aV 2) (aV 3)) AM))))))
abbrev LD:AS:=
 (Aa (Ak (AR 1 B7 (AB (aV 0) AM)) (Am 3))
   Mi)
def Bz:AF:=Al 5 LD
def O5 {a b c:PV}{Q:PV->Prop}(h:LD ⟨λ_=>Q .non,Q,λ_=>False,λ_=>False⟩ [some (.val a),some (.val b),some (.val c),none,none]):Bz [a,b,c] Q:=h
abbrev P3:AS:=
 (Aa (W7 5 6 7 1 3 (AW Ai (aV 0) (aC (.int 2))) (AW Ai (aV 2) (aC (.int 2))))
   (Ar (BB (AB (aV 4) (AB (Fx (dv max) (AB (AW Ai (aV 0) (aC (.int 1))) (AB (AW Ai (aV 2) (aC (.int 1))) AM))) (AB (aV 5) AM))))))
abbrev P2:AS:=
 (Aa (Ak (Fx Dd (AB (G6 (Cu (cU (AB (AW Ai (aV 0) (aC (.int 0))) (AB (AW Ai (aV 2) (aC (.int 0))) AM))) 2 [1,3] (Ja 2 (Ad (Am 0) (Ad (Am 1) Bw))) E1 (AW Bb (AW Ch (aV 2) (aV 0)) (AW Ch (aV 3) (aV 1))))) AM)) (Am 4))
   P3)
def Fu:AF:=Al 8 P2
def TY {a b c d:PV}{Q:PV->Prop}(h:P2 ⟨λ_=>Q .non,Q,λ_=>False,λ_=>False⟩ [some (.val a),some (.val b),some (.val c),some (.val d),none,none,none,none]):Fu [a,b,c,d] Q:=h
abbrev NN:AS:=
 (Ar (AR 4 Fu (AB (aV 0) (AB (W9 Li (AW Ai (AW Ai (aV 1) (aC (.int 0))) (aV 2))) (AB (aV 1) (AB (AW Ai (AW Ai (aV 0) (aC (.int 0))) (aV 2)) AM))))))
def El:AF:=Al 3 NN
def RJ {a b c:PV}{Q:PV->Prop}(h:NN ⟨λ_=>Q .non,Q,λ_=>False,λ_=>False⟩ [some (.val a),some (.val b),some (.val c)]):El [a,b,c] Q:=h
abbrev K8:AS:=
 (Aa (Ak (AW Ai (AW Ai (aV 0) (aC (.int 0))) (aC (.int 0))) (Am 1))
   (Ar (kr (AW XR (aV 1) (aC (.int 0))) (W5 (AW Rh (aV 1) (aC (.int 0))) (AW Rh (AW Ai (aV 0) (aC (.int 1))) (aC (.int 1)))))))
def DI:AF:=Al 2 K8
def O2 {a:PV}{Q:PV->Prop}(h:K8 ⟨λ_=>Q .non,Q,λ_=>False,λ_=>False⟩ [some (.val a),none]):DI [a] Q:=h
abbrev N9:AS:=
 (Aa (Ak (AW Ai (AW Ai (aV 0) (aC (.int 0))) (aV 1)) (Am 3))
   (Ar (ga (Aw (AW Zb (aV 3) (aC (.int 0)))) (BB (AB (W9 Li (aV 2)) (AB (aV 3) AM))) (BB (AB (aV 2) (AB (W9 Li (aV 3)) AM))))))
abbrev NQ:AS:=
 (Aa (Ak (AW Ai (AW Ai (aV 0) (aC (.int 0))) (aC (.int 0))) (Am 2))
   N9)
def Cs:AF:=Al 4 NQ
def RM {a b:PV}{Q:PV->Prop}(h:NQ ⟨λ_=>Q .non,Q,λ_=>False,λ_=>False⟩ [some (.val a),some (.val b),none,none]):Cs [a,b] Q:=h
abbrev Jt:AS:=
 (Aa (CJ (Aw (AR 2 A5 (AB (aV 4) (AB (aV 3) AM)))) (Ar (AW Zb (AW Ai (AW Ai (aV 0) (aC (.int 0))) (aV 2)) (aC (.int 0)))) BK)
   (Ar (AW Zb (AW Ai (aV 0) (aC (.int 1))) (AW Ai (aV 1) (aC (.int 1))))))
abbrev Js:AS:=
 (Aa (CJ (Aw (AR 2 A5 (AB (aV 3) (AB (aV 4) AM)))) (Ar (AW XR (AW Ai (AW Ai (aV 0) (aC (.int 0))) (aV 2)) (aC (.int 0)))) BK)
   Jt)
abbrev Jr:AS:=
 (Aa (Ak (AR 2 Cs (AB (aV 1) (AB (aV 2) AM))) (Am 4))
   Js)
abbrev Hz:AS:=
 (Aa (Ak (AR 2 Cs (AB (aV 0) (AB (aV 2) AM))) (Am 3))
   Jr)
def C1:AF:=Al 5 Hz
def MF {a b c:PV}{Q:PV->Prop}(h:Hz ⟨λ_=>Q .non,Q,λ_=>False,λ_=>False⟩ [some (.val a),some (.val b),some (.val c),none,none]):C1 [a,b,c] Q:=h
abbrev Mp:AS:=
 (Aa (EY (Mw (aV 0)) (Am 4) (CJ (Fw (Aw (AW Zb (AW Ch (AW Ai (AW Ai (aV 4) (aC (.int 0))) (aV 1)) (aV 2)) (aC (.int 0)))) (R6 (Aw (AW Gg (aV 3) (aC .non))) (Aw (AR 3 C1 (AB (aV 4) (AB (aV 3) (AB (aV 1) AM))))))) (Ak (aV 4) (Am 3)) BK))
   (Ar (aV 3)))
abbrev LJ:AS:=
 (Aa (Ak (aC .non) (Am 3))
   Mp)
def CP:AF:=Al 5 LJ
def O7 {a b c:PV}{Q:PV->Prop}(h:LJ ⟨λ_=>Q .non,Q,λ_=>False,λ_=>False⟩ [some (.val a),some (.val b),some (.val c),none,none]):CP [a,b,c] Q:=h
abbrev Mf:AS:=
 (Aa (Ak (AR 3 El (AB (AR 3 CP (AB (aV 0) (AB (aV 1) (AB (aC (.int 1)) AM)))) (AB (aV 3) (AB (aV 1) AM)))) (Am 4))
   (Ar (ga (Aw (AR 1 DI (AB (aV 4) AM))) (aV 4) (aC .non))))
abbrev Me:AS:=
 (Aa (CJ (Aw (AW Gg (aV 3) (aC .non))) (Ar (aC .non)) BK)
   Mf)
abbrev Md:AS:=
 (Aa (Ak (AR 3 CP (AB (aV 0) (AB (aV 1) (AB (W9 Li (aC (.int 1))) AM)))) (Am 3))
   Me)
abbrev K7:AS:=
 (Aa (EY (Mw (aV 0)) (Am 2) (CJ (Fw (Aw (AW Rh (AW Ai (AW Ai (aV 2) (aC (.int 0))) (aV 1)) (aC (.int 0)))) (Aw (AR 1 DI (AB (aV 2) AM)))) (Ar (aV 2)) BK))
   Md)
def D3:AF:=Al 5 K7
def O1 {a b:PV}{Q:PV->Prop}(h:K7 ⟨λ_=>Q .non,Q,λ_=>False,λ_=>False⟩ [some (.val a),some (.val b),none,none,none]):D3 [a,b] Q:=h
abbrev Mo:AS:=
 (Aa (Ak (AR 2 Cs (AB (aV 4) (AB (aV 1) AM))) (Am 5))
   (Ar (BB (AB (aV 3) (AB (AW Gh (aC (.int 1)) (AW Ai (aV 2) (aC (.int 1)))) (AB (AR 2 Ev (AB (AW Ai (aV 5) (aC (.int 0))) (AB (AW Ai (aV 5) (aC (.int 1))) AM))) AM))))))
abbrev Mn:AS:=
 (Aa (CJ (Aw (AW Gg (aV 4) (aC .non))) (Ar (BB (AB (aV 3) (AB (AW Gh (aC (.int 1)) (AW Ai (aV 2) (aC (.int 1)))) (AB (aC .non) AM))))) BK)
   Mo)
abbrev Mm:AS:=
 (Aa (Ak (AR 3 CP (AB (aV 0) (AB (aV 1) (AB (W9 Li (aC (.int 1))) AM)))) (Am 4))
   Mn)
abbrev Ml:AS:=
 (Aa (Ak (AR 2 Ev (AB (AW Ai (aV 3) (aC (.int 0))) (AB (AW Ai (aV 3) (aC (.int 1))) AM))) (Am 3))
   Mm)
abbrev Mj:AS:=
 (Aa (Ak (AR 2 Cs (AB (aV 2) (AB (aV 1) AM))) (Am 3))
   Ml)
abbrev LI:AS:=
 (Aa (Ak (AR 3 CP (AB (aV 0) (AB (aV 1) (AB (aC (.int 1)) AM)))) (Am 2))
   Mj)
def D5:AF:=Al 6 LI
def O6 {a b:PV}{Q:PV->Prop}(h:LI ⟨λ_=>Q .non,Q,λ_=>False,λ_=>False⟩ [some (.val a),some (.val b),none,none,none,none]):D5 [a,b] Q:=h
structure C0 where
 c0:Int
 c1:Int
 s:Int
 w:List (Int×Int)
def CB (p:C0):PV:= .tup [.tup [.int p.c0, .int p.c1], .int p.s, .dk p.w]
structure Gf (N:Nat) (p:C0):Prop where
 a:p.c0.natAbs<2^N
 b:p.c1.natAbs<2^N
 w:∀e∈p.w,e.2.natAbs<2^N
 l:p.w.length<=12
 s:p.s=0\/p.s=1
instance{p:C0}:Ix (CB p) 0 (.tup [.int p.c0, .int p.c1]):=⟨rfl⟩
instance{p:C0}:Ix (CB p) 1 (.int p.s):=⟨rfl⟩
instance{p:C0}:Ix (CB p) 2 (.dk p.w):=⟨rfl⟩
def di {a b:AE}{τ:Ay}{Q:PV->Prop}:W6 a b τ Q=a τ λx=>b τ λy=>Wl x λi=>Wl y λj=>Q (.dk [(i,j)]):=by
 unfold W6;congr 1
 funext x
 congr 1
 funext y
 cases x <;> cases y <;> rfl
instance{a b:AE}{τ:Ay}{Q:PV->Prop}:Wp (W6 a b τ Q) (a τ λx=>b τ λy=>Wl x λi=>Wl y λj=>Q (.dk [(i,j)])):=⟨λh=>by rw[di];exact h⟩
def RG (p:C0)(t:Rat):Rat:=p.c0+p.c1*t
def PK {S:Nat}{r:Rat}{W N:Nat}(b:Bd W r)(h:S<2^N):(NJ S r).natAbs<2^(W+N):=by unfold NJ;rw[ADM];refine S8 b.top ?_;rw[ABL _ (by omega),<-ABZ,ABv];exact AAs (ABY ..) h
def Th {a b:Rat}{W:Nat}(i:Bd W a)(j:Bd W b)(g:W<=1400){Q:PV->Prop}(q:Q (.int (JN [a,b] :Nat))):B7 [.tup [fr a,fr b]] Q:=by
 have hx:∀x∈ [a,b],Bd W x:=by simp;exact⟨i,j⟩
 apply Ia;ac_rfl;show Ci _ _ _ ([a,b].map fr) _;refine C8 fr (λus vs τ=>∃d f,τ= [some (.val (.tup [fr a,fr b])),some (.val (.int (JN us:Nat))),d,f]) ?_ ?_ ⟨_,_,rfl⟩
 .rintro τ ⟨d,f,rfl⟩;ac_rfl;exact q
 .rintro us c vs e τ R k ⟨d,f,rfl⟩;have hu:∀x∈us,Bd W x:=λx l=>hx x (by rw[<-e];simp[l]);have ul:us.length<=6:=by have:=congrArg List.length e;simp at this;omega
  obtain⟨h1,h2,o⟩:=PR us.length us rfl hu;have h:=(hx c (by rw[<-e];simp)).bot;have r:us.length*W<=6*1400:=Nat.mul_le_mul ul g;have s:0<Nat.gcd (JN us) c.den:=ABp _ c.den_pos;have gl:Nat.gcd (JN us) c.den<2^8900:=Au (AAs (ACj c.den_pos (AB8 ..)) h) (by omega);ac_rfl;refine JY _ _ _ ?_;ac_rfl;refine⟨⟨by omega,by simpa using gl⟩, ?_⟩;have p:((c.den:Nat):Int).fdiv ((Nat.gcd (JN us) c.den:Nat):Int)=((c.den/Nat.gcd (JN us) c.den:Nat):Int):=by rw[ABL _ (by omega),ABZ]
  rw[p];have dl:c.den/Nat.gcd (JN us) c.den<2^1400:=Au (AAs (ABY ..) h) g;ac_rfl;refine⟨MulOk.of (m:=8401) (n:=1400) (by simpa using Au o (by omega)) (by rw[ABv];exact dl), ?_⟩;exact k _ ⟨some (.val (.int c.num)),some (.val (.int c.den)),by rw[U8,ACk];rfl⟩
def YW {a b:Rat}{W:Nat}{s n:Int}(c:Bd W a)(d:Bd W b)(e:W<=1400)(hs:s=0\/s=1){Q:PV->Prop}(q:∀(p:C0) (S:Rat),p.s=s->Gf (3*W+1) p->0<S->(p.c1:Rat)=b*S->(p.c0:Rat)=a*S->Q (CB p)):Bz [.tup [fr a,fr b], .int s, .int n] Q:=by
 obtain⟨h1,h2,f⟩:=PR (W:=W) 2 [a,b] rfl (by simp;exact⟨c,d⟩);have h:(0:Rat)<((JN [a,b] :Nat):Rat):=by exact_mod_cast h1
 have i:=PM (h2 a (by simp));have j:=PM (h2 b (by simp));have k:=PK c f;have l:=PK d f;have g:=q ⟨NJ (JN [a,b]) a,NJ (JN [a,b]) b,s, [(n,(JN [a,b] :Nat))]⟩ ((JN [a,b] :Nat):Rat) rfl ⟨Au k (by omega),Au l (by omega),by simp;exact Au f (by omega),by simp,hs⟩ h j i;have m:((JN [a,b] :Int).fdiv (a.den:Int)).natAbs<2^2801:=by rw[ABL _ (by omega),<-ABZ,ABv];exact AAs (ABY ..) (Au f (by omega))
 have o:((JN [a,b] :Int).fdiv (b.den:Int)).natAbs<2^2801:=by rw[ABL _ (by omega),<-ABZ,ABv];exact AAs (ABY ..) (Au f (by omega))
 have u:0<a.den:=a.den_pos;have v:0<b.den:=b.den_pos;have r:=(c.mono e).bot;have t:=(d.mono e).bot;apply O5;ac_rfl;refine Th c d e ?_;unfold NJ at g;generalize JN [a,b] =S at *;repeat' array_get_dec
 refine⟨⟨by omega,by rw[ABv];exact Au r (by decide)⟩, ?_⟩;repeat' array_get_dec
 refine⟨MulOk.of (c.mono e).top m, ?_⟩;repeat' array_get_dec
 refine⟨⟨by omega,by rw[ABv];exact Au t (by decide)⟩, ?_⟩;repeat' array_get_dec
 refine⟨MulOk.of (d.mono e).top o, ?_⟩;repeat' array_get_dec
 exact g
def Td {many:Int}{m:zy (Int×Int)}:(B2 many m).length<=m.length:=by
 have key:∀(m a:zy (Int×Int)),(m.foldl (λa p=>MB a p.1 (many*p.2)) a).length<=a.length+m.length:=by
  intro m;induction m with
  | nil=>intro a;simp
  | cons x r ih=> intro a;rw[AA2,AAZ];have:=ih (MB a x.1 (many*x.2));have:=MC a x.1 (many*x.2);omega
 have:=key m [];simpa[B2] using this
def WU {p r:C0}{N:Nat}{many more:Int}(hp:Gf N p)(d:Gf N r)(h1:many.natAbs<2^N)(h2:more.natAbs<2^N)(hN:N<=10000){Q:PV->Prop}(q:Q (CB ⟨many*p.c0+more*r.c0,many*p.c1+more*r.c1,max p.s r.s,DO more (B2 many p.w) r.w⟩)):Fu [CB p, .int many,CB r, .int more] Q:=by
 have c:∀x y:Int,x.natAbs<2^N->y.natAbs<2^N->MulOk x y:=λx y a b=> .of a b;have g:(B2 many p.w).length<=p.w.length:=Td;have f:=hp.l;have h:=d.l;apply TY;repeat' array_get_dec
 refine⟨c _ _ h1 hp.a, ?_⟩;repeat' array_get_dec
 refine⟨c _ _ h2 d.a, ?_⟩;repeat' array_get_dec
 refine⟨c _ _ h1 hp.b, ?_⟩;repeat' array_get_dec
 refine⟨c _ _ h2 d.b, ?_⟩;repeat' array_get_dec
 refine⟨⟨AAm rfl,AAm rfl,AAm rfl⟩, ?_⟩;repeat' array_get_dec
 refine⟨many,rfl,cm (n:=12) f (by decide),λe he=>c _ _ h1 (hp.w e he), ?_⟩;show AW Ai (aV 2) (aC (.int 2)) [some (AV.val (CB p)),some (AV.val (PV.int many)),some (AV.val (CB r)),some (AV.val (PV.int more)),some (AV.val (PV.tup [PV.int (many*p.c0+more*r.c0),PV.int (many*p.c1+more*r.c1)])),none,none,none] _;repeat' array_get_dec
 refine⟨more,rfl,cm (n:=24) (by omega) (by decide),λe he=>c _ _ h2 (d.w e he), ?_⟩;simp only[List.set_cons_succ,List.set_cons_zero];repeat' array_get_dec
 exact q
def SJ {p r:C0}{N:Nat}(hp:Gf N p)(a:Gf N r)(hN:N<=10000){Q:PV->Prop}(q:Q (CB ⟨-r.c1*p.c0+p.c1*r.c0, -r.c1*p.c1+p.c1*r.c1,max p.s r.s,DO p.c1 (B2 (-r.c1) p.w) r.w⟩)):El [CB p,CB r, .int 1] Q:=by
 apply RJ;repeat' array_get_dec
 exact WU hp a (by rw[ABn];exact a.b) hp.b hN q
def HL (p:C0):zq:=decide (p.c0<0\/(p.c0=0/\p.s=1))
def Qu {p:C0}{Q:PV->Prop}(q:Q (.bl (HL p))):DI [CB p] Q:=by
 unfold HL at q;apply O2;repeat' array_get_dec
 .rename_i h;rw[AAi (.inl h)] at q;exact q
 .rename_i h1 h2;rw[show decide (p.c0<0\/p.c0=0/\p.s=1)=decide (p.s=1) by rw[ABq];omega] at q;exact q
 .rename_i h1 h2;rw[AAY (by omega)] at q;exact q
def Bc (p:C0):Int×Int:=if 0<p.c1 then (-p.c0,p.c1) else (p.c0, -p.c1)
def Ko {p:C0}{Q:PV->Prop}(q:Q (.tup [.int (Bc p).1, .int (Bc p).2])):Cs [CB p, .int 1] Q:=by
 unfold Bc at q;apply RM;repeat' array_get_dec
 .rename_i h;rw[AAE h] at q;exact q
 .rename_i h;rw[AAC h] at q;exact q
def DD (p:C0):Rat:= -(p.c0:Rat)/p.c1
def Tx (p r:C0):zq:=if (Bc p).1*(Bc r).2<(Bc r).1*(Bc p).2 then decide (p.c1<0) else if (Bc r).1*(Bc p).2<(Bc p).1*(Bc r).2 then decide (0<p.c1) else decide (r.s<p.s)
def GK {p:C0}{N:Nat}(h:Gf N p):(Bc p).1.natAbs<2^N/\(Bc p).2.natAbs<2^N:=by
 unfold Bc;have:=h.a;have:=h.b;split
 .rw [ABn];exact⟨h.a,h.b⟩
 .rw [ABn];exact⟨h.a,h.b⟩
def La {a b c d:Int}{N:Nat}(h1:a.natAbs<2^N)(h2:b.natAbs<2^N)(e:c.natAbs<2^N)(f:d.natAbs<2^N)(hN:N<=10000){Q:PV->Prop}(q:Q (.bl (decide (a*d<c*b)))):A5 [.tup [.int a, .int b], .tup [.int c, .int d]] Q:=by refine⟨.of h1 f, .of e h2,q⟩
def Tz {p r:C0}{N:Nat}(hp:Gf N p)(d:Gf N r)(hN:N<=10000){Q:PV->Prop}(q:Q (.bl (Tx p r))):C1 [CB p,CB r, .int 1] Q:=by
 obtain⟨a,b⟩:=GK hp;obtain⟨c,b2⟩:=GK d;unfold Tx at q;apply MF;ac_rfl;refine Ko ?_;ac_rfl;refine Ko ?_;ac_rfl;refine La a b c b2 hN ?_;ac_rfl
 .rename_i h;rw[AAE h] at q;exact q
 rename_i h;rw[AAC h] at q;refine La c b2 a b hN ?_;ac_rfl
 .rename_i h;rw[AAE h] at q;exact q
 .rename_i h;rw[AAC h] at q;exact q
def holds (p:C0)(t:Rat):Prop:=0<RG p t\/(RG p t=0/\p.s=0)
def Cn {p:C0}(h:p.c1≠0):0<(Bc p).2/\((Bc p).1:Rat)=DD p*((Bc p).2:Rat)/\(p.c0:Rat)= - (DD p*p.c1):=by
 have hc:(p.c1:Rat)≠0:=by exact_mod_cast h
 have e:DD p*(p.c1:Rat)= -(p.c0:Rat):=by unfold DD;exact Rat.div_mul_cancel hc
 unfold Bc;split
 .rename_i h1;refine⟨h1, ?_, ?_⟩
  .rw [e];push_cast;rfl
  .rw [e];grind
 .rename_i h1;refine⟨by show 0 < -p.c1;omega, ?_, ?_⟩
  .push_cast;grind
  .rw [e];grind
def VJ {p r:C0}(hp:p.c1≠0)(a:r.c1≠0):(Bc p).1*(Bc r).2<(Bc r).1*(Bc p).2↔DD p<DD r:=by
 obtain⟨b,c,_⟩:=Cn hp;obtain⟨d,b2,_⟩:=Cn a;have e:(0:Rat)<((Bc p).2:Rat):=by exact_mod_cast b
 have f:(0:Rat)<((Bc r).2:Rat):=by exact_mod_cast d
 rw[<-ACw,ACv,ACv,c,b2];generalize ((Bc p).2:Rat)=x at *;generalize ((Bc r).2:Rat)=y at *;have g:0<x*y:=Rat.mul_pos e f;rw[show DD p*x*y=DD p*(x*y) by grind,show DD r*y*x=DD r*(x*y) by grind];exact Rat.mul_lt_mul_right g
def Ux {p:C0}(h:p.c1≠0)(t:Rat):RG p t=p.c1*(t-DD p):=by obtain⟨_,_,e⟩:=Cn h;unfold RG;rw[e];grind
def D0 {p:C0}(h:0<p.c1)(t:Rat):holds p t↔(DD p<t\/(DD p=t/\p.s=0)):=by
 have hc:(0:Rat)<p.c1:=by exact_mod_cast h
 unfold holds;rw[Ux (by omega)];have a:0<(p.c1:Rat)*(t-DD p)↔DD p<t:=by rw[ABw hc];grind
 have b:(p.c1:Rat)*(t-DD p)=0↔DD p=t:=by rw[ACG];grind
 rw[a,b]
def DM {p:C0}(h:p.c1<0)(t:Rat):holds p t↔(t<DD p\/(DD p=t/\p.s=0)):=by
 have hc:(0:Rat) < -(p.c1:Rat):=by
  have:(p.c1:Rat)<0:=by exact_mod_cast h
  grind
 unfold holds;rw[Ux (by omega)];have a:0<(p.c1:Rat)*(t-DD p)↔t<DD p:=by rw[show (p.c1:Rat)*(t-DD p)= -(p.c1:Rat)*(DD p-t) by grind,ABw hc];grind
 have b:(p.c1:Rat)*(t-DD p)=0↔DD p=t:=by rw[ACG];grind
 rw[a,b]
instance{p:C0}{Q:PV->Prop}:Wp (Gg (CB p) .non Q) (Q (.bl false)):=⟨id⟩
def Ou:zt C0->PV|none=> .non|some p=>CB p
def RZ (a:Int)(o:zt C0)(p:C0):zt C0:=if 0<p.c1*a then (match o with | none=>some p|some r=>if Tx p r=true then some p else some r) else o
def tight (a:Int)(b:zy C0):zt C0:=b.foldl (RZ a) none
def ZJ {p r:C0}{b:Int}(h:b=1\/b= -1)(hp:0<p.c1*b)(a:0<r.c1*b)(sp:p.s=0\/p.s=1)(e:r.s=0\/r.s=1)(t:Rat):(Tx p r=true->holds p t->holds r t)/\(Tx p r=false->holds r t->holds p t):=by
 have c:p.c1≠0:=by intro z;rw[z] at hp;simp at hp
 have d:r.c1≠0:=by intro z;rw[z] at a;simp at a
 unfold Tx;simp only[VJ c d,VJ d c];rcases h with rfl|rfl
 .have hp:0<p.c1:=by omega
  have a:0<r.c1:=by omega
  rw[D0 hp,D0 a];split
  .simp [show ¬p.c1<0 by omega];grind
  .split
   .simp [hp];grind
   .simp;grind
 .have hp:p.c1<0:=by omega
  have a:r.c1<0:=by omega
  rw[DM hp,DM a];split
  .simp [hp];grind
  .split
   .simp [show ¬0<p.c1 by omega];grind
   .simp;grind
structure dW (sg:Int) (ps:List C0) (o:Option C0):Prop where
 no:o=none->∀p∈ps,¬0<p.c1*sg
 so:∀r,o=some r->r∈ps/\0<r.c1*sg/\∀p∈ps,0<p.c1*sg->∀t,holds r t->holds p t
def WW {c:Int}(h:c=1\/c= -1){g:zy C0}{o:zt C0}{p:C0}(hs:∀p∈g,p.s=0\/p.s=1)(hp:p.s=0\/p.s=1)(i:dW c g o):dW c (g ++ [p]) (RZ c o p):=by
 unfold RZ;split
 .rename_i h1;cases o with
  | none=>
    refine⟨λz=>(by cases z),λr e=> ?_⟩;cases e;refine⟨by simp,h1,λx hx h2 t a=> ?_⟩;rcases AAO.mp hx with hx|hx
    .exact absurd h2 (i.no rfl x hx)
    .rw [AAa.mp hx];exact a
  | some r=>
    obtain⟨m,d,f⟩:=i.so r rfl;have j:=ZJ h h1 d hp (hs r m);dsimp only;split
    .rename_i h2;refine⟨λz=>(by cases z),λk e=> ?_⟩;cases e;refine⟨by simp,h1,λx hx b t a=> ?_⟩;rcases AAO.mp hx with hx|hx
     .exact f x hx b t ((j t).1 h2 a)
     .rw [AAa.mp hx];exact a
    .rename_i h2;refine⟨λz=>(by cases z),λk e=> ?_⟩;cases e;refine⟨by simp[m],d,λx hx b t a=> ?_⟩;rcases AAO.mp hx with hx|hx
     .exact f x hx b t a
     .rw [AAa.mp hx];exact(j t).2 (by simpa using h2) a
 .rename_i h1;refine⟨λz x hx=> ?_,λr e=> ?_⟩
  .rcases AAO.mp hx with hx|hx
   .exact i.no z x hx
   .rw [AAa.mp hx];exact h1
  .obtain ⟨m,d,f⟩:=i.so r e;refine⟨by simp[m],d,λx hx b t a=> ?_⟩;rcases AAO.mp hx with hx|hx
   .exact f x hx b t a
   .rw [AAa.mp hx] at b;exact absurd b h1
def N0 (a:Int)(us:zy C0)(p:C0):tight a (us ++ [p])=RZ a (tight a us) p:=by unfold tight;rw[ABQ];rfl
theorem Bg {b:Int}(h:b=1\/b= -1):∀(n:Nat) (a:zy C0),a.length=n->(∀p∈a,p.s=0\/p.s=1)->dW b a (tight b a)
 | 0,a,e,_=>by have:a= [] :=ADZ.mp e;subst this;exact⟨λ_=>by simp,λr e=>by cases e⟩
 | n+1,a,e,hs=>by obtain⟨ys,r,rfl⟩:∃ys r,a=ys ++ [r] :=⟨a.dropLast,a.getLast (by intro z;subst z;cases e),(ACu _).symm⟩;rw[N0];exact WW h (λp hp=>hs p (by simp[hp])) (hs r (by simp)) (Bg h n ys (by simpa using e) λp hp=>hs p (by simp[hp]))
def EV {v:PV}{d:zy C0}{N:Nat}{c:Int}(hv:v= .lst (d.map CB))(h:c=1\/c= -1)(ok:∀p∈d,Gf N p)(hN:N<=10000)(hl:d.length<=100){Q:PV->Prop}(q:Q (Ou (tight c d))):CP [v, .int 1, .int c] Q:=by
 subst hv;have o:c.natAbs<2^N\/N=0:=by
  rcases Nat.eq_zero_or_pos N with z|z
  .exact .inr z
  .left;have:2^1<=2^N:=ADL (by decide) z;omega
 apply O7;ac_rfl;refine C8 CB (λus vs τ=>∃f,τ= [some (.val (.lst (d.map CB))),some (.val (.int 1)),some (.val (.int c)),some (.val (Ou (tight c us))),f]) ?_ ?_ ⟨_,rfl⟩
 .rintro τ ⟨f,rfl⟩;ac_rfl;exact q
 .rintro us p vs e τ R g ⟨f,rfl⟩;have i:Gf N p:=ok p (by rw[<-e];simp);have j:∀x∈us,Gf N x:=λx hx=>ok x (by rw[<-e];simp[hx]);have k:=Bg h us.length us rfl λx hx=>(j x hx).s;have a:=g [some (.val (.lst (d.map CB))),some (.val (.int 1)),some (.val (.int c)),some (.val (Ou (tight c (us ++ [p])))),some (.val (CB p))] ⟨_,rfl⟩;clear g;rw[N0] at a;unfold RZ at a;have m1:MulOk p.c1 c:= .of (m:=10000) (n:=10000) (Au i.b hN) (Au (m:=1) (by omega) (by decide));cases hq:tight c us with
  | none=>
    rw[hq] at a;rw[show Ou none=PV.non from rfl];ac_rfl
    .rename_i z;rw[AAE z] at a;exact a
    .rename_i z;rw[AAC z] at a;exact a
  | some r=>
    rw[hq] at a;have l:=j r (k.so r hq).1;rw[show Ou (some r)=CB r from rfl];ac_rfl
    .rename_i z;rw[AAE z] at a;refine Tz i l hN ?_;dsimp only at a;cases hb:Tx p r with
     | true=> rw[hb,AAE rfl] at a;ac_rfl;exact a
     | false=> rw[hb,AAC (by decide)] at a;ac_rfl;exact a
    .rename_i z;rw[AAC z] at a;exact a
def T7 {p:C0}(h:p.c1≠0):Rat.divInt (Bc p).1 (Bc p).2=DD p:=by
 obtain⟨a,b,_⟩:=Cn h;have hz:((Bc p).2:Rat)≠0:=by
  have:(0:Rat)<((Bc p).2:Rat):=by exact_mod_cast a
  grind
 rw[Rat.divInt_eq_div,b];exact Rat.mul_div_cancel hz
def Yf {v:PV}{a:zy C0}{N:Nat}{l h:C0}(hv:v= .lst (a.map CB))(ok:∀p∈a,Gf N p)(hN:N<=8900)(hl:a.length<=100)(b:tight 1 a=some l)(c:tight (-1) a=some h){Q:PV->Prop}(q:Q (.tup [fr (DD l), .int (1-l.s),fr (DD h)])):D5 [v, .int 1] Q:=by
 have d:=(Bg (.inl rfl) a.length a rfl λx hx=>(ok x hx).s).so l b;have e:=(Bg (.inr rfl) a.length a rfl λx hx=>(ok x hx).s).so h c;have f:l.c1≠0:=by have:=d.2.1;omega
 have g:h.c1≠0:=by have:=e.2.1;omega
 have i:=GK (ok l d.1);have b2:=GK (ok h e.1);have j:=(Cn f).1;have k:=(Cn g).1;rw[<-T7 f,<-T7 g] at q;apply O6;ac_rfl;refine EV hv (.inl rfl) ok (by omega) hl ?_;rw[b,show Ou (some l)=CB l from rfl];ac_rfl;refine Ko ?_;ac_rfl;refine Dw _ _ (by omega) (Au i.2 hN) _ ?_;ac_rfl;refine EV hv (.inr rfl) ok (by omega) hl ?_;rw[c,show Ou (some h)=CB h from rfl];ac_rfl;refine Ko ?_;ac_rfl;refine Dw _ _ (by omega) (Au b2.2 hN) _ ?_;ac_rfl;exact q
def UK {a:zy C0}{l h:C0}(hs:∀p∈a,p.s=0\/p.s=1)(m:tight 1 a=some l)(n:tight (-1) a=some h)(h1:h.s=1)(o:∀p∈a,p.c1=0->HL p=false)(t:Rat):(∀p∈a,holds p t)↔((DD l<t\/(DD l=t/\l.s=0))/\t<DD h):=by
 have c:=(Bg (.inl rfl) a.length a rfl hs).so l m;have d:=(Bg (.inr rfl) a.length a rfl hs).so h n;have f:0<l.c1:=by have:=c.2.1;omega
 have g:h.c1<0:=by have:=d.2.1;omega
 constructor
 .intro i;have e:=(D0 f t).mp (i l c.1);have b:=(DM g t).mp (i h d.1);refine⟨e, ?_⟩;rcases b with b|b
  .exact b
  .omega
 .rintro ⟨e,b⟩ p hp;rcases Int.lt_trichotomy p.c1 0 with z|z|z
  .exact d.2.2 p hp (by omega) t ((DM g t).mpr (.inl b))
  .have:=o p hp z;unfold HL at this;have this:=ABN this;unfold holds RG;rw[z];rcases hs p hp with j|j
   .have:0<=p.c0:=by omega
    rcases Int.lt_or_eq_of_le this with k|k
    .left;have:(0:Rat)<p.c0:=by exact_mod_cast k
     grind
    .right;rw[<-k];exact⟨by grind,j⟩
   .have k:0<p.c0:=by omega
    left;have:(0:Rat)<p.c0:=by exact_mod_cast k
    grind
  .exact c.2.2 p hp (by omega) t ((D0 f t).mpr e)
def XT {v:PV}{a:zy C0}{N:Nat}(hv:v= .lst (a.map CB))(ok:∀p∈a,Gf N p)(hN:N<=8900)(hl:a.length<=100)(lo:∃p∈a,0<p.c1)(hi:∃p∈a,p.c1<0)(hs:∀p∈a,p.c1<0->p.s=1){Q:PV->Prop}(J:∀l h,tight 1 a=some l->tight (-1) a=some h->DD l<DD h->h.s=1->(∀p∈a,p.c1=0->HL p=false)->Q .non)(E:∀p,(∀t,¬∀p∈a,holds p t)->Q (CB p)):D3 [v, .int 1] Q:=by
 have F:=Bg (.inl rfl) a.length a rfl λx hx=>(ok x hx).s;have G:=Bg (.inr rfl) a.length a rfl λx hx=>(ok x hx).s;obtain⟨l,n⟩:∃l,tight 1 a=some l:=by
  cases e:tight 1 a with
  | some l=>exact⟨l,rfl⟩
  | none=>obtain⟨p,hp,h⟩:=lo;exact absurd (by omega) (F.no e p hp)
 obtain⟨h,o⟩:∃h,tight (-1) a=some h:=by
  cases e:tight (-1) a with
  | some l=>exact⟨l,rfl⟩
  | none=>obtain⟨p,hp,h⟩:=hi;exact absurd (by omega) (G.no e p hp)
 have f:=F.so l n;have g:=G.so h o;have H:0<l.c1:=by have:=f.2.1;omega
 have r:h.c1<0:=by have:=g.2.1;omega
 have K:=hs h g.1 r;apply O1;ac_rfl;subst hv;refine C8 CB (λus vs τ=>(∀p∈us,p.c1=0->HL p=false)/\∃u i j,τ= [some (.val (.lst (a.map CB))),some (.val (.int 1)),u,i,j]) ?_ ?_ ⟨by simp,_,_,_,rfl⟩
 .rintro τ ⟨y,u,i,j,rfl⟩;have A:(0:Rat)<l.c1:=by exact_mod_cast H
  have B:(0:Rat) < -(h.c1:Rat):=by
   have:(h.c1:Rat)<0:=by exact_mod_cast r
   grind
  have L:((-h.c1*l.c0+l.c1*h.c0:Int):Rat)=(l.c1 * -(h.c1:Rat))*(DD h-DD l):=by
   push_cast
   rw[(Cn (p:=l) (by omega)).2.2,(Cn (p:=h) (by omega)).2.2];grind
  have M:max l.s h.s=1:=by have:=(ok l f.1).s;omega
  have C:=Rat.mul_pos A B;have key:DD l<DD h↔0 < -h.c1*l.c0+l.c1*h.c0:=by rw[<-ACw,L,ADa,ABw C];grind
  ac_rfl;refine EV rfl (.inr rfl) ok (by omega) hl ?_;rw[o,show Ou (some h)=CB h from rfl];ac_rfl;refine EV rfl (.inl rfl) ok (by omega) hl ?_;rw[n,show Ou (some l)=CB l from rfl];ac_rfl;refine SJ (ok l f.1) (ok h g.1) (by omega) ?_;have f1:=E ⟨-h.c1*l.c0+l.c1*h.c0, -h.c1*l.c1+l.c1*h.c1,max l.s h.s,DO l.c1 (B2 (-h.c1) l.w) h.w⟩;have O:=J l h n o;generalize hb:(⟨-h.c1*l.c0+l.c1*h.c0, -h.c1*l.c1+l.c1*h.c1,max l.s h.s,DO l.c1 (B2 (-h.c1) l.w) h.w⟩:C0)=b at *;have T:b.c0= -h.c1*l.c0+l.c1*h.c0:=by rw[<-hb]
  have bs:b.s=1:=by rw[<-hb];exact M
  ac_rfl;refine Qu ?_;cases c:HL b with
  | true=>
    unfold HL at c;have c:=ABM c;ac_rfl;refine f1 λt m=> ?_;have U:=(D0 H t).mp (m l f.1);have D:=(DM r t).mp (m h g.1);have:DD l<DD h:=by
     rcases D with D|D
     .grind
     .omega
    have:=key.mp this;omega
  | false=> unfold HL at c;have c:=ABN c;ac_rfl;exact O (key.mpr (by omega)) K y
 .rintro us p vs e τ R I ⟨y,u,i,j,rfl⟩;have P:p∈a:=by rw[<-e];simp
  have d:(p.c1=0->HL p=false)->R [some (AV.val (PV.lst (List.map CB a))),some (AV.val (PV.int 1)),some (AV.val (CB p)),i,j] :=λh=>I _ ⟨λx hx=>by
   rcases AAO.mp hx with hx|hx
   .exact y x hx
   .rw [AAa.mp hx];exact h,_,_,_,rfl⟩
  clear I;ac_rfl
  .rename_i z;refine Qu ?_;cases c:HL p with
   | true=>
     ac_rfl;refine E p λt m=> ?_;have:=m p P;unfold HL at c;have c:=ABM c;unfold holds RG at this;rw[z] at this;have S:(p.c0:Rat)+((0:Int):Rat)*t=(p.c0:Rat):=by grind
     rw[S] at this;rcases this with k|⟨k,W⟩
     .have:0<p.c0:=by exact_mod_cast k
      omega
     .have:p.c0=0:=by exact_mod_cast k
      omega
   | false=> ac_rfl;exact d λ_=>c
  .rename_i z;exact d λh=>absurd h z
abbrev Mh:AS:=
 (Aa (EY (Mw (aV 0)) (Ja 3 (Ad (Am 3) (Ad (Am 4) (Ad (Am 5) Bw)))) (C2 2 F2 (AB (BB (AB (aV 3) (AB (aV 4) (AB (ga (Aw (AW Gg (aV 5) (aC .non))) (aC .non) (AR 2 Im (AB (aV 5) (AB (aV 1) AM)))) AM)))) AM)))
   (Ar (AR 1 D6 (AB (aV 2) AM))))
abbrev K9:AS:=
 (Aa (Fy (D9 AM) 2)
   Mh)
def D4:AF:=Al 6 K9
def O3 {a b:PV}{Q:PV->Prop}(h:K9 ⟨λ_=>Q .non,Q,λ_=>False,λ_=>False⟩ [some (.val a),some (.val b),none,none,none,none]):D4 [a,b] Q:=h
def Qo {v:PV}{xs:zy PV}{ss:zy A8}{x:Rat}{B C:Nat}(hv:v= .tup xs\/v= .lst xs)(i:Dk xs ss)(ok:∀s∈ss,Bl B s)(hl:ss.length<=400)(hx:0<=x)(l:Bd C x)(m:B+C+1<=4000){Q:PV->Prop}(q:Q (.tup ((canon 1 (ss.map (Zd x))).map CS))):D4 [v,fr x] Q:=by
 have A:=i.length;apply O3;ac_rfl;refine fE hv ?_;refine GT (λr τ=>∃us vs b c d,us++vs=ss/\Dk r vs/\τ= [some (.val v),some (.val (fr x)),some (.own ((us.map (Zd x)).map CS)),b,c,d]) ?_ ?_ _ _ ⟨[],ss,_,_,_,rfl,i,rfl⟩
 .rintro τ ⟨us,vs,b,c,d,e,hv,rfl⟩;cases hv;rw[AB0] at e;subst e;repeat' array_get_dec
  refine RY (.inr rfl) (JG (us.map (Zd x))) (B:=B+C+1) (λs hs=> ?_) (by rw[AAJ];exact hl) m q;obtain⟨t,n,rfl⟩:=AAc.mp hs;exact ej hx l (ok t n)
 .rintro y r τ R j ⟨us,vs,b,c,d,e,hv,rfl⟩;obtain⟨s,p,rfl,hy,u⟩:=TV hv;have os:=ok s (by rw[<-e];simp);have ul:us.length<=400:=by have:=congrArg List.length e;simp at this;omega
  have f:∀g b c d,g=(us.map (Zd x)).map CS ++ [CS (Zd x s)] ->R [some (.val v),some (.val (fr x)),some (.own g),b,c,d] :=λg b c d h=>j _ ⟨us ++ [s],p,b,c,d,by simpa using e,u,by rw[h];simp⟩;clear j;show Mb y _;refine ax hy ⟨rfl, ?_⟩;obtain⟨a,k,o⟩:=s;cases o with
  | none=>
    repeat' array_get_dec
    exact f _ _ _ _ rfl
  | some t=>
    have bt:Bd B t:=(os.e t rfl).2;have w:Vp (a,k,some t).2.2=fr t:=rfl;repeat' array_get_dec
    .exact absurd ‹(a,k,some t).2.2=none› (λz=>by cases z)
    rw[w];repeat' array_get_dec
    exact f _ _ _ _ rfl
abbrev Gy:AS:=
 (Aa (Ak (AR 2 LU (AB (AR 2 DR (AB (aV 5) (AB (aV 4) AM))) (AB (aV 2) AM))) (Am 6))
   (C2 3 F2 (AB (BB (AB (AR 2 DR (AB (aV 4) (AB (AR 2 IA (AB (aV 6) (AB (AW Ai (aV 0) (aC (.int 0))) AM))) AM))) (AB (aV 6) AM))) AM)))
abbrev G0:AS:=
 (Aa (EY (cU (AB (ZY (aV 0) (Za (aC (.int 1))) ZZ) (AB (ZY (aV 1) (Za (aC (.int 1))) ZZ) AM))) (Ja 2 (Ad (Am 4) (Ad (Am 5) Bw))) Gy)
   (Ar (BB (AB (AW Ai (aV 0) (aC (.int 0))) (AB (AW Ai (aV 1) (aC (.int 0))) (AB (aV 3) AM))))))
abbrev Gz:AS:=
 (Aa (Fy (D9 AM) 3)
   G0)
abbrev FU:AS:=
 (Aa (Ak (AR 2 DR (AB (AW Ai (aV 1) (aC (.int 0))) (AB (AW Ai (aV 0) (aC (.int 0))) AM))) (Am 2))
   Gz)
def Bf:AF:=Al 7 FU
def IZ {a b:PV}{Q:PV->Prop}(h:FU ⟨λ_=>Q .non,Q,λ_=>False,λ_=>False⟩ [some (.val a),some (.val b),none,none,none,none,none]):Bf [a,b] Q:=h
abbrev JV:AS:=
 (Ar (G6 (Cu (QG (AB (AW Gh (Fx IK (AB (aV 0) AM)) (aC (.int 1))) AM)) 1 [0] (Am 0) E1 (AR 2 Bf (AB (AW Ai (aV 1) (aV 0)) (AB (AW Ai (aV 1) (AW Bb (aV 0) (aC (.int 1)))) AM))))))
def DV:AF:=Al 1 JV
def NG {a:PV}{Q:PV->Prop}(h:JV ⟨λ_=>Q .non,Q,λ_=>False,λ_=>False⟩ [some (.val a)]):DV [a] Q:=h
abbrev Mq:AS:=
 (Aa (Ak (AR 2 Dx (AB (aV 1) (AB (aV 3) AM))) (Am 4))
   (C2 2 F2 (AB (BB (AB (AR 2 DR (AB (AW Ai (AW Ai (aV 0) (aC (.int 1))) (aV 3)) (AB (aV 4) AM))) (AB (AR 2 Im (AB (AW Ai (AW Ai (aV 0) (aC (.int 2))) (aV 3)) (AB (aV 4) AM))) AM))) AM)))
abbrev Mr:AS:=
 (Aa (EY (QG (AB (aC (.int 3)) AM)) (Am 3) Mq)
   (Ar (aV 2)))
abbrev LL:AS:=
 (Aa (Fy (D9 AM) 2)
   Mr)
def D7:AF:=Al 5 LL
def O9 {a b:PV}{Q:PV->Prop}(h:LL ⟨λ_=>Q .non,Q,λ_=>False,λ_=>False⟩ [some (.val a),some (.val b),none,none,none]):D7 [a,b] Q:=h
abbrev LF:AS:=
 (Aa (C2 2 F2 (AB (R4 (AR 3 Bz (AB (BB (AB (AR 2 DR (AB (aV 6) (AB (aV 8) AM))) (AB (aV 7) AM))) (AB (aC (.int 1)) (AB (Fx IK (AB (aV 2) AM)) AM))))) AM))
   (C2 2 F2 (AB (R4 (AR 3 Bz (AB (BB (AB (AR 2 DR (AB (aV 9) (AB (aV 6) AM))) (AB (AR 1 DJ (AB (aV 7) AM)) AM))) (AB (aC (.int 1)) (AB (Fx IK (AB (aV 2) AM)) AM))))) AM)))
abbrev LH:AS:=
 (Aa (EY (cU (AB (aV 5) (AB (aV 1) AM))) (Ja 2 (Ad (Ja 2 (Ad (Am 6) (Ad (Am 7) Bw))) (Ad (Ja 2 (Ad (Am 8) (Ad (Am 9) Bw))) Bw))) LF)
   (Ar (aV 2)))
abbrev LG:AS:=
 (Aa (Fy (D9 (AB (AR 3 Bz (AB (BB (AB (AR 1 DJ (AB (aV 3) AM)) (AB (aC (.tup [(.int 1),(.int 1)])) AM))) (AB (aC (.int 0)) (AB (aC (.int 0)) AM)))) (AB (AR 3 Bz (AB (BB (AB (aV 4) (AB (aC (.tup [(.int (-1)),(.int 1)])) AM))) (AB (aC (.int 1)) (AB (aC (.int 1)) AM)))) AM))) 2)
   LH)
abbrev JW:AS:=
 (Aa (Ak (aV 0) (Ja 3 (Ad (Am 3) (Ad (Am 4) (Ad (Am 5) Bw)))))
   LG)
def DW:AF:=Al 10 JW
def NH {a b:PV}{Q:PV->Prop}(h:JW ⟨λ_=>Q .non,Q,λ_=>False,λ_=>False⟩ [some (.val a),some (.val b),none,none,none,none,none,none,none,none]):DW [a,b] Q:=h
abbrev LB:AS:=
 (Aa (Ak (AR 2 DW (AB (aV 3) (AB (aV 1) AM))) (Am 4))
   (CJ (Aw (AW Gg (AR 2 D3 (AB (aV 4) (AB (aC (.int 1)) AM))) (aC .non))) (C2 2 F2 (AB (AR 2 D5 (AB (aV 4) (AB (aC (.int 1)) AM))) AM)) BK))
abbrev LC:AS:=
 (Aa (EY (Mw (AR 1 DV (AB (aV 0) AM))) (Am 3) LB)
   (Ar (aV 2)))
abbrev JU:AS:=
 (Aa (Fy (D9 AM) 2)
   LC)
def DU:AF:=Al 5 JU
def NF {a b:PV}{Q:PV->Prop}(h:JU ⟨λ_=>Q .non,Q,λ_=>False,λ_=>False⟩ [some (.val a),some (.val b),none,none,none]):DU [a,b] Q:=h
abbrev UE:AS:=
 (Aa (Ak (aV 0) (Ja 2 (Ad (Am 2) (Ad (Am 3) Bw))))
   (Ar (AR 2 D4 (AB (AR 2 DU (AB (aV 2) (AB (AR 2 D7 (AB (aV 1) (AB (aV 3) AM))) AM))) (AB (AW Ai (aV 3) (aC (.int 2))) AM)))))
def Ew:AF:=Al 4 UE
def WQ {a b:PV}{Q:PV->Prop}(h:UE ⟨λ_=>Q .non,Q,λ_=>False,λ_=>False⟩ [some (.val a),some (.val b),none,none]):Ew [a,b] Q:=h
def Jk (b e:C4)(x y:Rat):Rat:=(y-x)/(e.1-b.1)
def MY (b e:C4)(x y:Rat):Rat:=x-Jk b e x y*b.1
def aa (b e:C4)(x y:Rat):PV:= .tup [fr (MY b e x y),fr (Jk b e x y)]
def HN (b e:C4):PV:= .tup [fr b.1,fr e.1, .lst [aa b e b.2.1 e.2.1,aa b e b.2.2.1 e.2.2.1,aa b e b.2.2.2 e.2.2.2]]
def FH {b e:C4}{x y:Rat}{B:Nat}(hb:Bd B b.1)(he:Bd B e.1)(hx:Bd B x)(hy:Bd B y)(h:b.1<e.1):Bd (4*B+2) (Jk b e x y)/\Bd (6*B+3) (MY b e x y):=by have s:Bd (4*B+2) (Jk b e x y):=(Bd.div (by grind) (hy.sub hx) (he.sub hb)).mono (by omega);exact⟨s,(hx.sub (s.mul hb)).mono (by omega)⟩
def YU {f:C4->PV}(a:f=cor\/f=corL){b e:C4}{B:Nat}(hb:Ej B b)(he:Ej B e)(h:b.1<e.1)(l:6*B+3<=3900){Q:PV->Prop}(q:Q (HN b e)):Bf [f b,f e] Q:=by
 obtain⟨c,d⟩:=FH hb.m he.m hb.x he.x h;obtain⟨g,i⟩:=FH hb.m he.m hb.y he.y h;obtain⟨j,k⟩:=FH hb.m he.m hb.z he.z h;have n:e.1-b.1≠0:=by grind
 have bs:=he.m.sub hb.m;apply IZ;rcases a with rfl|rfl
 .repeat' array_get_dec
  exact q
 .repeat' array_get_dec
  show Vq (.lst [fr b.1,fr b.2.1,fr b.2.2.1,fr b.2.2.2]) (some 1) none _;refine Dr ?_;repeat' array_get_dec
  show Vq (.lst [fr e.1,fr e.2.1,fr e.2.2.1,fr e.2.2.2]) (some 1) none _;refine Dr ?_;show Mb (.lst [fr b.2.1,fr b.2.2.1,fr b.2.2.2]) λxs=>Mb (.lst [fr e.2.1,fr e.2.2.1,fr e.2.2.2]) λys=>_;repeat' array_get_dec
  exact q
def F4 (cs:zy C4):zy (C4×C4):=cs.zip cs.tail
def bL {cs:zy C4}{i:Nat}(h:i+1<cs.length):∃b e,cs[i]? =some b/\cs[i+1]? =some e/\(F4 cs)[i]? =some (b,e):=by refine⟨cs[i],cs[i+1],AAT _,AAT _, ?_⟩;unfold F4;rw[ADr];refine⟨AAT _, ?_⟩;rw[List.getElem?_tail];exact AAT _
def E7 {cs:zy C4}(a:Hr cs){p:C4×C4}(h:p∈F4 cs):p.1∈cs/\p.2∈cs/\p.1.1<p.2.1:=by obtain⟨i,hi⟩:=List.getElem?_of_mem h;unfold F4 at hi;rw[ADr] at hi;obtain⟨h1,h2⟩:=hi;rw[List.getElem?_tail] at h2;exact⟨ABX h1,ABX h2,U3 a h1 h2⟩
def fS {cs:zy C4}{v:PV}{B:Nat}(hv:Gr cs v)(hc:∀c∈cs,Ej B c)(o:Hr cs)(h2:2<=cs.length)(hl:cs.length<=1000)(r:6*B+3<=3900){Q:PV->Prop}(q:Q (.lst ((F4 cs).map λp=>HN p.1 p.2))):DV [v] Q:=by
 obtain⟨f,s,hv⟩:=hv;apply NG;have t:(F4 cs).length=cs.length-1:=by unfold F4;simp
 have go:∀w:PV,(∀(k:Int) (j:Nat) (c:C4) {R:PV->Prop},k=(j:Int)->cs[j]? =some c->R (f c)->Ai w (.int k) R)->C6 (Am 0) E1 (AR 2 Bf (AB (AW Ai (aV 1) (aV 0)) (AB (AW Ai (aV 1) (AW Bb (aV 0) (aC (PV.int 1)))) AM))) [none,some (AV.val w)] (λxs=>Q (PV.lst xs)) (rng 0 ((cs.length:Int)-1).toNat) [] :=λw ix=>by
  refine UR (λi a=>a=((F4 cs).map λp=>HN p.1 p.2).take i) (λa e=> ?_) (λi hi a R n e=> ?_) rfl
  .rw [e,ABl (by rw[AAJ,t];omega)];exact q
  .obtain ⟨b,d,g,l,ep⟩:=bL (cs:=cs) (i:=i) (by omega);have m:=n (a ++ [HN b d]) (by rw[e,List.take_add_one,AAk,ep];rfl);clear n;ac_rfl;refine ix _ i b (by omega) g ?_;ac_rfl;refine ix _ (i+1) d (by omega) l ?_;ac_rfl;refine YU s (hc b (ABX g)) (hc d (ABX l)) (U3 o g l) r ?_;exact m
 rcases hv with rfl|rfl
 .ac_rfl;exact go _ λk j c R hk e h=>KL hk e h
 .ac_rfl;exact go _ λk j c R hk e h=>KL hk e h
def W0 (lo hi:T3)(v:PV):Prop:=∃a b l h,P4 lo l/\P4 hi h/\(v= .tup [a,l,h,b] \/v= .lst [a,l,h,b])
def Hm (lo hi:T3):PV:= .lst [.tup [fr lo.1,fr hi.1], .tup [fr lo.2.1,fr hi.2.1], .tup [fr lo.2.2,fr hi.2.2]]
def C5 {b:T3}{w:PV}(hw:P4 b w){R:PV->Prop}:(R (fr b.1)->Ai w (.int 0) R)/\(R (fr b.2.1)->Ai w (.int 1) R)/\(R (fr b.2.2)->Ai w (.int 2) R):=by rcases hw with rfl|rfl <;> exact⟨id,id,id⟩
def Ra {lo hi b:T3}{v w:PV}(hv:W0 lo hi v)(hw:P4 b w)(c:Dz 100 lo)(d:Dz 100 hi)(e:Dz 100 b){Q:PV->Prop}(q:Q (Hm (lo.1-b.1,lo.2.1-b.1,lo.2.2-b.2.1) (hi.1+b.1,hi.2.1+b.1,hi.2.2+b.2.1))):D7 [v,w] Q:=by
 obtain⟨p,r,l,h,hl,a,hv⟩:=hv;have f:=c.x;have g:=c.y;have i:=c.z;have j:=d.x;have k:=d.y;have m:=d.z;have n:=e.x;have o:=e.y;apply O9;rcases hv with rfl|rfl
 .ac_rfl;show Ci _ _ _ [.int 0, .int 1, .int 2] _;repeat' array_get_dec
  refine En hw ?_;rw[AAC (by decide)];repeat' array_get_dec
  refine(C5 hl).1 ?_;repeat' array_get_dec
  refine(C5 a).1 ?_;repeat' array_get_dec
  refine En hw ?_;rw[AAC (by decide)];repeat' array_get_dec
  refine(C5 hl).2.1 ?_;repeat' array_get_dec
  refine(C5 a).2.1 ?_;repeat' array_get_dec
  refine En hw ?_;rw[AAE (by decide)];repeat' array_get_dec
  refine(C5 hl).2.2 ?_;repeat' array_get_dec
  refine(C5 a).2.2 ?_;repeat' array_get_dec
  exact q
 .ac_rfl;show Ci _ _ _ [.int 0, .int 1, .int 2] _;repeat' array_get_dec
  refine En hw ?_;rw[AAC (by decide)];repeat' array_get_dec
  refine(C5 hl).1 ?_;repeat' array_get_dec
  refine(C5 a).1 ?_;repeat' array_get_dec
  refine En hw ?_;rw[AAC (by decide)];repeat' array_get_dec
  refine(C5 hl).2.1 ?_;repeat' array_get_dec
  refine(C5 a).2.1 ?_;repeat' array_get_dec
  refine En hw ?_;rw[AAE (by decide)];repeat' array_get_dec
  refine(C5 hl).2.2 ?_;repeat' array_get_dec
  refine(C5 a).2.2 ?_;repeat' array_get_dec
  exact q
abbrev Fm:=Rat×Rat×Int
def hF (f:Fm)(t:Rat):Prop:=0<f.1+f.2.1*t\/(f.1+f.2.1*t=0/\f.2.2=0)
structure Wz (N:Nat) (f:Fm) (p:C0):Prop where
 ok:Gf N p
 s:p.s=f.2.2
 ex:∃S:Rat,0<S/\(p.c0:Rat)=f.1*S/\(p.c1:Rat)=f.2.1*S
inductive LX (N:Nat):List Fm->List C0->Prop where
 | nil:LX N [] []
 | cons {f:Fm} {p:C0} {fs:List Fm} {ps:List C0} (h:Wz N f p) (t:LX N fs ps):LX N (f::fs) (p::ps)
def Wz.hold {N:Nat}{f:Fm}{p:C0}(h:Wz N f p)(t:Rat):holds p t↔hF f t:=by
 obtain⟨S,a,b,c⟩:=h.ex;unfold holds hF RG;rw[b,c,h.s,show f.1*S+f.2.1*S*t=S*(f.1+f.2.1*t) by grind,ABw a,ACG];have:S≠0:=by grind
 simp[this]
def Wz.sign {N:Nat}{f:Fm}{p:C0}(h:Wz N f p):(0<p.c1↔0<f.2.1)/\(p.c1<0↔f.2.1<0):=by
 obtain⟨S,c,e,d⟩:=h.ex;have a:0<p.c1↔(0:Rat)<(p.c1:Rat):=by rw[<-ADa,ACw]
 have b:p.c1<0↔(p.c1:Rat)<0:=by rw[<-ADa,ACw]
 rw[a,b,d];refine⟨?_, ?_⟩
 .rw [Rat.mul_comm,ABw c]
 .constructor
  .intro k;have:0<S*(-f.2.1):=by grind
   rw[ABw c] at this;grind
  .intro k;have:0<S*(-f.2.1):=Rat.mul_pos c (by grind);grind
def Wz.turn {N:Nat}{f:Fm}{p:C0}(h:Wz N f p)(e:f.2.1≠0):f.1+f.2.1*DD p=0:=by
 obtain⟨S,g,b,a⟩:=h.ex;have hs:S≠0:=by grind
 have c:(p.c1:Rat)≠0:=by rw[a];intro z;rcases ACG.mp z with z|z <;> contradiction
 have d:p.c1≠0:=by intro z;rw[z] at c;exact c rfl
 have:=(Cn d).2.2;rw[b,a] at this;have:S*(f.1+f.2.1*DD p)=0:=by grind
 rcases ACG.mp this with z|z
 .contradiction
 .exact z
def LX.mem {N:Nat}:∀{e:zy Fm} {g:zy C0},LX N e g->(∀p∈g,∃f∈e,Wz N f p)/\(∀f∈e,∃p∈g,Wz N f p)/\g.length=e.length
 | _,_, .nil=>⟨by simp,by simp,rfl⟩
 | _,_, .cons h t=>by
   obtain⟨a,b,c⟩:=t.mem;refine⟨λp hp=> ?_,λf d=> ?_,by simp[c]⟩
   .rcases AAF.mp hp with rfl|hp
    .exact ⟨_,by simp,h⟩
    .obtain ⟨f,d,k⟩:=a p hp;exact⟨f,by simp[d],k⟩
   .rcases AAF.mp d with rfl|d
    .exact ⟨_,by simp,h⟩
    .obtain ⟨p,hp,k⟩:=b f d;exact⟨p,by simp[hp],k⟩
def Cw {a b:Rat}{W:Nat}{s n:Int}(c:Bd W a)(d:Bd W b)(e:W<=1400)(hs:s=0\/s=1){Q:PV->Prop}(q:∀p:C0,Wz (3*W+1) (a,b,s) p->Q (CB p)):Bz [.tup [fr a,fr b], .int s, .int n] Q:=
 YW c d e hs λp S h1 h2 f g h=>q p ⟨h2,h1,S,f,h,g⟩
def OL (b e:C4)(lo hi:T3):zy Fm:= [(-b.1,1,0),(e.1, -1,1),
 (MY b e b.2.1 e.2.1-lo.1,Jk b e b.2.1 e.2.1,1),(hi.1-MY b e b.2.1 e.2.1, -Jk b e b.2.1 e.2.1,1),
 (MY b e b.2.2.1 e.2.2.1-lo.2.1,Jk b e b.2.2.1 e.2.2.1,1),(hi.2.1-MY b e b.2.2.1 e.2.2.1, -Jk b e b.2.2.1 e.2.2.1,1),
 (MY b e b.2.2.2 e.2.2.2-lo.2.2,Jk b e b.2.2.2 e.2.2.2,1),(hi.2.2-MY b e b.2.2.2 e.2.2.2, -Jk b e b.2.2.2 e.2.2.2,1)]
def WK {b e:C4}{lo hi:T3}{B:Nat}(hb:Ej B b)(he:Ej B e)(h:b.1<e.1)(k:Dz 201 lo)(l:Dz 201 hi)(a:6*B+205<=1400){Q:PV->Prop}(q:∀u,LX (3*(6*B+205)+1) (OL b e lo hi) u->Q (.lst (u.map CB))):DW [HN b e,Hm lo hi] Q:=by
 obtain⟨c,d⟩:=FH hb.m he.m hb.x he.x h;obtain⟨f,g⟩:=FH hb.m he.m hb.y he.y h;obtain⟨i,j⟩:=FH hb.m he.m hb.z he.z h;have n:=k.x;have o:=k.y;have p:=k.z;have r:=l.x;have s:=l.y;have t:=l.z;have bm:=hb.m;have v:=he.m;unfold HN Hm aa;unfold OL at q;generalize MY b e b.2.1 e.2.1=x0 at *;generalize MY b e b.2.2.1 e.2.2.1=y0 at *;generalize MY b e b.2.2.2 e.2.2.2=z0 at *;generalize Jk b e b.2.1 e.2.1=x1 at *;generalize Jk b e b.2.2.1 e.2.2.1=y1 at *;generalize Jk b e b.2.2.2 e.2.2.2=z1 at *;have w:Bd (6*B+205) (1:Rat):=iG.mono (by omega);have A:Bd (6*B+205) (-1:Rat):=iG.neg.mono (by omega);apply NH;repeat' array_get_dec
 refine Oe ?_;repeat' array_get_dec
 rw[show PV.tup [PV.int 1,PV.int 1] =fr 1 from rfl];refine Cw (W:=6*B+205) (bm.neg.mono (by omega)) w a (.inl rfl) λC f0=> ?_;repeat' array_get_dec
 rw[show PV.tup [PV.int (-1),PV.int 1] =fr (-1) from rfl];refine Cw (W:=6*B+205) (v.mono (by omega)) A a (.inr rfl) λD f1=> ?_;repeat' array_get_dec
 refine Cw (W:=6*B+205) ((d.sub n).mono (by omega)) (c.mono (by omega)) a (.inr rfl) λE F=> ?_;repeat' array_get_dec
 refine Oe ?_;repeat' array_get_dec
 refine Cw (W:=6*B+205) ((r.sub d).mono (by omega)) (c.neg.mono (by omega)) a (.inr rfl) λG H=> ?_;repeat' array_get_dec
 refine Cw (W:=6*B+205) ((g.sub o).mono (by omega)) (f.mono (by omega)) a (.inr rfl) λI J=> ?_;repeat' array_get_dec
 refine Oe ?_;repeat' array_get_dec
 refine Cw (W:=6*B+205) ((s.sub g).mono (by omega)) (f.neg.mono (by omega)) a (.inr rfl) λK L=> ?_;repeat' array_get_dec
 refine Cw (W:=6*B+205) ((j.sub p).mono (by omega)) (i.mono (by omega)) a (.inr rfl) λM N=> ?_;repeat' array_get_dec
 refine Oe ?_;repeat' array_get_dec
 refine Cw (W:=6*B+205) ((t.sub j).mono (by omega)) (i.neg.mono (by omega)) a (.inr rfl) λO P=> ?_;repeat' array_get_dec
 exact q [C,D,E,G,I,K,M,O] (.cons f0 (.cons f1 (.cons F (.cons H (.cons J (.cons L (.cons N (.cons P .nil))))))))
def cQ (lo hi p:T3):Prop:=(lo.1<p.1/\p.1<hi.1)/\(lo.2.1<p.2.1/\p.2.1<hi.2.1)/\(lo.2.2<p.2.2/\p.2.2<hi.2.2)
instance (lo hi p:T3):Decidable (cQ lo hi p):=by unfold cQ;infer_instance
def IN (lo hi:T3)(p:C4×C4)(t:Rat):Prop:=p.1.1<=t/\t<p.2.1/\cQ lo hi (inter p.1 p.2 t)
def h9 (lo hi:T3)(p:C4×C4)(m:Rat):Prop:=m=p.1.1\/m=p.2.1\/(p.1.1<m/\m<p.2.1/\((p.1.2.1≠p.2.2.1/\((inter p.1 p.2 m).1=lo.1\/(inter p.1 p.2 m).1=hi.1))\/(p.1.2.2.1≠p.2.2.2.1/\((inter p.1 p.2 m).2.1=lo.2.1\/(inter p.1 p.2 m).2.1=hi.2.1))\/(p.1.2.2.2≠p.2.2.2.2/\((inter p.1 p.2 m).2.2=lo.2.2\/(inter p.1 p.2 m).2.2=hi.2.2))))
def S2 {b e:C4}(x y t:Rat):x+(t-b.1)/(e.1-b.1)*(y-x)=MY b e x y+Jk b e x y*t:=by unfold MY Jk;rw[AB7,AB7];grind
def Qm (b e:C4)(t:Rat):inter b e t=(MY b e b.2.1 e.2.1+Jk b e b.2.1 e.2.1*t,MY b e b.2.2.1 e.2.2.1+Jk b e b.2.2.1 e.2.2.1*t,MY b e b.2.2.2 e.2.2.2+Jk b e b.2.2.2 e.2.2.2*t):=by rw[<-S2,<-S2,<-S2];rfl
def Z6 {b e:C4}{lo hi:T3}(t:Rat):(∀f∈OL b e lo hi,hF f t)↔IN lo hi (b,e) t:=by
 unfold IN cQ;simp only[Qm];unfold OL hF;simp only[AAF,AAg,AAd,forall_eq_or_imp,forall_eq];generalize MY b e b.2.1 e.2.1=x0 at *;generalize MY b e b.2.2.1 e.2.2.1=y0 at *;generalize MY b e b.2.2.2 e.2.2.2=z0 at *;generalize Jk b e b.2.1 e.2.1=x1 at *;generalize Jk b e b.2.2.1 e.2.2.1=y1 at *;generalize Jk b e b.2.2.2 e.2.2.2=z1 at *;have m:(0 < -b.1+1*t\/ -b.1+1*t=0/\True)↔b.1<=t:=by grind
 have n:(0<e.1 + -1*t)↔t<e.1:=by grind
 have a:∀l x y:Rat,0<x-l+y*t↔l<x+y*t:=by intro l x y;grind
 have c:∀l x y:Rat,0<l-x + -y*t↔x+y*t<l:=by intro l x y;grind
 have z:¬((1:Int)=0):=by decide
 simp only[z,and_false,AAd,n,a lo.1 x0 x1,c hi.1 x0 x1,a lo.2.1 y0 y1,c hi.2.1 y0 y1,a lo.2.2 z0 z1,c hi.2.2 z0 z1];rw[m];constructor
 .rintro ⟨d,h1,h2,g,h,i,j,k⟩;exact⟨d,h1,⟨h2,g⟩,⟨h,i⟩,j,k⟩
 .rintro ⟨d,h1,⟨h2,g⟩,⟨h,i⟩,j,k⟩;exact⟨d,h1,h2,g,h,i,j,k⟩
def Ow {N:Nat}{b e:C4}{lo hi:T3}{c:zy C0}(h:LX N (OL b e lo hi) c)(t:Rat):(∀p∈c,holds p t)↔IN lo hi (b,e) t:=by
 obtain⟨m1,m2,_⟩:=h.mem;rw[<-Z6];constructor
 .intro k f a;obtain⟨p,hp,r⟩:=m2 f a;exact(r.hold t).mp (k p hp)
 .intro k p hp;obtain⟨f,a,r⟩:=m1 p hp;exact(r.hold t).mpr (k f a)
def Ti {b e:C4}{x y:Rat}(h:Jk b e x y≠0):x≠y:=by intro z;subst z;apply h;unfold Jk;rw[AB7];grind
def UZ {b e:C4}{lo hi:T3}{f:Fm}{m:Rat}(d:f∈OL b e lo hi)(a:f.2.1≠0)(c:f.1+f.2.1*m=0)(h1:b.1<=m)(h2:m<=e.1):h9 lo hi (b,e) m:=by
 unfold h9;by_cases g:m=b.1
 .exact .inl g
 by_cases h:m=e.1
 .exact .inr (.inl h)
 refine .inr (.inr ⟨by show b.1<m;grind,by show m<e.1;grind, ?_⟩);simp only[Qm];unfold OL at d;simp only[AAF,AAg,AAd] at d;have i:= @Ti b e b.2.1 e.2.1;have j:= @Ti b e b.2.2.1 e.2.2.1;have sz:= @Ti b e b.2.2.2 e.2.2.2;generalize MY b e b.2.1 e.2.1=x0 at *;generalize MY b e b.2.2.1 e.2.2.1=y0 at *;generalize MY b e b.2.2.2 e.2.2.2=z0 at *;generalize Jk b e b.2.1 e.2.1=x1 at *;generalize Jk b e b.2.2.1 e.2.2.1=y1 at *;generalize Jk b e b.2.2.2 e.2.2.2=z1 at *;rcases d with rfl|rfl|rfl|rfl|rfl|rfl|rfl|rfl
 .exact absurd (by dsimp only at c;grind) g
 .exact absurd (by dsimp only at c;grind) h
 .exact .inl ⟨i (by dsimp only at a;exact a), .inl (by dsimp only at c ⊢;grind)⟩
 .exact .inl ⟨i (by dsimp only at a;grind), .inr (by dsimp only at c ⊢;grind)⟩
 .exact .inr (.inl ⟨j (by dsimp only at a;exact a), .inl (by dsimp only at c ⊢;grind)⟩)
 .exact .inr (.inl ⟨j (by dsimp only at a;grind), .inr (by dsimp only at c ⊢;grind)⟩)
 .exact .inr (.inr ⟨sz (by dsimp only at a;exact a), .inl (by dsimp only at c ⊢;grind)⟩)
 .exact .inr (.inr ⟨sz (by dsimp only at a;grind), .inr (by dsimp only at c ⊢;grind)⟩)
def ZK {p:C0}{N:Nat}(h:Gf N p)(c:p.c1≠0):Bd N (DD p):=by obtain⟨a,b⟩:=GK h;rw[<-T7 c];exact .divInt (by have:=(Cn c).1;omega) a b
structure OF (N:Nat) (lo hi:T3) (p:C4×C4) (s:A8):Prop where
 ok:Bl N s
 fin:∃x,s.2.2=some x/\h9 lo hi p x
 bmk:h9 lo hi p s.1
 sem:∀t,Av s (t,0)=true↔IN lo hi p t
def RV {N:Nat}{b e:C4}{lo hi:T3}{a:zy C0}{l h:C0}(hp:LX N (OL b e lo hi) a)(v:tight 1 a=some l)(w:tight (-1) a=some h)(D:DD l<DD h)(hs:h.s=1)(E:∀p∈a,p.c1=0->HL p=false):OF N lo hi (b,e) (DD l,1-l.s,some (DD h)):=by
 obtain⟨m1,m2,_⟩:=hp.mem;have g:∀p∈a,p.s=0\/p.s=1:=λp hp=>by obtain⟨f,_,r⟩:=m1 p hp;exact r.ok.s
 have i:=(Bg (.inl rfl) a.length a rfl g).so l v;have j:=(Bg (.inr rfl) a.length a rfl g).so h w;have y:0<l.c1:=by have:=i.2.1;omega
 have A:h.c1<0:=by have:=j.2.1;omega
 obtain⟨F,G,c⟩:=m1 l i.1;obtain⟨H,I,m⟩:=m1 h j.1;have J:=UK g v w hs E;have n:∀t,((DD l<t\/(DD l=t/\l.s=0))/\t<DD h)↔IN lo hi (b,e) t:=λt=>by rw[<-J t,Ow hp]
 have K:b.1<=DD l:=by
  obtain⟨o,u,d⟩:=m2 (-b.1,1,0) (by simp[OL]);by_cases z:b.1<=DD l
  .exact z
  exfalso;have k:=i.2.2 o u (by have:=d.sign.1.mpr (by show (0:Rat)<1;decide);omega) ((DD l+b.1)/2) ((D0 y _).mpr (.inl (by grind)));have k:=(d.hold _).mp k;unfold hF at k;dsimp only at k;grind
 have he:DD h<=e.1:=by
  obtain⟨o,u,d⟩:=m2 (e.1, -1,1) (by simp[OL]);by_cases z:DD h<=e.1
  .exact z
  exfalso;have k:=j.2.2 o u (by have:=d.sign.2.mpr (by show (-1:Rat)<0;decide);omega) ((DD h+e.1)/2) ((DM A _).mpr (.inl (by grind)));have k:=(d.hold _).mp k;unfold hF at k;dsimp only at k;grind
 have B:F.2.1≠0:=by have:=c.sign.1.mp y;grind
 have C:H.2.1≠0:=by have:=m.sign.2.mp A;grind
 refine⟨⟨ZK c.ok (by omega),by have:=c.ok.s;show 1-l.s=0\/1-l.s=1;omega,λx hx=> ?_⟩,⟨_,rfl,UZ I C (m.turn C) (by grind) he⟩,UZ G B (c.turn B) K (by grind),λt=> ?_⟩
 .cases hx;exact⟨D,ZK m.ok (by omega)⟩
 .rw [<-n t];have:=c.ok.s;simp only[Av,AAn,ACF,AB5];have:(0<1-l.s+0)↔l.s=0:=by omega
  rw[this]
structure Cg (N:Nat) (lo hi:T3) (us:List (C4×C4)) (ss:List A8):Prop where
 ok:∀s∈ss,∃p∈us,OF N lo hi p s
 all:∀p∈us,∀t,IN lo hi p t->∃s∈ss,Av s (t,0)=true
 len:ss.length<=us.length
def Cg.more {N:Nat}{lo hi:T3}{us:zy (C4×C4)}{ss:zy A8}{p:C4×C4}{s:A8}(h:Cg N lo hi us ss)(k:OF N lo hi p s):Cg N lo hi (us ++ [p]) (ss ++ [s]):=by
 refine⟨λx hx=> ?_,λq hq t a=> ?_,by have:=h.len;simp;omega⟩
 .rcases AAO.mp hx with hx|hx
  .obtain ⟨q,hq,r⟩:=h.ok x hx;exact⟨q,by simp[hq],r⟩
  .rw [AAa.mp hx];exact⟨p,by simp,k⟩
 .rcases AAO.mp hq with hq|hq
  .obtain ⟨x,hx,r⟩:=h.all q hq t a;exact⟨x,by simp[hx],r⟩
  .rw [AAa.mp hq] at a;exact⟨s,by simp,(k.sem t).mpr a⟩
def Cg.less {N:Nat}{lo hi:T3}{us:zy (C4×C4)}{ss:zy A8}{p:C4×C4}(h:Cg N lo hi us ss)(k:∀t,¬IN lo hi p t):Cg N lo hi (us ++ [p]) ss:=by
 refine⟨λx hx=> ?_,λq hq t a=> ?_,by have:=h.len;simp;omega⟩
 .obtain ⟨q,hq,r⟩:=h.ok x hx;exact⟨q,by simp[hq],r⟩
 .rcases AAO.mp hq with hq|hq
  .exact h.all q hq t a
  .rw [AAa.mp hq] at a;exact absurd a (k t)
def YH {cs:zy C4}{lo hi:T3}{v:PV}{B:Nat}(hv:Gr cs v)(hc:∀c∈cs,Ej B c)(o:Hr cs)(h2:2<=cs.length)(hl:cs.length<=1000)(E:Dz 201 lo)(F:Dz 201 hi)(G:6*B+205<=1400){Q:PV->Prop}(q:∀ss,Cg (3*(6*B+205)+1) lo hi (F4 cs) ss->Q (.lst (ss.map CS))):DU [v,Hm lo hi] Q:=by
 have N:(F4 cs).length=cs.length-1:=by unfold F4;simp
 apply NF;ac_rfl;refine fS hv hc o h2 hl (by omega) ?_;ac_rfl;refine C8 (λp:C4×C4=>HN p.1 p.2) (λus vs τ=>∃ss a d,Cg (3*(6*B+205)+1) lo hi us ss/\τ= [some (.val v),some (.val (Hm lo hi)),some (.own (ss.map CS)),a,d]) ?_ ?_ ⟨[],_,_,⟨by simp,by simp,by simp⟩,rfl⟩
 .rintro τ ⟨ss,a,d,h,rfl⟩;ac_rfl;exact q ss h
 .rintro us p vs e τ R j ⟨ss,a,d,h,rfl⟩;obtain⟨m1,m2,m3⟩:=E7 o (p:=p) (by rw[<-e];simp);have ul:us.length<=1000:=by have:=congrArg List.length e;simp at this;omega
  have O:=h.len;ac_rfl;refine WK (hc _ m1) (hc _ m2) m3 E F G λu hp=> ?_;obtain⟨w,y,H⟩:=hp.mem;have z:∀p∈u,Gf (3*(6*B+205)+1) p:=λp hp=>by obtain⟨f,_,r⟩:=w p hp;exact r.ok
  have A:u.length<=100:=by rw[H];exact AAm rfl
  ac_rfl;refine XT rfl z (by omega) A ?_ ?_ ?_ (λl h' C D I J K=> ?_) (λb L=> ?_)
  .obtain ⟨k,i,m⟩:=y (-p.1.1,1,0) (by simp[OL]);exact⟨k,i,m.sign.1.mpr (by show (0:Rat)<1;decide)⟩
  .obtain ⟨k,i,m⟩:=y (p.2.1, -1,1) (by simp[OL]);exact⟨k,i,m.sign.2.mpr (by show (-1:Rat)<0;decide)⟩
  .intro x hx i;obtain⟨f,n,r⟩:=w x hx;have:=r.sign.2.mp i;rw[r.s];unfold OL at n;simp only[AAF,AAg,AAd] at n;rcases n with rfl|rfl|rfl|rfl|rfl|rfl|rfl|rfl
   .exact absurd this (by show ¬(1:Rat)<0;decide)
   all_goals rfl
  .have st:=RV hp C D I J K;ac_rfl;refine Yf rfl z (by omega) A C D ?_;have g:∀a d,R [some (.val v),some (.val (Hm lo hi)),some (.own ((ss ++ [(DD l,1-l.s,some (DD h'))]).map CS)),a,d] :=λa d=>j _ ⟨_,a,d,h.more st,rfl⟩;clear j;rw[AAU] at g;ac_rfl;exact g _ _
  .have g:∀a d,R [some (.val v),some (.val (Hm lo hi)),some (.own (ss.map CS)),a,d] :=λa d=>j _ ⟨_,a,d,h.less λt M=>L t ((Ow hp t).mpr M),rfl⟩;clear j;ac_rfl;exact g _ _
def Cg.st {N:Nat}{lo hi:T3}{us:zy (C4×C4)}{ss:zy A8}(h:Cg N lo hi us ss):∀s∈ss,Bl N s:=λs hs=>let ⟨_,_,k⟩:=h.ok s hs;k.ok
def Y8 {cs:zy C4}{lo hi b:T3}{v w:PV}{B:Nat}(hv:Zs cs b v)(hw:W0 lo hi w)(hc:∀c∈cs,Ej B c)(o:Hr cs)(h2:2<=cs.length)(hl:cs.length<=400)(e:Dz 100 lo)(f:Dz 100 hi)(g:Dz 100 b)(r:0<=b.2.2)(t:6*B+205<=1266){Q:PV->Prop}(q:∀ss,Cg (3*(6*B+205)+1) (lo.1-b.1,lo.2.1-b.1,lo.2.2-b.2.1) (hi.1+b.1,hi.2.1+b.1,hi.2.2+b.2.1) (F4 cs) ss->Q (.tup ((canon 1 (ss.map (Zd b.2.2))).map CS))):Ew [v,w] Q:=by
 obtain⟨p,u,hp,hu,hv⟩:=hv;have A:(F4 cs).length=cs.length-1:=by unfold F4;simp
 have h:=e.x;have i:=e.y;have j:=e.z;have k:=f.x;have l:=f.y;have m:=f.z;have a:=g.x;have d:=g.y;have n:=g.z;apply WQ;rcases hv with rfl|rfl
 .ac_rfl;refine Ra hw hu e f g ?_;ac_rfl;refine YH hp hc o h2 (by omega) ⟨(h.sub a).mono (by decide),(i.sub a).mono (by decide),(j.sub d).mono (by decide)⟩ ⟨(k.add a).mono (by decide),(l.add a).mono (by decide),(m.add d).mono (by decide)⟩ (by omega) λss hs=> ?_;have s:=hs.len;ac_rfl;refine(C5 hu).2.2 ?_;ac_rfl;exact Qo (.inr rfl) (JG ss) hs.st (by omega) r n (by omega) (q ss hs)
 .ac_rfl;refine Ra hw hu e f g ?_;ac_rfl;refine YH hp hc o h2 (by omega) ⟨(h.sub a).mono (by decide),(i.sub a).mono (by decide),(j.sub d).mono (by decide)⟩ ⟨(k.add a).mono (by decide),(l.add a).mono (by decide),(m.add d).mono (by decide)⟩ (by omega) λss hs=> ?_;have s:=hs.len;ac_rfl;refine(C5 hu).2.2 ?_;ac_rfl;exact Qo (.inr rfl) (JG ss) hs.st (by omega) r n (by omega) (q ss hs)
instance{r:AA}{τ:Ay}{a:zy PV->Prop}:Wp (k9 r τ a) (r τ λb=>match b with | [.lst xs] =>a (DG 0 xs)|_=>False):=⟨id⟩
abbrev Ei:AS:=
 (Aa (G7 (Fw (Aw (AW Zb (aV 3) (aC (.int 0)))) (Aw (AR 2 A5 (AB (aV 2) (AB (AW Ai (aV 1) (AW Gh (aV 3) (aC (.int 1)))) AM))))) (Ak (AW Gh (aV 3) (aC (.int 1))) (Am 3)))
   (CJ (QF (R6 (Aw (AW Rh (aV 3) (aC (.int 0)))) (Aw (AW We (AW Ai (aV 1) (AW Gh (aV 3) (aC (.int 1)))) (aV 2))))) (C2 1 X3 (AB (aV 3) (AB (aV 2) AM))) BK))
abbrev Fi:AS:=
 (Aa (Ak (R4 (Fx IK (AB (aV 1) AM))) (Am 3))
   Ei)
abbrev Fj:AS:=
 (Aa (EY (Mw (aV 0)) (Am 2) Fi)
   (Ar (aV 1)))
abbrev EI:AS:=
 (Aa (Fy (D9 AM) 1)
   Fj)
def Bi:AF:=Al 4 EI
def Gj {a:PV}{Q:PV->Prop}(h:EI ⟨λ_=>Q .non,Q,λ_=>False,λ_=>False⟩ [some (.val a),none,none,none]):Bi [a] Q:=h
abbrev Fg:AS:=
 (Ar (G6 (Cu (cU (AB (aV 0) (AB (ZY (aV 0) (Za (aC (.int 1))) ZZ) AM))) 2 [] (Ja 2 (Ad (Am 0) (Ad (Am 1) Bw))) E1 (AR 2 BU (AB (AR 2 BW (AB (aV 0) (AB (aV 1) AM))) (AB (BB (AB (aC (.int 1)) (AB (aC (.int 2)) AM))) AM))))))
def CL:AF:=Al 1 Fg
def JH {a:PV}{Q:PV->Prop}(h:Fg ⟨λ_=>Q .non,Q,λ_=>False,λ_=>False⟩ [some (.val a)]):CL [a] Q:=h
abbrev Hu:AS:=
 (Aa (C2 3 F2 (AB (AW Bb (aV 4) (BB (AB (aV 6) AM))) AM))
   (Ak (aC .non) (Am 4)))
abbrev Fl:AS:=
 (Aa (CJ (Fw (Aw (AW Gg (aV 4) (aC .non))) (Aw (AW Ai (aV 1) (aV 5)))) (Ak (BB (AB (aV 6) (AB (aC (.int 1)) AM))) (Am 4)) BK)
   (CJ (Fw (Aw (AW Gg (aV 4) (aC .non))) (Aw (AW Ai (AW Bb (aV 2) (G6 (D9 (AB (aC (.bl false)) AM)))) (aV 5)))) (Ak (BB (AB (aV 6) (AB (aC (.int 0)) AM))) (Am 4)) BK))
abbrev Hv:AS:=
 (Aa (CJ (Fw (Aw (AW Ng (aV 4) (aC .non))) (LZ (Aw (AW Ai (aV 1) (aV 5))))) Hu BK)
   Fl)
abbrev Hx:AS:=
 (Aa (EY (k9 (AB (aV 0) AM)) (Ja 2 (Ad (Am 5) (Ad (Am 6) Bw))) Hv)
   (Ar (Fx Dd (AB (aV 3) AM))))
abbrev Hw:AS:=
 (Aa (Ak (aC .non) (Am 4))
   Hx)
abbrev Fk:AS:=
 (Aa (Fy (D9 AM) 3)
   Hw)
def BV:AF:=Al 7 Fk
def JI {a b c:PV}{Q:PV->Prop}(h:Fk ⟨λ_=>Q .non,Q,λ_=>False,λ_=>False⟩ [some (.val a),some (.val b),some (.val c),none,none,none,none]):BV [a,b,c] Q:=h
structure oD (s:A8):Prop where
 st:Bl 740 s
 h:s.2.1=1
 e:s.2.2.isSome=true
def aU {qs:zy Rat}{x:Rat}{k:Nat}(hs:Pn qs)(hk:k<=qs.length)(hi:∀q∈qs.drop k,x<q)(lo:∀c,qs[k-1]? =some c->0<k->c<x):ins qs x=qs.take k++x::qs.drop k:=by
 have a:At qs x k:=by
  refine⟨hk,λq hq=> ?_,λq hq=>by have:=hi q hq;grind⟩;by_cases b:k=0
  .subst b;simp at hq
  .have e:qs[k-1]? =some qs[k-1] :=AAT (by omega);have:=Pj hs e (lo _ e (by omega));rw[show k-1+1=k by omega] at this;exact this q hq
 rw[R8 hs a,AAC];intro e;have:x∈qs.drop k:=by have:=ACq (xs:=qs) (i:=k) (j:=0);rw[Nat.add_zero,e] at this;exact ABX this
 have:=hi x this;grind
def WN {xs:zy Rat}{B:Nat}(hl:xs.length<=1000)(hx:∀x∈xs,Bd B x)(E:B<=4000){Q:PV->Prop}(q:Q (.lst ((BQ xs).map fr))):Bi [.lst (xs.map fr)] Q:=by
 apply Gj;ac_rfl;refine C8 fr (λus vs τ=>∃b f,τ= [some (.val (.lst (xs.map fr))),some (.own ((BQ us).map fr)),b,f]) ?_ ?_ ⟨_,_,rfl⟩
 .rintro τ ⟨b,f,rfl⟩;repeat' array_get_dec
  exact q
 .rintro us x vs e τ R o ⟨b,f,rfl⟩;have F:=hx x (by rw[<-e];simp);have l:∀b f,R [some (.val (.lst (xs.map fr))),some (.own ((ins (BQ us) x).map fr)),b,f] :=λb f=>o _ ⟨b,f,by rw[Ym];rfl⟩;clear o q;have u:∀c∈BQ us,Bd B c:=λc hc=>hx c (by rw[<-e];exact AC4 _ (BC.mp hc));have G:(BQ us).length<=1000:=by have:=EC (xs:=us);have:=congrArg List.length e;simp only[AAr,AAZ] at this;omega
  have qs:=Bt (xs:=us);generalize BQ us=ks at *;ac_rfl;refine dC (λn τ=>∃k:Nat,n=k+1/\k<=ks.length/\(∀q∈ks.drop k,x<q)/\τ= [some (.val (.lst (xs.map fr))),some (.own (ks.map fr)),some (.val (fr x)),some (.val (.int k))]) ?_ ?_ (n:=ks.length+1) ⟨ks.length,rfl,AAI _,by simp,by simp⟩
  .rintro n τ R2 v ⟨k,w,hk,hi,rfl⟩;rw[show frz [some (AV.val (PV.lst (xs.map fr))),some (AV.own (ks.map fr)),some (AV.val (fr x)),some (AV.val (PV.int k))] = [some (AV.val (PV.lst (xs.map fr))),some (AV.val (.lst (ks.map fr))),some (AV.val (fr x)),some (AV.val (PV.int k))] from rfl];have a:(∀c,ks[k-1]? =some c->0<k->c<x)->R [some (.val (.lst (xs.map fr))),some (.own (List.take (k:Int).toNat (ks.map fr)++fr x::List.drop (k:Int).toNat (ks.map fr))),some (.val (fr x)),some (.val (.int k))] :=λlo=>by have:=l (some (.val (fr x))) (some (.val (.int k)));rw[aU qs hk hi lo,AAU,AAL,ADX,ACA] at this;exact this
   have keep:x∈ks->R [some (.val (.lst (xs.map fr))),some (.own (ks.map fr)),some (.val (fr x)),some (.val (.int k))] :=λh=>by have:=l (some (.val (fr x))) (some (.val (.int k)));rw[Xm qs h] at this;exact this
   ac_rfl
   .rename_i y c p hc;have H:=u c hc;have y:0<k:=by omega
    have g:ks[k-1]? =some c:=by rw[show ((k:Int)-1).toNat=k-1 by omega] at p;exact p
    have z:ks.drop (k-1)=c::ks.drop k:=by obtain⟨h1,h2⟩:=AAp.mp g;rw[AB6 h1,h2,show k-1+1=k by omega]
    have A:x<c->R2 [some (.val (.lst (xs.map fr))),some (.own (ks.map fr)),some (.val (fr x)),some (.val (.int (k-1)))] :=λC=>v _ ⟨k-1,by omega,by omega,by
     intro q hq;rw[z] at hq;rcases AAF.mp hq with h|h
     .rw [h];exact C
     .exact hi q h,by rw[show ((k-1:Nat):Int)=(k:Int)-1 by omega]⟩
    ac_rfl
    .exact A (by assumption)
    .exact a λ_ _ _=>by exfalso;omega
    .rename_i m _ j i r s;have D:j=c:=by rw[show ((k:Int)-1).toNat=k-1 by omega,g] at i;exact(AAV i).symm
     subst D;exact a λd hd _=>by rw[g] at hd;cases hd;have s:¬j=x:=s;have m:¬x<j:=m;grind
    .rename_i m _ j i r t;have t:j=x:=by by_cases h:j=x <;> simp_all
     exact keep (t ▸ r)
   .exact a λ_ _ _=>by exfalso;omega
   .exact a λ_ _ _=>by exfalso;omega
   .exfalso;omega
  .rintro τ ⟨k,w,_⟩;omega
abbrev Tr:=Rat×zq×zq
def gO (t:Tr):zy (Pl×zq):= [((t.1,0),t.2.1),((t.1,1),t.2.2)]
def EA (T:zy Tr):zy A8×zt Pl:=(T.flatMap gO).foldl stepI ([],none)
def Ll (T:zy Tr)(t:Tr):EA (T ++ [t])=stepI (stepI (EA T) ((t.1,0),t.2.1)) ((t.1,1),t.2.2):=by unfold EA;rw[List.flatMap_append,ABQ];rfl
theorem Nh:∀(T:zy Tr),(T.flatMap gO).length=2*T.length
 | [] =>rfl
 | t::T=>by rw[ACt,AAr,Nh T,AAZ];simp[gO];omega
def Xv {us vs:zy PV}{x:PV}{R:PV->Prop}(h:R x):Ai (.lst (us++x::vs)) (.int us.length) R:=by show aw (Ih (us++x::vs) (us.length:Nat)) R;rw[show Ih (us++x::vs) ((us.length:Nat):Int)=some x from C3 (j:=us.length) (by simp)];exact h
def Yq {T:zy Tr}{gs:zy zq}(s:T= [] \/gs ++ [false] =T.map (·.2.2))(mono:∀t∈T,t.2.1=true->t.2.2=true)(hl:T.length<=1000)(l:(EA T).2=none){Q:PV->Prop}(q:Q (.tup ((DZ (T.flatMap gO)).map CS))):BV [.lst (T.map λt=>fr t.1), .lst (T.map λt=> .bl t.2.1), .lst (gs.map .bl)] Q:=by
 apply JI;ac_rfl;show Ci _ _ _ (DG 0 (T.map λt=>fr t.1)) _;refine GT (λr τ=>∃us vs f i,us++vs=T/\r=DG us.length (vs.map λt:Tr=>fr t.1)/\τ= [some (.val (.lst (T.map λt=>fr t.1))),some (.val (.lst (T.map λt=> .bl t.2.1))),some (.val (.lst (gs.map .bl))),some (.own ((EA us).1.map CS)),some (.val (Vc (EA us).2)),f,i]) ?_ ?_ _ _ ⟨[],T,_,_,rfl,rfl,rfl⟩
 .rintro τ ⟨us,vs,f,i,e,n,rfl⟩;cases vs with
  | cons a b=>simp[DG] at n
  | nil=>
    rw[AB0] at e;subst e;repeat' array_get_dec
    have w:DZ (us.flatMap gO)=(EA us).1:=by unfold DZ OK;show (match (EA us).2 with | none=>(EA us).1|some b=>(EA us).1 ++ [(b.1,1-b.2,none)])=_;rw[l]
    rw[w] at q;exact q
 .rintro y r τ R u ⟨us,vs,f,i,e,n,rfl⟩;cases vs with
  | nil=>simp[DG] at n
  | cons t vs=>
    rw[AAL,DG] at n;obtain⟨rfl,rfl⟩:=List.cons.inj n;have mt:=mono t (by rw[<-e];simp);have es:=Ll us t;have v:(EA us).1.length<=2000:=by have h:=GS (us.flatMap gO) ([],none);rw[Nh] at h;have:=congrArg List.length e;simp only[AAr,AAZ] at this;have h:(EA us).1.length<=0+_:=h;omega
    have c:∀{j:PV->Prop},j (.bl t.2.1)->Ai (.lst (T.map λt=> .bl t.2.1)) (.int us.length) j:=λ{j} h=>by rw[<-e,AAU,AAL];have:=Xv (us:=us.map λt=>PV.bl t.2.1) (vs:=vs.map λt=>PV.bl t.2.1) h;rw[AAJ] at this;exact this
    have o:∀{j:PV->Prop},j (.bl t.2.2)->Ai (.lst (gs.map PV.bl ++ [.bl false])) (.int us.length) j:=λ{j} h=>by
     have p:gs.map PV.bl ++ [.bl false] =T.map λt=>PV.bl t.2.2:=by
      rcases s with k|k
      .rw [k] at e;simp at e
      .have:=congrArg (List.map PV.bl) k;rw[AAU,AAo] at this;exact this
     rw[p,<-e,AAU,AAL];have:=Xv (us:=us.map λt=>PV.bl t.2.2) (vs:=vs.map λt=>PV.bl t.2.2) h;rw[AAJ] at this;exact this
    have gl:gs.length<=1000:=by
     rcases s with k|k
     .rw [k] at e;simp at e
     .have:=congrArg List.length k;simp only[AAr,AAJ,AAZ,ACn] at this;omega
    have d:∀L2 b2 f i,(L2,b2)=stepI (stepI (EA us) ((t.1,0),t.2.1)) ((t.1,1),t.2.2)->R [some (.val (.lst (T.map λt=>fr t.1))),some (.val (.lst (T.map λt=> .bl t.2.1))),some (.val (.lst (gs.map .bl))),some (.own (L2.map CS)),some (.val (Vc b2)),f,i] :=λL2 b2 f i h=>u _ ⟨us ++ [t],vs,f,i,by simpa using e,by simp,by rw[es,<-h]⟩;clear u;generalize EA us=st at *;obtain⟨A,b⟩:=st;obtain⟨m,h,g⟩:=t;have v:A.length<=2000:=v;cases b with
    | none=>
      rw[show Vc (A,(none:zt Pl)).2= .non from rfl];cases h with
      | true=> have p:g=true:=mt rfl;subst p;ac_rfl;refine c ?_;ac_rfl;exact d A (some (m,0)) _ _ rfl
      | false=>
        ac_rfl;refine c ?_;ac_rfl;refine o ?_;cases g with
        | true=> ac_rfl;exact d A (some (m,1)) _ _ rfl
        | false=> ac_rfl;exact d A none _ _ rfl
    | some b=>
      rw[show Vc (A,some b).2= .tup [fr b.1, .int (1-b.2)] from rfl];cases h with
      | true=> have p:g=true:=mt rfl;subst p;ac_rfl;refine c ?_;ac_rfl;exact d A (some b) _ _ rfl
      | false=>
        have f1:=λb2 f i=>d (A ++ [(b.1,1-b.2,some m)]) b2 f i;rw[AAU] at f1;ac_rfl;refine c ?_;ac_rfl;refine c ?_;ac_rfl;refine o ?_;cases g with
        | true=> ac_rfl;exact f1 (some (m,1)) _ _ rfl
        | false=> ac_rfl;exact f1 none _ _ rfl
def KB (qs:zy Rat):zy Rat:=(qs.zip (qs.drop 1)).map λp=>(p.1+p.2)*(1/2:Rat)
def V8 {qs:zy Rat}(hl:qs.length<=1000)(hb:∀x∈qs,Bd 1000 x){Q:PV->Prop}(q:Q (.lst ((KB qs).map fr))):CL [.lst (qs.map fr)] Q:=by
 apply JH;ac_rfl;rw[lA,<-ACA,gW];have a:∀p∈qs.zip (qs.drop 1),Bd 1000 p.1/\Bd 1000 p.2:=λp hp=>⟨hb _ (ABW hp).1,hb _ (List.mem_of_mem_drop (ABW hp).2)⟩;refine⟨lt_size (n:=1000) (by simp;omega) (by decide), ?_⟩;refine EM (λp:Rat×Rat=> .tup [fr p.1,fr p.2]) fr (λp=>(p.1+p.2)*(1/2:Rat)) (λp=>Bd 1000 p.1/\Bd 1000 p.2) (λp hp R h=> ?_) _ [] a ?_
 .obtain ⟨b,b2⟩:=hp;have bs:=b.add b2;have c:Bd 3 ((1/2:Rat)):=⟨by decide +kernel,by decide +kernel⟩;ac_rfl;exact h
 .rw [ABO];exact q
theorem Qr {f g:Rat->zq}:∀(qs:zy Rat),qs≠ [] ->(∀us q c vs,us++q::c::vs=qs->f ((q+c)*(1/2:Rat))=g q)->(∀us q,us ++ [q] =qs->g q=false)->(KB qs).map f ++ [false] =qs.map g
 | [],h,_,_=>absurd rfl h
 | [q],_,_,h=>by have:=h [] q rfl;simp[KB,this]
 | q::c::r,_,h1,h2=>by have ih:=Qr (f:=f) (g:=g) (c::r) (by simp) (λus a b vs e=>h1 (q::us) a b vs (by rw[<-e];rfl)) (λus a e=>h2 (q::us) a (by rw[<-e];rfl));have d:=h1 [] q c r rfl;have i:KB (q::c::r)=(q+c)*(1/2:Rat)::KB (c::r):=rfl;rw[i,AAL,ACm,ih,d];rfl
def cC {us vs:zy Rat}{q a:Rat}(hs:Pn (us++q::a::vs)):q<a/\∀x∈us++q::a::vs,¬q<x\/¬x<a:=by
 obtain⟨h1,h2,b⟩:=ACl.mp hs;obtain⟨c,d⟩:=AAK.mp h2;obtain⟨e,f⟩:=AAK.mp d;refine⟨c a (by simp),λx hx=> ?_⟩;rcases AAO.mp hx with h|h
 .have:=b x h q (by simp);exact .inl (by grind)
 .rcases AAF.mp h with rfl|h
  .exact .inl (by grind)
  .rcases AAF.mp h with rfl|h
   .exact .inr (by grind)
   .have:=e x h;exact .inr (by grind)
def Y0 {us:zy Rat}{q:Rat}(hs:Pn (us ++ [q])):∀x∈us ++ [q],¬q<x:=λx hx=>by
 obtain⟨h1,h2,a⟩:=ACl.mp hs;rcases AAO.mp hx with h|h
 .have:=a x h q (by simp);grind
 .rw [AAa.mp h];grind
abbrev K3:AS:=
 (Ar (W5 (AW Rh (aV 0) (aV 1)) (AW Rh (Fx Lm (AB (aV 0) AM)) (Fx Lm (AB (aV 1) AM)))))
def CN:AF:=Al 2 K3
structure kQ (rs:List A8):Prop where
 b:∀r∈rs,Bd 740 r.1/\∃e,r.2.2=some e/\Bd 740 e
 up:rs.Pairwise λr r'=>∀e e',r.2.2=some e->r'.2.2=some e'->¬e'<e
def RN {x:PV}{Q:PV->Prop}(a:OE x)(hq:Jf x=true)(q:Q (.bl true)):CN [x,x] Q:=by
 have e:=XQ a.ok;have b:∀c,c=true->Q (.bl c):=λc e=>by rw[e];exact q
 have go:av (.bl (dm x x)) λc=>if c=true then AW Rh (Fx Lm (AB (aV 0) AM)) (Fx Lm (AB (aV 1) AM)) [some (.val x),some (.val x)] Q else Q (.bl false):=by rw[e];exact Tt a hq (Tt a hq (b _ (AAi rfl)))
 cases x with
 | tup xs=>exact⟨⟨a.ok,a.ok⟩,go⟩
 | lst xs=>exact⟨⟨a.ok,a.ok⟩,go⟩
 | _=>simp[Jf] at hq
abbrev Kq:AS:=
 (Ar (Fx Dd (AB (G6 (Cu (Mw (aV 0)) 1 [] (Am 0) E1 (AW Bb (BB (AB (AR 2 BW (AB (AW Ai (aV 0) (aC (.int 0))) (AB (BB (AB (AW iK (aC (.int 10)) (aC (.int 18))) (AB (aC (.int 1)) AM))) AM))) AM)) (ZY (aV 0) (Za (aC (.int 1))) ZZ)))) AM)))
def D1:AF:=Al 1 Kq
def Oz {a:PV}{Q:PV->Prop}(h:Kq ⟨λ_=>Q .non,Q,λ_=>False,λ_=>False⟩ [some (.val a)]):D1 [a] Q:=h
abbrev Gv:AS:=
 (Aa (Ak (AR 2 BW (AB (AR 1 CO (AB (aV 0) AM)) (AB (AW Ai (G6 (D9 (AB (BB (AB (aC (.int 0)) (AB (aC (.int 1)) AM))) (AB (BB (AB (aC (.int 4)) (AB (aC (.int 1)) AM))) (AB (BB (AB (aC (.int 12)) (AB (aC (.int 1)) AM))) AM))))) (AR 2 BX (AB (aV 0) (AB (aC (.int 3)) AM)))) AM))) (Am 4))
   (C2 2 F2 (AB (AR 2 BW (AB (aV 3) (AB (aV 4) AM))) AM)))
abbrev Gx:AS:=
 (Aa (EY (Mw (aV 1)) (Am 3) Gv)
   (Ar (BB (AB (AW Ai (G6 (D9 (AB (aC (.str "a")) (AB (aC (.str "room")) (AB (aC (.str "abcdefgh")) AM))))) (AR 2 BX (AB (aV 0) (AB (aC (.int 3)) AM)))) (AB (Fx Dd (AB (aV 1) AM)) (AB (Fx Dd (AB (aV 2) AM)) (AB (AW Bb (aC (.int 1)) (AR 2 BX (AB (aV 0) (AB (aC (.int 4)) AM)))) AM)))))))
abbrev Gw:AS:=
 (Aa (Fy (D9 AM) 2)
   Gx)
abbrev FR:AS:=
 (Aa (Ak (G6 (Cu (QG (AB (aC (.int 3)) AM)) 1 [0] (Am 0) E1 (AR 2 BS (AB (AR 1 Az (AB (aV 1) AM)) (AB (AW Ai (G6 (D9 (AB (BB (AB (aC (.int 0)) (AB (aC (.int 1)) AM))) (AB (BB (AB (aC (.int 3)) (AB (aC (.int 1)) AM))) (AB (BB (AB (aC (.int 9)) (AB (aC (.int 1)) AM))) AM))))) (AR 2 BX (AB (aV 1) (AB (aC (.int 3)) AM)))) AM))))) (Am 1))
   Gw)
def B6:AF:=Al 5 FR
def IY {a:PV}{Q:PV->Prop}(h:FR ⟨λ_=>Q .non,Q,λ_=>False,λ_=>False⟩ [some (.val a),none,none,none,none]):B6 [a] Q:=h
abbrev Gb:AS:=
 (Aa (Ak (AR 2 CU (AB (AR 2 BS (AB (aV 8) (AB (AW Ai (aV 4) (AW Bb (AW QR (aV 7) (aC (.int 3))) (aC (.int 1)))) AM))) (AB (aV 9) AM))) (Am 10))
   (CJ (Fw (Aw (AR 2 A5 (AB (BB (AB (aC (.int 0)) (AB (aC (.int 1)) AM))) (AB (aV 10) AM)))) (Aw (AR 2 A5 (AB (aV 10) (AB (BB (AB (aC (.int 1)) (AB (aC (.int 1)) AM))) AM))))) (C2 3 F2 (AB (AR 2 BW (AB (AW Ai (aV 4) (aC (.int 0))) (AB (AR 2 BU (AB (aV 10) (AB (aV 6) AM))) AM))) AM)) BK))
abbrev Gc:AS:=
 (Aa (Ak (AR 2 BS (AB (AW Ai (aV 5) (AW Bb (AW QR (aV 7) (aC (.int 3))) (aC (.int 1)))) (AB (AW Ai (aV 4) (AW Bb (AW QR (aV 7) (aC (.int 3))) (aC (.int 1)))) AM))) (Am 9))
   (CJ (Aw (AW We (AW Ai (aV 9) (aC (.int 0))) (aC (.int 0)))) Gb BK))
abbrev Gd:AS:=
 (Aa (Ak (AR 2 BS (AB (AW Ai (aV 5) (aC (.int 0))) (AB (AW Ai (aV 4) (aC (.int 0))) AM))) (Am 6))
   (EY (dZ (AB (AW Bb (aV 1) (aV 2)) AM)) (Ja 2 (Ad (Am 7) (Ad (Am 8) Bw))) Gc))
abbrev Ge:AS:=
 (Aa (EY (cU (AB (aV 0) (AB (ZY (aV 0) (Za (aC (.int 1))) ZZ) AM))) (Ja 2 (Ad (Am 4) (Ad (Am 5) Bw))) Gd)
   (Ar (AR 1 Bi (AB (aV 3) AM))))
abbrev Eh:AS:=
 (Aa (Fy (Cu (Mw (aV 0)) 1 [] (Am 0) E1 (AW Ai (aV 0) (aC (.int 0)))) 3)
   Ge)
def Br:AF:=Al 11 Eh
def HS {a b c:PV}{Q:PV->Prop}(h:Eh ⟨λ_=>Q .non,Q,λ_=>False,λ_=>False⟩ [some (.val a),some (.val b),some (.val c),none,none,none,none,none,none,none,none]):Br [a,b,c] Q:=h
abbrev GZ:AS:=
 (Aa (CJ (Aw (AW Gg (aV 4) (aC .non))) (Ar (aC (.bl false))) BK)
   (Ar (Fx (XY λbs=>bs.all id) (AB (G6 (Cu (QG (AB (aC (.int 3)) AM)) 1 [1,4,2] (Am 0) E1 (W5 (AR 2 A5 (AB (AW Ai (aV 1) (aV 0)) (AB (AW Ai (aV 2) (aV 0)) AM))) (AR 2 A5 (AB (AW Ai (aV 2) (aV 0)) (AB (AW Ai (aV 3) (aV 0)) AM)))))) AM))))
abbrev GY:AS:=
 (Aa (Ak (AR 2 EK (AB (aV 0) (AB (aV 3) AM))) (Am 4))
   GZ)
abbrev Ef:AS:=
 (Aa (CJ (LZ (Aw (AR 2 A5 (AB (aV 3) (AB (AW Ai (AW Ai (aV 0) (W9 Li (aC (.int 1)))) (aC (.int 0))) AM))))) (Ar (aC (.bl false))) BK)
   GY)
def BA:AF:=Al 5 Ef
def HQ {a b c d:PV}{Q:PV->Prop}(h:Ef ⟨λ_=>Q .non,Q,λ_=>False,λ_=>False⟩ [some (.val a),some (.val b),some (.val c),some (.val d),none]):BA [a,b,c,d] Q:=h
abbrev Mc:AS:=
 (Aa (Ak (G6 (Cu (Mw (aV 3)) 1 [0,1,2] (Am 0) E1 (AR 4 BA (AB (aV 1) (AB (aV 2) (AB (aV 3) (AB (aV 0) AM))))))) (Am 4))
   (Ar (AR 3 BV (AB (aV 3) (AB (aV 4) (AB (G6 (Cu (Mw (AR 1 CL (AB (aV 3) AM))) 1 [0,1,2] (Am 0) E1 (AR 4 BA (AB (aV 1) (AB (aV 2) (AB (aV 3) (AB (aV 0) AM))))))) AM))))))
abbrev Kr:AS:=
 (Aa (Ak (AR 3 Br (AB (aV 0) (AB (aV 1) (AB (aV 2) AM)))) (Am 3))
   Mc)
def D2:AF:=Al 5 Kr
def O0 {a b c:PV}{Q:PV->Prop}(h:Kr ⟨λ_=>Q .non,Q,λ_=>False,λ_=>False⟩ [some (.val a),some (.val b),some (.val c),none,none]):D2 [a,b,c] Q:=h
def dt {cs:zy C4}{B:Nat}(hl:cs.length<=1000)(hc:∀c∈cs,Ej B c)(d:B<=3000){Q:PV->Prop}(q:Q (Bx (laterC (10^18) cs))):D1 [Bx cs] Q:=by
 have bk:Bd 60 ((10:Rat)^18):=⟨by decide +kernel,by decide +kernel⟩;apply Oz;ac_rfl;refine EM cor cor (λc=>(c.1+10^18,c.2)) (Ej B) (λc a R b=> ?_) cs [] hc ?_
 .have bm:=a.m;ac_rfl;rw[show (((10:Int)^Int.toNat 18:Int):Rat)=10^18 by decide +kernel];exact b
 .rw [ABO];ac_rfl;exact q
def U4 {Q:PV->Prop}(q:∀(s:Str) (lo hi:T3) (d:Int),(s="a" \/s="room" \/s="abcdefgh")->Dz 40 lo->Dz 40 hi->1<=d->d<=4->Q (.tup [.str s,FO lo,FO hi, .int d])):B6 [.tape] Q:=by
 have v:∀{k:Int} {R:PV->Prop},0<=k->k<3->(∀x,Bd 8 x->R (fr x))->Ai (.lst [fr 0,fr ((3:Int):Rat),fr ((9:Int):Rat)]) (.int k) R:=λj h1 h=>Xu (xs:= [0,((3:Int):Rat),((9:Int):Rat)]) j h1 λx hx=>h x (by
  simp only[AAF,AAg,AAd] at hx;rcases hx with rfl|rfl|rfl <;> exact⟨by decide +kernel,by decide +kernel⟩)
 have A:∀{k:Int} {R:PV->Prop},0<=k->k<3->(∀x,Bd 8 x->R (fr x))->Ai (.lst [fr 0,fr ((4:Int):Rat),fr ((12:Int):Rat)]) (.int k) R:=λj h1 h=>Xu (xs:= [0,((4:Int):Rat),((12:Int):Rat)]) j h1 λx hx=>h x (by
  simp only[AAF,AAg,AAd] at hx;rcases hx with rfl|rfl|rfl <;> exact⟨by decide +kernel,by decide +kernel⟩)
 apply IY;ac_rfl;refine UR (λi b=>∃xs:zy Rat,xs.length=i/\(∀x∈xs,Bd 20 x)/\b=xs.map fr) (λb h=> ?_) (λi hi b R B h=> ?_) ⟨[],rfl,by simp,rfl⟩
 .obtain ⟨xs,l,c,rfl⟩:=h;obtain⟨x,y,z,rfl⟩:∃x y z,xs= [x,y,z] :=by
   match xs,l with
   | [x,y,z],_=>exact⟨x,y,z,rfl⟩
  have C:=c x (by simp);have m:=c y (by simp);have D:=c z (by simp);ac_rfl;refine C8 fr (λus vs τ=>∃hs:zy Rat,∃n o,hs.length=us.length/\(∀x∈hs,Bd 40 x)/\τ= [some (.val .tape),some (.val (.lst ([x,y,z].map fr))),some (.own (hs.map fr)),n,o]) ?_ ?_ ⟨[],_,_,rfl,by simp,rfl⟩
  .rintro τ ⟨hs,n,o,hl,hb,rfl⟩;obtain⟨E,F,G,rfl⟩:∃x y z,hs= [x,y,z] :=by
    match hs,hl with
    | [x,y,z],_=>exact⟨x,y,z,rfl⟩
   have p:=λs d hs h1 h2=>q s (x,y,z) (E,F,G) d hs ⟨C.mono (by decide),m.mono (by decide),D.mono (by decide)⟩ ⟨hb _ (by simp),hb _ (by simp),hb _ (by simp)⟩ h1 h2;ac_rfl;rename_i k f g;refine eM f g λu hu=> ?_;obtain⟨s,rfl,hs⟩:∃s:Str,u= .str s/\(s="a" \/s="room" \/s="abcdefgh"):=by
    simp only[AAF,AAg,AAd] at hu;rcases hu with rfl|rfl|rfl
    .exact ⟨_,rfl, .inl rfl⟩
    .exact ⟨_,rfl, .inr (.inl rfl)⟩
    .exact ⟨_,rfl, .inr (.inr rfl)⟩
   ac_rfl;exact p s _ hs (by omega) (by omega)
  .rintro us a vs e τ R2 H ⟨hs,n,o,hl,hb,rfl⟩;have r:Bd 20 a:=by
    have:a∈ [x,y,z] :=by rw[<-e];simp
    exact c a this
   have ul:us.length<=3:=by have:=congrArg List.length e;simp at this;omega
   ac_rfl;rename_i w I J k f g;refine A f g λu t=> ?_;ac_rfl;exact H _ ⟨hs ++ [a+(w+u)],_,_,by simp[hl],λx hx=>by
    rcases AAO.mp hx with hx|hx
    .exact hb x hx
    .rw [AAa.mp hx];exact(r.add (I.add t)).mono (by decide),by rw[AAU];rfl⟩
 .obtain ⟨xs,l,c,rfl⟩:=h;ac_rfl;rename_i a r k f g;refine v f g λu t=> ?_;ac_rfl;exact B _ ⟨xs ++ [a-u],by simp[l],λx hx=>by
   rcases AAO.mp hx with hx|hx
   .exact c x hx
   .rw [AAa.mp hx];exact(r.sub t).mono (by decide),by rw[AAU];rfl⟩
def IV (a b:C4)(r:zy C4):F4 (a::b::r)=(a,b)::F4 (b::r):=rfl
theorem OY:∀{cs:zy C4} {l:C4},Hr cs->cs.getLast?=some l->∀c∈cs,c.1<=l.1
 | [],_,_,e,_,_=>by cases e
 | [a],l,_,e,c,hc=>by cases e;rw[AAa.mp hc];exact ACx
 | a::b::r,l,h,e,c,hc=>by
   rw[ABs] at e;have h':=AAK.mp h;have ih:=OY h'.2 e;rcases AAF.mp hc with rfl|hc
   .have:=h'.1 b (by simp);have:=ih b (by simp);grind
   .exact ih c hc
def cB {lo hi:T3}{m:Rat}:∀(r:zy C4) (a b l:C4),Hr (a::b::r)->a.1<=m->(a::b::r).getLast?=some l->((∃t,spotG a (b::r) m=some t/\cQ lo hi t)/\m<l.1↔∃p∈F4 (a::b::r),IN lo hi p m):=by
 intro r;induction r with
 | nil=>
   intro a b l h ha e;cases e;have g:=(AAK.mp h).1 b (by simp);simp only[IV,show F4 [b] = [] from rfl,AAa,exists_eq_left,spotG];unfold IN;constructor
   .rintro ⟨⟨t,e,k⟩,d⟩;rw[AAC (by grind)] at e;cases e;exact⟨ha,d,k⟩
   .rintro ⟨_,d,k⟩;rw[AAC (by grind)];exact⟨⟨_,rfl,k⟩,d⟩
 | cons c r ih=>
   intro a b l h ha e;have h':=AAK.mp h;have g:=h'.1 b (by simp);have i:=(AAK.mp h'.2).1 c (by simp);have u:=OY h e b (by simp);have cl:=OY h e c (by simp);rw[ABs] at e;rw[IV];have f:m<b.1->∀p∈F4 (b::c::r),¬IN lo hi p m:=λd p hp k=>by
    have q:=(E7 h'.2 hp).1;have:b.1<=p.1.1:=by
     rcases AAF.mp q with z|z
     .rw [z];exact ACx
     .have:=(AAK.mp h'.2).1 _ z;grind
    have:=k.1;grind
   by_cases j:b.1<m
   .rw [show spotG a (b::c::r) m=spotG b (c::r) m by rw[spotG,AAE j],ih b c l h'.2 (by grind) e];constructor
    .rintro ⟨p,hp,k⟩;exact⟨p,by simp[hp],k⟩
    .rintro ⟨p,hp,k⟩;rcases AAF.mp hp with rfl|hp
     .exact absurd k.2.1 (by show ¬m<b.1;grind)
     .exact ⟨p,hp,k⟩
   .rw [show spotG a (b::c::r) m=some (inter a b m) by rw[spotG,AAC j]];by_cases n:m<b.1
    .constructor
     .rintro ⟨⟨t,e,k⟩,_⟩;cases e;exact⟨(a,b),by simp,ha,n,k⟩
     .rintro ⟨p,hp,k⟩;rcases AAF.mp hp with rfl|hp
      .exact ⟨⟨_,rfl,k.2.2⟩,by grind⟩
      .exact absurd k (f n p hp)
    .have d:m=b.1:=by grind
     subst d;have s:inter a b b.1=b.2:=HH g;have o:inter b c b.1=b.2:=Jd i;rw[s];constructor
     .rintro ⟨⟨t,e,k⟩,_⟩;cases e;exact⟨(b,c),by rw[IV];simp,ACx,i,by rw[o];exact k⟩
     .rintro ⟨p,hp,k⟩;rcases AAF.mp hp with rfl|hp
      .exact absurd k.2.1 (by show ¬b.1<b.1;grind)
      .rw [IV] at hp;rcases AAF.mp hp with rfl|hp
       .refine ⟨⟨_,rfl, ?_⟩,by grind⟩;have:=k.2.2;rw[o] at this;exact this
       .exfalso;have q:=(E7 (AAK.mp h'.2).2 hp).1;have:=(AAK.mp h'.2).1 _ q;have:=k.1;grind
def Vx {cs:zy C4}{lo hi:T3}{m:Rat}{B M:Nat}(hc:∀c∈cs,Ej B c)(d:Hr cs)(h2:2<=cs.length)(hl:cs.length<=1000)(g:Dz 100 lo)(i:Dz 100 hi)(bm:Bd M m)(G:M+6*B+10<=3900){Q:PV->Prop}(q:∀b:zq,(b=true↔∃p∈F4 cs,IN lo hi p m)->Q (.bl b)):BA [Bx cs,FO lo,FO hi,fr m] Q:=by
 obtain⟨a,b,r,rfl⟩:∃a b r,cs=a::b::r:=by
  match cs,h2 with
  | a::b::r,_=>exact⟨a,b,r,rfl⟩
 obtain⟨l,n⟩:∃l,(a::b::r).getLast?=some l:=⟨_,ABr (by simp)⟩;have s:l∈a::b::r:=ABt n;have u:=(hc l s).m;have sp:=cB (lo:=lo) (hi:=hi) (m:=m) r a b l d;have o:=Dz.spotC bm d hc;have v:=g.x;have w:=g.y;have A:=g.z;have C:=i.x;have D:=i.y;have E:=i.z;have key:(∃p∈F4 (a::b::r),IN lo hi p m)↔(∃t,spotC (a::b::r) m=some t/\cQ lo hi t)/\m<l.1:=by
  by_cases h:m<a.1
  .rw [Jm h];constructor
   .rintro ⟨p,hp,k⟩;exfalso;have q:=(E7 d hp).1;have:a.1<=p.1.1:=by
     rcases AAF.mp q with z|z
     .rw [z];exact ACx
     .have:=(AAK.mp d).1 _ z;grind
    have:=k.1;grind
   .rintro ⟨⟨t,e,_⟩,_⟩;cases e
  .rw [show spotC (a::b::r) m=spotG a (b::r) m by rw[spotC,AAC h],sp (by grind) n]
 rw[key] at q;apply HQ;ac_rfl
 .rename_i h;exact q false ⟨λz=>(by cases z),λz=>absurd z.2 h⟩
 rename_i F;refine LS hc d (by simp) hl bm (by omega) ?_;cases hs:spotC (a::b::r) m with
 | none=> rw[show VD none=PV.non from rfl];ac_rfl;exact q false ⟨λz=>(by cases z),λz=>by obtain⟨⟨t,e,_⟩,_⟩:=z;rw[hs] at e;cases e⟩
 | some t=>
   have j:=o t hs;have H:=j.x;have I:=j.y;have J:=j.z;rw[show VD (some t)=FO t from rfl];have f:=λb (h:b=true↔cQ lo hi t)=>q b (by rw[h,hs];exact⟨λz=>⟨⟨t,rfl,z⟩,F⟩,λz=>by obtain⟨⟨t',e,k⟩,_⟩:=z;cases e;exact k⟩);clear q key sp o;unfold cQ at f;ac_rfl;show C6 _ _ _ _ _ [.int 0, .int 1, .int 2] [];repeat' array_get_dec
   all_goals (refine f _ ?_;simp_all)
def Fd (k:Int)(c:C4):Rat:=if k % 3=0 then c.2.1 else if k % 3=1 then c.2.2.1 else c.2.2.2
def E6 (lo hi:T3):zy (Int×Rat):= [(0,lo.1),(1,lo.2.1),(2,lo.2.2),(3,hi.1),(4,hi.2.1),(5,hi.2.2)]
def ly (p:Int×Rat):PV:= .tup [.int p.1,fr p.2]
def ZV (cs:zy C4):Gk (cs.map cor) (List.map cor (List.drop (Int.toNat 1) cs))=(F4 cs).map λp=> .tup [cor p.1,cor p.2] :=by rw[show Int.toNat 1=1 from rfl,List.drop_one];unfold Gk F4;rw[List.zipWith_map,List.zip,List.map_zipWith]
def dH (p:C4×C4)(u:Int×Rat)(m:Rat):Prop:=p.1.1<m/\m<p.2.1/\Fd u.1 p.1≠Fd u.1 p.2/\Fd u.1 p.1+(m-p.1.1)/(p.2.1-p.1.1)*(Fd u.1 p.2-Fd u.1 p.1)=u.2
structure dM (W:Nat) (cs:List C4) (us:List (C4×C4)) (lo hi:T3) (ms:List Rat):Prop where
 bd:∀m∈ms,Bd W m
 crn:∀c∈cs,c.1∈ms
 ed:∀p∈us,∀u∈E6 lo hi,∀m,dH p u m->m∈ms
 len:ms.length<=cs.length+6*us.length
structure Rz (W:Nat) (cs:List C4) (us:List (C4×C4)) (lo hi:T3) (p:C4×C4) (ws:List (Int×Rat)) (ms:List Rat):Prop where
 bd:∀m∈ms,Bd W m
 crn:∀c∈cs,c.1∈ms
 ed:∀p∈us,∀u∈E6 lo hi,∀m,dH p u m->m∈ms
 ed2:∀u∈ws,∀m,dH p u m->m∈ms
 len:ms.length<=cs.length+6*us.length+ws.length
def Rz.more {W:Nat}{cs:zy C4}{us:zy (C4×C4)}{lo hi:T3}{p:C4×C4}{b:zy (Int×Rat)}{ms:zy Rat}{u:Int×Rat}(h:Rz W cs us lo hi p b ms){x:Rat}(d:Bd W x)(k:∀m,dH p u m->m=x):Rz W cs us lo hi p (b ++ [u]) (ms ++ [x]):=by
 refine⟨λm a=> ?_,λc hc=>by simp[h.crn c hc],λq hq v hv m a=>by simp[h.ed q hq v hv m a],λv hv m a=> ?_,by have:=h.len;simp;omega⟩
 .rcases AAO.mp a with a|a
  .exact h.bd m a
  .rw [AAa.mp a];exact d
 .rcases AAO.mp hv with hv|hv
  .simp [h.ed2 v hv m a]
  .rw [AAa.mp hv] at a;simp[k m a]
def Rz.less {W:Nat}{cs:zy C4}{us:zy (C4×C4)}{lo hi:T3}{p:C4×C4}{b:zy (Int×Rat)}{ms:zy Rat}{u:Int×Rat}(h:Rz W cs us lo hi p b ms)(k:∀m,¬dH p u m):Rz W cs us lo hi p (b ++ [u]) ms:=by
 refine⟨h.bd,h.crn,h.ed,λv hv m a=> ?_,by have:=h.len;simp;omega⟩;rcases AAO.mp hv with hv|hv
 .exact h.ed2 v hv m a
 .rw [AAa.mp hv] at a;exact absurd a (k m)
def dj {p:C4×C4}{u:Int×Rat}{m:Rat}(h:dH p u m):(m-p.1.1)/(p.2.1-p.1.1)=(u.2-Fd u.1 p.1)/(Fd u.1 p.2-Fd u.1 p.1)/\0<(m-p.1.1)/(p.2.1-p.1.1)/\(m-p.1.1)/(p.2.1-p.1.1)<1/\m=p.1.1+(m-p.1.1)/(p.2.1-p.1.1)*(p.2.1-p.1.1):=by
 obtain⟨h1,h2,c,a⟩:=h;have d:(0:Rat)<p.2.1-p.1.1:=by grind
 have d':p.2.1-p.1.1≠0:=by grind
 have w:Fd u.1 p.2-Fd u.1 p.1≠0:=by grind
 have b:(m-p.1.1)/(p.2.1-p.1.1)*(p.2.1-p.1.1)=m-p.1.1:=Rat.div_mul_cancel d';refine⟨?_, ?_, ?_,by rw[b];grind⟩
 .rw [<-a,show Fd u.1 p.1+(m-p.1.1)/(p.2.1-p.1.1)*(Fd u.1 p.2-Fd u.1 p.1)-Fd u.1 p.1=(m-p.1.1)/(p.2.1-p.1.1)*(Fd u.1 p.2-Fd u.1 p.1) by grind,Rat.mul_div_cancel w]
 .rw [Rat.lt_div_iff d];grind
 .rw [Rat.div_lt_iff d];grind
def iI {lo hi:T3}{u:Int×Rat}{B:Nat}(a:Dz 100 lo)(b:Dz 100 hi)(hu:u∈E6 lo hi):(∀(d:C4) {R:PV->Prop},R (fr (Fd u.1 d))->Ai (cor d) (.int (u.1.fmod 3+1)) R)/\Bd 100 u.2/\∀d,Ej B d->Bd B (Fd u.1 d):=by
 unfold E6 at hu;simp only[AAF,AAg,AAd] at hu;rcases hu with rfl|rfl|rfl|rfl|rfl|rfl
 .exact ⟨λd R h=>(show R (fr d.2.1) from h),a.x,λd h=>h.x⟩
 .exact ⟨λd R h=>(show R (fr d.2.2.1) from h),a.y,λd h=>h.y⟩
 .exact ⟨λd R h=>(show R (fr d.2.2.2) from h),a.z,λd h=>h.z⟩
 .exact ⟨λd R h=>(show R (fr d.2.1) from h),b.x,λd h=>h.x⟩
 .exact ⟨λd R h=>(show R (fr d.2.2.1) from h),b.y,λd h=>h.y⟩
 .exact ⟨λd R h=>(show R (fr d.2.2.2) from h),b.z,λd h=>h.z⟩
def S6 {cs:zy C4}{lo hi:T3}{B:Nat}(hc:∀c∈cs,Ej B c)(J:Hr cs)(h2:2<=cs.length)(hl:cs.length<=100)(K:Dz 100 lo)(L:Dz 100 hi)(T:B<=140){Q:PV->Prop}(q:∀ms,dM (6*B+105) cs (F4 cs) lo hi ms->Q (.lst ((BQ ms).map fr))):Br [Bx cs,FO lo,FO hi] Q:=by
 have U:(F4 cs).length=cs.length-1:=by unfold F4;simp
 apply HS;ac_rfl;refine EM cor fr (λc=>c.1) (λ_=>True) (λc _ R s=> ?_) cs [] (λ_ _=>True.intro) ?_
 .ac_rfl;exact s
 rw[ABO];ac_rfl;rw[ZV];refine C8 (λp:C4×C4=> .tup [cor p.1,cor p.2]) (λus vs τ=>∃ms v y A d f g a,dM (6*B+105) cs us lo hi ms/\τ= [some (.val (Bx cs)),some (.val (FO lo)),some (.val (FO hi)),some (.own (ms.map fr)),v,y,A,d,f,g,a]) ?_ ?_ ⟨cs.map λc=>c.1,_,_,_,_,_,_,_,⟨λm i=> ?_,λc hc=>List.mem_map_of_mem hc,by simp,by simp⟩,rfl⟩
 .rintro τ ⟨ms,v,y,A,d,f,g,a,h,rfl⟩;have:=h.len;ac_rfl;exact WN (B:=6*B+105) (by omega) h.bd (by omega) (q ms h)
 .rintro us p vs e τ R s ⟨ms,v,y,A,d,f,g,a,h,rfl⟩;obtain⟨m1,m2,m3⟩:=E7 J (p:=p) (by rw[<-e];simp);have ul:us.length<=100:=by have:=congrArg List.length e;simp at this;omega
  obtain⟨b,c⟩:=p;have G:=(hc b m1).m;have M:=(hc c m2).m;ac_rfl;show Bb (.tup [fr lo.1,fr lo.2.1,fr lo.2.2]) (.tup [fr hi.1,fr hi.2.1,fr hi.2.2]) _;ac_rfl;show Ci _ _ _ ((E6 lo hi).map ly) _;refine C8 ly (λC vs τ=>∃ms d f g a,Rz (6*B+105) cs us lo hi (b,c) C ms/\τ= [some (.val (Bx cs)),some (.val (FO lo)),some (.val (FO hi)),some (.own (ms.map fr)),some (.val (cor b)),some (.val (cor c)),some (.val (fr (c.1-b.1))),d,f,g,a]) ?_ ?_ ⟨ms,_,_,_,_,⟨h.bd,h.crn,h.ed,by simp,h.len⟩,rfl⟩
  .rintro τ ⟨ms,d,f,g,a,k,rfl⟩;refine s _ ⟨ms,_,_,_,_,_,_,_,⟨k.bd,k.crn,λx hx u hu m i=> ?_,by have:=k.len;simp[E6] at this ⊢;omega⟩,rfl⟩;rcases AAO.mp hx with hx|hx
   .exact k.ed x hx u hu m i
   .rw [AAa.mp hx] at i;exact k.ed2 u hu m i
  .rintro C u N H τ R2 D ⟨ms,d,f,g,a,k,rfl⟩;have W:C.length<=6:=by have:=congrArg List.length H;simp[E6] at this;omega
   have hu:u∈E6 lo hi:=by rw[<-H];simp
   have X:=k.len;obtain⟨E,I,r⟩:=iI (B:=B) K L hu;have t:=r b (hc b m1);have sc:=r c (hc c m2);have j:=λm=> @dj (b,c) u m;have new:∀d f g a,R2 [some (.val (Bx cs)),some (.val (FO lo)),some (.val (FO hi)),some (.own (ms.map fr ++ [fr (b.1+(u.2-Fd u.1 b)/(Fd u.1 c-Fd u.1 b)*(c.1-b.1))])),some (.val (cor b)),some (.val (cor c)),some (.val (fr (c.1-b.1))),d,f,g,a] \/Fd u.1 c-Fd u.1 b=0:=λd f g a=>by
    by_cases w:Fd u.1 c-Fd u.1 b=0
    .exact .inr w
    .refine .inl (D _ ⟨ms ++ [b.1+(u.2-Fd u.1 b)/(Fd u.1 c-Fd u.1 b)*(c.1-b.1)],d,f,g,a,k.more ((G.add ((Bd.div w (I.sub t) (sc.sub t)).mul (M.sub G))).mono (by omega)) λm i=> ?_,by rw[AAU];rfl⟩);have z:=j m i;have o:=z.1;have l:=z.2.2.2;dsimp only at o l;rw[o] at l;exact l
   have n:∀d f g a,(∀m,¬dH (b,c) u m)->R2 [some (.val (Bx cs)),some (.val (FO lo)),some (.val (FO hi)),some (.own (ms.map fr)),some (.val (cor b)),some (.val (cor c)),some (.val (fr (c.1-b.1))),d,f,g,a] :=λd f g a O=>D _ ⟨ms,d,f,g,a,k.less O,rfl⟩;clear D s;unfold ly;ac_rfl;refine E c ?_;ac_rfl;refine E b ?_;ac_rfl
   .rename_i w;have w:Fd u.1 c-Fd u.1 b≠0:=λz=>w (by rw[z];rfl);have new:=λd f g a=>(new d f g a).resolve_right w;have P:=I.sub t;have b2:=sc.sub t;have Y:=Bd.div w P b2;refine E b ?_;ac_rfl
    .exact new _ _ _ _
    .rename_i h1 h2;refine n _ _ _ _ λm i=> ?_;obtain⟨o,l,F,_⟩:=j m i;rw[o] at F;exact h2 F
    .rename_i h1;refine n _ _ _ _ λm i=> ?_;obtain⟨o,l,F,_⟩:=j m i;rw[o] at l;exact h1 l
   .rename_i w;refine n _ _ _ _ λm i=> ?_;have:=i.2.2.1;have w:Fd u.1 c-Fd u.1 b=0:=Rat.num_eq_zero.mp w;dsimp only at this;grind
 .obtain ⟨c,S,rfl⟩:=AAc.mp i;exact(hc c S).m.mono (by omega)
def cn {cs:zy C4}{W:Nat}{lo hi:T3}{ms:zy Rat}(c:Hr cs)(h:dM W cs (F4 cs) lo hi ms){p:C4×C4}(hp:p∈F4 cs){m:Rat}(k:h9 lo hi p m):m∈ms:=by
 obtain⟨m1,m2,m3⟩:=E7 c hp;rcases k with rfl|rfl|⟨h1,h2,k⟩
 .exact h.crn _ m1
 .exact h.crn _ m2
 .have go:∀u∈E6 lo hi,Fd u.1 p.1≠Fd u.1 p.2->Fd u.1 p.1+(m-p.1.1)/(p.2.1-p.1.1)*(Fd u.1 p.2-Fd u.1 p.1)=u.2->m∈ms:=λu hu a b=>h.ed p hp u hu m ⟨h1,h2,a,b⟩;rcases k with⟨n,k|k⟩|⟨n,k|k⟩|⟨n,k|k⟩
  .exact go (0,lo.1) (by simp[E6]) n k
  .exact go (3,hi.1) (by simp[E6]) n k
  .exact go (1,lo.2.1) (by simp[E6]) n k
  .exact go (4,hi.2.1) (by simp[E6]) n k
  .exact go (2,lo.2.2) (by simp[E6]) n k
  .exact go (5,hi.2.2) (by simp[E6]) n k
def sv (p:Int×Int):Rat:=(p.1:Rat)/(p.2:Rat)
structure Sz (p:Int×Int):Prop where
 pos:0<p.2
 t:p.1.natAbs<2^8850
 n:p.2.natAbs<2^8850
def lv (l:Int×Int)(s:Rat):Rat:=(l.1:Rat)+s*((l.2:Rat)-(l.1:Rat))
structure NI (N:Nat) (S:Nat) (us:List (Int×Int)) (lo hi:Int×Int) (h:Int):Prop where
 l:Sz lo
 r:Sz hi
 bl:Bd S (sv lo)
 br:Bd S (sv hi)
 SZ:h=0\/h=1
 lo0:0<=sv lo
 uL:sv hi<=1
 sem:∀s,0<=s->s<1->((∀l∈us,lv l s<N)↔(sv lo<s\/(sv lo=s/\h=1))/\s<sv hi)
structure rC (N W:Nat) (l:Int×Int):Prop where
 a:l.1.natAbs<2^8848
 b:l.2.natAbs<2^8848
 n:N<2^8848
 n0:0<N
 ex:∃u v:Rat,Bd W u/\Bd W v/\(l.1:Rat)=u*N/\(l.2:Rat)=v*N
def i5 (N:Nat)(a:zy (Int×Int))(b e m:Rat):Prop:=b<=m/\m<e/\∀l∈a,lv l ((m-b)/(e-b))<N
structure oA (N:Nat) (lns:List (Int×Int)) (b e:Rat) (B:Nat) (ss:List A8):Prop where
 few:ss.length<=1
 ok:∀s∈ss,Bl B s
 fin:∀s∈ss,∃x,s.2.2=some x
 sem:∀m,ss.any (Av · (m,0))=true↔i5 N lns b e m
def ao {p q a b:T3}{d:Rat×Rat}{s:Rat}:X8 (lin p q s) (lin a b s) d=lin (X8 p a d) (X8 q b d) s:=by
 unfold X8 lin;simp only[AB7];congr 1
 .grind
 .congr 1 <;> grind
def ZW {c:zy Rat}(h:Pn c):∀p∈c.zip c.tail,p.1∈c/\p.2∈c/\p.1<p.2/\∀x∈c,¬(p.1<x/\x<p.2):=by
 induction c with
 | nil=>intro p hp;simp at hp
 | cons a r ih=>
   cases r with
   | nil=>intro p hp;simp at hp
   | cons b r=>
     have h1:=AAK.mp h;intro p hp;simp only[List.tail_cons,List.zip_cons_cons,AAF] at hp;rcases hp with rfl|hp
     .refine ⟨by simp,by simp,h1.1 b (by simp),λx hx z=> ?_⟩;rcases AAF.mp hx with rfl|hx
      .grind
      .rcases AAF.mp hx with rfl|hx
       .grind
       .have:=(AAK.mp h1.2).1 x hx;grind
     .obtain ⟨d,e,f,g⟩:=ih h1.2 p hp;refine⟨by simp[d],by simp[e],f,λx hx z=> ?_⟩;rcases AAF.mp hx with rfl|hx
      .have:=h1.1 p.1 d;grind
      .exact g x hx z
section
variable {cs ds:zy C4}{d:Rat×Rat}{M W:Nat}
structure kg (cs ds:List C4) (d:Rat×Rat) (M W:Nat) (p:Pc):Prop where
 lt:p.b<p.e
 w0:Dz W p.o0
 w1:Dz W p.o1
 bb:Bd M p.b
 be:Bd M p.e
 lo:Lb cs ds<=p.b
 hi:p.e<=Lh cs ds
 at0:p.o0=Wk cs ds d p.b
 oF:p.o1=Wk cs ds d p.e
 lin:∀m,p.b<=m->m<=p.e->Wk cs ds d m=lin p.o0 p.o1 ((m-p.b)/(p.e-p.b))
theorem Rc.pc (D:Rc cs ds d M W):∀p∈mI cs ds d,kg cs ds d M W p:=by
 intro p hp;unfold mI at hp;by_cases h:Lb cs ds<Lh cs ds
 .rw [AAE h] at hp;have e:=D.tog h;have j:∀x∈jn cs ds,Lb cs ds<=x/\x<=Lh cs ds:=λx hx=>ZO h hx;have k:∀x∈jn cs ds,Bd M x:=λx hx=>ZN D.m1 D.m2 D.begB D.endB hx;have l:∀x∈jn cs ds,Dz W (Wk cs ds d x):=D.w h;unfold jC at hp;obtain⟨q,hq,rfl⟩:=AAc.mp hp;obtain⟨f,g,i,t⟩:=ZW WZ q hq;have a:=j _ f;have b:=j _ g;refine⟨i,l _ f,l _ g,k _ f,k _ g,a.1,b.2,rfl,rfl,λm m1 m2=> ?_⟩;have m1:q.1<=m:=m1;have m2:m<=q.2:=m2;have n:∀c,c∈cs\/c∈ds->¬(q.1<c.1/\c.1<q.2):=λc hc z=>by refine t c.1 (JS.mpr (.inr (.inr ⟨by grind,by grind,c,hc,rfl⟩))) z
  obtain⟨y,o⟩:=e.one q.1 a.1 a.2;obtain⟨A,r⟩:=e.one q.2 b.1 b.2;obtain⟨B,f1⟩:=e.other q.1 a.1 a.2;obtain⟨C,s⟩:=e.other q.2 b.1 b.2;have u:=Nx D.r1 i m1 m2 (λc hc=>n c (.inl hc)) o r;have v:=Nx D.r2 i m1 m2 (λc hc=>n c (.inr hc)) f1 s;show Wk cs ds d m=PL.lin (Wk cs ds d q.1) (Wk cs ds d q.2) ((m-q.1)/(q.2-q.1));unfold Wk;rw[u,v,o,r,f1,s];exact ao
 .rw [AAC h] at hp;cases hp
def Od (cs ds:zy C4)(d:Rat×Rat)(m:Rat):Prop:=Lb cs ds<=m/\m<Lh cs ds/\lE (Wk cs ds d m)<1
instance {m:Rat}:Decidable (Od cs ds d m):=by unfold Od;infer_instance
structure cR (cs ds:List C4) (d:Rat×Rat) (B:Nat) (ss:List A8):Prop where
 few:ss.length<=201
 ok:∀s∈ss,Bl B s
 fin:∀s∈ss,∃x,s.2.2=some x
 sem:∀m,ss.any (Av · (m,0))=true↔Od cs ds d m
 pf:ss.length<=(mI cs ds d).length
end
def aH {ss:zy A8}(a:∀s∈ss,∃x,s.2.2=some x)(k:Rat):∃m,k<m/\ss.any (Av · (m,0))=false:=by
 induction ss with
 | nil=>exact⟨k+1,by grind,rfl⟩
 | cons s ss ih=>
   obtain⟨x,hx⟩:=a s (by simp);have c:∀(b:zy A8),(∀s∈b,∃x,s.2.2=some x)->∃n:Rat,k<n/\∀s∈b,∀x,s.2.2=some x->x<n:=by
    intro b;induction b with
    | nil=>intro _;exact⟨k+1,by grind,by simp⟩
    | cons t b d=>
      intro e;obtain⟨n,h1,h2⟩:=d λs hs=>e s (by simp[hs]);obtain⟨y,hy⟩:=e t (by simp);by_cases z:y<n
      .refine ⟨n,h1,λs hs x hx=> ?_⟩;rcases AAF.mp hs with rfl|hs
       .rw [hy] at hx;cases hx;exact z
       .exact h2 s hs x hx
      .refine ⟨y+1,by grind,λs hs x hx=> ?_⟩;rcases AAF.mp hs with rfl|hs
       .rw [hy] at hx;cases hx;grind
       .have:=h2 s hs x hx;grind
   obtain⟨n,h1,h2⟩:=c (s::ss) a;refine⟨n,h1, ?_⟩;rw[ACS];intro t f z;obtain⟨y,hy⟩:=a t f;have:=h2 t f y hy;unfold Av at z;rw[hy] at z;simp at z;grind
def Na {B:Nat}{ss:zy A8}(ok:∀s∈ss,Bl B s)(a:∀s∈ss,∃x,s.2.2=some x):∀r∈canon 1 ss,∃x,r.2.2=some x:=by
 intro r b;cases e:r.2.2 with
 | some x=>exact⟨x,rfl⟩
 | none=> exfalso;obtain⟨m,h1,h2⟩:=aH a r.1;rw[<-QI ok (p:=(m,0)) (.inl rfl)] at h2;rw[ACS] at h2;refine h2 r b ?_;unfold Av;rw[e];simp;exact .inl h1
structure Told (P:Rat->Prop) (B:Nat) (cc:List A8):Prop where
 ok:∀s∈cc,Bl B s
 fin:∀s∈cc,∃x,s.2.2=some x
 few:cc.length<=2000
 sem:∀m,cc.any (Av · (m,0))=true↔P m
def cR.told {cs a:zy C4}{d:Rat×Rat}{B:Nat}{ss:zy A8}(n:cR cs a d B ss):Told (Od cs a d) B (canon 1 ss):=
 ⟨QJ n.ok,Na n.ok n.fin,by have:=Le (n:=1) (ss:=ss);have:=n.few;omega,λm=>by rw[QI n.ok (p:=(m,0)) (.inl rfl)];exact n.sem m⟩
def YV {a b:Rat}{W:Nat}{s:Int}(c:Bd W a)(d:Bd W b)(hs:s=0\/s=1):∃p,Wz (3*W+1) (a,b,s) p:=by
 obtain⟨h1,h2,e⟩:=PR (W:=W) 2 [a,b] rfl (by simp;exact⟨c,d⟩);have f:(0:Rat)<((JN [a,b] :Nat):Rat):=by exact_mod_cast h1
 exact⟨⟨NJ (JN [a,b]) a,NJ (JN [a,b]) b,s, []⟩,⟨Au (PK c e) (by omega),Au (PK d e) (by omega),by simp,by simp,hs⟩,rfl,_,f,PM (h2 a (by simp)),PM (h2 b (by simp))⟩
def WJ {b e:C4}{lo hi:T3}{B:Nat}(hb:Ej B b)(he:Ej B e)(h:b.1<e.1)(r:Dz 201 lo)(s:Dz 201 hi):∃a,LX (3*(6*B+205)+1) (OL b e lo hi) a:=by
 obtain⟨c,d⟩:=FH hb.m he.m hb.x he.x h;obtain⟨i,j⟩:=FH hb.m he.m hb.y he.y h;obtain⟨l,n⟩:=FH hb.m he.m hb.z he.z h;have all:∀o:zy Fm,(∀f∈o,Bd (6*B+205) f.1/\Bd (6*B+205) f.2.1/\(f.2.2=0\/f.2.2=1))->∃a,LX (3*(6*B+205)+1) o a:=by
  intro o;induction o with
  | nil=>intro _;exact⟨[], .nil⟩
  | cons f o ih=> intro k;obtain⟨u,v,w⟩:=k f (by simp);obtain⟨p,hp⟩:=YV u v w;obtain⟨a,A⟩:=ih λg C=>k g (by simp[C]);exact⟨p::a, .cons hp A⟩
 refine all _ λf t=> ?_;unfold OL at t;simp only[AAF,AAg,AAd] at t;rcases t with rfl|rfl|rfl|rfl|rfl|rfl|rfl|rfl
 .exact ⟨hb.m.neg.mono (by omega),iG.mono (by omega), .inl rfl⟩
 .exact ⟨he.m.mono (by omega),iG.neg.mono (by omega), .inr rfl⟩
 .exact ⟨(d.sub r.x).mono (by omega),c.mono (by omega), .inr rfl⟩
 .exact ⟨(s.x.sub d).mono (by omega),c.neg.mono (by omega), .inr rfl⟩
 .exact ⟨(j.sub r.y).mono (by omega),i.mono (by omega), .inr rfl⟩
 .exact ⟨(s.y.sub j).mono (by omega),i.neg.mono (by omega), .inr rfl⟩
 .exact ⟨(n.sub r.z).mono (by omega),l.mono (by omega), .inr rfl⟩
 .exact ⟨(s.z.sub n).mono (by omega),l.neg.mono (by omega), .inr rfl⟩
def cE {N:Nat}{b e:C4}{lo hi:T3}{a:zy C0}(hp:LX N (OL b e lo hi) a):(∃s,OF N lo hi (b,e) s)\/∀t,¬IN lo hi (b,e) t:=by
 obtain⟨u,v,G⟩:=hp.mem;have d:∀p∈a,p.s=0\/p.s=1:=λp hp=>by obtain⟨f,_,r⟩:=u p hp;exact r.ok.s
 by_cases g:∀p∈a,p.c1=0->HL p=false
 .have B:=Bg (.inl rfl) a.length a rfl d;have w:=Bg (.inr rfl) a.length a rfl d;obtain⟨l,x⟩:∃l,tight 1 a=some l:=by
   cases z:tight 1 a with
   | some l=>exact⟨l,rfl⟩
   | none=> obtain⟨i,j,k⟩:=v (-b.1,1,0) (by simp[OL]);exact absurd (by have:=k.sign.1.mpr (by show (0:Rat)<1;decide);omega) (B.no z i j)
  obtain⟨h,m⟩:∃h,tight (-1) a=some h:=by
   cases z:tight (-1) a with
   | some l=>exact⟨l,rfl⟩
   | none=> obtain⟨i,j,k⟩:=v (e.1, -1,1) (by simp[OL]);exact absurd (by have:=k.sign.2.mpr (by show (-1:Rat)<0;decide);omega) (w.no z i j)
  have y:=w.so h m;have A:h.s=1:=by
   obtain⟨f,n,r⟩:=u h y.1;have:=r.sign.2.mp (by have:=y.2.1;omega);rw[r.s];unfold OL at n;simp only[AAF,AAg,AAd] at n;rcases n with rfl|rfl|rfl|rfl|rfl|rfl|rfl|rfl
   .exact absurd this (by show ¬(1:Rat)<0;decide)
   all_goals rfl
  by_cases C:DD l<DD h
  .exact .inl ⟨_,RV hp x m C A g⟩
  .refine .inr λt o=> ?_;have:=(UK d x m A g t).mp ((Ow hp t).mpr o);grind
 .refine .inr λt o=>g λp D c0=> ?_;have c:=(Ow hp t).mpr o p D;unfold holds RG at c;rw[c0] at c;have:¬((p.c0:Int)<0\/(p.c0=0/\p.s=1)):=by
   rintro(z|⟨E,H⟩)
   .have z:(p.c0:Rat)<0:=by exact_mod_cast z
    have F:((0:Int):Rat)=0:=rfl;grind
   .rw [E] at c;have F:((0:Int):Rat)=0:=rfl;rcases c with c|⟨_,c⟩
    .grind
    .omega
  unfold HL;exact AAY this
def Y7 {cs:zy C4}{lo hi:T3}{B:Nat}(hc:∀c∈cs,Ej B c)(b:Hr cs)(d:Dz 201 lo)(e:Dz 201 hi):∃ss,Cg (3*(6*B+205)+1) lo hi (F4 cs) ss:=by
 have all:∀(n:Nat) (us:zy (C4×C4)),us.length=n->(∀p∈us,p∈F4 cs)->∃ss,Cg (3*(6*B+205)+1) lo hi us ss:=by
  intro n;induction n with
  | zero=> intro us h _;have:us= [] :=ADZ.mp h;subst this;exact⟨[],by simp,by simp,by simp⟩
  | succ n ih=>
    intro us h k;obtain⟨vs,p,rfl⟩:∃vs t,us=vs ++ [t] :=by
     have a:us≠ [] :=λz=>by rw[z] at h;simp at h
     exact⟨us.dropLast,us.getLast a,(ACu a).symm⟩
    obtain⟨ss,hs⟩:=ih vs (by simpa using h) λq hq=>k q (by simp[hq]);obtain⟨m1,m2,m3⟩:=E7 b (k p (by simp));obtain⟨f,hp⟩:=WJ (hc _ m1) (hc _ m2) m3 d e;rcases cE hp with⟨s,h⟩|h
    .exact ⟨_,hs.more h⟩
    .exact ⟨_,hs.less h⟩
 exact all _ _ rfl λ_ h=>h
def Cg.sem {N:Nat}{lo hi:T3}{us:zy (C4×C4)}{ss:zy A8}(h:Cg N lo hi us ss)(m:Rat):ss.any (Av · (m,0))=true↔∃p∈us,IN lo hi p m:=by
 rw[ABu];constructor
 .rintro ⟨s,hs,k⟩;obtain⟨p,hp,o⟩:=h.ok s hs;exact⟨p,hp,(o.sem m).mp k⟩
 .rintro ⟨p,hp,k⟩;exact h.all p hp m k
def gA {qs:zy Rat}{In:Pl->zq}(mono:∀x∈qs,In (x,0)=true->In (x,1)=true)(c:∀us x d vs,us++x::d::vs=qs->In ((x+d)*(1/2:Rat),0)=In (x,1))(last:∀us x,us ++ [x] =qs->In (x,0)=false/\In (x,1)=false)(hl:qs.length<=1000){Q:PV->Prop}(q:Q (.tup ((DZ ((places qs).map λp=>(p,In p))).map CS))):BV [.lst (qs.map fr), .lst (qs.map λm=> .bl (In (m,0))), .lst ((KB qs).map λm=> .bl (In (m,0)))] Q:=by
 have ep:((places qs).map λp=>(p,In p))=(qs.map λx=>((x,In (x,0),In (x,1)):Tr)).flatMap gO:=by unfold places;rw[List.map_flatMap,List.flatMap_map];rfl
 rw[ep] at q;have key:=Yq (T:=qs.map λx=>((x,In (x,0),In (x,1)):Tr)) (gs:=(KB qs).map λm=>In (m,0)) ?_ ?_ (by rw[AAJ];omega) ?_ q
 .rw [AAo,AAo,AAo] at key;exact key
 .by_cases a:qs= []
  .exact .inl (by rw[a];rfl)
  .refine .inr ?_;rw[AAo];exact Qr (f:=λm=>In (m,0)) (g:=λx=>In (x,1)) qs a c λus x e=>(last us x e).2
 .intro t i h;obtain⟨x,hx,rfl⟩:=AAc.mp i;exact mono x hx h
 .by_cases a:qs= []
  .rw [a];rfl
  .obtain ⟨us,x,rfl⟩:∃us x,qs=us ++ [x] :=⟨qs.dropLast,qs.getLast a,(ACu a).symm⟩;obtain⟨f0,f1⟩:=last us x rfl;rw[AAU,AAL,ABi,Ll,f0,f1];generalize EA _=st;obtain⟨A,b⟩:=st;cases b <;> rfl
def aI {s:A8}{B:Nat}(o:Bl B s){x a:Rat}(j:x<a)(d:¬x<s.1\/¬s.1<a)(f:∀e,s.2.2=some e->¬x<e\/¬e<a):Av s ((x+a)*(1/2:Rat),0)=Av s (x,1):=by
 have m1:x<(x+a)*(1/2:Rat):=by grind
 have m2:(x+a)*(1/2:Rat)<a:=by grind
 generalize (x+a)*(1/2:Rat)=m at *;obtain⟨b,h,e⟩:=s;have l:h=0\/h=1:=o.h;have d:¬x<b\/¬b<a:=d;have g:(decide (b<m)||(decide (b=m)&&decide (0<h+0)))=(decide (b<x)||(decide (b=x)&&decide (0<h+1))):=by
  rw[AA5];simp only[ACF,AAn,AB5];have k:0<h+1:=by omega
  constructor
  .intro z;have:¬x<b:=by rcases z with z|z <;> grind
   by_cases c:b=x
   .exact .inr ⟨c,k⟩
   .exact .inl (by grind)
  .intro z;exact .inl (by rcases z with z|z <;> grind)
 cases e with
 | none=>simp only[Av,g]
 | some e=>
   have f:=f e rfl;have i:decide (m<e)=decide (x<e):=by rw[ABq];constructor <;> intro z <;> grind
   simp only[Av,g,i]
def Vb {ss:zy A8}{f g:A8->zq}(h:∀s∈ss,f s=g s):ss.any f=ss.any g:=by
 induction ss with
 | nil=>rfl
 | cons a r ih=>rw[AAy,AAy,h a (by simp),ih λs hs=>h s (by simp[hs])]
def d4 {s:A8}{x:Rat}(h:Av s (x,0)=true):Av s (x,1)=true:=by
 simp only[Av,AAn,ACF,AB5] at h ⊢;refine⟨?_,h.2⟩;rcases h.1 with h1|⟨h1,h2⟩
 .exact .inl h1
 .exact .inr ⟨h1,by omega⟩
def gB {ss:zy A8}{ms:zy Rat}{B:Nat}(ok:∀s∈ss,Bl B s)(a:∀s∈ss,∃x,s.2.2=some x)(sub:∀s∈ss,s.1∈ms/\∀e,s.2.2=some e->e∈ms)(hl:ms.length<=1000){Q:PV->Prop}(q:Q (.tup ((canon 1 ss).map CS))):BV [.lst ((BQ ms).map fr), .lst ((BQ ms).map λm=> .bl (ss.any (Av · (m,0)))), .lst ((KB (BQ ms)).map λm=> .bl (ss.any (Av · (m,0))))] Q:=by
 have j:=EC (xs:=ms);have b:=Bt (xs:=ms);have d:canon 1 ss=DZ ((places (BQ ms)).map λp=>(p,ss.any (Av · p))):=by
  have f:BQ ms=BQ (ms++BY ss):=ME λx=>by
   rw[AAO];refine⟨.inl,λh=>h.elim id λh=> ?_⟩;obtain⟨s,hs,k⟩:=ABR.mp h;rcases AAF.mp k with rfl|k
   .exact (sub s hs).1
   .exact (sub s hs).2 x (by simpa using k)
  rw[<-E2 (ms:=ms) ok (by decide),f];show DZ _=DZ _;congr 1;apply AA1;intro p _;rw[HF]
 rw[d] at q;refine gA (In:=λp=>ss.any (Av · p)) (λx _ h=> ?_) (λus x l vs e=> ?_) (λus x e=> ?_) (by omega) q
 .obtain ⟨s,hs,k⟩:=ABu.mp h;exact ABu.mpr ⟨s,hs,d4 k⟩
 .obtain ⟨g,c⟩:=cC (e ▸ b);refine Vb λs hs=>aI (ok s hs) g (c _ (by rw[e];exact BC.mpr (sub s hs).1)) λz hz=>c _ (by rw[e];exact BC.mpr ((sub s hs).2 z hz))
 .have key:∀i:Int,ss.any (Av · (x,i))=false:=λi=>by rw[ACS];intro s hs;obtain⟨ev,he⟩:=a s hs;have h1:=BC.mpr ((sub s hs).2 ev he);rw[<-e] at h1;have h2:=Y0 (e ▸ b) ev h1;simp only[Av,he];simp[h2]
  exact⟨key 0,key 1⟩
def ah {qs:zy Rat}{W:Nat}(h:∀x∈qs,Bd W x):∀x∈KB qs,Bd (2*W+4) x:=λx hx=>by obtain⟨p,hp,rfl⟩:=AAc.mp hx;have a:=h _ (ABW hp).1;have b2:=h _ (List.mem_of_mem_drop (ABW hp).2);have b:Bd 3 (1/2:Rat):=⟨by decide +kernel,by decide +kernel⟩;exact((a.add b2).mul b).mono (by omega)
def X6 (qs:zy Rat):(KB qs).length<=qs.length:=by unfold KB;rw[AAJ,List.length_zip];omega
def Cg.fin {N:Nat}{lo hi:T3}{us:zy (C4×C4)}{ss:zy A8}(h:Cg N lo hi us ss):∀s∈ss,∃x,s.2.2=some x:=λs hs=>by obtain⟨p,hp,k⟩:=h.ok s hs;obtain⟨x,hx,_⟩:=k.fin;exact⟨x,hx⟩
def Cg.one {N M:Nat}{lo hi:T3}{us:zy (C4×C4)}{ss a:zy A8}(h:Cg N lo hi us ss)(k:Cg M lo hi us a):canon 1 ss=canon 1 a:=
 Vj h.st k.st λm=>by rw[AA5,h.sem,k.sem]
def bZ {a:zy A8}{W:Nat}(ok:∀s∈a,Bl W s)(c:∀s∈a,∃x,s.2.2=some x)(f:W<=1900)(hl:a.length<=1000):Sh 3 13003000 (.tup (a.map CS)):=by refine(Sh.tup (d:=2) (n:=13000) λx hx=> ?_).mono (by decide) (by rw[AAJ];omega);obtain⟨s,hs,rfl⟩:=AAc.mp hx;obtain⟨ev,he⟩:=c s hs;have o:=ok s hs;have b2:=(o.e ev he).2;have hi:Sh 1 4000 (.int s.2.1):=(Sh.int (by rcases o.h with h|h <;> rw[h] <;> decide)).mono (by decide) (by decide);rw[show CS s= .tup [fr s.1, .int s.2.1,fr ev] by unfold CS;rw[he];rfl];exact(Sh.tup (ab (Sh.fr (o.b.mono f)) hi (Sh.fr (b2.mono f)))).mono (by decide) lz
def V5 {cs:zy C4}{lo hi:T3}{B:Nat}{ss:zy A8}(hs:Cg (3*(6*B+205)+1) lo hi (F4 cs) ss)(hc:∀c∈cs,Ej B c)(f:Hr cs)(h2:2<=cs.length)(hl:cs.length<=100)(l:Dz 100 lo)(n:Dz 100 hi)(o:B<=140){Q:PV->Prop}(q:(∀s∈ss,Bl (6*B+105) s)->Q (.tup ((canon 1 ss).map CS))):D2 [Bx cs,FO lo,FO hi] Q:=by
 have w:(F4 cs).length=cs.length-1:=by unfold F4;simp
 apply O0;ac_rfl;refine S6 hc f h2 hl l n o λms a=> ?_;have sub:∀s∈ss,s.1∈ms/\∀e,s.2.2=some e->e∈ms:=λs d=>by obtain⟨p,hp,k⟩:=hs.ok s d;obtain⟨x,hx,r⟩:=k.fin;exact⟨cn f a hp k.bmk,λe he=>by rw[hx] at he;cases he;exact cn f a hp r⟩
 have g:=hs.fin;have y:=a.len;have i:∀s∈ss,Bl (6*B+105) s:=λs d=>⟨a.bd _ (sub s d).1,(hs.st s d).h,λe he=>⟨((hs.st s d).e e he).1,a.bd _ ((sub s d).2 e he)⟩⟩;have t:=gB hs.st g sub (by omega) (q i);have z:=EC (xs:=ms);have j:∀x∈BQ ms,Bd 945 x:=λx hx=>(a.bd x (BC.mp hx)).mono (by omega);have u:=ah j;have v:=X6 (BQ ms);have ins:∀m,Bd 1894 m->∀{R:PV->Prop},R (.bl (ss.any (Av · (m,0))))->BA [Bx cs,FO lo,FO hi,fr m] R:=λm bm {R} h=>Vx hc f h2 (by omega) l n bm (by omega) λb hb=>by rw[show b=ss.any (Av · (m,0)) by rw[AA5,hb,hs.sem]];exact h
 generalize BQ ms=qs at *;ac_rfl;refine EM fr PV.bl (λm=>ss.any (Av · (m,0))) (Bd 945) (λm bm R2 h=> ?_) qs [] j ?_
 .ac_rfl;refine ins m (bm.mono (by decide)) ?_;ac_rfl;exact h
 rw[ABO];ac_rfl;refine V8 (by omega) (λx hx=>(j x hx).mono (by decide)) ?_;ac_rfl;refine EM fr PV.bl (λm=>ss.any (Av · (m,0))) (Bd 1894) (λm bm R2 h=> ?_) (KB qs) [] u ?_
 .ac_rfl;refine ins m bm ?_;ac_rfl;exact h
 rw[ABO];ac_rfl;rw[AAo,AAo];exact t
end PL
namespace PL.K40
open PySem L2 PL PyProof.Rows
abbrev Ga:AS:=
 (Aa (Ak (aV 1) (Ja 4 (Ad (Am 4) (Ad (Am 5) (Ad (Am 6) (Ad (Am 7) Bw))))))
   (Ar (BB (AB (G6 (D9 (AB (G6 (Cu (Mw (aV 2)) 1 [] (Am 0) E1 (G6 (NU (AB (aV 0) AM))))) (AB (G6 (NU (AB (aV 3) AM))) AM)))) (AB (G6 (D9 (AB (aV 4) (AB (G6 (NU (AB (aV 5) AM))) (AB (G6 (NU (AB (aV 6) AM))) (AB (aV 7) AM)))))) AM)))))
abbrev Eg:AS:=
 (Aa (Ak (aV 0) (Ja 2 (Ad (Am 2) (Ad (Am 3) Bw))))
   Ga)
def Bq:AF:=Al 8 Eg
def HR {a b:PV}{Q:PV->Prop}(h:Eg ⟨λ_=>Q .non,Q,λ_=>False,λ_=>False⟩ [some (.val a),some (.val b),none,none,none,none,none,none]):Bq [a,b] Q:=h
abbrev J0:AS:=
 (Aa (CJ (R6 (LZ (Aw (AR 2 CN (AB (AR 2 Ew (AB (AW Ai (aV 6) (aC (.int 0))) (AB (AW Ai (aV 6) (aC (.int 1))) AM))) (AB (aV 8) AM))))) (LZ (Aw (AR 2 CN (AB (AR 2 Ew (AB (AW Ai (aV 6) (aC (.int 0))) (AB (AW Ai (aV 6) (aC (.int 1))) AM))) (AB (aV 8) AM)))))) (Ar (aC (.bl false))) BK)
   (CJ (Aw (AW We (Fx Lm (AB (aV 6) AM)) (aV 7))) (Ar (aC (.bl false))) BK))
abbrev Jz:AS:=
 (Aa (Ak (AR 3 D2 (AB (aV 3) (AB (AW Ai (aV 4) (aC (.int 1))) (AB (AW Ai (aV 4) (aC (.int 2))) AM)))) (Am 8))
   J0)
abbrev FT:AS:=
 (Aa (Ak (Fx Lm (AB (aV 6) AM)) (Am 7))
   Jz)
abbrev Jy:AS:=
 (Aa (CJ (Aw (AW Rh (AR 2 BX (AB (aV 2) (AB (aC (.int 2)) AM))) (aC (.int 0)))) (Ak (AR 2 Bq (AB (aV 5) (AB (aV 4) AM))) (Am 6)) BK)
   FT)
abbrev Jx:AS:=
 (Aa (Ak (BB (AB (aV 5) (AB (aV 4) AM))) (Am 6))
   Jy)
abbrev FS:AS:=
 (Aa (Ak (BB (AB (aV 3) (AB (BB (AB (BB (AB (aC (.int 0)) (AB (aC (.int 1)) AM))) (AB (BB (AB (aC (.int 0)) (AB (aC (.int 1)) AM))) (AB (BB (AB (aC (.int 0)) (AB (aC (.int 1)) AM))) AM)))) AM))) (Am 5))
   Jx)
abbrev Jw:AS:=
 (Aa (Ak (AR 1 B6 (AB (aV 2) AM)) (Am 4))
   FS)
abbrev Jv:AS:=
 (Aa (CJ (Aw (AW Rh (AR 2 BX (AB (aV 2) (AB (aC (.int 6)) AM))) (aC (.int 0)))) (Ak (AR 1 D1 (AB (aV 3) AM)) (Am 3)) BK)
   Jw)
abbrev Ju:AS:=
 (Aa (Ak (AR 1 EJ (AB (aV 2) AM)) (Am 3))
   Jv)
abbrev N8:AS:=
 (Aa (Ak (AR 2 LV (AB (aV 0) (AB (aV 1) AM))) (Am 2))
   Ju)
abbrev NO:AS:=
 (Aa (EY (QG (AB (AW Bb (aC (.int 1)) (Fx (dv min) (AB (aC (.int 10)) (AB (Fx IK (AB (aV 0) AM)) AM)))) AM)) (Am 1) N8)
   (Ar (aC (.bl true))))
def Dv:AF:=Al 9 NO
def RK {a:PV}{Q:PV->Prop}(h:NO ⟨λ_=>Q .non,Q,λ_=>False,λ_=>False⟩ [some (.val a),none,none,none,none,none,none,none,none]):Dv [a] Q:=h
def XS {cs:zy C4}(p:Ez 9 40 cs):Ez 9 101 (laterC (10^18) cs):=by
 have bk:Bd 60 ((10:Rat)^18):=⟨by decide +kernel,by decide +kernel⟩;have l:(laterC (10^18) cs).length=cs.length:=by unfold laterC;rw[AAJ]
 refine⟨by rw[l];exact p.two,by rw[l];exact p.few,Ej.laterC p.bd bk, ?_⟩;unfold Hr laterC;rw[List.pairwise_map];exact p.ris.imp λh=>by dsimp only;grind
def X0 {cs:zy C4}{b lo hi:T3}{a:Str}{d:Int}(hl:cs.length<=9){Q:PV->Prop}(q:Q (.tup [.lst [.lst (cs.map corL), .lst [fr b.1,fr b.2.1,fr b.2.2]], .lst [.str a, .lst [fr lo.1,fr lo.2.1,fr lo.2.2], .lst [fr hi.1,fr hi.2.1,fr hi.2.2], .int d]])):Bq [.tup [Bx cs,FO b], .tup [.str a,FO lo,FO hi, .int d]] Q:=by
 unfold FO;apply HR;ac_rfl;refine EM cor id corL (λ_=>True) ?_ _ _ (by simp) ?_
 .intro c _ R e;ac_rfl;exact e
 rw[List.map_id];ac_rfl;exact q
def bX {a:Str}(h:a="a" \/a="room" \/a="abcdefgh"):Sh 0 100 (.str a):=by rcases h with rfl|rfl|rfl <;> exact⟨by decide +kernel,rfl,by decide +kernel⟩
def Yt {t:T3}(h:Dz 40 t):Sh 2 13000 (FO t)/\Sh 2 13000 (.lst [fr t.1,fr t.2.1,fr t.2.2]):=by have a:=Sh.fr (h.x.mono (n:=1900) (by decide));have b:=Sh.fr (h.y.mono (n:=1900) (by decide));have c:=Sh.fr (h.z.mono (n:=1900) (by decide));exact⟨(Sh.tup (ab a b c)).mono (by decide) lz,(Sh.lst (ab a b c)).mono (by decide) lz⟩
def jc {cs:zy C4}(p:Ez 9 101 cs):Sh 3 160000 (Bx cs)/\Sh 3 160000 (.lst (cs.map corL)):=by
 have a:=p.few;constructor
 .refine (Sh.tup (d:=2) (n:=17000) λx hx=> ?_).mono (by decide) (by rw[AAJ];omega);obtain⟨c,hc,rfl⟩:=AAc.mp hx;exact .cor ((p.bd c hc).mono (by decide))
 .refine (Sh.lst (d:=2) (n:=17000) λx hx=> ?_).mono (by decide) (by rw[AAJ];omega);obtain⟨c,hc,rfl⟩:=AAc.mp hx;exact .corL ((p.bd c hc).mono (by decide))
def XO {h:zy Int}{i j m v w:PV}{cs:zy C4}{lo hi:T3}{R bk:Ay->Prop}{e f:zt AV}(p:Ez 9 101 cs)(a:Dz 40 lo)(b:Dz 40 hi)(hv:Zs cs (0,0,0) v)(hw:W0 lo hi w)(F:OE (.tup [v,w]))(o:j= .tup [.str nm,FO lo,FO hi, .int mo])(again:∀r t u A B C e f,R [some (.val (.scr h)),r,t,u,A,B,C,e,f]):FT {nx:=R,rt:=λx=>x= .bl true,bk:=bk,ct:=R} [some (.val (.scr h)),some (.val i),some (.val .tape),some (.val (Bx cs)),some (.val j),some (.val m),some (.val (.tup [v,w])),e,f] :=by
 subst o;have D:=p.few;have c:Dz 100 lo:=⟨a.x.mono (by decide),a.y.mono (by decide),a.z.mono (by decide)⟩;have d:Dz 100 hi:=⟨b.x.mono (by decide),b.y.mono (by decide),b.z.mono (by decide)⟩;obtain⟨ss,hs⟩:=Y7 (lo:=lo) (hi:=hi) p.bd p.ris ⟨a.x.mono (by decide),a.y.mono (by decide),a.z.mono (by decide)⟩ ⟨b.x.mono (by decide),b.y.mono (by decide),b.z.mono (by decide)⟩;ac_rfl;refine V5 hs p.bd p.ris p.two (by omega) c d (by decide) λst=> ?_;have G:=hs.len;have H:(F4 cs).length=cs.length-1:=by unfold F4;simp
 have cl:=Le (n:=1) (ss:=ss);have sc:=(bZ (QJ st) (Na hs.st hs.fin) (by decide) (by omega)).go (by decide) (by decide);have go:∀{Q:PV->Prop},Q (.tup ((canon 1 ss).map CS))->Ew [v,w] Q:=λ{Q} q=>by refine Y8 hv hw p.bd p.ris p.two (by omega) c d ⟨dc.mono (by decide),dc.mono (by decide),dc.mono (by decide)⟩ (by decide) (by decide) λk l=> ?_;have E:∀x:Rat,x-0=x/\x+0=x:=λx=>⟨by grind,by grind⟩;simp only[E] at l;rw[show (k.map (Zd 0))=k from by rw[AA1 (g:=id) λs _=>X1 s,List.map_id],<-hs.one l];exact q
 ac_rfl;refine go ?_;ac_rfl;refine RN sc rfl ?_;ac_rfl;refine go ?_;ac_rfl;refine RN sc rfl ?_;ac_rfl;exact again _ _ _ _ _ _ _ _
def U2 {l:zy Int}{i:PV}{c:Str}{a:Int}{cs:zy C4}{lo hi:T3}{R bk:Ay->Prop}{d f g h:zt AV}(p:Ez 9 101 cs)(j:Dz 40 lo)(k:Dz 40 hi)(r:c="a" \/c="room" \/c="abcdefgh")(m1:1<=a)(m2:a<=4)(again:∀s u v w d f g h,R [some (.val (.scr l)),s,u,v,w,d,f,g,h]):FS {nx:=R,rt:=λx=>x= .bl true,bk:=bk,ct:=R} [some (.val (.scr l)),some (.val i),some (.val .tape),some (.val (Bx cs)),some (.val (.tup [.str c,FO lo,FO hi, .int a])),d,f,g,h] :=by
 have y:=p.few;obtain⟨z,A⟩:=jc p;obtain⟨B,C⟩:=Yt j;obtain⟨h1,h2⟩:=Yt k;obtain⟨D,E⟩:=Yt (t:=(0,0,0)) ⟨dc.mono (by decide),dc.mono (by decide),dc.mono (by decide)⟩;have n:=(bX r).mono (e:=2) (m:=13000) (by decide) (by decide);have o:Sh 2 13000 (.int a):=(Sh.int (i:=a) (AAS (show a.natAbs<2^10 by omega) (ADL (by decide) (by decide)))).mono (by decide) (by decide);have f1:Sh 4 400000 (.tup [Bx cs,FO (0,0,0)]):=(Sh.tup (X4 z (D.mono (by decide) (by decide)))).mono (by decide) (by simp);have F:Sh 4 400000 (.lst [.lst (cs.map corL), .lst [fr 0,fr 0,fr 0]]):=(Sh.lst (X4 A (E.mono (by decide) (by decide)))).mono (by decide) (by simp);have G:Sh 4 400000 (.tup [.str c,FO lo,FO hi, .int a]):=(Sh.tup (ae n B h1 o)).mono (by decide) (by simp);have H:Sh 4 400000 (.lst [.str c, .lst [fr lo.1,fr lo.2.1,fr lo.2.2], .lst [fr hi.1,fr hi.2.1,fr hi.2.2], .int a]):=(Sh.lst (ae n C h2 o)).mono (by decide) (by simp);ac_rfl
 .refine X0 (b:=(0,0,0)) (by omega) ?_;exact XO p j k ⟨_,_,⟨corL, .inr rfl, .inr rfl⟩, .inr rfl, .inr rfl⟩ ⟨_,_,_,_, .inr rfl, .inr rfl, .inr rfl⟩ ((Sh.tup (X4 F H)).go (by decide) (by simp)) rfl again
 .exact XO p j k ⟨_,_,⟨cor, .inl rfl, .inl rfl⟩, .inl rfl, .inl rfl⟩ ⟨_,_,_,_, .inl rfl, .inl rfl, .inl rfl⟩ ((Sh.tup (X4 f1 G)).go (by decide) (by simp)) rfl again
def Xy (l:zy Int)(u:l.length<=63):Dv [.scr l] λx=>x= .bl true:=by
 apply RK;repeat' array_get_dec
 refine Z8 (λi τ=>∃a b d e f g h j,τ= [some (.val (.scr l)),a,b,d,e,f,g,h,j]) ?_ ?_ ⟨_,_,_,_,_,_,_,_,rfl⟩
 .rintro τ ⟨a,b,d,e,f,g,h,j,rfl⟩;repeat' array_get_dec
 .rintro i hi τ R p ⟨a,b,d,e,f,g,h,j,rfl⟩;have again:∀a b d e f g h j,R [some (.val (.scr l)),a,b,d,e,f,g,h,j] :=λa b d e f g h j=>p _ ⟨a,b,d,e,f,g,h,j,rfl⟩;clear p;ac_rfl;refine LQ λcs r=> ?_;have k:Ez 9 40 cs:=r.ok (by decide) (by decide);ac_rfl
  .refine dt (B:=40) (by have:=k.few;omega) k.bd (by decide) ?_;ac_rfl;exact U4 λs lo hi t m n o m1 m2=>U2 (XS k) n o m m1 m2 again
  .exact U4 λs lo hi t m n o m1 m2=>U2 ⟨k.two,k.few,λc hc=>(k.bd c hc).mono (by decide),k.ris⟩ n o m m1 m2 again
end PL.K40
section
namespace K40
open PySem L2 PL PL.K40 PyProof.Rows
def DK {N Q:zy Str}{s:Scope}(a:s.kind= .function:=by rfl)(b:s.isCoroutine=false:=by rfl)(c:s.isGenerator=false:=by rfl)(d:N.Nodup:=by decide +kernel)(e:N.take Q.length=Q:=by rfl)(f:∀x∈Q,s.names.lookup x=some .local\/s.names.lookup x=some .cell:=by decide +kernel)(g:∀y∈s.names,y.2≠ .free:=by decide +kernel):Dn N Q s:=⟨a,b,c,d,e,f,g⟩
section
variable (P:zp)(w:zm)(K:AAB)(Z:Str->zt zx)(Y:zl)(n:Nat)
abbrev DX:=Has P w K Z Y n "_law_draw" ["_law_tape_here","_law_many"] (Cj K 2 BX)
abbrev Cv:=Has P w K Z Y n "_law_part" ["_law_top","_law_bottom"] (Cj K 2 Ap)
abbrev DL:=Has P w K Z Y n "_law_sum" ["_law_one","_law_other"] (Cj K 2 BW)
abbrev Sa:=Has P w K Z Y n "_law_far" ["_law_plan_here"] (Cj K 1 D1)
abbrev OP:=Has P w K Z Y n "_law_lists" ["_law_flight","_law_room_here"] (Cj K 2 Bq)
abbrev EN:=Has P w K Z Y n "_law_less" ["_law_one","_law_other"] (Cj K 2 A5)
abbrev HE:=Has P w K Z Y n "_law_off" ["_law_one","_law_other"] (Cj K 2 BS)
abbrev EB:=Has P w K Z Y n "_law_product" ["_law_one","_law_other"] (Cj K 2 BU)
abbrev IM:=Has P w K Z Y n "_law_ratio" ["_law_one","_law_other"] (Cj K 2 CU)
abbrev QZ:=Has P w K Z Y n "_law_spot" ["_law_plan_here","_law_m"] (Cj K 2 EK)
abbrev Iu:=Has P w K Z Y n "_law_is_inside" ["_law_plan_here","_law_low","_law_high","_law_m"] (Cj K 4 BA)
abbrev M5:=Has P w K Z Y n "_law_rising" ["_law_some"] (Cj K 1 Bi)
abbrev OQ:=Has P w K Z Y n "_law_marks" ["_law_plan_here","_law_low","_law_high"] (Cj K 3 Br)
abbrev Lp:=Has P w K Z Y n "_law_middles" ["_law_marks_here"] (Cj K 1 CL)
abbrev Sd:=Has P w K Z Y n "_law_set" ["_law_marks_here","_law_here","_law_gaps"] (Cj K 3 BV)
abbrev Sc:=Has P w K Z Y n "_law_own" ["_law_plan_here","_law_low","_law_high"] (Cj K 3 D2)
abbrev IL:=Has P w K Z Y n "_law_place" ["_law_tape_here"] (Cj K 1 Az)
abbrev Jc:=Has P w K Z Y n "_law_span" ["_law_tape_here"] (Cj K 1 CO)
abbrev QW:=Has P w K Z Y n "_law_plan" ["_law_tape_here"] (Cj K 1 EJ)
abbrev QX:=Has P w K Z Y n "_law_room" ["_law_tape_here"] (Cj K 1 B6)
abbrev QY:=Has P w K Z Y n "_law_same" ["_law_found","_law_due"] (Cj K 2 CN)
abbrev Qa:=Has P w K Z Y n "_law_tape" ["_law_script","_law_k"] (Cj K 2 LV)
abbrev Qc:=Has P w K Z Y n "common" ["one","other"] (Cj K 2 Fq)
abbrev Lq:=Has P w K Z Y n "part" ["top","bottom"] (Cj K 2 Ev)
abbrev Xd:=Has P w K Z Y n "plus" ["one","other"] (Cj K 2 Im)
abbrev Qb:=Has P w K Z Y n "before" ["one","other"] (Cj K 2 A5)
abbrev M6:=Has P w K Z Y n "count_below" ["numbers","number"] (Cj K 2 Cf)
abbrev Xe:=Has P w K Z Y n "rising" ["numbers"] (Cj K 1 Ft)
abbrev Sm:=Has P w K Z Y n "steps_of" ["stretches"] (Cj K 1 GO)
abbrev Xc:=Has P w K Z Y n "levels" ["stretches"] (Cj K 1 Fs)
abbrev Vs:=Has P w K Z Y n "counted" ["stretches","n"] (Cj K 2 Du)
abbrev Sn:=Has P w K Z Y n "told_set" ["stretches"] (Cj K 1 D6)
abbrev Sg:=Has P w K Z Y n "later_by" ["stretches","by"] (Cj K 2 D4)
abbrev Xf:=Has P w K Z Y n "summed" ["one","many","other","more"] (Cj K 4 Fu)
abbrev Vt:=Has P w K Z Y n "crossed" ["low","high","at"] (Cj K 3 El)
abbrev Sf:=Has P w K Z Y n "is_never" ["plane"] (Cj K 1 DI)
abbrev Ni:=Has P w K Z Y n "turn_of" ["plane","at"] (Cj K 2 Cs)
abbrev OR:=Has P w K Z Y n "is_tighter" ["plane","other","at"] (Cj K 3 C1)
abbrev Lr:=Has P w K Z Y n "tightest" ["planes","at","sign"] (Cj K 3 CP)
abbrev Se:=Has P w K Z Y n "fault_in" ["planes","at"] (Cj K 2 D3)
abbrev OS:=Has P w K Z Y n "minus" ["one","other"] (Cj K 2 DR)
abbrev dz:=Has P w K Z Y n "over" ["one","other"] (Cj K 2 LU)
abbrev aF:=Has P w K Z Y n "times" ["one","other"] (Cj K 2 IA)
abbrev J7:=Has P w K Z Y n "piece_between" ["former","latter"] (Cj K 2 Bf)
abbrev Qf:=Has P w K Z Y n "pieces_of" ["plan"] (Cj K 1 DV)
abbrev Si:=Has P w K Z Y n "negative" ["number"] (Cj K 1 DJ)
abbrev J8:=Has P w K Z Y n "shared_bottom" ["numbers"] (Cj K 1 B7)
abbrev Sj:=Has P w K Z Y n "plane_of" ["form","strict","number"] (Cj K 3 Bz)
abbrev Qg:=Has P w K Z Y n "planes_in" ["piece","walls"] (Cj K 2 DW)
abbrev Sk:=Has P w K Z Y n "range_in" ["planes","at"] (Cj K 2 D5)
abbrev Qe:=Has P w K Z Y n "own_stays" ["plan","walls"] (Cj K 2 DU)
abbrev Vu:=Has P w K Z Y n "size_of" ["apart","side"] (Cj K 2 Dx)
abbrev So:=Has P w K Z Y n "walls_of" ["room","bounds"] (Cj K 2 D7)
abbrev aE:=Has P w K Z Y n "stays" ["flight","room"] (Cj K 2 Ew)
end
section
variable {P:zp}{w:zm}{K:AAB}{Z:Str->zt zx}{Y:zl}{n m:Nat}{f:zu}{U:FuncData}
theorem Ib:Dn ["_law_tape_here","_law_many","_law_once","_law_found"] ["_law_tape_here","_law_many"] (A6 ET):=DK
theorem Of (F:Ry K "_law_draw" "_law_draw" ET f U):D8 P w K Z Y P5 (n+1) f U ["_law_tape_here","_law_many"] (Cj K 2 BX):=by
 have k:=Ib.nd;refine F.ok Ib (λvs H Q E h=> ?_) (λu A outer s H vs Q E J h=> ?_)
 .obtain ⟨T,M,xs,v,_,_,r,hl,_⟩:=h;rw[r.length,hl] <;> rfl
 obtain⟨T,M,xs,v,va,_,r,hl,hF,hQ⟩:=h;unfold BX at hF;split at hF <;> first | exact hF.elim|skip
 rename_i m;obtain⟨⟨m0,m1⟩,hF⟩:=hF;cases r with
 | cons r j=>
 cases j with
 | cons y j=>
 cases j;cases y;cases r with
 | tape tp=>
 rename_i p;obtain⟨d,x,hp,l,z,B⟩:=va.tp p tp;refine⟨_,(BM (Uv (KZ cw (Jh EO (pv 0) As (λ_ _=>rfl)) As (Ca _)) (BM (Ea (i:=3) k rfl (Or.inl rfl) (Bk E5 (Jh EO (pv 0) As (λ_ _=>rfl)) (pv 1)))
  (BM (TN (Bk YE (Jh EO (pv 0) As (λ_ _=>rfl)) (pv 1)) (YQ (pv 0) As RQ))
  (Dq (MA (pv 3))))) KY)
  (BM (TN (Bk E5 (Bk F3 (Bk GU (Jh EO (pv 0) As (λ_ _=>rfl)) As) As) As) (YQ (pv 0) As RQ))
  (BM (Ea (i:=2) k rfl (Or.inl rfl) (Bk E5 (Bk GU (Jh EO (pv 0) As (λ_ _=>rfl)) (Bk F3 (Bk E5 (Jh EO (pv 0) As (λ_ _=>rfl)) As) As)) As))
  (Dq (MA (Bk E5 (Bk E5 (Bk GU (pv 2) (Bk F3 (Bk E5 (pv 2) As) As)) As) (pv 1))))))), ?_⟩
 have e:∀(r d' g:Int),0<=r->r<m->0<=d'->0<=g->g<2147483647->Q (.int r) (upd H p (.lst [.int d', .int g])):=λr d' g C D a b c=>
  hQ _ (.int r) T _ (ZH va.tp tp a b c) (.int r) (hF r C D)
 refine⟨_,rfl,p,_,_,_,rfl,rfl,Ee.of hp,rfl,_,_,rfl,rfl,_,rfl, ?_⟩;refine iq (λc=> ?_) (λc=> ?_)
 .refine ⟨_,rfl,p,_,_,_,rfl,rfl,Ee.of hp,rfl,_,rfl,_,_,rfl,rfl,m0, ?_⟩;refine⟨_,rfl,p,_,_,_,rfl,rfl,Ee.of hp,rfl,_,rfl,_,_,rfl,rfl,⟨m0,by omega⟩, ?_⟩;refine⟨_,rfl,p,_,_,_,rfl,rfl,hp,rfl, ?_⟩;exact⟨_,rfl,e _ _ _ (ACH _ (by omega)) (ACI _ m0) (Int.ediv_nonneg l (by omega)) z B⟩
 .refine ⟨_,rfl,p,_,_,_,rfl,rfl,Ee.of hp,rfl,_,_,rfl,rfl, .inl (.inr ⟨by decide,by decide⟩),_,_,rfl,rfl,_,_,rfl,rfl,(show (0:Int)<2147483647 by decide), ?_⟩;refine⟨_,rfl,p,_,_,_,rfl,rfl,hp,rfl, ?_⟩;have o:0<=(x*48271+12345) % 2147483647:=ACH _ (by decide);have y1:(x*48271+12345) % 2147483647<2147483647:=ACI _ (by decide);have t:upd H p (.lst ([V.int d,V.int x].set (Int.toNat 1) (V.int ((x*48271+12345) % 2147483647)))) p=some (.lst [.int d, .int ((x*48271+12345) % 2147483647)]):=AX;have G:0<=(x*48271+12345) % 2147483647*((x*48271+12345) % 2147483647 % 1009+3) % 2147483629:=ACH _ (by decide);have I:(x*48271+12345) % 2147483647*((x*48271+12345) % 2147483647 % 1009+3) % 2147483629<2147483629:=ACI _ (by decide);refine⟨_,rfl,p,_,_,_,rfl,rfl,Ee.of t,rfl,_,rfl,p,_,_,_,rfl,rfl,Ee.of t,rfl,_,_,rfl,rfl,(show (0:Int)<1009 by decide),_,_,rfl,rfl,_,_,rfl,rfl, .inl (.inl (MN o y1)),_,_,rfl,rfl,(show (0:Int)<2147483629 by decide), ?_⟩;refine⟨_,rfl,_,rfl,_,_,rfl,rfl,(show (0:Int)<997 by decide),_,_,rfl,rfl,_,_,rfl,rfl, .inl (.inl (MN G (Int.lt_trans I (by decide)))),_,_,rfl,rfl,(show (0:Int)<998244353 by decide),_,rfl,_,_,rfl,rfl,m0, ?_⟩;exact e _ _ _ (ACH _ (by omega)) (ACI _ m0) l o y1
theorem Dc {P:zp}{w:zm}{K:AAB}{Z:Str->zt zx}{Y:zl}{x q:Str}{st:Stmt}{f:zu}{U:FuncData}{N:zy Str}{k n:Nat}{b:AS}(F:Ry K x q st f U)(S:Dn N (N.take n) (A6 st))(a:n=(N.take n).length)(h:∀(v:zx) (A:zk) (o:zy Env) (s:zw) (H:Hp) (E:XK),Room k (A.deeper (envOfC q (A6 st) s.heap.objs.size f v))->N.Nodup->Wd (QO P5 P w K Z Y N q (A6 st) f v A o s H E).nox (DS st) b):D8 P w K Z Y P5 (k+1) f U (N.take n) (Cj K n (Al N.length b)):=
 Z7 F S a λv A o s H E r=>h v A o s H E r S.nd
abbrev Z1 (K:AAB)(x:Str)(s:Stmt)(f:zu)(d:FuncData):=Ry K x x s f d
abbrev Z2 (P:zp)(w:zm)(K:AAB)(Z:Str->zt zx)(b:zl)(n:Nat)(f:zu)(d:FuncData)(N:zy Str)(k:Nat)(F:AF):=D8 P w K Z b P5 (n+1) f d (N.take k) (Cj K k F)
theorem Oh (F:Z1 K "_law_part" F7 f U)(b:Z "abs" =none)(c:Z "int" =none):Z2 P w K Z Y n f U ["_law_top","_law_bottom","_law_sign","_law_one","_law_other"] 2 Ap:=Dc F DK rfl λ_ _ _ _ _ _ _ a=>(AL (Tk (i:=3) (j:=4) rfl a rfl rfl (by decide) rfl rfl (Ao (BZ PH rfl b boot_abs (Bp (AJ 0))) (BZ PH rfl b boot_abs (Bp (AJ 1)))) rfl) (AL (GI AAR (Fa Jl (AJ 4) AH) (AN (Tk (i:=3) (j:=4) rfl a rfl rfl (by decide) rfl rfl (Ao (AJ 4) (Ab MO (AJ 3) (AJ 4))) rfl))) (AL (Ck 2 a (Ab Cr AH (Ab A2 AH (BD fu rfl c boot_int (Bp (EG GH (AJ 1) AH (Ca _))))))) (AN (AY (Ag (Ao (Ab FI (Ab A2 (AJ 2) (AJ 0)) (AJ 3)) (Ab FI (Ab A2 (AJ 2) (AJ 1)) (AJ 3)))))))))
theorem Q0 (F:Z1 K "_law_sum" HY f U)(a:Cv P w K Z Y n):Z2 P w K Z Y n f U ["_law_one","_law_other"] 2 BW:=Dc F DK rfl λ_ _ _ _ _ _ b _=>(AN (AY (AK a b rfl (Ao (Ab A9 (Ab A2 (AU (AJ 0) AH) (AU (AJ 1) AH)) (Ab A2 (AU (AJ 1) AH) (AU (AJ 0) AH))) (Ab A2 (AU (AJ 0) AH) (AU (AJ 1) AH))))))
theorem Qw (F:Z1 K "_law_far" HU f U)(b:DL P w K Z Y n)(c:Z "tuple" =none):Z2 P w K Z Y n f U ["_law_plan_here"] 1 D1:=by
 have a:(["_law_corner"] :zy Str).Nodup:=by decide +kernel
 exact Dc F DK rfl λ_ _ _ _ _ _ d _=>(AN (AY (BD DB rfl c ABE (Bp (Dh (DC rfl (FG (AJ 0)) (C7 (own:=1) (ix:= []) (N:= ["_law_corner"]) rfl rfl rfl rfl rfl rfl (λ_ _ _ _ _ _=>(Pp 0 a)) (λ_ _ _ _ _ _=>CH) (λ_ _ _ _ _ _=>(Ab A9 (Ag (Bp (AK b d rfl (Ao (AU (AJ 0) AH) (Ag (Ao (Ab gF AH AH) AH)))))) (Jj (AJ 0) (c6 AH) c5))))))))))
theorem M8 (F:Z1 K "_law_lists" E8 f U)(b:Z "list" =none):Z2 P w K Z Y n f U ["_law_flight","_law_room_here","_law_plan_here","_law_bounds","_law_name","_law_low","_law_high","_law_most"] 2 Bq:=by
 have c:(["_law_corner"] :zy Str).Nodup:=by decide +kernel
 exact Dc F DK rfl λ_ _ _ _ _ _ _ a=>(AL (Ph (AJ 0) (Cq (n:=2) rfl (Ae (Es 2 a) (Ae (Es 3 a) B3)))) (AL (Ph (AJ 1) (Cq (n:=4) rfl (Ae (Es 4 a) (Ae (Es 5 a) (Ae (Es 6 a) (Ae (Es 7 a) B3)))))) (AN (AY (Ag (Ao (Dh (Bm (Ao (Dh (DC rfl (FG (AJ 2)) (C7 (own:=1) (ix:= []) (N:= ["_law_corner"]) rfl rfl rfl rfl rfl rfl (λ_ _ _ _ _ _=>(Pp 0 c)) (λ_ _ _ _ _ _=>CH) (λ_ _ _ _ _ _=>(Dh (Kg rfl b boot_list (Bp (AJ 0)))))))) (Dh (Kg rfl b boot_list (Bp (AJ 3))))))) (Dh (Bm (DT (AJ 4) (Fe (Dh (Kg rfl b boot_list (Bp (AJ 5)))) (Dh (Kg rfl b boot_list (Bp (AJ 6)))) (AJ 7)))))))))))
theorem Og (F:Z1 K "_law_less" F6 f U):Z2 P w K Z Y n f U ["_law_one","_law_other"] 2 A5:=Dc F DK rfl λ_ _ _ _ _ _ _ _=>(AN (AY (EG GH (Ab A2 (AU (AJ 0) AH) (AU (AJ 1) AH)) (Ab A2 (AU (AJ 1) AH) (AU (AJ 0) AH)) (Ca _))))
theorem Qx (F:Z1 K "_law_off" HV f U)(a:Cv P w K Z Y n):Z2 P w K Z Y n f U ["_law_one","_law_other"] 2 BS:=Dc F DK rfl λ_ _ _ _ _ _ b _=>(AN (AY (AK a b rfl (Ao (Ab Cr (Ab A2 (AU (AJ 0) AH) (AU (AJ 1) AH)) (Ab A2 (AU (AJ 1) AH) (AU (AJ 0) AH))) (Ab A2 (AU (AJ 0) AH) (AU (AJ 1) AH))))))
theorem KD (F:Z1 K "_law_product" EE f U)(a:Cv P w K Z Y n):Z2 P w K Z Y n f U ["_law_one","_law_other"] 2 BU:=Dc F DK rfl λ_ _ _ _ _ _ b _=>(AN (AY (AK a b rfl (Ao (Ab A2 (AU (AJ 0) AH) (AU (AJ 1) AH)) (Ab A2 (AU (AJ 0) AH) (AU (AJ 1) AH))))))
theorem NB (F:Z1 K "_law_ratio" FB f U)(a:Cv P w K Z Y n):Z2 P w K Z Y n f U ["_law_one","_law_other"] 2 CU:=Dc F DK rfl λ_ _ _ _ _ _ b _=>(AN (AY (AK a b rfl (Ao (Ab A2 (AU (AJ 0) AH) (AU (AJ 1) AH)) (Ab A2 (AU (AJ 0) AH) (AU (AJ 1) AH))))))
theorem On (F:Z1 K "_law_spot" GC f U)(c:EN P w K Z Y n)(d:HE P w K Z Y n)(h:EB P w K Z Y n)(j:IM P w K Z Y n)(k:DL P w K Z Y n)(l:Z "range" =none)(o:Z "tuple" =none)(p:Z "zip" =none):Z2 P w K Z Y n f U ["_law_plan_here","_law_m","_law_one","_law_other","_law_share","_law_gone"] 2 EK:=by
 have e:(["_law_k","_law_share","_law_other","_law_one"] :zy Str).Nodup:=by decide +kernel
 have g:(["_law_k","_law_one","_law_gone"] :zy Str).Nodup:=by decide +kernel
 exact Dc F DK rfl λ_ _ _ _ _ _ a b=>(AL (BE (Ie (RX (CD (AK c a rfl (Ao (AJ 1) (AU (AU (AJ 0) AH) AH)))) (MV (CD (AK c a rfl (Ao (AU (AU (AJ 0) (FE AH)) AH) (AJ 1))))))) (AN (AY BO)) A3) (AL (B4 AAR rfl (WS rfl p (Ao (AJ 0) (Jj (AJ 0) (c6 AH) c5))) (Cq (n:=2) rfl (Ae (PQ (i:=2) b rfl (Or.inr rfl)) (Ae (PQ (i:=3) b rfl (Or.inr rfl)) B3))) (AN (BE (MT (CD (AK c a rfl (Ao (AU (AJ 3) AH) (AJ 1))))) (AL (MS (i:=4) b rfl (Or.inr rfl) (AK j a rfl (Ao (AK d a rfl (Ao (AJ 1) (AU (AJ 2) AH))) (AK d a rfl (Ao (AU (AJ 3) AH) (AU (AJ 2) AH)))))) (AL (MS (i:=5) b rfl (Or.inr rfl) (Dh (DC rfl (FG (Ag (Fe AH AH AH))) (C7 (own:=1) (ix:= [4,3,2]) (N:= ["_law_k","_law_share" ,"_law_other" ,"_law_one" ]) rfl rfl rfl rfl rfl rfl (λ_ _ _ _ _ _=>(Pp 0 e)) (λ_ _ _ _ _ _=>CH) (λ_ _ _ _ _ _=>(AK h a rfl (Ao (AJ 1) (AK d a rfl (Ao (AU (AJ 2) (AJ 0)) (AU (AJ 3) (AJ 0))))))))))) (AN (AY (BD DB rfl o ABE (Bp (Dh (DC rfl (Nu rfl l (Bp AH)) (C7 (own:=1) (ix:= [2,5]) (N:= ["_law_k","_law_one" ,"_law_gone" ]) rfl rfl rfl rfl rfl rfl (λ_ _ _ _ _ _=>(Pp 0 g)) (λ_ _ _ _ _ _=>CH) (λ_ _ _ _ _ _=>(AK k a rfl (Ao (AU (AJ 1) (Ab A9 (AJ 0) AH)) (AU (AJ 2) (AJ 0)))))))))))))) A3))) (AN (AY BO))))
theorem IS (F:Z1 K "_law_is_inside" DQ f U)(b:EN P w K Z Y n)(d:QZ P w K Z Y n)(e:Z "all" =none)(g:Z "range" =none):Z2 P w K Z Y n f U ["_law_plan_here","_law_low","_law_high","_law_m","_law_spot_here"] 4 BA:=by
 have c:(["_law_k","_law_low","_law_spot_here","_law_high"] :zy Str).Nodup:=by decide +kernel
 exact Dc F DK rfl λ_ _ _ _ _ _ a h=>(AL (BE (MT (CD (AK b a rfl (Ao (AJ 3) (AU (AU (AJ 0) (FE AH)) AH))))) (AN (AY Nt)) A3) (AL (MS (i:=4) h rfl (Or.inr rfl) (AK d a rfl (Ao (AJ 0) (AJ 3)))) (AL (BE (Fa FJ (AJ 4) BO) (AN (AY Nt)) A3) (AN (AY (BZ (ft rfl) rfl e boot_all (Bp (Dh (DC rfl (Nu rfl g (Bp AH)) (C7 (own:=1) (ix:= [1,4,2]) (N:= ["_law_k","_law_low" ,"_law_spot_here" ,"_law_high" ]) rfl rfl rfl rfl rfl rfl (λ_ _ _ _ _ _=>(Pp 0 c)) (λ_ _ _ _ _ _=>CH) (λ_ _ _ _ _ _=>(Te (AK b a rfl (Ao (AU (AJ 1) (AJ 0)) (AU (AJ 2) (AJ 0)))) (PP (AK b a rfl (Ao (AU (AJ 2) (AJ 0)) (AU (AJ 3) (AJ 0)))))))))))))))))
theorem L3 (F:Z1 K "_law_rising" Eb f U)(c:EN P w K Z Y n)(d:Z "len" =none):Z2 P w K Z Y n f U ["_law_some","_law_found","_law_one","_law_at"] 1 Bi:=Dc F DK rfl λ_ _ _ _ _ _ b a=>(AL (Dj (i:=1) a rfl (Or.inl rfl) (Bm EF)) (AL (B4 AAR rfl (FG (AJ 0)) (Es 2 a) (AL (Ck 3 a (PN (BZ GG rfl d ABF (Bp (AJ 1))))) (AL (GI AAR (Ie (FN (Fa Jl (AJ 3) AH) (Ds (CD (AK c b rfl (Ao (AJ 2) (AU (AJ 1) (Ab Cr (AJ 3) AH)))))))) (AN (Ck 3 a (Ab Cr (AJ 3) AH)))) (AN (BE (Y5 (Ie (RX (Fa (FZ b) (AJ 3) AH) (MV (Fa (RT b) (AU (AJ 1) (Ab Cr (AJ 3) AH)) (AJ 2)))))) (AN (B5 (i:=1) ADs ADt Nw (Ao (AJ 3) (AJ 2)))) A3))))) (AN (AY (AJ 1)))))
theorem M9 (F:Z1 K "_law_marks" E9 f U)(e:EN P w K Z Y n)(c:HE P w K Z Y n)(g:EB P w K Z Y n)(h:IM P w K Z Y n)(j:M5 P w K Z Y n)(k:DL P w K Z Y n)(l:Z "enumerate" =none)(o:Z "zip" =none):Z2 P w K Z Y n f U ["_law_plan_here","_law_low","_law_high","_law_some","_law_one","_law_other","_law_span_here","_law_k","_law_edge","_law_way","_law_share"] 3 Br:=by
 have d:(["_law_corner"] :zy Str).Nodup:=by decide +kernel
 exact Dc F DK rfl λ_ _ _ _ _ _ a b=>(AL (Y2 (i:=3) rfl b rfl (Or.inl rfl) (FG (AJ 0)) (C7 (own:=1) (ix:= []) (N:= ["_law_corner"]) rfl rfl rfl rfl rfl rfl (λ_ _ _ _ _ _=>(Pp 0 d)) (λ_ _ _ _ _ _=>CH) (λ_ _ _ _ _ _=>(AU (AJ 0) AH)))) (AL (B4 AAR rfl (WS rfl o (Ao (AJ 0) (Jj (AJ 0) (c6 AH) c5))) (Cq (n:=2) rfl (Ae (Es 4 b) (Ae (Es 5 b) B3))) (AL (Ck 6 b (AK c a rfl (Ao (AU (AJ 5) AH) (AU (AJ 4) AH)))) (AN (B4 AAR rfl (jd rfl l (Bp (Ab A9 (AJ 1) (AJ 2)))) (Cq (n:=2) rfl (Ae (Es 7 b) (Ae (Es 8 b) B3))) (AL (Ck 9 b (AK c a rfl (Ao (AU (AJ 5) (Ab A9 (Ab MO (AJ 7) AH) AH)) (AU (AJ 4) (Ab A9 (Ab MO (AJ 7) AH) AH))))) (AN (BE (Fa (RT a) (AU (AJ 9) AH) AH) (AL (Ck 10 b (AK h a rfl (Ao (AK c a rfl (Ao (AJ 8) (AU (AJ 4) (Ab A9 (Ab MO (AJ 7) AH) AH)))) (AJ 9)))) (AN (BE (Ie (FN (CD (AK e a rfl (Ao (Ag (Ao AH AH)) (AJ 10)))) (Ds (CD (AK e a rfl (Ao (AJ 10) (Ag (Ao AH AH)))))))) (AN (B5 (i:=3) AAt AAu BR (Bp (AK k a rfl (Ao (AU (AJ 4) AH) (AK g a rfl (Ao (AJ 10) (AJ 6)))))))) A3))) A3))))))) (AN (AY (AK j a rfl (Bp (AJ 3)))))))
theorem KC (F:Z1 K "_law_middles" ED f U)(c:EB P w K Z Y n)(d:DL P w K Z Y n)(e:Z "zip" =none):Z2 P w K Z Y n f U ["_law_marks_here"] 1 CL:=by
 have a:(["_law_one","_law_other"] :zy Str).Nodup:=by decide +kernel
 exact Dc F DK rfl λ_ _ _ _ _ _ b _=>(AN (AY (Dh (DC rfl (WS rfl e (Ao (AJ 0) (Jj (AJ 0) (c6 AH) c5))) (C7 (own:=2) (ix:= []) (N:= ["_law_one","_law_other" ]) rfl rfl rfl rfl rfl rfl (λ_ _ _ _ _ _=>(Pb (n:=2) rfl (Db (Pp 0 a) (Db (Pp 1 a) Kh)))) (λ_ _ _ _ _ _=>CH) (λ_ _ _ _ _ _=>(AK c b rfl (Ao (AK d b rfl (Ao (AJ 0) (AJ 1))) (Ag (Ao AH AH))))))))))
theorem Qz (F:Z1 K "_law_set" HX f U)(b:Z "enumerate" =none)(c:Z "tuple" =none):Z2 P w K Z Y n f U ["_law_marks_here","_law_here","_law_gaps","_law_found","_law_begun","_law_k","_law_m"] 3 BV:=Dc F DK rfl λ_ _ _ _ _ _ _ a=>(AL (Dj (i:=3) a rfl (Or.inl rfl) (Bm EF)) (AL (Ck 4 a BO) (AL (B4 AAR rfl (mN rfl b (Bp (AJ 0))) (Cq (n:=2) rfl (Ae (Es 5 a) (Ae (Es 6 a) B3))) (AL (BE (Ie (FN (Fa Pe (AJ 4) BO) (Ds (MT (CD (AU (AJ 1) (AJ 5))))))) (AL (B5 (i:=3) AAt AAu BR (Bp (Ab A9 (AJ 4) (Ag (Bp (AJ 6)))))) (AN (Ck 4 a BO))) A3) (AL (BE (Ie (FN (Fa FJ (AJ 4) BO) (Ds (CD (AU (AJ 1) (AJ 5)))))) (AN (Ck 4 a (Ag (Ao (AJ 6) AH)))) A3) (AN (BE (Ie (FN (Fa FJ (AJ 4) BO) (Ds (CD (AU (Ab A9 (AJ 2) (Dh (Bm (Bp Nt)))) (AJ 5)))))) (AN (Ck 4 a (Ag (Ao (AJ 6) AH)))) A3))))) (AN (AY (BD DB rfl c ABE (Bp (AJ 3))))))))
theorem Qy (F:Z1 K "_law_own" HW f U)(d:Iu P w K Z Y n)(g:OQ P w K Z Y n)(h:Lp P w K Z Y n)(j:Sd P w K Z Y n):Z2 P w K Z Y n f U ["_law_plan_here","_law_low","_law_high","_law_marks_here","_law_here"] 3 D2:=by
 have b:(["_law_m","_law_plan_here","_law_low","_law_high"] :zy Str).Nodup:=by decide +kernel
 have c:(["_law_m","_law_plan_here","_law_low","_law_high"] :zy Str).Nodup:=by decide +kernel
 exact Dc F DK rfl λ_ _ _ _ _ _ a e=>(AL (Ck 3 e (AK g a rfl (Fe (AJ 0) (AJ 1) (AJ 2)))) (AL (RU (i:=4) rfl e rfl (Or.inl rfl) (FG (AJ 3)) (C7 (own:=1) (ix:= [0,1,2]) (N:= ["_law_m","_law_plan_here" ,"_law_low" ,"_law_high" ]) rfl rfl rfl rfl rfl rfl (λ_ _ _ _ _ _=>(Pp 0 b)) (λ_ _ _ _ _ _=>CH) (λ_ _ _ _ _ _=>(AK d a rfl (DT (AJ 1) (Fe (AJ 2) (AJ 3) (AJ 0))))))) (AN (AY (AK j a rfl (Fe (AJ 3) (AJ 4) (Dh (DC rfl (FG (AK h a rfl (Bp (AJ 3)))) (C7 (own:=1) (ix:= [0,1,2]) (N:= ["_law_m","_law_plan_here" ,"_law_low" ,"_law_high" ]) rfl rfl rfl rfl rfl rfl (λ_ _ _ _ _ _=>(Pp 0 c)) (λ_ _ _ _ _ _=>CH) (λ_ _ _ _ _ _=>(AK d a rfl (DT (AJ 1) (Fe (AJ 2) (AJ 3) (AJ 0))))))))))))))
theorem NA (F:Z1 K "_law_place" FA f U)(b:DX P w K Z Y n)(c:Cv P w K Z Y n):Z2 P w K Z Y n f U ["_law_tape_here","_law_kind"] 1 Az:=Dc F DK rfl λ_ _ _ _ _ _ a d=>(AL (Ck 1 d (AK b a rfl (Ao (AJ 0) AH))) (AL (BE (Fa GH (AJ 1) AH) (AN (AY (Ag (Ao (Ab Cr (AK b a rfl (Ao (AJ 0) AH)) AH) AH)))) A3) (AL (BE (Fa (FZ a) (AJ 1) AH) (AN (AY (AK c a rfl (Ao (Ab Cr (AK b a rfl (Ao (AJ 0) AH)) AH) AH)))) A3) (AN (AY (AK c a rfl (Ao (Ab Cr (AK b a rfl (Ao (AJ 0) AH)) AH) AH)))))))
theorem Om (F:Z1 K "_law_span" GB f U)(b:DX P w K Z Y n)(c:Cv P w K Z Y n):Z2 P w K Z Y n f U ["_law_tape_here","_law_way"] 1 CO:=Dc F DK rfl λ_ _ _ _ _ _ a d=>(AL (Ck 1 d (AK b a rfl (Ao (AJ 0) AH))) (AL (BE (Fa GH (AJ 1) AH) (AN (AY (Ag (Ao (Ab A9 AH (AK b a rfl (Ao (AJ 0) AH))) AH)))) A3) (AN (AY (AK c a rfl (Ao (Ab A9 AH (AK b a rfl (Ao (AJ 0) AH))) (Ab Cr (AJ 1) AH)))))))
theorem Oi (F:Z1 K "_law_plan" F8 f U)(d:DX P w K Z Y n)(c:IL P w K Z Y n)(e:Jc P w K Z Y n)(g:DL P w K Z Y n)(h:Z "len" =none)(j:Z "tuple" =none):Z2 P w K Z Y n f U ["_law_tape_here","_law_many","_law_m","_law_spot_here","_law_corners","_law_way"] 1 EJ:=Dc F DK rfl λ_ _ _ _ _ _ a b=>(AL (Ck 1 b (Ab A9 AH (AK d a rfl (Ao (AJ 0) AH)))) (AL (BE (Fa (FZ a) (AK d a rfl (Ao (AJ 0) AH)) AH) (AN (Ck 1 b (Ab A9 AH (AK d a rfl (Ao (AJ 0) AH))))) A3) (AL (Ck 2 b (Ag (Ao (AK d a rfl (Ao (AJ 0) AH)) AH))) (AL (Ck 3 b (Dh (Bm (Fe (AK c a rfl (Bp (AJ 0))) (AK c a rfl (Bp (AJ 0))) (AK c a rfl (Bp (AJ 0))))))) (AL (Dj (i:=4) b rfl (Or.inl rfl) (Bm (Bp (Ag (DT (AJ 2) (Fe (AU (AJ 3) AH) (AU (AJ 3) AH) (AU (AJ 3) AH))))))) (AL (GI AAR (Fa GH (BZ GG rfl h ABF (Bp (AJ 4))) (AJ 1)) (AL (Ck 2 b (AK g a rfl (Ao (AJ 2) (AK e a rfl (Bp (AJ 0)))))) (AL (Ck 5 b (AK d a rfl (Ao (AJ 0) AH))) (AL (BE (Fa Jl (AJ 5) AH) (AN (Ck 3 b (Dh (Bm (Fe (AK c a rfl (Bp (AJ 0))) (AK c a rfl (Bp (AJ 0))) (AK c a rfl (Bp (AJ 0)))))))) (AN (BE (Fa Jl (AJ 5) AH) (AN (Ck 3 b (Ab A9 (Ab A9 (Jj (AJ 3) c5 (c6 (Ab Cr (AJ 5) AH))) (Dh (Bm (Bp (AK c a rfl (Bp (AJ 0))))))) (Jj (AJ 3) (c6 (AJ 5)) c5)))) A3))) (AN (B5 (i:=4) AAt AAu BR (Bp (Ag (DT (AJ 2) (Fe (AU (AJ 3) AH) (AU (AJ 3) AH) (AU (AJ 3) AH))))))))))) (AN (AY (BD DB rfl j ABE (Bp (AJ 4)))))))))))
theorem Oj (F:Z1 K "_law_room" F9 f U)(b:DX P w K Z Y n)(h:HE P w K Z Y n)(j:IL P w K Z Y n)(k:Jc P w K Z Y n)(e:DL P w K Z Y n)(l:Z "range" =none)(g:Z "tuple" =none):Z2 P w K Z Y n f U ["_law_tape_here","_law_low","_law_high","_law_one","_law_wide"] 1 B6:=by
 have d:(["_law_k","_law_tape_here"] :zy Str).Nodup:=by decide +kernel
 exact Dc F DK rfl λ_ _ _ _ _ _ a c=>(AL (RU (i:=1) rfl c rfl (Or.inl rfl) (Nu rfl l (Bp AH)) (C7 (own:=1) (ix:= [0]) (N:= ["_law_k","_law_tape_here" ]) rfl rfl rfl rfl rfl rfl (λ_ _ _ _ _ _=>(Pp 0 d)) (λ_ _ _ _ _ _=>CH) (λ_ _ _ _ _ _=>(AK h a rfl (Ao (AK j a rfl (Bp (AJ 1))) (AU (Dh (Bm (Fe (Ag (Ao AH AH)) (Ag (Ao AH AH)) (Ag (Ao AH AH))))) (AK b a rfl (Ao (AJ 1) AH)))))))) (AL (Dj (i:=2) c rfl (Or.inl rfl) (Bm EF)) (AL (B4 AAR rfl (FG (AJ 1)) (Es 3 c) (AL (Ck 4 c (AK e a rfl (Ao (AK k a rfl (Bp (AJ 0))) (AU (Dh (Bm (Fe (Ag (Ao AH AH)) (Ag (Ao AH AH)) (Ag (Ao AH AH))))) (AK b a rfl (Ao (AJ 0) AH)))))) (AN (B5 (i:=2) AAt AAu BR (Bp (AK e a rfl (Ao (AJ 3) (AJ 4)))))))) (AN (AY (Ag (DT (AU (Dh (Bm (Fe Tf Tf Tf))) (AK b a rfl (Ao (AJ 0) AH))) (Fe (BD DB rfl g ABE (Bp (AJ 1))) (BD DB rfl g ABE (Bp (AJ 2))) (Ab A9 AH (AK b a rfl (Ao (AJ 0) AH)))))))))))
theorem Ol (F:Z1 K "_law_same" GA f U)(b:Z "str" =none):Z2 P w K Z Y n f U ["_law_found","_law_due"] 2 CN:=Dc F DK rfl λ_ _ _ _ _ _ a _=>(AN (AY (Te (EG (FZ a) (AJ 0) (AJ 1) (Ca _)) (PP (EG (FZ a) (BD (PJ a) rfl b boot_str (Bp (AJ 0))) (BD (PJ a) rfl b boot_str (Bp (AJ 1))) (Ca _))))))
theorem Ic:Dn ["_law_script","_law_k","_law_cell","_law_digits"] ["_law_script","_law_k"] (A6 EU):=DK
theorem Oo (F:Ry K "_law_tape" "_law_tape" EU f U)(l:Z "abs" =none)(t:Z "int" =none)(u:Z "len" =none):D8 P w K Z Y P5 (n+1) f U ["_law_script","_law_k"] (Cj K 2 LV):=by
 have g:=Ic.nd;refine F.ok Ic (λvs H Q E h=> ?_) (λv A outer s H vs Q E B h=> ?_)
 .obtain ⟨T,M,xs,x,_,_,r,hl,_⟩:=h;rw[r.length,hl] <;> rfl
 obtain⟨T,M,xs,x,va,_,r,hl,hF,hQ⟩:=h;unfold LV at hF;split at hF <;> first | exact hF.elim|skip
 rename_i d k;obtain⟨⟨C,D⟩,hF⟩:=hF;cases r with
 | cons r j=>
 cases j with
 | cons y j=>
 cases j;cases y;obtain⟨a,rfl,o⟩:=Yp r;refine⟨_,(BM (Ea (i:=2) g rfl (Or.inl rfl) As)
  (BM (Uv (KZ cx (pv 1) (IT IG rfl u ABF (B0 (pv 0) EZ)) (Ca _)) (Dq (Ea (i:=2) g rfl (Or.inl rfl) (Jh EO (pv 0) (pv 1) (λ_ _=>rfl)))) KY)
  (BM (Ea (i:=3) g rfl (Or.inl rfl) (Bk GU (IT Ld rfl l boot_abs (B0 (pv 2) EZ)) (GV NZ rfl t PyProof.Rows.boot_int (B0 (Ur cv (IT Ld rfl l boot_abs (B0 (pv 2) EZ)) (Bk YG As As) (Ca _)) EZ))))
  (Dq (MA (YM (B0 (pv 3) (B0 (Bk E5 (Bk GU (Bk E5 (Bk F3 (Bk F3 (pv 2) (Bk GU As (pv 1))) As) As) As) As) EZ)))))))), ?_⟩
 have hl:(d.map V.int).length=d.length:=AAJ _;have e:∀(c:Int) (p:zu),H p=none->Q (.ref p) (upd H p (.lst [.int ((if c<0 then -c else c)*(if decide ((10:Int)^18<=(if c<0 then -c else c)) then 1 else 0)), .int ((c+7919*k+1) % 2147483647*48271 % 2147483647)])):=λc p hp=>
  hQ _ .tape (λb=>T b\/b=p) _ (ZG va.tp hp (Int.mul_nonneg (by split <;> omega) (rE _)) (ACH _ (by decide)) (ACI _ (by decide))) (.tape (.inr rfl)) hF
 refine⟨_,rfl,_,rfl,a,_,rfl, .inl o,_,_,rfl,rfl,_,rfl, ?_⟩;refine iq (λc=> ?_) (λc=> ?_)
 .have z:k<(((d.map V.int).length:Nat):Int):=ABM c;rw[hl] at z;have hk:k.toNat<d.length:=by omega
  have hv:Ih (d.map V.int) k=some (.int d[k.toNat]):=by
   have q:Ih (d.map V.int) ((k.toNat:Nat):Int)=some (.int d[k.toNat]):=C3 (by rw[AAk,AAT hk] <;> rfl)
   rwa [show ((k.toNat:Nat):Int)=k by omega] at q
  refine⟨_,rfl,_,rfl,a,_,_,_,rfl,rfl,o,hv, ?_⟩;refine⟨_,rfl,_,rfl,_,rfl,_,rfl,_,_,rfl,rfl,⟨by decide,by decide,by decide⟩,_,_,rfl,rfl, .inr ⟨_,rfl,_,_,rfl,rfl, .inl (.inr (oG _)), ?_⟩⟩;exact⟨_,rfl,_,rfl,_,rfl,_,_,rfl,rfl, .inl (.inl ⟨by decide,by decide⟩),_,_,rfl,rfl,_,_,rfl,rfl,_,_,rfl,rfl,(show (0:Int)<2147483647 by decide),_,_,rfl,rfl, .inl (.inr ⟨by decide,by decide⟩),_,_,rfl,rfl,(show (0:Int)<2147483647 by decide),(show 2<=sizeLine by decide),λp hp=>e _ p hp⟩
 .refine ⟨_,rfl,_,rfl,_,rfl,_,rfl,_,_,rfl,rfl,⟨by decide,by decide,by decide⟩,_,_,rfl,rfl, .inr ⟨_,rfl,_,_,rfl,rfl, .inl (.inr (oG _)), ?_⟩⟩;exact⟨_,rfl,_,rfl,_,rfl,_,_,rfl,rfl, .inl (.inl ⟨by decide,by decide⟩),_,_,rfl,rfl,_,_,rfl,rfl,_,_,rfl,rfl,(show (0:Int)<2147483647 by decide),_,_,rfl,rfl, .inl (.inr ⟨by decide,by decide⟩),_,_,rfl,rfl,(show (0:Int)<2147483647 by decide),(show 2<=sizeLine by decide),λp hp=>e 0 p hp⟩
theorem WE (F:Z1 K "common" MH f U):Z2 P w K Z Y n f U ["one","other"] 2 Fq:=Dc F DK rfl λ_ _ _ _ _ _ a b=>(AL (GI AAR (Fa (RT a) (AJ 1) AH) (AN (Tk (i:=0) (j:=1) rfl b rfl rfl (by decide) rfl rfl (Ao (AJ 1) (Ab MO (AJ 0) (AJ 1))) rfl))) (AN (AY (AJ 0))))
theorem aq (F:Z1 K "part" Ta f U)(c:Qc P w K Z Y n)(a:Z "abs" =none):Z2 P w K Z Y n f U ["top","bottom","shared"] 2 Ev:=Dc F DK rfl λ_ _ _ _ _ _ d b=>(AL (Ck 2 b (AK c d rfl (Ao (BZ PH rfl a boot_abs (Bp (AJ 0))) (BZ PH rfl a boot_abs (Bp (AJ 1)))))) (AL (BE (Fa GH (AJ 1) AH) (AN (Ck 2 b (FE (AJ 2)))) A3) (AN (AY (Ag (Ao (Ab FI (AJ 0) (AJ 2)) (Ab FI (AJ 1) (AJ 2))))))))
theorem au (F:Z1 K "plus" Tc f U)(a:Lq P w K Z Y n):Z2 P w K Z Y n f U ["one","other"] 2 Im:=Dc F DK rfl λ_ _ _ _ _ _ b _=>(AN (AY (AK a b rfl (Ao (Ab A9 (Ab A2 (AU (AJ 0) AH) (AU (AJ 1) AH)) (Ab A2 (AU (AJ 1) AH) (AU (AJ 0) AH))) (Ab A2 (AU (AJ 0) AH) (AU (AJ 1) AH))))))
theorem WD (F:Z1 K "before" MG f U):Z2 P w K Z Y n f U ["one","other"] 2 A5:=Dc F DK rfl λ_ _ _ _ _ _ _ _=>(AN (AY (EG GH (Ab A2 (AU (AJ 0) AH) (AU (AJ 1) AH)) (Ab A2 (AU (AJ 1) AH) (AU (AJ 0) AH)) (Ca _))))
theorem L4 (F:Z1 K "count_below" Ec f U)(b:Qb P w K Z Y n)(c:Z "len" =none):Z2 P w K Z Y n f U ["numbers","number","low","high","middle"] 2 Cf:=Dc F DK rfl λ_ _ _ _ _ _ d a=>(AL (Ck 2 a AH) (AL (Ck 3 a (BZ GG rfl c ABF (Bp (AJ 0)))) (AL (GI AAR (Fa GH (AJ 2) (AJ 3)) (AL (Ck 4 a (Ab FI (Ab A9 (AJ 2) (AJ 3)) AH)) (AN (BE (CD (AK b d rfl (Ao (AU (AJ 0) (AJ 4)) (AJ 1)))) (AN (Ck 2 a (Ab A9 (AJ 4) AH))) (AN (Ck 3 a (AJ 4))))))) (AN (AY (AJ 2))))))
theorem WG (F:Z1 K "rising" MJ f U)(c:M6 P w K Z Y n)(d:Z "len" =none):Z2 P w K Z Y n f U ["numbers","told","number","at"] 1 Ft:=Dc F DK rfl λ_ _ _ _ _ _ a b=>(AL (Dj (i:=1) b rfl (Or.inl rfl) (Bm EF)) (AL (B4 AAR rfl (FG (AJ 0)) (Es 2 b) (AL (Ck 3 b (PN (AK c a rfl (Ao (AJ 1) (AJ 2))))) (AN (BE (Y5 (Ie (RX (Fa (FZ a) (AJ 3) (BZ GG rfl d ABF (Bp (AJ 1)))) (MV (Fa (RT a) (AU (AJ 1) (AJ 3)) (AJ 2)))))) (AN (B5 (i:=1) ADs ADt Nw (Ao (AJ 3) (AJ 2)))) A3)))) (AN (AY (AJ 1)))))
theorem Ji:Dn ["stretches","steps","begin","held","end","first","last"] ["stretches"] (A6 FD):=DK
theorem Q8 (F:Ry K "steps_of" "steps_of" FD f U):D8 P w K Z Y P5 (n+1) f U ["stretches"] (Cj K 1 GO):=by
 have a:=Ji.nd;refine F.ok Ji (λvs H Q E h=> ?_) (λb A outer s H vs Q E c h=> ?_)
 .obtain ⟨T,M,xs,d,_,_,r,hl,_⟩:=h;rw[r.length,hl] <;> rfl
 obtain⟨T,M,xs,d,va,_,r,hl,hF,hQ⟩:=h;have hu:=bU c;obtain⟨x,ys,m,rfl,hx,hz,e,hq⟩:=Rv hF;cases r with
 | cons r g=> cases g;refine⟨_,(BM (Ea (i:=1) a rfl (Or.inl rfl) bE) (BM (TQ AAR rfl (YS (pv 0)) (L8 rfl (DA (Dp (i:=2) a rfl (Or.inl rfl)) (DA (Dp (i:=3) a rfl (Or.inl rfl)) (DA (Dp (i:=4) a rfl (Or.inl rfl)) IU)))) (BM (Ea (i:=5) a rfl (Or.inl rfl) (L7 (B0 (pv 2) (B0 (Bk TK As (pv 3)) EZ)))) (BM (Uw hu (pv 1) (pv 5) (Bk F3 (RE hu (pv 1) (pv 5) As ⟨rfl,rfl,rfl,rfl⟩) As) rfl) (Dq (Uv (KZ Uq (pv 4) YN (Ca _)) (BM (Ea (i:=6) a rfl (Or.inl rfl) (L7 (B0 (pv 4) (B0 As EZ)))) (Dq (Uw hu (pv 1) (pv 6) (Bk TK (RE hu (pv 1) (pv 6) As ⟨rfl,rfl,rfl,rfl⟩) As) rfl))) KY))))) (Dq (MA (pv 1))))), ?_⟩;exact Tp va r hx hz e λp j ex k hp=>hQ _ (.dct m) T j (VG va ex) (bT va k hp) hq
theorem WF (F:Z1 K "levels" MI f U)(d:Xe P w K Z Y n)(e:Sm P w K Z Y n)(g:Z "list" =none):Z2 P w K Z Y n f U ["stretches","steps","told","count","moment","side"] 1 Fs:=by
 have b:(["moment","side"] :zy Str).Nodup:=by decide +kernel
 exact Dc F DK rfl λ_ _ _ _ _ _ c a=>(AL (Ck 1 a (AK e c rfl (Bp (AJ 0)))) (AL (Dj (i:=2) a rfl (Or.inl rfl) (Bm EF)) (AL (Ck 3 a AH) (AL (B4 AAR rfl (FG (AK d c rfl (Bp (Dh (DC rfl (FG (Dh (Ys c rfl g boot_list (Bp (AJ 1))))) (C7 (own:=2) (ix:= []) (N:= ["moment","side" ]) rfl rfl rfl rfl rfl rfl (λ_ _ _ _ _ _=>(Pb (n:=2) rfl (Db (Pp 0 b) (Db (Pp 1 b) Kh)))) (λ_ _ _ _ _ _=>CH) (λ_ _ _ _ _ _=>(AJ 0)))))))) (Es 4 a) (AN (B4 AAR rfl (FG (Ag (Ao AH AH))) (Es 5 a) (AN (BE (gH c (AJ 4) (AJ 5) (AJ 1)) (AL (Y1 (i:=3) a rfl (Or.inl rfl) (bW c (AJ 1) (AJ 4) (AJ 5) (λ_ _=>rfl)) gC) (AN (B5 (i:=2) AAt AAu BR (Bp (Ag (Fe (AJ 4) (AJ 5) (AJ 3))))))) A3))))) (AN (AY (AJ 2)))))))
theorem TB (F:Z1 K "counted" JJ f U)(b:Xc P w K Z Y n)(c:Z "tuple" =none):Z2 P w K Z Y n f U ["stretches","n","told","begin","moment","side","count"] 2 Du:=Dc F DK rfl λ_ _ _ _ _ _ d a=>(AL (Dj (i:=2) a rfl (Or.inl rfl) (Bm EF)) (AL (Ck 3 a BO) (AL (B4 AAR rfl (FG (AK b d rfl (Bp (AJ 0)))) (Cq (n:=3) rfl (Ae (Es 4 a) (Ae (Es 5 a) (Ae (Es 6 a) B3)))) (AN (BE (Ie (FN (Fa FJ (AJ 3) BO) (Ds (Fa je (AJ 6) (AJ 1))))) (AN (Ck 3 a (Ag (Ao (AJ 4) (Ab Cr AH (AJ 5)))))) (AN (BE (Ie (FN (Fa Pe (AJ 3) BO) (Ds (Fa GH (AJ 6) (AJ 1))))) (AL (B5 (i:=2) AAt AAu BR (Bp (Ag (Fe (AU (AJ 3) AH) (AU (AJ 3) AH) (AJ 4))))) (AN (Ck 3 a BO))) A3))))) (AL (BE (Fa Pe (AJ 3) BO) (AN (B5 (i:=2) AAt AAu BR (Bp (Ag (Fe (AU (AJ 3) AH) (AU (AJ 3) AH) BO))))) A3) (AN (AY (BD DB rfl c ABE (Bp (AJ 2)))))))))
theorem RA (F:Z1 K "told_set" Hh f U)(a:Vs P w K Z Y n):Z2 P w K Z Y n f U ["stretches"] 1 D6:=Dc F DK rfl λ_ _ _ _ _ _ b _=>(AN (AY (AK a b rfl (Ao (AJ 0) AH))))
theorem Q4 (F:Z1 K "later_by" Hc f U)(c:Xd P w K Z Y n)(d:Sn P w K Z Y n):Z2 P w K Z Y n f U ["stretches","by","longer","begin","held","end"] 2 D4:=Dc F DK rfl λ_ _ _ _ _ _ b a=>(AL (Dj (i:=2) a rfl (Or.inl rfl) (Bm EF)) (AL (B4 AAR rfl (FG (AJ 0)) (Cq (n:=3) rfl (Ae (Es 3 a) (Ae (Es 4 a) (Ae (Es 5 a) B3)))) (AN (B5 (i:=2) AAt AAu BR (Bp (Ag (Fe (AJ 3) (AJ 4) (U7 (Fa FJ (AJ 5) BO) BO (AK c b rfl (Ao (AJ 5) (AJ 1)))))))))) (AN (AY (AK d b rfl (Bp (AJ 2)))))))
theorem WH (F:Z1 K "summed" MK f U)(g:Z "max" =none)(h:Z "tuple" =none)(j:Z "zip" =none):Z2 P w K Z Y n f U ["one","many","other","more","numbers","weights","number","weight"] 4 Fu:=by
 have a:(["former","latter","many","more"] :zy Str).Nodup:=by decide +kernel
 have b:(["number","weight","many"] :zy Str).Nodup:=by decide +kernel
 exact Dc F DK rfl λ_ _ _ _ _ _ e c=>(AL (Ck 4 c (BD DB rfl h ABE (Bp (Dh (DC rfl (WS rfl j (Ao (AU (AJ 0) AH) (AU (AJ 2) AH))) (C7 (own:=2) (ix:= [1,3]) (N:= ["former","latter" ,"many" ,"more" ]) rfl rfl rfl rfl rfl rfl (λ_ _ _ _ _ _=>(Pb (n:=2) rfl (Db (Pp 0 a) (Db (Pp 1 a) Kh)))) (λ_ _ _ _ _ _=>CH) (λ_ _ _ _ _ _=>(Ab A9 (Ab A2 (AJ 2) (AJ 0)) (Ab A2 (AJ 3) (AJ 1)))))))))) (Y3 (by decide) (by decide) (by decide) (by decide) (by decide) (by decide) (AU (AJ 0) AH) (AU (AJ 2) AH) (λk d=>YY (i:=5) rfl c rfl (Or.inl rfl) (RF d rfl rfl rfl rfl) (US (own:=2) (ix:= [1]) (N:= ["number","weight" ,"many" ]) rfl rfl rfl rfl rfl rfl (Xa (Lo (ON (by decide)) KM (Lo (ON (by decide)) KM Uc OO) (QV KM OO))) (λ_ _ _ _ _ _=>(L8 rfl (DA (Dp (i:=0) b rfl (Or.inl rfl)) (DA (Dp (i:=1) b rfl (Or.inl rfl)) IU)))) (λ_ _ _ _ _ _=>Us) (λ_ _ _ _ _ _=>(pv 0))) (λ_ _ _ _ _ _=>(Bk Ot (pv 2) (pv 1)))) (λk d=>TQ AAR rfl (RF d rfl rfl rfl rfl) (L8 rfl (DA (Dp (i:=6) c rfl (Or.inl rfl)) (DA (Dp (i:=7) c rfl (Or.inl rfl)) IU))) (Dq (bM (o9 e) (pv 5) (pv 6) (Bk F3 (YJ (o9 e) (pv 5) (pv 6) As ⟨rfl,rfl,rfl,rfl⟩) (Bk Ot (pv 3) (pv 7))) rfl))) (AN (AY (Ag (Fe (AJ 4) (BZ (fw rfl) rfl g boot_max (Ao (AU (AJ 0) AH) (AU (AJ 2) AH))) (AJ 5)))))))
theorem TC (F:Z1 K "crossed" JK f U)(a:Xf P w K Z Y n):Z2 P w K Z Y n f U ["low","high","at"] 3 El:=Dc F DK rfl λ_ _ _ _ _ _ b _=>(AN (AY (AK a b rfl (DT (AJ 0) (Fe (FE (AU (AU (AJ 1) AH) (AJ 2))) (AJ 1) (AU (AU (AJ 0) AH) (AJ 2)))))))
theorem Q3 (F:Z1 K "is_never" Ha f U):Z2 P w K Z Y n f U ["plane","total"] 1 DI:=Dc F DK rfl λ_ _ _ _ _ _ a b=>(AL (Ck 1 b (AU (AU (AJ 0) AH) AH)) (AN (AY (ja (EG GH (AJ 1) AH (Ca _)) (PP (Te (EG (FZ a) (AJ 1) AH (Ca _)) (PP (EG (FZ a) (AU (AJ 0) AH) AH (Ca _)))))))))
theorem TF (F:Z1 K "turn_of" JM f U):Z2 P w K Z Y n f U ["plane","at","total","factor"] 2 Cs:=Dc F DK rfl λ_ _ _ _ _ _ _ a=>(AL (Ck 2 a (AU (AU (AJ 0) AH) AH)) (AL (Ck 3 a (AU (AU (AJ 0) AH) (AJ 1))) (AN (AY (U7 (Fa Jl (AJ 3) AH) (Ag (Ao (FE (AJ 2)) (AJ 3))) (Ag (Ao (AJ 2) (FE (AJ 3)))))))))
theorem NC (F:Z1 K "is_tighter" FC f U)(b:Qb P w K Z Y n)(c:Ni P w K Z Y n):Z2 P w K Z Y n f U ["plane","other","at","here","there"] 3 C1:=Dc F DK rfl λ_ _ _ _ _ _ a d=>(AL (Ck 3 d (AK c a rfl (Ao (AJ 0) (AJ 2)))) (AL (Ck 4 d (AK c a rfl (Ao (AJ 1) (AJ 2)))) (AL (BE (CD (AK b a rfl (Ao (AJ 3) (AJ 4)))) (AN (AY (EG GH (AU (AU (AJ 0) AH) (AJ 2)) AH (Ca _)))) A3) (AL (BE (CD (AK b a rfl (Ao (AJ 4) (AJ 3)))) (AN (AY (EG Jl (AU (AU (AJ 0) AH) (AJ 2)) AH (Ca _)))) A3) (AN (AY (EG Jl (AU (AJ 0) AH) (AU (AJ 1) AH) (Ca _))))))))
theorem Q9 (F:Z1 K "tightest" Hg f U)(b:OR P w K Z Y n):Z2 P w K Z Y n f U ["planes","at","sign","told","plane"] 3 CP:=Dc F DK rfl λ_ _ _ _ _ _ c a=>(AL (Ck 3 a BO) (AL (B4 AAR rfl (FG (AJ 0)) (Es 4 a) (AN (BE (Ie (FN (Fa Jl (Ab A2 (AU (AU (AJ 4) AH) (AJ 1)) (AJ 2)) AH) (Ds (Ie (RX (Fa FJ (AJ 3) BO) (MV (CD (AK b c rfl (Fe (AJ 4) (AJ 3) (AJ 1)))))))))) (AN (Ck 3 a (AJ 4))) A3))) (AN (AY (AJ 3)))))
theorem Q1 (F:Z1 K "fault_in" HZ f U)(e:Vt P w K Z Y n)(c:Sf P w K Z Y n)(d:Lr P w K Z Y n):Z2 P w K Z Y n f U ["planes","at","plane","high","both"] 2 D3:=Dc F DK rfl λ_ _ _ _ _ _ a b=>(AL (B4 AAR rfl (FG (AJ 0)) (Es 2 b) (AN (BE (Ie (FN (Fa (FZ a) (AU (AU (AJ 2) AH) (AJ 1)) AH) (Ds (CD (AK c a rfl (Bp (AJ 2))))))) (AN (AY (AJ 2))) A3))) (AL (Ck 3 b (AK d a rfl (Fe (AJ 0) (AJ 1) (FE AH)))) (AL (BE (Fa FJ (AJ 3) BO) (AN (AY BO)) A3) (AL (Ck 4 b (AK e a rfl (Fe (AK d a rfl (Fe (AJ 0) (AJ 1) AH)) (AJ 3) (AJ 1)))) (AN (AY (U7 (CD (AK c a rfl (Bp (AJ 4)))) (AJ 4) BO)))))))
theorem X9 (F:Z1 K "minus" PB f U)(a:Lq P w K Z Y n):Z2 P w K Z Y n f U ["one","other"] 2 DR:=Dc F DK rfl λ_ _ _ _ _ _ b _=>(AN (AY (AK a b rfl (Ao (Ab Cr (Ab A2 (AU (AJ 0) AH) (AU (AJ 1) AH)) (Ab A2 (AU (AJ 1) AH) (AU (AJ 0) AH))) (Ab A2 (AU (AJ 0) AH) (AU (AJ 1) AH))))))
theorem ap (F:Z1 K "over" TZ f U)(a:Lq P w K Z Y n):Z2 P w K Z Y n f U ["one","other"] 2 LU:=Dc F DK rfl λ_ _ _ _ _ _ b _=>(AN (AY (AK a b rfl (Ao (Ab A2 (AU (AJ 0) AH) (AU (AJ 1) AH)) (Ab A2 (AU (AJ 0) AH) (AU (AJ 1) AH))))))
theorem YB (F:Z1 K "times" PF f U)(a:Lq P w K Z Y n):Z2 P w K Z Y n f U ["one","other"] 2 IA:=Dc F DK rfl λ_ _ _ _ _ _ b _=>(AN (AY (AK a b rfl (Ao (Ab A2 (AU (AJ 0) AH) (AU (AJ 1) AH)) (Ab A2 (AU (AJ 0) AH) (AU (AJ 1) AH))))))
theorem JD (F:Z1 K "piece_between" Df f U)(c:OS P w K Z Y n)(d:dz P w K Z Y n)(e:aF P w K Z Y n)(g:Z "zip" =none):Z2 P w K Z Y n f U ["former","latter","span","lines","low","high","slope"] 2 Bf:=Dc F DK rfl λ_ _ _ _ _ _ a b=>(AL (Ck 2 b (AK c a rfl (Ao (AU (AJ 1) AH) (AU (AJ 0) AH)))) (AL (Dj (i:=3) b rfl (Or.inl rfl) (Bm EF)) (AL (B4 AAR rfl (WS rfl g (Ao (Jj (AJ 0) (c6 AH) c5) (Jj (AJ 1) (c6 AH) c5))) (Cq (n:=2) rfl (Ae (Es 4 b) (Ae (Es 5 b) B3))) (AL (Ck 6 b (AK d a rfl (Ao (AK c a rfl (Ao (AJ 5) (AJ 4))) (AJ 2)))) (AN (B5 (i:=3) AAt AAu BR (Bp (Ag (Ao (AK c a rfl (Ao (AJ 4) (AK e a rfl (Ao (AJ 6) (AU (AJ 0) AH))))) (AJ 6)))))))) (AN (AY (Ag (Fe (AU (AJ 0) AH) (AU (AJ 1) AH) (AJ 3))))))))
theorem Oq (F:Z1 K "pieces_of" GE f U)(b:J7 P w K Z Y n)(c:Z "len" =none)(d:Z "range" =none):Z2 P w K Z Y n f U ["plan"] 1 DV:=by
 have a:(["at","plan"] :zy Str).Nodup:=by decide +kernel
 exact Dc F DK rfl λ_ _ _ _ _ _ e _=>(AN (AY (Dh (DC rfl (Nu rfl d (Bp (Ab Cr (BZ GG rfl c ABF (Bp (AJ 0))) AH))) (C7 (own:=1) (ix:= [0]) (N:= ["at","plan" ]) rfl rfl rfl rfl rfl rfl (λ_ _ _ _ _ _=>(Pp 0 a)) (λ_ _ _ _ _ _=>CH) (λ_ _ _ _ _ _=>(AK b e rfl (Ao (AU (AJ 1) (AJ 0)) (AU (AJ 1) (Ab A9 (AJ 0) AH))))))))))
theorem Q5 (F:Z1 K "negative" Hd f U):Z2 P w K Z Y n f U ["number"] 1 DJ:=Dc F DK rfl λ_ _ _ _ _ _ _ _=>(AN (AY (Ag (Ao (FE (AU (AJ 0) AH)) (AU (AJ 0) AH)))))
theorem JE (F:Z1 K "shared_bottom" Dg f U)(b:Qc P w K Z Y n):Z2 P w K Z Y n f U ["numbers","told","top","bottom"] 1 B7:=Dc F DK rfl λ_ _ _ _ _ _ c a=>(AL (Ck 1 a AH) (AL (B4 AAR rfl (FG (AJ 0)) (Cq (n:=2) rfl (Ae (Es 2 a) (Ae (Es 3 a) B3))) (AN (Y1 (i:=1) a rfl (Or.inl rfl) (Ab FI (AJ 3) (AK b c rfl (Ao (AJ 1) (AJ 3)))) gD))) (AN (AY (AJ 1)))))
theorem Q6 (F:Z1 K "plane_of" He f U)(c:J8 P w K Z Y n)(d:Z "tuple" =none):Z2 P w K Z Y n f U ["form","strict","number","shared","numbers"] 3 Bz:=by
 have a:(["top","bottom","shared"] :zy Str).Nodup:=by decide +kernel
 exact Dc F DK rfl λ_ _ _ _ _ _ e b=>(AL (MS (i:=3) b rfl (Or.inr rfl) (AK c e rfl (Bp (AJ 0)))) (AL (Ck 4 b (BD DB rfl d ABE (Bp (Dh (DC rfl (FG (AJ 0)) (C7 (own:=2) (ix:= [3]) (N:= ["top","bottom" ,"shared" ]) rfl rfl rfl rfl rfl rfl (λ_ _ _ _ _ _=>(Pb (n:=2) rfl (Db (Pp 0 a) (Db (Pp 1 a) Kh)))) (λ_ _ _ _ _ _=>CH) (λ_ _ _ _ _ _=>(Ab A2 (AJ 0) (Ab FI (AJ 2) (AJ 1)))))))))) (AN (AY (Ag (Fe (AJ 4) (AJ 1) (fz (AJ 2) (AJ 3))))))))
theorem Os (F:Z1 K "planes_in" GF f U)(g:OS P w K Z Y n)(h:Si P w K Z Y n)(e:Sj P w K Z Y n)(j:Z "len" =none)(k:Z "zip" =none)(a:Kc K Z "BACK" (.tup [(.int (-1)),(.int 1)]))(b:Kc K Z "ONCE" (.tup [(.int 1),(.int 1)])):Z2 P w K Z Y n f U ["piece","walls","planes","begin","end","lines","base","slope","low","high"] 2 DW:=Dc F DK rfl λ_ _ _ _ _ _ c d=>(AL (Ph (AJ 0) (Cq (n:=3) rfl (Ae (Es 3 d) (Ae (Es 4 d) (Ae (Es 5 d) B3))))) (AL (Dj (i:=2) d rfl (Or.inl rfl) (Bm (Ao (AK e c rfl (Fe (Ag (Ao (AK h c rfl (Bp (AJ 3))) (RP b rfl))) AH AH)) (AK e c rfl (Fe (Ag (Ao (AJ 4) (RP a rfl))) AH AH))))) (AL (B4 AAR rfl (WS rfl k (Ao (AJ 5) (AJ 1))) (Cq (n:=2) rfl (Ae (Cq (n:=2) rfl (Ae (Es 6 d) (Ae (Es 7 d) B3))) (Ae (Cq (n:=2) rfl (Ae (Es 8 d) (Ae (Es 9 d) B3))) B3))) (AL (B5 (i:=2) AAt AAu BR (Bp (PN (AK e c rfl (Fe (Ag (Ao (AK g c rfl (Ao (AJ 6) (AJ 8))) (AJ 7))) AH (BZ GG rfl j ABF (Bp (AJ 2)))))))) (AN (B5 (i:=2) AAt AAu BR (Bp (PN (AK e c rfl (Fe (Ag (Ao (AK g c rfl (Ao (AJ 9) (AJ 6))) (AK h c rfl (Bp (AJ 7))))) AH (BZ GG rfl j ABF (Bp (AJ 2))))))))))) (AN (AY (AJ 2))))))
theorem Q7 (F:Z1 K "range_in" Hf f U)(c:Lq P w K Z Y n)(d:Lr P w K Z Y n)(e:Ni P w K Z Y n):Z2 P w K Z Y n f U ["planes","at","low","least","high","greatest"] 2 D5:=Dc F DK rfl λ_ _ _ _ _ _ a b=>(AL (Ck 2 b (AK d a rfl (Fe (AJ 0) (AJ 1) AH))) (AL (Ck 3 b (AK e a rfl (Ao (AJ 2) (AJ 1)))) (AL (Ck 3 b (AK c a rfl (Ao (AU (AJ 3) AH) (AU (AJ 3) AH)))) (AL (Ck 4 b (AK d a rfl (Fe (AJ 0) (AJ 1) (FE AH)))) (AL (BE (Fa FJ (AJ 4) BO) (AN (AY (Ag (Fe (AJ 3) (Ab Cr AH (AU (AJ 2) AH)) BO)))) A3) (AL (Ck 5 b (AK e a rfl (Ao (AJ 4) (AJ 1)))) (AN (AY (Ag (Fe (AJ 3) (Ab Cr AH (AU (AJ 2) AH)) (AK c a rfl (Ao (AU (AJ 5) AH) (AU (AJ 5) AH)))))))))))))
theorem Op (F:Z1 K "own_stays" GD f U)(c:Se P w K Z Y n)(d:Qf P w K Z Y n)(e:Qg P w K Z Y n)(g:Sk P w K Z Y n):Z2 P w K Z Y n f U ["plan","walls","told","piece","planes"] 2 DU:=Dc F DK rfl λ_ _ _ _ _ _ a b=>(AL (Dj (i:=2) b rfl (Or.inl rfl) (Bm EF)) (AL (B4 AAR rfl (FG (AK d a rfl (Bp (AJ 0)))) (Es 3 b) (AL (Ck 4 b (AK e a rfl (Ao (AJ 3) (AJ 1)))) (AN (BE (Fa FJ (AK c a rfl (Ao (AJ 4) AH)) BO) (AN (B5 (i:=2) AAt AAu BR (Bp (AK g a rfl (Ao (AJ 4) AH))))) A3)))) (AN (AY (AJ 2)))))
theorem TD (F:Z1 K "size_of" JL f U):Z2 P w K Z Y n f U ["apart","side"] 2 Dx:=Dc F DK rfl λ_ _ _ _ _ _ a _=>(AN (AY (U7 (Fa (FZ a) (AJ 1) AH) (AU (AJ 0) AH) (AU (AJ 0) AH))))
theorem RB (F:Z1 K "walls_of" Hi f U)(c:OS P w K Z Y n)(d:Xd P w K Z Y n)(e:Vu P w K Z Y n)(g:Z "range" =none):Z2 P w K Z Y n f U ["room","bounds","told","side","off"] 2 D7:=Dc F DK rfl λ_ _ _ _ _ _ a b=>(AL (Dj (i:=2) b rfl (Or.inl rfl) (Bm EF)) (AL (B4 AAR rfl (Nu rfl g (Bp AH)) (Es 3 b) (AL (Ck 4 b (AK e a rfl (Ao (AJ 1) (AJ 3)))) (AN (B5 (i:=2) AAt AAu BR (Bp (Ag (Ao (AK c a rfl (Ao (AU (AU (AJ 0) AH) (AJ 3)) (AJ 4))) (AK d a rfl (Ao (AU (AU (AJ 0) AH) (AJ 3)) (AJ 4)))))))))) (AN (AY (AJ 2)))))
theorem YA (F:Z1 K "stays" PD f U)(c:Sg P w K Z Y n)(d:Qe P w K Z Y n)(e:So P w K Z Y n):Z2 P w K Z Y n f U ["flight","room","plan","bounds"] 2 Ew:=Dc F DK rfl λ_ _ _ _ _ _ a b=>(AL (Ph (AJ 0) (Cq (n:=2) rfl (Ae (Es 2 b) (Ae (Es 3 b) B3)))) (AN (AY (AK c a rfl (Ao (AK d a rfl (Ao (AJ 2) (AK e a rfl (Ao (AJ 1) (AJ 3))))) (AU (AJ 3) AH))))))
theorem fA (F:Z1 K "law" Nr f U)(c:DX P w K Z Y n)(h:Sa P w K Z Y n)(i:OP P w K Z Y n)(j:Sc P w K Z Y n)(k:QW P w K Z Y n)(l:QX P w K Z Y n)(d:QY P w K Z Y n)(o:Qa P w K Z Y n)(e:aE P w K Z Y n)(p:Z "len" =none)(r:Z "min" =none)(s:Z "range" =none)(g:Z "str" =none):Z2 P w K Z Y n f U ["_law_script","_law_k","_law_tape_here","_law_plan_here","_law_room_here","_law_flight","_law_handed","_law_kept","_law_due"] 1 Dv:=Dc F DK rfl λ_ _ _ _ _ _ a b=>(AL (B4 AAR rfl (Nu rfl s (Bp (Ab A9 AH (BZ (fx rfl) rfl r boot_min (Ao AH (BZ GG rfl p ABF (Bp (AJ 0)))))))) (Es 1 b) (AL (Ck 2 b (AK o a rfl (Ao (AJ 0) (AJ 1)))) (AL (Ck 3 b (AK k a rfl (Bp (AJ 2)))) (AL (BE (Fa (FZ a) (AK c a rfl (Ao (AJ 2) AH)) AH) (AN (Ck 3 b (AK h a rfl (Bp (AJ 3))))) A3) (AL (Ck 4 b (AK l a rfl (Bp (AJ 2)))) (AL (Ck 5 b (Ag (Ao (AJ 3) (Ag (Fe (Ag (Ao AH AH)) (Ag (Ao AH AH)) (Ag (Ao AH AH))))))) (AL (Ck 6 b (Ag (Ao (AJ 5) (AJ 4)))) (AL (BE (Fa (FZ a) (AK c a rfl (Ao (AJ 2) AH)) AH) (AN (Ck 6 b (AK i a rfl (Ao (AJ 5) (AJ 4))))) A3) (AL (Ck 7 b (BD (PJ a) rfl g boot_str (Bp (AJ 6)))) (AL (Ck 8 b (AK j a rfl (Fe (AJ 3) (AU (AJ 4) AH) (AU (AJ 4) AH)))) (AL (BE (Ie (RX (MT (CD (AK d a rfl (Ao (AK e a rfl (Ao (AU (AJ 6) AH) (AU (AJ 6) AH))) (AJ 8))))) (MV (MT (CD (AK d a rfl (Ao (AK e a rfl (Ao (AU (AJ 6) AH) (AU (AJ 6) AH))) (AJ 8)))))))) (AN (AY Nt)) A3) (AN (BE (Fa (RT a) (BD (PJ a) rfl g boot_str (Bp (AJ 6))) (AJ 7)) (AN (AY Nt)) A3))))))))))))) (AN (AY Nt)))
end
def d3 {P:zp}{w:zm}{K:AAB}{Z:Str->zt zx}{Y:zl}{k:Nat}{x:Str}{st:Stmt}{a:zy Str}{sp:Sp}{f:zu}{U:FuncData}(F:Ry K x x st f U)(b:Binds K U a [])(m:Z x=some (.ref f))(G:D8 P w K Z Y P5 k f U a sp):Has P w K Z Y k x a sp:=⟨f,U,m,F.kp,b,G⟩
def iu {us:zy zx}(hl:us.length=1):∃a:zx,us= [a] :=by match us,hl with | [a],_=>exact⟨_,rfl⟩
def iy {us:zy zx}(hl:us.length=2):∃a b:zx,us= [a,b] :=by match us,hl with | [a,b],_=>exact⟨_,_,rfl⟩
def i0 {us:zy zx}(hl:us.length=3):∃a b c:zx,us= [a,b,c] :=by match us,hl with | [a,b,c],_=>exact⟨_,_,_,rfl⟩
def i3 {us:zy zx}(hl:us.length=4):∃a b c d:zx,us= [a,b,c,d] :=by match us,hl with | [a,b,c,d],_=>exact⟨_,_,_,_,rfl⟩
def DE (K:AAB)(x:Str)(st:Stmt)(f:zu):Prop:=PySem.W.nsIn K mainGlobals x=some (some (.ref f))/\∃U,Ry K x x st f U
def oF {K:AAB}{x:Str}{st:Stmt}{f:zu}{g:zx}{h i:zt zu}{d:Array (zt zx)}{kV e j b ct:zx}(a:PySem.W.nsIn K mainGlobals x=some (some (.ref f)))(l:K.lookup f=some ⟨g,h, .func (PySem.W.fnOf x x (E3 st) (DS st) (A6 st) .none kV e j i b ct),d⟩)(c:PySem.W.codeIn K b x=true)(k:PySem.W.keepIn K (.ref f)=true):DE K x st f:=⟨a,_,XX l c k⟩
def lM {P:zp}{w:zm}{K:AAB}{h Y:zl}{Z:Str->zt zx}{k:Nat}{x:Str}{st:Stmt}{c:zy Str}{sp:Sp}{f:zu}(A:DE K x st f)(X:K.In h)(G:h.Ns mainGlobals Z)(g:∀U,Ry K x x st f U->Binds K U c [] ->Z x=some (.ref f)->D8 P w K Z Y P5 k f U c sp)(b:∀U,Ry K x x st f U->Binds K U c [] :=by exact λ_ F=>F.binds λ_ _ _ _ _ _ us hl=>by first | (obtain⟨_,rfl⟩:=iu hl;rfl)|(obtain⟨_,_,rfl⟩:=iy hl;rfl)|(obtain⟨_,_,_,rfl⟩:=i0 hl;rfl)|(obtain⟨_,_,_,_,rfl⟩:=i3 hl;rfl)):Has P w K Z Y k x c sp:=
 let ⟨a,U,F⟩:=A;d3 F (b U F) (ACJ X G a) (g U F (b U F) (ACJ X G a))
def all_mk {l:PySem.W.OpenLaw}{w:zm}{K:AAB}{h:zl}{Z:Str->zt zx}{fa f1 f2 f3 f4 f5 f6 f7 f8 f9 H I J L M N O P Q R S T f22 f23 f24 f25 f26 f27 f28 f29 f30 f31 f32 f33 f34 f35 f36 f37 f38 f39 f40 f41 f42 f43 f44 f45 f46 f47 f48 f49 f50 f51 f52 f53 f54 f55:zu}(X:K.In h)(G:h.Ns mainGlobals Z)(rg:Z "law" =some (.ref fa))(a1:DE K "_law_draw" ET f1)(a2:DE K "_law_part" F7 f2)(a3:DE K "_law_sum" HY f3)(a4:DE K "_law_far" HU f4)(a5:DE K "_law_lists" E8 f5)(a6:DE K "_law_less" F6 f6)(a7:DE K "_law_off" HV f7)(a8:DE K "_law_product" EE f8)(a9:DE K "_law_ratio" FB f9)(a10:DE K "_law_spot" GC H)(a11:DE K "_law_is_inside" DQ I)(a12:DE K "_law_rising" Eb J)(a13:DE K "_law_marks" E9 L)(a14:DE K "_law_middles" ED M)(a15:DE K "_law_set" HX N)(a16:DE K "_law_own" HW O)(a17:DE K "_law_place" FA P)(a18:DE K "_law_span" GB Q)(a19:DE K "_law_plan" F8 R)(a20:DE K "_law_room" F9 S)(a21:DE K "_law_same" GA T)(a22:DE K "_law_tape" EU f22)(a23:DE K "common" MH f23)(a24:DE K "part" Ta f24)(a25:DE K "plus" Tc f25)(a26:DE K "before" MG f26)(a27:DE K "count_below" Ec f27)(a28:DE K "rising" MJ f28)(a29:DE K "steps_of" FD f29)(a30:DE K "levels" MI f30)(a31:DE K "counted" JJ f31)(a32:DE K "told_set" Hh f32)(a33:DE K "later_by" Hc f33)(a34:DE K "summed" MK f34)(a35:DE K "crossed" JK f35)(a36:DE K "is_never" Ha f36)(a37:DE K "turn_of" JM f37)(a38:DE K "is_tighter" FC f38)(a39:DE K "tightest" Hg f39)(a40:DE K "fault_in" HZ f40)(a41:DE K "minus" PB f41)(a42:DE K "over" TZ f42)(a43:DE K "times" PF f43)(a44:DE K "piece_between" Df f44)(a45:DE K "pieces_of" GE f45)(a46:DE K "negative" Hd f46)(a47:DE K "shared_bottom" Dg f47)(a48:DE K "plane_of" He f48)(a49:DE K "planes_in" GF f49)(a50:DE K "range_in" Hf f50)(a51:DE K "own_stays" GD f51)(a52:DE K "size_of" JL f52)(a53:DE K "walls_of" Hi f53)(a54:DE K "stays" PD f54)(C:DE K "law" Nr f55)(k:PySem.W.nsIn K mainGlobals "abs" =some none)(m:PySem.W.nsIn K mainGlobals "all" =some none)(a:PySem.W.nsIn K mainGlobals "enumerate" =some none)(o:PySem.W.nsIn K mainGlobals "int" =some none)(p:PySem.W.nsIn K mainGlobals "len" =some none)(d:PySem.W.nsIn K mainGlobals "list" =some none)(r:PySem.W.nsIn K mainGlobals "max" =some none)(t:PySem.W.nsIn K mainGlobals "min" =some none)(b:PySem.W.nsIn K mainGlobals "range" =some none)(u:PySem.W.nsIn K mainGlobals "str" =some none)(c:PySem.W.nsIn K mainGlobals "tuple" =some none)(x:PySem.W.nsIn K mainGlobals "zip" =some none){qBACK_2:Tok}{qBACK_3:Tok}{qBACK_1:zu}{qBACK_1n:Nat}{qBACK_1d:zt zu}{qBACK_1s:Array (zt zx)}{qONCE_5:Tok}{qONCE_6:Tok}{qONCE_4:zu}{qONCE_4n:Nat}{qONCE_4d:zt zu}{qONCE_4s:Array (zt zx)}(a_ONCE:PySem.W.nsIn K mainGlobals "ONCE" =some (some (.ref qONCE_4)))(a_BACK:PySem.W.nsIn K mainGlobals "BACK" =some (some (.ref qBACK_1)))(h_qBACK_1:K.lookup qBACK_1=some ⟨.type "tuple",qBACK_1d, .seq (List.toArray [(.int (-1) qBACK_2),(.int 1 qBACK_3)]) qBACK_1n,qBACK_1s⟩)(h_qONCE_4:K.lookup qONCE_4=some ⟨.type "tuple",qONCE_4d, .seq (List.toArray [(.int 1 qONCE_5),(.int 1 qONCE_6)]) qONCE_4n,qONCE_4s⟩):∃U:FuncData,(∀(s:zw) (v:zx),BindsTo s U ⟨[v], []⟩ [("_law_script",v)])/\∀Y:zl,K.In Y->Y.Ns mainGlobals Z->D8 l.prog w K Z Y P5 9 fa U ["_law_script"] (Cj K 1 Dv):=by have e:=rg.symm.trans (ACJ X G C.1);cases e;obtain⟨aL,fdL,FL⟩:=C;obtain⟨⟨oc,od,kV,doc,pm,an,cdv,ct,osl,eL,lL,cL⟩,kL⟩:=FL;subst eL;have FL:=XX lL cL kL;have Fb:=AAz X G k;have ZS:=AAz X G m;have Cz:=AAz X G a;have N2:=AAz X G o;have i:=AAz X G p;have FQ:=AAz X G d;have ZT:=AAz X G r;have ZU:=AAz X G t;have y:=AAz X G b;have Jo:=AAz X G u;have j:=AAz X G c;have z:=AAz X G x;have f:Kc K Z "BACK" (.tup [(.int (-1)),(.int 1)]):=ck (ACJ X G a_BACK) (U0 h_qBACK_1 (.cons Ka (.cons Ka .nil)));have g:Kc K Z "ONCE" (.tup [(.int 1),(.int 1)]):=ck (ACJ X G a_ONCE) (U0 h_qONCE_4 (.cons Ka (.cons Ka .nil)));refine⟨PySem.W.fnOf "law" "law" (E3 Nr) (DS Nr) (A6 Nr) .none kV doc pm an cdv ct,λs v=> .of_eq rfl,λY _ _=> ?_⟩;have hs:= @lM l.prog w K h Y Z;have H1:=hs a1 X G λ_ F _ _=>Of (n:=0) F;have A:=hs a2 X G λ_ F _ _=>Oh (n:=0) F Fb N2;have B:=hs a3 X G λ_ F _ _=>Q0 (n:=1) F (Bj A);have H4:=hs a4 X G λ_ F _ _=>Qw (n:=2) F (Bj B) j;have H5:=hs a5 X G λ_ F _ _=>M8 (n:=0) F FQ;have E:=hs a6 X G λ_ F _ _=>Og (n:=0) F;have H7:=hs a7 X G λ_ F _ _=>Qx (n:=1) F (Bj A);have H8:=hs a8 X G λ_ F _ _=>KD (n:=1) F (Bj A);have H9:=hs a9 X G λ_ F _ _=>NB (n:=1) F (Bj A);have qN:=hs a10 X G λ_ F _ _=>On (n:=2) F (Bj E) (Bj H7) (Bj H8) (Bj H9) (Bj B) y j z;have qO:=hs a11 X G λ_ F _ _=>IS (n:=3) F (Bj E) (Bj qN) ZS y;have qP:=hs a12 X G λ_ F _ _=>L3 (n:=1) F (Bj E) i;have qQ:=hs a13 X G λ_ F _ _=>M9 (n:=2) F (Bj E) (Bj H7) (Bj H8) (Bj H9) (Bj qP) (Bj B) Cz z;have qR:=hs a14 X G λ_ F _ _=>KC (n:=2) F (Bj H8) (Bj B) z;have qS:=hs a15 X G λ_ F _ _=>Qz (n:=0) F Cz j;have qT:=hs a16 X G λ_ F _ _=>Qy (n:=4) F (Bj qO) (Bj qQ) (Bj qR) (Bj qS);have nk:=hs a17 X G λ_ F _ _=>NA (n:=1) F (Bj H1) (Bj A);have nn:=hs a18 X G λ_ F _ _=>Om (n:=1) F (Bj H1) (Bj A);have qU:=hs a19 X G λ_ F _ _=>Oi (n:=2) F (Bj H1) (Bj nk) (Bj nn) (Bj B) i j;have qV:=hs a20 X G λ_ F _ _=>Oj (n:=2) F (Bj H1) (Bj H7) (Bj nk) (Bj nn) (Bj B) y j;have qW:=hs a21 X G λ_ F _ _=>Ol (n:=0) F Jo;have qX:=hs a22 X G λ_ F _ _=>Oo (n:=0) F Fb N2 i;have nr:=hs a23 X G λ_ F _ _=>WE (n:=0) F;have D:=hs a24 X G λ_ F _ _=>aq (n:=1) F (Bj nr) Fb;have nu:=hs a25 X G λ_ F _ _=>au (n:=2) F (Bj D);have nw:=hs a26 X G λ_ F _ _=>WD (n:=0) F;have qY:=hs a27 X G λ_ F _ _=>L4 (n:=1) F (Bj nw) i;have qZ:=hs a28 X G λ_ F _ _=>WG (n:=2) F (Bj qY) i;have qa:=hs a29 X G λ_ F _ _=>Q8 (n:=0) F;have qc:=hs a30 X G λ_ F _ _=>WF (n:=3) F (Bj qZ) (Bj qa) FQ;have qd:=hs a31 X G λ_ F _ _=>TB (n:=4) F (Bj qc) j;have qe:=hs a32 X G λ_ F _ _=>RA (n:=5) F (Bj qd);have qg:=hs a33 X G λ_ F _ _=>Q4 (n:=6) F (Bj nu) (Bj qe);have qh:=hs a34 X G λ_ F _ _=>WH (n:=0) F ZT j z;have qi:=hs a35 X G λ_ F _ _=>TC (n:=1) F (Bj qh);have qj:=hs a36 X G λ_ F _ _=>Q3 (n:=0) F;have nz:=hs a37 X G λ_ F _ _=>TF (n:=0) F;have qk:=hs a38 X G λ_ F _ _=>NC (n:=1) F (Bj nw) (Bj nz);have n8:=hs a39 X G λ_ F _ _=>Q9 (n:=2) F (Bj qk);have qm:=hs a40 X G λ_ F _ _=>Q1 (n:=3) F (Bj qi) (Bj qj) (Bj n8);have kW:=hs a41 X G λ_ F _ _=>X9 (n:=2) F (Bj D);have qo:=hs a42 X G λ_ F _ _=>ap (n:=2) F (Bj D);have qr:=hs a43 X G λ_ F _ _=>YB (n:=2) F (Bj D);have qt:=hs a44 X G λ_ F _ _=>JD (n:=3) F (Bj kW) (Bj qo) (Bj qr) z;have qu:=hs a45 X G λ_ F _ _=>Oq (n:=4) F (Bj qt) i y;have qv:=hs a46 X G λ_ F _ _=>Q5 (n:=0) F;have qw:=hs a47 X G λ_ F _ _=>JE (n:=1) F (Bj nr);have qy:=hs a48 X G λ_ F _ _=>Q6 (n:=2) F (Bj qw) j;have qz:=hs a49 X G λ_ F _ _=>Os (n:=3) F (Bj kW) (Bj qv) (Bj qy) i z f g;have q0:=hs a50 X G λ_ F _ _=>Q7 (n:=3) F (Bj D) (Bj n8) (Bj nz);have q5:=hs a51 X G λ_ F _ _=>Op (n:=5) F (Bj qm) (Bj qu) (Bj qz) (Bj q0);have q9:=hs a52 X G λ_ F _ _=>TD (n:=0) F;have rA:=hs a53 X G λ_ F _ _=>RB (n:=3) F (Bj kW) (Bj nu) (Bj q9) y;have rB:=hs a54 X G λ_ F _ _=>YA (n:=7) F (Bj qg) (Bj q5) (Bj rA);exact fA (n:=8) FL (Bj H1) (Bj H4) (Bj H5) (Bj qT) (Bj qU) (Bj qV) (Bj qW) (Bj qX) (Bj rB) i ZU y Jo
def walk {l:PySem.W.OpenLaw}{q:zp}{loose:zy Str}{XP:(Str->zt zx)->zl->Prop}{YP:zm->zl->Prop}{d:DefRec}{K:Params->AAB}(c:l.most=some 63)(e:d.params.defaults= [])(g:∀(w:zm) (h:zl),YP w h->(K w.params).In h)(F:∀(w:zm) (Z:Str->zt zx) (b:zu) (h:zl),(K w.params).In h->h.Ns mainGlobals Z->Z d.name=some (.ref b)-> ∃U:FuncData,(∀(s:zw) (u:zx),BindsTo s U ⟨[u], []⟩ [("_law_script",u)])/\∀Y:zl,(K w.params).In Y->Y.Ns mainGlobals Z->D8 l.prog w (K w.params) Z Y P5 9 b U ["_law_script"] (Cj (K w.params) 1 Dv)):PySem.W.WalkO q loose XP YP l.row.toRowW d [] (λf vs=>PySem.call f vs):=
 L2.walk_of (n:=63) (k:=9) (x:="_law_script") (CX:=λ_=>P5) (sp:=λw=>Cj (K w.params) 1 Dv) c (by decide) e ⟨rfl,by decide,by decide,rfl⟩ g F (λ_ _ a i hl _ j=>PL.law_sp j (Xy i hl)) λ_ _ _ _ _ z=>z
def atK {K:AAB}{x:String}{s:Stmt}(m:String)(i c f:Nat)(a:PySem.W.nsIn K mainGlobals (Str.ofString x)=some (some (.ref f)):=by kernel_rfl)(l:K.lookup f=some (fO x s m i c):=by kernel_rfl)(d:PySem.W.codeIn K (.ref c) (Str.ofString x)=true:=by kernel_rfl)(k:PySem.W.keepIn K (.ref f)=true:=by kernel_rfl):DE K (Str.ofString x) s f:=oF a l d k
end K40
open PySem PySem.W PyProof.Rows
def K40.lg:LeftO K40.pwA K40.q [] (λs=>xlAt K40.q [] s&&recOk [] s) (λs=>K40.KA.map s.heap.get?) (λw=>(K40.KK w.params).map λp=>some p.2) 6000:=λw=>PL.map_pair (PL.map5 (K40.l0 w) (K40.l1 w) (K40.l2 w) (K40.l3 w) (K40.l4 w)) (K40.l5 w)
theorem PySem.Challenge.cw_skylanes_k40_stays_holds : PySem.Challenge.rw_skylanes_k40_stays.Holds := by
 refine ⟨K40.w1, ?_⟩
 refine PySem.W.holds_open (q:=K40.q) (loose:= []) (Xt:=λs=>xlAt K40.q [] s&&recOk [] s) (XP:=XL K40.q []) (YP:=InK K40.KK) (N:=6000) K40.lg (InK.of (as:=K40.KA) λ_=>by kernel_rfl) InK.keeps (λs e=>xl_of s (Bool.and_eq_true_iff.mp e).1) XL.keeps (by rfl) (by rfl) (by rfl) (λs e=>recFacts_of (Bool.and_eq_true_iff.mp e).2) (by rfl) K40.w0 (by decide +kernel) ⟨rfl,rfl,rfl,rfl,rfl,by decide +kernel⟩ ?hw ?hc
 (case hw=>w_witness2)
 case hc=>
 refine K40.walk (l:=PySem.Challenge.rw_skylanes_k40_stays) (K:=K40.KK) rfl rfl (λw h Y=>Y) ?F
 intro w mg fa h KX G iV
 refine' K40.all_mk KX G iV (K40.atK K40.m0 511 245 246) (K40.atK K40.m0 511 252 253) (K40.atK K40.m0 511 266 267) (K40.atK K40.m0 511 313 314) (K40.atK K40.m0 511 362 363) (K40.atK K40.m0 511 259 260) (K40.atK K40.m0 511 273 274) (K40.atK K40.m0 511 280 281) (K40.atK K40.m0 511 287 288) (K40.atK K40.m0 511 318 319) (K40.atK K40.m0 511 340 341) (K40.atK K40.m0 511 330 331) (K40.atK K40.m0 511 335 336) (K40.atK K40.m0 511 345 346) (K40.atK K40.m0 511 352 353) (K40.atK K40.m0 511 357 358) (K40.atK K40.m0 511 294 295) (K40.atK K40.m0 511 301 302) (K40.atK K40.m0 511 308 309) (K40.atK K40.m0 511 323 324) (K40.atK K40.m0 511 369 370) (K40.atK K40.m0 511 238 239) (K40.atK K40.m1 187 20 21) (K40.atK K40.m1 187 27 28) (K40.atK K40.m1 187 34 35) (K40.atK K40.m1 187 62 63) (K40.atK K40.m1 187 76 77) (K40.atK K40.m1 187 83 84) (K40.atK K40.m2 277 90 91) (K40.atK K40.m2 277 95 96) (K40.atK K40.m2 277 102 103) (K40.atK K40.m2 277 109 110) (K40.atK K40.m2 277 116 117) (K40.atK K40.m3 340 133 134) (K40.atK K40.m3 340 140 141) (K40.atK K40.m3 340 147 148) (K40.atK K40.m3 340 154 155) (K40.atK K40.m3 340 161 162) (K40.atK K40.m3 340 168 169) (K40.atK K40.m3 340 175 176) (K40.atK K40.m1 187 41 42) (K40.atK K40.m1 187 55 56) (K40.atK K40.m1 187 48 49) (K40.atK K40.m4 426 198 199) (K40.atK K40.m4 426 203 204) (K40.atK K40.m4 426 191 192) (K40.atK K40.m1 187 69 70) (K40.atK K40.m3 340 128 129) (K40.atK K40.m5 461 217 218) (K40.atK K40.m3 340 182 183) (K40.atK K40.m5 461 224 225) (K40.atK K40.m6 330 123 124) (K40.atK K40.m5 461 210 211) (K40.atK K40.m5 461 231 232) (K40.atK K40.m0 511 376 377) (by kernel_rfl) (by kernel_rfl) (by kernel_rfl) (by kernel_rfl) (by kernel_rfl) (by kernel_rfl) (by kernel_rfl) (by kernel_rfl) (by kernel_rfl) (by kernel_rfl) (by kernel_rfl) (by kernel_rfl) ?a_ONCE ?a_BACK ?h_qBACK_1 ?h_qONCE_4 (qBACK_1:=185) (qBACK_1n:=0) (qBACK_1d:=none) (qBACK_1s:= #[]) (qBACK_2:=432) (qBACK_3:=433) (qONCE_4:=184) (qONCE_4n:=0) (qONCE_4d:=none) (qONCE_4s:= #[]) (qONCE_5:=428) (qONCE_6:=429)
 (case a_ONCE=>kernel_rfl)
 (case a_BACK=>kernel_rfl)
 (case h_qBACK_1=>kernel_rfl)
 (case h_qONCE_4=>kernel_rfl)
end
