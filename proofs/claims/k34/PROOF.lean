import PyProof.Rows.All
import KE.KItem
import KE.KDictList
import KE.IntBitsLaws
import PySem.Challenge.RW_skylanes_k34_the_bounds_ends
set_option Elab.async false
set_option linter.all false
set_option maxRecDepth 100000
set_option maxHeartbeats 0
abbrev zy:=@List
abbrev zx:=PySem.Value
abbrev zw:=PySem.Shared
abbrev zu:=PySem.Addr
abbrev zt:=@Option
abbrev zr:=PySem.Expr
abbrev zq:=Bool
abbrev zp:=PySem.Program
abbrev zm:=PySem.World
abbrev zl:=PySem.Heap
abbrev zk:=PySem.Around
abbrev AAA:=@PySem.wpAny_bind
abbrev AAB:=PySem.W.Frag
abbrev AAC:=@PySem.wpAny_pure
abbrev AAD:=@if_neg
abbrev AAE:=@if_pos
abbrev AAF:=@PySem.Heap.lt_size
abbrev AAG:=@PySem.Heap.get?_push_of_some
abbrev AAH:=@List.mem_cons
abbrev AAI:=@Nat.le_refl
abbrev AAJ:=@List.mem_map
abbrev AAK:=@Nat.ne_of_lt
abbrev AAL:=@List.length_map
abbrev AAM:=@List.map_cons
abbrev AAN:=@PySem.Heap.get?_push_size
abbrev AAO:=@Bool.false_ne_true
abbrev AAP:=@Nat.lt_of_lt_of_le
abbrev AAQ:=@List.mem_append
abbrev AAR:=@List.size_toArray
abbrev AAS:=@List.mem_filter
abbrev AAT:=@Nat.le_trans
abbrev AAU:=@List.getElem?_set_ne
abbrev AAV:=@decide_eq_true
abbrev AAW:=@PySem.wpAny_holding
abbrev AAX:=@Option.some.inj
abbrev AAY:=@PySem.PassesOwn.never
abbrev AAZ:=@if_false
abbrev AAa:=@decide_eq_false
abbrev AAb:=@List.mem_append_right
abbrev AAc:=@List.getElem?_eq_getElem
abbrev AAd:=@List.mem_singleton
abbrev AAe:=@PySem.wpAny_field
abbrev AAf:=@List.pairwise_cons
abbrev AAg:=@List.getElem?_map
abbrev AAh:=@List.sum_cons
abbrev AAi:=@Bool.false_eq_true
abbrev AAj:=@Nat.ne_of_gt
abbrev AAk:=@List.length_cons
abbrev AAl:=@Rat.intCast_mul
abbrev AAm:=@List.getElem?_eq_some_iff
abbrev AAn:=@Nat.lt_of_le_of_lt
abbrev AAo:=@if_true
abbrev AAp:=@Ne.symm
abbrev AAq:=@Rat.num_divInt_den
abbrev AAr:=@List.nil_append
abbrev AAs:=@PySem.W.mg_none_of
abbrev AAt:=@PySem.wpAny_call_entry
abbrev AAu:=@PySem.wpAny_seqItems
abbrev AAv:=@PySem.wpAny_newObj_type
abbrev AAw:=@Nat.zero_le
abbrev AAx:=@List.getElem?_append_right
abbrev AAy:=@List.length_append
abbrev AAz:=@Bool.and_eq_true
abbrev AA0:=@List.not_mem_nil
abbrev AA1:=@List.foldl_cons
abbrev AA2:=@List.mem_flatMap
abbrev AA3:=@Bool.not_true
abbrev AA4:=@List.mem_cons_self
abbrev AA5:=@List.mem_cons_of_mem
abbrev AA6:=@PySem.wpAny_mono
abbrev AA7:=@PySem.Heap.size_push
abbrev AA8:=@List.getElem?_append_left
abbrev AA9:=@of_decide_eq_true
abbrev ABA:=@Nat.le_of_ble_eq_true
abbrev ABB:=@or_false
abbrev ABC:=@List.cons_append
abbrev ABD:=@PySem.wpAny_setState_of
abbrev ABE:=@Nat.lt_irrefl
abbrev ABF:=@PySem.wpAny_standAt
abbrev ABG:=@List.getElem?_replicate
abbrev ABH:=@List.length_replicate
abbrev ABI:=@Int.fdiv_eq_ediv_of_nonneg
abbrev ABJ:=@List.any_cons
abbrev ABK:=@Int.natAbs_natCast
abbrev ABL:=@Int.mul_pos
abbrev ABM:=@PySem.W.mg_of
abbrev ABN:=@PySem.wpAny_specialOf
abbrev ABO:=@PySem.wpAny_rule
abbrev ABP:=@List.mem_range
abbrev ABQ:=@PySem.wpAny_passesOwn
abbrev ABR:=@List.nodup_cons
abbrev ABS:=@List.map_map
abbrev ABT:=@Nat.div_le_self
abbrev ABU:=@Int.natAbs_neg
abbrev ABV:=@Int.natCast_ediv
abbrev ABW:=@List.filter_cons
abbrev ABX:=@List.find?_cons
abbrev ABY:=@Rat.mul_eq_zero
abbrev ABZ:=@Rat.intCast_zero
abbrev ABa:=@Array.length_toList
abbrev ABb:=@List.getElem?_set_self
abbrev ABc:=@Int.mul_one
abbrev ABd:=@Bool.eq_iff_iff
abbrev ABe:=@PySem.codeAny_mono
abbrev ABf:=@PySem.wpAny_callSpecial?_slot
abbrev ABg:=@PyProof.Rows.slot_tuple_getitem
abbrev ABh:=@List.forIn_cons
abbrev ABi:=@Int.toNat_natCast
abbrev ABj:=@PySem.wpAny_of_eq
abbrev ABk:=@PySem.wpAny_setField_rec
abbrev ABl:=@List.map_congr_left
abbrev ABm:=@Int.natAbs_mul
abbrev ABn:=@Nat.gcd_comm
abbrev ABo:=@Nat.gcd_pos_of_pos_right
abbrev ABp:=@Nat.gcd_dvd_right
abbrev ABq:=@Nat.le_of_dvd
abbrev ABr:=@Rat.intCast_lt_intCast
abbrev ABs:=@Rat.mul_pos
abbrev ABt:=@Rat.mul_pos_iff_of_pos_left
abbrev ABu:=@List.length_filter_le
abbrev ABv:=@PySem.wpAny_isInstance
abbrev ABw:=@PySem.wpAny_truthy_bool
abbrev ABx:=@Nat.le_of_lt
abbrev ABy:=@PySem.sizeLine_eq
abbrev ABz:=@PySem.wpAny_call
abbrev AB0:=@PySem.mem_of_lookup
abbrev AB1:=@Prod.ext
abbrev AB2:=@List.map_nil
abbrev AB3:=@Nat.lt_trans
abbrev AB4:=@Nat.pow_add
abbrev AB5:=@Nat.succ_mul
abbrev AB6:=@decide_eq_decide
abbrev AB7:=@Option.map_eq_some_iff
abbrev AB8:=@List.map_append
abbrev AB9:=@List.foldl_append
abbrev ACA:=@PySem.F.called_set
abbrev ACB:=@Int.emod_nonneg
abbrev ACC:=@Int.emod_lt_of_pos
abbrev ACD:=@PySem.F.slot_list_append
abbrev ACE:=@PySem.F.type_list_append
abbrev ACF:=@PySem.F.slot_tuple_hash
abbrev ACG:=@Array.forIn_toList
abbrev ACH:=@PySem.wpAny_forIn_list
abbrev ACI:=@PySem.F.slot_tuple_eq
abbrev ACJ:=@PySem.wpAny_execs_nil
abbrev ACK:=@PyProof.Rows.callWith_type1
abbrev ACL:=@PySem.Heap.get?_update_self
abbrev ACN:=@PySem.Calls.callWith_builtin
abbrev ACO:=@List.reverse_cons
abbrev ACP:=@PySem.F.slot_tuple_iterator_next
abbrev ACQ:=@List.forIn_nil
abbrev ACR:=@PySem.wpAny_onRaise
abbrev ACS:=@PySem.F.slot_zip_next
abbrev ACT:=@List.all_eq_true
abbrev ACU:=@List.getElem?_set
abbrev ACV:=@List.take_of_length_le
abbrev ACW:=@Nat.pow_le_pow_right
abbrev ACX:=@Rat.num_divInt
abbrev ACY:=@Int.natCast_mul
abbrev ACZ:=@List.set_cons_succ
abbrev ACa:=@PySem.call_meetsIn
abbrev ACb:=@Nat.le_add_right
abbrev ACc:=@PySem.Heap.get?_update_ne
abbrev ACd:=@PySem.wpAny_askSetting
abbrev ACe:=@PySem.boot_len
abbrev ACf:=@Option.getD_some
abbrev ACg:=@decide_eq_true_iff
abbrev ACh:=@Int.le_refl
abbrev ACi:=@Rat.intCast_inj
abbrev ACj:=@Rat.divInt_eq_div
abbrev ACk:=@Rat.intCast_natCast
abbrev ACl:=@Nat.mul_le_mul
abbrev ACm:=@Nat.mul_lt_mul''
abbrev ACn:=@PySem.wpAny_tupleItemsOf
abbrev ACo:=@Nat.add_assoc
abbrev ACp:=@PySem.isSubtype_tuple_tuple
abbrev ACq:=@beq_eq_false_iff_ne
abbrev ACr:=@List.filterMap_cons
abbrev ACs:=@PySem.wpAny_assign_Name
abbrev ACt:=@Int.fmod_eq_emod_of_nonneg
abbrev ACu:=@PySem.Calls.spliced_cons
abbrev ACv:=@List.append_nil
abbrev ACw:=@PySem.wpAny_Call_Name_kw
abbrev ACx:=@List.of_mem_zip
abbrev ACy:=@List.length_take
abbrev ACz:=@List.mem_of_getElem?
abbrev AC0:=@PySem.noFill_tuple_add
abbrev AC1:=@PySem.F.slot_tuple_add
abbrev AC2:=@PySem.F.entry_tuple_add
abbrev AC3:=@PySem.F.args_tuple_add_2
abbrev AC4:=@PySem.wpAny_comprehension_free
abbrev AC5:=@PySem.wpAny_updateSeq_pair
abbrev AC6:=@PySem.wpAny_pyIter_list
abbrev AC7:=@List.drop_eq_getElem_cons
abbrev AC8:=@Nat.pow_succ
abbrev AC9:=@Rat.den_divInt
abbrev ADA:=@Nat.gcd_dvd_left
abbrev ADB:=@Int.sign_eq_one_of_pos
abbrev ADC:=@of_decide_eq_false
abbrev ADD:=@Int.mul_comm
abbrev ADE:=@Bool.true_or
abbrev ADF:=@PySem.tupleKind_room_in1
abbrev ADG:=@PySem.F.slot_dict_get
abbrev ADH:=@PySem.wpAny_Call_method
abbrev ADI:=@PySem.F.plainAttrs_dict
abbrev ADJ:=@List.getElem?_drop
abbrev ADK:=@Nat.zero_add
abbrev ADL:=@List.getElem_mem
abbrev ADM:=@PySem.codeAny_builtin
abbrev ADN:=@PySem.F.slot_set_init
abbrev ADO:=@Nat.dvd_trans
abbrev ADP:=@List.set_cons_zero
abbrev ADQ:=@Int.lt_trichotomy
abbrev ADR:=@decide_eq_false_iff_not
abbrev ADS:=@List.length_flatMap
abbrev ADT:=@Nat.two_pow_pos
abbrev ADU:=@Rat.intCast_add
abbrev ADV:=@Rat.le_of_lt
abbrev ADW:=@PySem.W.cellsFrom_some
abbrev ADX:=@PyProof.noPylong_of_log2
abbrev ADY:=@PySem.F.entry_tuple_iterator_next
abbrev ADZ:=@PySem.F.args_tuple_iterator_next_1
abbrev ADa:=@List.drop_eq_nil_of_le
abbrev ADb:=@Rat.divInt_mul_divInt
abbrev ADc:=@Int.gcd_eq_natAbs_gcd_natAbs
abbrev ADd:=@Int.fdiv_eq_ediv_of_dvd
abbrev ADe:=@Int.sign_eq_neg_one_of_neg
abbrev ADf:=@PySem.F.entry_dict_get
abbrev ADg:=@PySem.F.args_dict_get_3
abbrev ADh:=@PySem.F.slot_dict_itemiterator_iter
abbrev ADi:=@List.getElem?_eq_none_iff
abbrev ADj:=@PySem.F.slot_dict_items
abbrev ADk:=@PyProof.Rows.boot_set
abbrev ADl:=@PySem.F.plain_list_iadd
abbrev ADm:=@PySem.F.slot_dict_values
abbrev ADn:=@List.getLast?_eq_some_getLast
abbrev ADo:=@List.length_eq_zero_iff
abbrev ADp:=@List.dropLast_concat_getLast
section
namespace L2
open PySem
def Cv (s:Stmt):Arguments:=match s with
 | .FunctionDef _ a _ _ _ _ _ _ _ _=>a
 | _=>{posonlyargs:= [],args:= [],vararg:=none,kwonlyargs:= [],kw_defaults:= [],kwarg:=none,defaults:= [] }
def BW (s:Stmt):zy Stmt:=match s with
 | .FunctionDef _ _ b _ _ _ _ _ _ _=>b
 | _=> []
def Ai (s:Stmt):Scope:=match s with
 | .FunctionDef _ _ _ _ _ _ sc _ _ _=>sc
 | _=>{kind:= .function,names:= [],isGenerator:=false,isCoroutine:=false}
end L2
namespace K34
open PySem L2 PyProof.Rows
abbrev pwA:=PySem.Challenge.pw_skylanes_k34_the_bounds_ends
def top (i:Nat):Stmt:=K34.pwA.main.body.getD i (.Pass ⟨0,0,0,0⟩)
abbrev Dt:Stmt:=top 45
abbrev EW:Stmt:=top 56
abbrev D5:Stmt:=top 55
abbrev E7:Stmt:=top 46
abbrev EX:Stmt:=top 52
abbrev DW:Stmt:=top 50
abbrev E8:Stmt:=top 53
abbrev F7:Stmt:=top 48
abbrev DX:Stmt:=top 57
abbrev Du:Stmt:=top 44
abbrev KZ:Stmt:=top 12
abbrev HQ:Stmt:=top 13
abbrev F9:Stmt:=top 16
abbrev KU:Stmt:=top 8
abbrev HW:Stmt:=top 17
abbrev EY:Stmt:=top 18
abbrev GE:Stmt:=top 19
abbrev F8:Stmt:=top 20
abbrev KW:Stmt:=top 1
abbrev RD:Stmt:=top 2
abbrev N0:Stmt:=top 5
abbrev GA:Stmt:=top 30
abbrev RE:Stmt:=top 4
abbrev FA:Stmt:=top 36
abbrev FB:Stmt:=top 35
abbrev HR:Stmt:=top 37
abbrev KY:Stmt:=top 15
abbrev DE:Stmt:=top 9
abbrev GB:Stmt:=top 11
abbrev N2:Stmt:=top 3
abbrev DY:Stmt:=top 40
abbrev RC:Stmt:=top 7
abbrev GC:Stmt:=top 21
abbrev GF:Stmt:=top 22
abbrev Ce:Stmt:=top 39
abbrev FY:Stmt:=top 14
abbrev HS:Stmt:=top 41
abbrev N1:Stmt:=top 6
abbrev DD:Stmt:=top 31
abbrev E9:Stmt:=top 32
abbrev HV:Stmt:=top 24
abbrev GD:Stmt:=top 33
abbrev FC:Stmt:=top 34
abbrev HU:Stmt:=top 42
abbrev MU:Stmt:=top 58
def m0:String:="law_skylanes_k34_the_bounds_ends"
def m1:String:="skylanes.planes"
def m2:String:="skylanes.fractions"
def m3:String:="skylanes.wedges"
def m4:String:="skylanes.meets"
def m5:String:="skylanes.nearness"
def eN (P:Params)(x:String)(i:Nat)(v:zx):DictEntry:=⟨PyData.keyHash P (Str.ofString x), .str (Str.ofString x) i,v⟩
abbrev eR (P:Params)(x:String)(i f:Nat):=eN P x i (.ref f)
def fO (x:String)(s:Stmt)(m:String)(i c:Nat):Obj:=⟨.type "function",none, .func (PySem.W.fnOf (Str.ofString x) (Str.ofString x) (Cv s) (BW s) (Ai s) .none .none .none (.str (Str.ofString m) i) none (.ref c) .none), #[]⟩
def jy (t:Nat)(x:String)(s:Stmt)(m:String)(i c:Nat):Obj:=⟨.type "function",none, .func (PySem.W.fnOf (Str.ofString x) (Str.ofString x) (Cv s) (BW s) (Ai s) (.ref t) .none .none (.str (Str.ofString m) i) none (.ref c) .none), #[]⟩
def rV:Nat->zx
 | 0=> .none
 | n+1=> .ref (n+1)
def fc (x:String)(s:Stmt)(m:String)(a c f i l n g b d e h j u:Nat)(r:AAB):AAB:=
 (c,⟨.type "code",none, .fields #[.str (Str.ofString x) i, .str (Str.ofString x) (i+1), .str (Str.ofString "/claim/cut.py") (i+2), .int l 0, .int n 0, .int 0 0, .int 0 0, .int g 0,rV b, .bool true, .int 181 0,rV d, .none,rV e,rV h,rV j, .int u 0, .int l 0, .str (Str.ofString "/claim/cut.py") (u+1)], #[]⟩) ::
 (f,fO x s m a c)::r
def mX (t:Nat)(x:String)(s:Stmt)(m:String)(a c f i l n g b d e h j u:Nat)(r:AAB):AAB:=
 (c,⟨.type "code",none, .fields #[.str (Str.ofString x) i, .str (Str.ofString x) (i+1), .str (Str.ofString "/claim/cut.py") (i+2), .int l 0, .int n 0, .int 0 0, .int 0 0, .int g 0,rV b, .bool true, .int 181 0,rV d, .none,rV e,rV h,rV j, .int u 0, .int l 0, .str (Str.ofString "/claim/cut.py") (u+1)], #[]⟩) ::
 (f,jy t x s m a c)::r
def i8 (P:Params):Obj:=⟨.type "dict",none, .dict #[eN P "__name__" 165 (.str (Str.ofString "law_skylanes_k34_the_bounds_ends") 542),eN P "__doc__" 166 .none,eN P "__package__" 167 .none,eN P "__loader__" 168 (.builtin "__main__.__loader__#opaque"),eN P "__spec__" 169 .none,eR P "__annotations__" 170 6,eR P "__builtins__" 171 4,eN P "__file__" 173 (.str (Str.ofString "/claim/cut.py") 172),eN P "__cached__" 174 .none,eR P "common" 196 21,eR P "part" 205 28,eR P "whole" 212 35,eR P "plus" 220 42,eR P "minus" 228 49,eR P "times" 236 56,eR P "over" 244 63,eR P "before" 252 70,eR P "shared_bottom" 262 77,eR P "plane_of" 270 82,eR P "summed" 276 87,eR P "crossed" 285 94,eR P "without" 292 100,eR P "placed" 298 105,eR P "is_never" 306 112,eR P "turn_of" 316 119,eR P "is_tighter" 327 126,eR P "tightest" 338 133,eR P "fault_in" 349 140,eR P "range_in" 361 147,eR P "value_in" 372 154,eR P "size_of" 382 161,eR P "NOUGHT" 387 162,eR P "ONCE" 390 163,eR P "BACK" 394 164,eR P "STRICT" 407 165,eR P "negative" 414 172,eR P "piece_between" 427 179,eR P "pieces_of" 433 184,eR P "sizes_of" 445 191,eR P "wedges_of" 462 198,eR P "time_form" 475 205,eR P "side_form" 493 212,eR P "form_of" 501 219,eR P "weights_by_time" 514 226,eR P "told_weights" 520 231,eR P "meet_in" 526 236,eR P "meet_of" 541 243,eR P "_law_tape" 553 250,eR P "_law_draw" 563 257,eR P "_law_part" 574 264,eR P "_law_less" 582 271,eR P "_law_sum" 590 278,eR P "_law_off" 598 285,eR P "_law_product" 606 292,eR P "_law_ratio" 614 299,eR P "_law_place" 622 306,eR P "_law_span" 630 313,eR P "_law_plan" 642 320,eR P "_law_bounds" 650 327,eR P "_law_apart" 658 334,eR P "_law_staying" 667 341,eR P "law" 695 348] 62, #[]⟩
def KK (P:Params):AAB:=(3,i8 P)::(fc "_law_draw" Dt m0 542 256 257 554 186 2 3 251 252 253 254 255 561 <| fc "_law_apart" EW m0 542 333 334 651 243 1 3 328 329 330 331 332 656 <| fc "_law_bounds" D5 m0 542 326 327 643 238 1 3 321 322 323 324 325 648 <| fc "_law_part" E7 m0 542 263 264 564 194 2 3 258 259 260 261 262 572 <| fc "_law_place" EX m0 542 305 306 615 210 1 3 300 301 302 303 304 620 <| fc "_law_product" DW m0 542 291 292 599 206 2 3 286 287 288 289 290 604 <| fc "_law_span" E8 m0 542 312 313 623 217 1 3 307 308 309 310 311 628 <| fc "_law_sum" F7 m0 542 277 278 583 202 2 3 272 273 274 275 276 588 <| fc "_law_staying" DX m0 542 340 341 659 246 3 3 335 336 337 338 339 665 <| fc "_law_tape" Du m0 542 249 250 544 180 2 3 244 245 246 247 248 551 <| fc "summed" KZ m1 263 86 87 271 33 4 3 83 84 0 0 85 274 <| fc "crossed" HQ m1 263 93 94 277 39 3 3 88 89 90 91 92 283 <| fc "is_never" F9 m1 263 111 112 299 56 1 3 106 107 108 109 110 304 <| fc "before" KU m2 187 69 70 245 21 2 3 64 65 66 67 68 250 <| fc "turn_of" HW m1 263 118 119 307 59 2 3 113 114 115 116 117 314 <| fc "is_tighter" EY m1 263 125 126 317 63 3 3 120 121 122 123 124 325 <| fc "tightest" GE m1 263 132 133 328 71 3 3 127 128 129 130 131 336 <| fc "fault_in" F8 m1 263 139 140 339 77 2 3 134 135 136 137 138 347 <| fc "common" KW m2 187 20 21 189 2 2 3 15 16 17 18 19 194 <| fc "part" RD m2 187 27 28 197 6 2 3 22 23 24 25 26 203 <| fc "minus" N0 m2 187 48 49 221 15 2 3 43 44 45 46 47 226 <| fc "negative" GA m3 383 171 172 408 106 1 3 166 167 168 169 170 412 <| fc "plus" RE m2 187 41 42 213 13 2 3 36 37 38 39 40 218 <| fc "side_form" FA m3 383 211 212 476 136 2 3 206 207 208 209 210 491 <| fc "time_form" FB m3 383 204 205 463 132 2 3 199 200 201 202 203 473 <| fc "form_of" HR m3 383 218 219 494 145 2 3 213 214 215 216 217 499 <| fc "placed" KY m1 263 104 105 293 50 3 3 101 102 0 0 103 296 <| fc "shared_bottom" DE m2 187 76 77 253 23 1 3 71 72 73 74 75 260 <| fc "plane_of" GB m1 263 81 82 265 29 3 3 78 79 0 0 80 268 <| fc "whole" N2 m2 187 34 35 206 11 1 3 29 30 31 32 33 210 <| fc "told_weights" DY m4 502 230 231 515 155 1 3 227 228 0 0 229 518 <| fc "over" RC m2 187 62 63 237 19 2 3 57 58 59 60 61 242 <| fc "range_in" GC m1 263 146 147 350 86 2 3 141 142 143 144 145 359 <| fc "value_in" GF m1 263 153 154 362 95 2 3 148 149 150 151 152 370 <| fc "weights_by_time" Ce m4 502 225 226 504 148 1 3 220 221 222 223 224 512 <| mX 95 "without" FY m1 263 99 100 287 41 3 3 96 97 0 0 98 290 <| fc "meet_in" HS m4 502 235 236 521 160 1 3 232 233 0 0 234 524 <| fc "times" N1 m2 187 55 56 229 17 2 3 50 51 52 53 54 234 <| fc "piece_between" DD m3 383 178 179 415 108 2 3 173 174 175 176 177 425 <| fc "pieces_of" E9 m3 383 183 184 428 115 1 3 180 181 0 0 182 431 <| fc "size_of" HV m5 373 160 161 375 99 2 3 155 156 157 158 159 380 <| fc "sizes_of" GD m3 383 190 191 434 117 3 3 185 186 187 188 189 443 <| fc "wedges_of" FC m3 383 197 198 446 123 3 3 192 193 194 195 196 460 <| fc "meet_of" HU m4 502 242 243 527 171 3 3 237 238 239 240 241 539 <| fc "law" MU m0 542 347 348 668 248 1 3 342 343 344 345 346 693 <| [(165,⟨.type "tuple",none, .seq #[(.int 0 395),(.int 1 396),(.int 0 397),(.int 1 398),(.int 0 399),(.int 0 400),(.int 1 401),(.int 1 402),(.int 1 403),(.int 1 404),(.int 1 405),(.int 1 406)] 0, #[]⟩),(163,⟨.type "tuple",none, .seq #[(.int 1 388),(.int 1 389)] 0, #[]⟩),(162,⟨.type "tuple",none, .seq #[(.int 0 385),(.int 1 386)] 0, #[]⟩),(164,⟨.type "tuple",none, .seq #[(.int (-1) 392),(.int 1 393)] 0, #[]⟩),(95,⟨.type "tuple",none, .seq #[(.int 2 286)] 0, #[]⟩)])
def KA:zy zu:= [3,256,257,333,334,326,327,263,264,305,306,291,292,312,313,277,278,340,341,249,250,86,87,93,94,111,112,69,70,118,119,125,126,132,133,139,140,20,21,27,28,48,49,171,172,41,42,211,212,204,205,218,219,104,105,76,77,81,82,34,35,230,231,62,63,146,147,153,154,225,226,99,100,235,236,55,56,178,179,183,184,160,161,190,191,197,198,242,243,347,348,165,163,162,164,95]
def q:zp:={K34.pwA with main:={K34.pwA.main with body:= [top 0,top 1,top 2,top 3,top 4,top 5,top 6,top 7,top 8,top 9,top 10,top 11,top 12,top 13,top 14,top 15,top 16,top 17,top 18,top 19,top 20,top 21,top 22,top 23,top 24,top 25,top 26,top 27,top 28,top 29,top 30,top 31,top 32,top 33,top 34,top 35,top 36,top 37,top 38,top 39,top 40,top 41,top 42,top 43,top 44,top 45,top 46,top 47,top 48,top 49,top 50,top 51,top 52,top 53,top 54,top 55,top 56,top 57,top 58] }}
end K34
open PySem PySem.W PyProof.Rows
def K34.se (s:zw):=openSeen K34.q [] (importedModules (K34.pwA).main.body) (λs=>xlAt K34.q [] s&&recOk [] s) true s
def K34.go:=openGood K34.q []
def K34.rn (w:zm):=openEnds treeTable K34.pwA w 6000
def K34.l0:∀w,(K34.rn w).map (λs=>(K34.se s).1)=some (K34.go.1):=by intro w;kernel_rfl
def K34.l1:∀w,(K34.rn w).map (λs=>(K34.se s).2.1)=some (K34.go.2.1):=by intro w;kernel_rfl
def K34.l2:∀w,(K34.rn w).map (λs=>(K34.se s).2.2.1)=some (K34.go.2.2.1):=by intro w;kernel_rfl
def K34.l3:∀w,(K34.rn w).map (λs=>(K34.se s).2.2.2.1)=some (K34.go.2.2.2.1):=by intro w;kernel_rfl
def K34.l4:∀w,(K34.rn w).map (λs=>(K34.se s).2.2.2.2)=some (K34.go.2.2.2.2):=by intro w;kernel_rfl
def K34.l5:∀w,(K34.rn w).map (λs=>K34.KA.map s.heap.get?)=some ((K34.KK w.params).map λp=>some p.2):=by intro w;kernel_rfl
def K34.w1:PySem.Challenge.rw_skylanes_k34_the_bounds_ends.wellSaid=true:=by
 kernel_rfl
def K34.w0:PySem.Challenge.rw_skylanes_k34_the_bounds_ends.row.wellSaid=true:=by
 kernel_rfl
end
namespace PySem
open Sem (wp)
abbrev FK:=(Int×Int)×Int
section
variable {prog:zp}{w:zm}
def Fq (prog:zp)(w:zm)(h:zl)(k:FK)(a:zu):Prop:=∃o items n b u,h.get? a=some o/\o.cls= .type "tuple" /\o.data= .seq items n/\items.toList= [.ref b, .int k.2 u] /\IsTupleKey (intKind prog w) h [k.1.1,k.1.2] b
def Fq.typeIs {s:zw}{k:FK}{a:zu}(x:Fq prog w s.heap k a):s.TypeIs (.ref a) "tuple" :=let ⟨o,_,_,_,_,b,hc,_⟩:=x;⟨o,b,hc⟩
def Fq.inj {h:zl}{a:zu}{x y:FK}(hx:Fq prog w h x a)(hy:Fq prog w h y a):x=y:=by obtain⟨o,items,n,b,u,i,_,hd,hi,hk⟩:=hx;obtain⟨j,c,m,p,r,k,_,e,f,l⟩:=hy;obtain rfl:o=j:=AAX (i.symm.trans k);rw[hd] at e;injection e with h1 _;subst h1;rw[hi] at f;injection f with h1 h2;injection h1 with h1;subst h1;injection h2 with h2 _;injection h2 with h2 _;have:=hk.inj l;obtain⟨⟨s,t⟩,v⟩:=x;obtain⟨⟨y1,y2⟩,y3⟩:=y;injection this with g d;injection d with d _;simp only at h2 g d;subst h2;subst g;subst d;rfl
def Fq.keeps {h h':zl}{k:FK}{a d:zu}{o:Obj}{es ep}(x:Fq prog w h k a)(e:h.get? d=some o)(hd:o.data= .dict es ep)(hs:Heap.SameBut d h h'):Fq prog w h' k a:=by
 obtain⟨f,items,n,b,u,g,hc,c,hi,hk⟩:=x;have i:a≠d:=by rintro rfl;obtain rfl:f=o:=AAX (g.symm.trans e);rw[hd] at c;exact nomatch c
 exact⟨f,items,n,b,u,(hs.2 a i).trans g,hc,c,hi,hk.keeps e hd hs⟩
def QU (prog:zp)(w:zm)(k:FK):Int:=reduceHash (Builtin.Tuple.tupleHashOf [tupleKeyHash (intKind prog w) [k.1.1,k.1.2],hashInt k.2])
variable {A:zk}{E:zx->zw->Prop}{s:zw}
def Ik {k:FK}{a:zu}{Q:Int->zw->Prop}(hu:A.units+1<cLine)(hk:Fq prog w s.heap k a)(h:Q (QU prog w k) {s with toks:=s.toks+5}):wpAny (model prog w) A (pyHash (.ref a)) Q E s:=by
 have f:=hk.typeIs;obtain⟨o,items,n,b,u,i,_,hd,hi,j⟩:=hk;unfold pyHash;first | unfold pyHashByItsType|skip
 first | refine AAA (wpAny_cRoomFor_or (.inr (by omega)) ?_)|skip
 refine AAA (ABN f ACF.lookup ?_);show wpAny _ _ (if (some (Value.builtin "tuple.__hash__")==some Value.none)=true then _ else _) Q E s;rw[AAD (by rw[beq_builtin_none];exact AAO)];refine AAA (ABN f ACF.lookup ?_);show wpAny _ _ (callSpecialIfBoundUnlessNone? (.ref a) "__hash__" _ >>= _) Q E s;refine AAA (wpAny_callSpecialIfBoundUnlessNone?_slot f ACF (AAt ACF f F.entry_tuple_hash ?_ (F.args_tuple_hash_1 _)));show wpAny _ _ (Builtin.Tuple.tupleItemsOf (.ref a) >>= _) _ _ s;refine AAA (ACn i hd ?_);refine AAA ?_;rw[<-ACG,hi];refine ACH _
  (λrest (r:Array Int) d=>(rest= [.ref b, .int k.2 u] /\r.toList= [] /\d=s)\/(rest= [.int k.2 u] /\r.toList= [tupleKeyHash (intKind prog w) [k.1.1,k.1.2]] /\d={s with toks:=s.toks+3})\/
    (rest= [] /\r.toList= [tupleKeyHash (intKind prog w) [k.1.1,k.1.2],hashInt k.2] /\d={s with toks:=s.toks+4}))
  _ ?_ ?_ _ _ (.inl ⟨rfl,rfl,rfl⟩)
 .rintro x rest r d (⟨c,e,rfl⟩|⟨c,e,rfl⟩|⟨c,_⟩)
  .cases c;refine AAA (wpAny_pyHash_tuple (knd:=intKind prog w) (by first | exact hu|omega) j ?_);exact AAC (.inr (.inl ⟨rfl,by simp[e],rfl⟩))
  .cases c;refine AAA (wpAny_pyHash_int ?_);exact AAC (.inr (.inr ⟨rfl,by simp[e],by simp[ACo]⟩))
  .cases c
 .rintro r d (⟨c,_⟩|⟨c,_⟩|⟨_,e,rfl⟩)
  .cases c
  .cases c
  .show wpAny _ _ (retInt (Builtin.Tuple.tupleHashOf r.toList)) _ _ _;rw[e];refine wpAny_ret_mkInt ?_;show wpAny _ _ (if (decide (-(2:Int)^63<=Builtin.Tuple.tupleHashOf [tupleKeyHash (intKind prog w) [k.1.1,k.1.2],hashInt k.2])&&decide (Builtin.Tuple.tupleHashOf [tupleKeyHash (intKind prog w) [k.1.1,k.1.2],hashInt k.2] < 2^63))=true then _ else _) Q E _;unfold QU reduceHash at h;by_cases g:(decide (-(2:Int)^63<=Builtin.Tuple.tupleHashOf [tupleKeyHash (intKind prog w) [k.1.1,k.1.2],hashInt k.2])&&decide (Builtin.Tuple.tupleHashOf [tupleKeyHash (intKind prog w) [k.1.1,k.1.2],hashInt k.2] < 2^63))=true
   .rw [AAE g];rw[AAE g] at h;exact AAC (by simpa[ACo] using h)
   .rw [AAD g];rw[AAD g] at h;exact AAA (ABO (AAC (by simpa[ACo] using h)))
def QV {x y:FK}{a b:zu}{P:Fin->zw->Prop}(hu:A.units<cLine)(hx:Fq prog w s.heap x a)(hy:Fq prog w s.heap y b)(h:P (.done (.ret (.bool (decide (x=y))))) s):wpAny (model prog w) A (Builtin.«tuple.__eq__» ⟨[.ref a, .ref b], []⟩) P E s:=by
 have D:=hy.typeIs;obtain⟨R,xs,S,ba,o,F,_,G,p,H⟩:=hx;obtain⟨T,t,U,I,B,J,_,hdb,C,K⟩:=hy;have L:xs.size=2:=by rw[<-ABa,p];rfl
 have M:t.size=2:=by rw[<-ABa,C];rfl
 obtain⟨⟨f,g⟩,d⟩:=x;obtain⟨⟨y1,y2⟩,y3⟩:=y;show wpAny _ _ (isInstance (.ref b) (.type "tuple") >>= _) _ _ s;refine AAA (ABv D ACp ?_);simp only[AA3,AAi,AAZ];refine AAA (ACn F G ?_);refine AAA (ACn J hdb ?_);refine AAA ?_;rw[p,C];refine ACH _
  (λrest r i=>r.1=none/\i=s/\(rest= [(.ref ba, .ref I),(.int d o, .int y3 B)] \/(rest= [(.int d o, .int y3 B)] /\f=y1/\g=y2)\/(rest= [] /\f=y1/\g=y2/\d=y3)))
  _ ?_ ?_ _ _ ⟨rfl,rfl, .inl rfl⟩
 .rintro ⟨u,v⟩ rest r i ⟨k,rfl,(c|⟨c,l,m⟩|⟨c,_⟩)⟩
  .cases c;refine AAA (wpAny_eqBool_tuple (knd:=intKind prog w) (by first | exact hu|omega) H K ?_);by_cases hk:f=y1/\g=y2
   .rw [AAV (by rw[hk.1,hk.2])];simp only[AA3,AAi,AAZ];exact AAC ⟨rfl,rfl, .inr (.inl ⟨by first | trivial|rfl,hk⟩)⟩
   .rw [AAa (by intro z;injection z with j e;injection e with e _;exact hk ⟨j,e⟩)];simp only[Bool.not_false,AAo];have n:decide ((((f,g),d):FK)=((y1,y2),y3))=false:=by apply AAa;intro z;injection z with j e;injection j with N O;exact hk ⟨N,O⟩
    rw[n] at h;exact AAA (AAC (AAC (AAC h)))
  .cases c;refine AAA (wpAny_eqBool_int ?_);by_cases hk:d=y3
   .rw [show (d==y3)=true by simp[hk]];simp only[AA3,AAi,AAZ];exact AAC ⟨rfl,rfl, .inr (.inr ⟨by first | trivial|rfl,l,m,hk⟩)⟩
   .rw [show (d==y3)=false by simp[hk]];simp only[Bool.not_false,AAo];have n:decide ((((f,g),d):FK)=((y1,y2),y3))=false:=by apply AAa;intro z;injection z with j e;exact hk e
    rw[n] at h;exact AAA (AAC (AAC (AAC h)))
  .cases c
 .rintro ⟨W,X⟩ i ⟨k,rfl,(c|⟨c,_⟩|⟨_,l,m,Q⟩)⟩
  .cases c
  .cases c
  .simp only at k;subst k;refine AAC ?_;show P (.done (.ret (.bool (xs.size==t.size)))) i;rw[L,M];rw[AAV (by rw[l,m,Q])] at h;exact h
def Ij {x y:FK}{a b:zu}{Q:zq->zw->Prop}(hu:A.units+1<cLine)(hx:Fq prog w s.heap x a)(hy:Fq prog w s.heap y b)(h:Q (decide (x=y)) s):wpAny (model prog w) A (eqBool (.ref a) (.ref b)) Q E s:=by
 unfold eqBool;try with_reducible refine AAW ?_
 show wpAny _ _ (if (Value.ref a==Value.ref b)=true then _ else _) Q E s;by_cases c:(Value.ref a==Value.ref b)=true
 .rw [AAE c];have e:a=b:=by have:=eq_of_beq c;injection this
  subst e;obtain rfl:=hx.inj hy;exact AAA (ABO (AAC (by simpa using h)))
 .rw [AAD c];exact AAA (wpAny_richCompare_same_room (op:= .Eq) hx.typeIs hy.typeIs ACI
   (AAt ACI hx.typeIs F.entry_tuple_eq (QV (by first | exact hu|omega) hx hy ⟨_,rfl,(λe=>nomatch e),ABw h⟩) (F.args_tuple_eq_2 _ _)) (by omega))
def Ec {K:Type}[DecidableEq K]{knd:KeyKind prog w K}{f:zy K}{a:zu}{Q:zq->zw->Prop}(m:Nat)(hk:IsTupleKey knd s.heap f a)(h:Q true s):wpAny (model prog w) A (eqIsQuiet (m+1) (.ref a)) Q E s:=by
 have d:=hk.typeIs;obtain⟨o,items,n,g,_,hd,hi⟩:=hk;unfold eqIsQuiet;refine AAA (ABN d ACI.lookup ?_);show wpAny _ _ (isInstance (.ref a) (.type "tuple") >>= _) _ _ s;refine AAA (ABv d ACp ?_);simp only[AA3,AAi,AAZ];refine AAA (AAu g hd ?_);refine AAA ?_;show wpAny _ _ (forIn items _ _) _ _ s;rw[<-ACG];refine ACH _ (λrest r b=>r.1=none/\b=s/\∀v∈rest,carriedByValue v=true) _ ?_ ?_ _ _ ⟨rfl,rfl,hi.byValue⟩
 .rintro v rest r b ⟨c,rfl,e⟩;rw[eqIsQuiet_byValue _ (e v AA4)];refine AAA (AAC ?_);simp only[AA3,AAi,AAZ];exact AAC ⟨rfl,rfl,λu i=>e u (AA5 _ i)⟩
 .rintro ⟨j,k⟩ b ⟨c,rfl,_⟩;simp only at c;subst c;exact AAC h
def GL {k:FK}{a:zu}{Q:zq->zw->Prop}(hk:Fq prog w s.heap k a)(h:Q true s):wpAny (model prog w) A (eqIsQuiet 8 (.ref a)) Q E s:=by
 have f:=hk.typeIs;obtain⟨o,items,n,b,u,g,_,hd,hi,i⟩:=hk;unfold eqIsQuiet;refine AAA (ABN f ACI.lookup ?_);show wpAny _ _ (isInstance (.ref a) (.type "tuple") >>= _) _ _ s;refine AAA (ABv f ACp ?_);simp only[AA3,AAi,AAZ];refine AAA (AAu g hd ?_);refine AAA ?_;show wpAny _ _ (forIn items _ _) _ _ s;rw[<-ACG,hi];refine ACH _ (λrest r d=>r.1=none/\d=s/\(rest= [.ref b, .int k.2 u] \/rest= [.int k.2 u] \/rest= [])) _ ?_ ?_ _ _ ⟨rfl,rfl, .inl rfl⟩
 .rintro v rest r d ⟨e,rfl,(c|c|c)⟩
  .cases c;refine AAA (Ec (knd:=intKind prog w) 6 i ?_);simp only[AA3,AAi,AAZ];exact AAC ⟨rfl,rfl, .inr (.inl (by first | trivial|rfl))⟩
  .cases c;rw[eqIsQuiet_byValue _ rfl];refine AAA (AAC ?_);simp only[AA3,AAi,AAZ];exact AAC ⟨rfl,rfl, .inr (.inr (by first | trivial|rfl))⟩
  .cases c
 .rintro ⟨j,l⟩ d ⟨e,rfl,_⟩;simp only at e;subst e;exact AAC h
end
def fkKind (prog:zp)(w:zm):HeapKind prog w FK where
 is:=Fq prog w
 hash:=QU prog w
 draws:=λ_=>5
 room:=λA=>A.units+1<cLine
 inj:=λhx hy=>hx.inj hy
 keeps:=λx a hd hs=>x.keeps a hd hs
 pyHash:=λhu hk h=>Ik hu hk h
 eqBool:=λhu hx hy h=>Ij hu hx hy h
 quiet:=λhk h=>GL hk h
end PySem
namespace L2
open PySem PySem.Spec PyProof.Rows
abbrev BU:=Sum Int Str
def MG:BU->zx->zq
 | .inl k,v=>Value.isInt k v
 | .inr x,v=>Value.isStrOf x v
def iT (w:zm):BU->Int
 | .inl k=>hashInt k
 | .inr x=>hashStr w x
def A6:∀{k:BU} {v:zx},MG k v=true->(∃i t,k=Sum.inl i/\v=Value.int i t)\/(∃x t,k=Sum.inr x/\v=Value.str x t)
 | .inl i,v,h=>by obtain⟨t,e⟩:=Value.isInt_shape (k:=i) (v:=v) h;exact .inl ⟨i,t,rfl,e⟩
 | .inr x,v,h=>by obtain⟨t,e⟩:=Value.isStrOf_shape (x:=x) (v:=v) h;exact .inr ⟨x,t,rfl,e⟩
def T8 (i:Int)(t:Tok):MG (.inl i) (.int i t)=true:=by simp[MG,Value.isInt]
def T9 (x:Str)(t:Tok):MG (.inr x) (.str x t)=true:=by simp[MG,Value.isStrOf]
def aE (a b:Int):decide ((Sum.inl a:BU)=Sum.inl b)=(a==b):=by
 by_cases e:a=b
 .subst e;simp
 .have h:¬(Sum.inl a:BU)=Sum.inl b:=λq=>e (Sum.inl.inj q);rw[AAa h];exact(ACq.mpr e).symm
def aH (a b:Str):decide ((Sum.inr a:BU)=Sum.inr b)=decide (a=b):=by
 by_cases e:a=b
 .subst e;simp
 .have h:¬(Sum.inr a:BU)=Sum.inr b:=λq=>e (Sum.inr.inj q);rw[AAa h,AAa e]
def aF (a:Int)(b:Str):decide ((Sum.inl a:BU)=Sum.inr b)=false:=AAa (λq=>nomatch q)
def aG (a:Str)(b:Int):decide ((Sum.inr a:BU)=Sum.inl b)=false:=AAa (λq=>nomatch q)
def Am (prog:zp)(w:zm):PySem.KeyKind prog w BU where
 is:=MG
 hash:=iT w
 inj:=λv a b ha hb=>by
  rcases A6 ha with⟨i,t,rfl,rfl⟩|⟨x,t,rfl,rfl⟩
  .rcases A6 hb with⟨j,u,rfl,e⟩|⟨y,u,rfl,e⟩
   .injection e with c _;rw[c]
   .exact nomatch e
  .rcases A6 hb with⟨j,u,rfl,e⟩|⟨y,u,rfl,e⟩
   .exact nomatch e
   .injection e with c _;rw[c]
 byValue:=λk v h=>by rcases A6 h with⟨i,t,rfl,rfl⟩|⟨x,t,rfl,rfl⟩ <;> rfl
 pyHash:=λhv h=>by
  rcases A6 hv with⟨i,t,rfl,rfl⟩|⟨x,t,rfl,rfl⟩
  .exact wpAny_pyHash_int h
  .exact wpAny_pyHash_str h
 eqBool:=λhu hv h=>by
  rcases A6 hu with⟨i,t,rfl,rfl⟩|⟨x,t,rfl,rfl⟩
  .rcases A6 hv with⟨j,u,rfl,rfl⟩|⟨y,u,rfl,rfl⟩
   .rw [aE] at h;exact wpAny_eqBool_int h
   .rw [aF] at h;exact SeqAt.EqAt.int_str i t y u _ _ _ _ h
  .rcases A6 hv with⟨j,u,rfl,rfl⟩|⟨y,u,rfl,rfl⟩
   .rw [aG] at h;exact SeqAt.EqAt.str_int x t j u _ _ _ _ h
   .rw [aH] at h;exact wpAny_eqBool_str h
 «strs»:=λk x t v h=>by
  rcases A6 h with⟨i,u,rfl,e⟩|⟨y,u,rfl,e⟩
  .exact nomatch e
  .injection e with c _;subst c;cases v <;> rfl
def O7 (prog:zp)(w:zm)(i:Int)(t:Tok):(Am prog w).is (.inl i) (.int i t)=true:=T8 i t
def O8 (prog:zp)(w:zm)(x:Str)(t:Tok):(Am prog w).is (.inr x) (.str x t)=true:=T9 x t
inductive V where
 | non|bl (b:Bool)|int (i:Int)|str (x:Str)|byt (b:Array UInt8)|flt (b:UInt64)|ref (a:Addr)|ty (n:String)
 deriving DecidableEq
def RelV:V->zx->Prop
 | .non,u=>u=Value.none
 | .bl b,u=>u=Value.bool b
 | .int i,u=>∃t,u=Value.int i t
 | .str x,u=>∃t,u=Value.str x t
 | .byt b,u=>∃t,u=Value.bytes b t
 | .flt b,u=>∃t,u=Value.float b t
 | .ref a,u=>u=Value.ref a
 | .ty n,u=>u=Value.type n
abbrev An:zy V->zy zx->Prop:=Paired RelV
def An.length {xs:zy V}{a:zy zx}(r:An xs a):xs.length=a.length:=Paired.length r
theorem An.get:∀{xs:zy V} {a:zy zx} {i:Nat} {x:V},An xs a->xs[i]? =some x->∃u,a[i]? =some u/\RelV x u
 | _,_,_,_, .nil,e=>by simp at e
 | _,_,0,_, .cons r _,e=>by simp at e;subst e;exact⟨_,rfl,r⟩
 | _,_,i+1,x, .cons _ t,e=>by obtain⟨u,h1,h2⟩:=An.get (i:=i) (x:=x) t (by simpa using e);exact⟨u,by simpa using h1,h2⟩
theorem An.set {x:V}{u:zx}(r:RelV x u):∀{xs:zy V} {a:zy zx} (i:Nat),An xs a->An (xs.set i x) (a.set i u)
 | _,_,_, .nil=> .nil
 | _,_,0, .cons _ t=> .cons r t
 | _,_,i+1, .cons q t=> .cons q (An.set r i t)
theorem An.append:∀{xs a:zy V} {b c:zy zx},An xs b->An a c->An (xs++a) (b++c)
 | _,_,_,_, .nil,s=>s
 | _,_,_,_, .cons r t,s=> .cons r (An.append t s)
theorem An.take:∀{xs:zy V} {a:zy zx} (n:Nat),An xs a->An (xs.take n) (a.take n)
 | _,_,0,_=> .nil
 | _,_,_+1, .nil=> .nil
 | _,_,n+1, .cons r t=> .cons r (An.take n t)
theorem An.drop:∀{xs:zy V} {a:zy zx} (n:Nat),An xs a->An (xs.drop n) (a.drop n)
 | _,_,0,r=>r
 | _,_,_+1, .nil=> .nil
 | _,_,n+1, .cons _ t=>An.drop n t
def IT:zt V->zt zx->Prop
 | some v,some u=>RelV v u
 | none,none=>True
 | _,_=>False
def KV {a:Type}:zy (a×V)->zy (a×zx)->Prop:=Paired λ(p:a×V) (q:a×zx)=>p.1=q.1/\RelV p.2 q.2
def kV:BU->V
 | .inl i=> .int i
 | .inr x=> .str x
inductive HO where
 | lst (xs:List V)
 | tup (xs:List V)
 | dK (kvs:List (BU×V))|dT (kvs:List (List BU×V))|dN (K:AAB) (kvs:List (PySem.FK×V))
 | set (S:Int->Bool) (n:Nat)
 | ins (C dx:Addr) (fs:List (Str×V))
 | own (x:Addr)
 | xd (fs:List (Str×V))
 | met (f x:Addr)
 | rng (lo hi:Int)
 | frz (o:Obj) (u:HO)
 | tbl (ps:Array Value)
 | ext (φ:Heap->Prop)
abbrev Hp:=zu->zt HO
def upd (H:Hp)(a:zu)(o:HO):Hp:=λb=>if b=a then some o else H b
def Ad {H:Hp}{a:zu}{o:HO}:upd H a o a=some o:=by unfold upd;rw[AAE rfl]
def AZ {H:Hp}{a b:zu}{o:HO}(h:b≠a):upd H a o b=H b:=by unfold upd;rw[AAD h]
def dt {H:Hp}{a b:zu}{o u:HO}(h:H a=some o)(h':H b=some u)(d:o≠u):a≠b:=by intro e;subst e;rw[h] at h';exact d (AAX h')
def Ak {H:Hp}{a b:zu}{o:HO}(h:H a=some o)(h':H b=none):a≠b:=by intro e;subst e;rw[h] at h';cases h'
def gv (K:AAB)(H:Hp)(b:zu)(t d:Int):Prop:=H b=some (.tup [.int t, .int d])\/∃(o:Obj) (a:Array zx) (n:Nat),K.lookup b=some o/\o.cls= .type "tuple" /\o.data= .seq a n/\An [.int t, .int d] a.toList
def XQ (K:AAB)(H:Hp)(a:zu)(k:PySem.FK):Prop:=∃b,H a=some (.tup [.ref b, .int k.2])/\gv K H b k.1.1 k.1.2
def XQ.stay {K:AAB}{H c:Hp}{a:zu}{k:PySem.FK}(x:XQ K H a k)(d:∀b xs,H b=some (.tup xs)->c b=some (.tup xs)):XQ K c a k:=let ⟨b,h1,h2⟩:=x;⟨b,d _ _ h1,h2.elim (λz=> .inl (d _ _ z)) .inr⟩
section
variable (P:zp)(w:zm)
def Bi (H:Hp)(h:zl)(a:zu):HO->Prop
 | .lst xs=>xs.length<=sizeLine/\∃(b:zy zx) (n:Nat),An xs b/\h.get? a=some {cls:= .type "list",data:= .seq b.toArray n}
 | .tup xs=>xs.length<=sizeLine/\∃b:zy zx,An xs b/\IsTup h a b.toArray
 | .dK kvs=>kvs.length<=sizeLine/\(a==sysModules)=false/\∃vs,KV kvs vs/\h.DictOf (Am P w) a vs
 | .dT kvs=>kvs.length<=sizeLine/\(a==sysModules)=false/\∃xs:zy (zy BU×zu×zx),
     Paired (λ(p:zy BU×V) (q:zy BU×zu×zx)=>p.1=q.1/\H q.2.1=some (.tup (p.1.map kV))/\RelV p.2 q.2.2) kvs xs/\
     ∃o es ep,h.get? a=some o/\o.ExactDict/\o.data= .dict es ep/\es.toList=xs.map (entryOfKey (tupleKind (Am P w)))/\(xs.map (·.1)).Nodup
 | .dN K kvs=>kvs.length<=sizeLine/\(a==sysModules)=false/\∃xs:zy (PySem.FK×zu×zx),Paired (λ(p:PySem.FK×V) (q:PySem.FK×zu×zx)=>p.1=q.1/\XQ K H q.2.1 p.1/\RelV p.2 q.2.2) kvs xs/\∃o es ep,h.get? a=some o/\o.ExactDict/\o.data= .dict es ep/\es.toList=xs.map (entryOfKey (PySem.fkKind P w))/\(xs.map (·.1)).Nodup
 | .set S n=>h.SetOf (intKind P w) a S n
 | .ins C e d=>H e=some (.own a)/\d.length<=1000/\e≠a/\h.get? a=some (PySem.W.instObj C e)/\
     ∃c,h.Ns1 e c/\(∀f,IT (d.lookup f) (c f))/\PySem.Within c (d.map (·.1))
 | .own _=>∃o,h.get? a=some o
 | .xd d=>∃c,h.Ns1 a c/\∀f,IT (d.lookup f) (c f)
 | .rng lo hi=>∃t u v,h.get? a=some {cls:= .type "range",data:= .fields #[.int lo t, .int hi u, .int 1 v] }
 | .frz o u=>h.get? a=some o/\Bi H h a u
 | .tbl ps=>h.get? a=some {cls:= .none,data:= .fields ps}
 | .met f x=>h.get? a=some (PySem.W.methodObj (.ref f) (.ref x))
 | .ext g=>g h/\(∃o,h.get? a=some o)/\∀h1 h2:zl,g h1->(∀o,h1.get? a=some o->h2.get? a=some o)->g h2
def GX (H:Hp)(h:zl):Prop:=∀a o,H a=some o->Bi P w H h a o
end
section
variable {P:zp}{w:zm}{H H':Hp}{h h':zl}{a:zu}{o:HO}
def Bi.lt (x:Bi P w H h a o):a<h.objs.size:=by
 cases o with
 | lst xs=>obtain⟨_,_,_,_,e⟩:=x;exact AAF e
 | tup xs=>obtain⟨_,_,_,p⟩:=x;exact p.lt
 | dK kvs=>obtain⟨_,_,_,_,o,_,_,e,_⟩:=x;exact AAF e
 | dT kvs=>obtain⟨_,_,_,_,o,_,_,e,_⟩:=x;exact AAF e
 | dN K kvs=>obtain⟨_,_,_,_,o,_,_,e,_⟩:=x;exact AAF e
 | set S n=>obtain⟨o,_,_,_,e,_⟩:=x;exact AAF e
 | ins C c b=>obtain⟨_,_,_,e,_⟩:=x;exact AAF e
 | own y=>obtain⟨_,e⟩:=x;exact AAF e
 | xd b=>obtain⟨_,⟨_,_,_,e,_⟩,_⟩:=x;exact AAF e
 | rng lo hi=>obtain⟨_,_,_,e⟩:=x;exact AAF e
 | frz d u=>obtain⟨e,_⟩:=x;exact AAF e
 | tbl ps=>exact AAF (show h.get? a=some _ from x)
 | met f y=>exact AAF (show h.get? a=some _ from x)
 | ext g=>obtain⟨_,⟨_,e⟩,_⟩:=x;exact AAF e
theorem Paired.mapP {e g:Type}{F G:e->g->Prop}:∀{c:zy e} {d:zy g},Paired F c d->(∀a b,F a b->G a b)->Paired G c d
 | _,_, .nil,_=> .nil
 | _,_, .cons r t,f=> .cons (f _ _ r) (Paired.mapP t f)
def Bi.stay (x:Bi P w H h a o)(k:∀b u,(b=a\/H b=some (.own a))->h.get? b=some u->h'.get? b=some u)(s:∀b,H b=some (.own a)->H' b=some (.own a))(m:∀b xs,H b=some (.tup xs)->H' b=some (.tup xs)):Bi P w H' h' a o:=by
 induction o with
 | lst xs=>obtain⟨z,i,n,r,e⟩:=x;exact⟨z,i,n,r,k _ _ (.inl rfl) e⟩
 | tup xs=>obtain⟨z,i,r,g,e,c⟩:=x;exact⟨z,i,r,g,k _ _ (.inl rfl) e,c⟩
 | dK kvs=>obtain⟨z,y,vs,r,g,es,ep,e,c⟩:=x;exact⟨z,y,vs,r,g,es,ep,k _ _ (.inl rfl) e,c⟩
 | dT kvs=> obtain⟨z,y,xs,r,g,es,ep,e,c⟩:=x;exact⟨z,y,xs,Paired.mapP r λp q z=>⟨z.1,m _ _ z.2.1,z.2.2⟩,g,es,ep,k _ _ (.inl rfl) e,c⟩
 | dN K kvs=> obtain⟨z,y,xs,r,g,es,ep,e,c⟩:=x;exact⟨z,y,xs,Paired.mapP r λp q z=>⟨z.1,z.2.1.stay m,z.2.2⟩,g,es,ep,k _ _ (.inl rfl) e,c⟩
 | set S n=>obtain⟨g,es,ep,t,e,c⟩:=x;exact⟨g,es,ep,t,k _ _ (.inl rfl) e,c⟩
 | ins C E A=> obtain⟨d,z,ne,e,j,⟨l,es,ep,B,c⟩,r⟩:=x;exact⟨s _ d,z,ne,k _ _ (.inl rfl) e,j,⟨l,es,ep,k _ _ (.inr d) B,c⟩,r⟩
 | own y=>obtain⟨g,e⟩:=x;exact⟨g,k _ _ (.inl rfl) e⟩
 | xd A=>obtain⟨j,⟨l,es,ep,e,c⟩,r⟩:=x;exact⟨j,⟨l,es,ep,k _ _ (.inl rfl) e,c⟩,r⟩
 | rng lo hi=>obtain⟨t,u,v,e⟩:=x;exact⟨t,u,v,k _ _ (.inl rfl) e⟩
 | frz g u D=>obtain⟨e,q⟩:=x;exact⟨k _ _ (.inl rfl) e,D q⟩
 | tbl ps=> have e:h.get? a=some {cls:= .none,data:= .fields ps}:=x;show h'.get? a=some {cls:= .none,data:= .fields ps};exact k a _ (.inl rfl) e
 | met f y=> have e:h.get? a=some (PySem.W.methodObj (.ref f) (.ref y)):=x;show h'.get? a=some (PySem.W.methodObj (.ref f) (.ref y));exact k a _ (.inl rfl) e
 | ext F=>obtain⟨p,⟨o,e⟩,st⟩:=x;exact⟨st _ _ p λo q=>k _ _ (.inl rfl) q,⟨o,k _ _ (.inl rfl) e⟩,st⟩
def GX.lt (x:GX P w H h)(e:H a=some o):a<h.objs.size:=(x a o e).lt
def GX.fresh (x:GX P w H h)(e:h.objs.size<=a):H a=none:=by
 cases q:H a with
 | none=>rfl
 | some u=>exact absurd (AAP (x.lt q) e) (ABE _)
def GX.kept (x:GX P w H h)(k:∀b u,h.get? b=some u->h'.get? b=some u):GX P w H h':=λa o e=>
 (x a o e).stay (λb u _ q=>k b u q) (λ_ q=>q) λ_ _ q=>q
def GX.laid (x:GX P w H h)(k:∀b u,h.get? b=some u->h'.get? b=some u)(hp:h.objs.size<=a)(new:Bi P w (upd H a o) h' a o):GX P w (upd H a o) h':=λb u e=>by
 have d:=x.fresh hp;by_cases hb:b=a
 .subst hb;rw[Ad] at e;cases e;exact new
 .rw [AZ hb] at e;exact(x b u e).stay (λc v _ q=>k c v q) (λc q=>by rw[AZ (Ak q d)];exact q) λc xs q=>by rw[AZ (Ak q d)];exact q
end
def Rd (H:Hp)(a:zu)(u:HO):Prop:=H a=some u\/∃o,H a=some (.frz o u)
def Rd.ok {P:zp}{w:zm}{H:Hp}{h:zl}{a:zu}{u:HO}(r:Rd H a u)(x:GX P w H h):Bi P w H h a u:=by
 rcases r with r|⟨o,r⟩
 .exact x a u r
 .obtain ⟨_,q⟩:=x a _ r;exact q
def cx:zt HO->Prop
 | some (.lst _)=>True
 | some (.dK _)=>True
 | some (.dT _)=>True
 | some (.dN _ _)=>True
 | some (.set _ _)=>True
 | some (.ins _ _ _)=>True
 | some (.ext _)=>True
 | _=>False
section
variable {P:zp}{w:zm}{H:Hp}{h h':zl}{x e:zu}{o':HO}
def GX.write (ok:GX P w H h)(f:cx (H x))(he:e=x\/H e=some (.own x))(k:∀b u,b≠e->h.get? b=some u->h'.get? b=some u)(j:∃u,h'.get? e=some u)(new:Bi P w (upd H x o') h' x o'):GX P w (upd H x o') h':=λb u q=>by
 have a:∀c y,H c=some (.own y)->c≠x:=λc y r z=>by subst z;rw[r] at f;exact f
 have d:∀c xs,H c=some (.tup xs)->c≠x:=λc xs r z=>by subst z;rw[r] at f;exact f
 by_cases hb:b=x
 .subst hb;rw[Ad] at q;cases q;exact new
 .rw [AZ hb] at q;by_cases g:b=e
  .have i:H b=some (.own x):=by
    rcases he with z|z
    .exact absurd (g.trans z) hb
    .rw [g];exact z
   rw[q] at i;cases i;obtain⟨v,hv⟩:=j;exact⟨v,by rw[g];exact hv⟩
  .refine (ok b u q).stay (λc v hc r=>k c v ?_ r) (λc r=>by rw[AZ (a c b r)];exact r) λc xs r=>by rw[AZ (d c xs r)];exact r
   rcases hc with rfl|hc
   .exact g
   .rintro rfl;rcases he with z|z
    .exact a c b hc z
    .rw [hc] at z;cases z;exact hb rfl
end
structure Un (fs ex:List Addr) (H H':Hp) (h h':Heap):Prop where
 keep:∀b o,h.get? b=some o->H b=none->b ∉ fs->b ∉ ex->h'.get? b=some o
 slot:∀b o,h.get? b=some o->H b=none->b∈fs->b ∉ ex->∃sl,h'.get? b=some {o with slots:=sl}
 free:∀b o,h.get? b=some o->H b=none->b ∉ ex->H' b=none
 there:∀b o,h.get? b=some o->b ∉ ex->∃o',h'.get? b=some o'
 tups:∀b xs,H b=some (.tup xs)->H' b=some (.tup xs)
 frzs:∀b o u,H b=some (.frz o u)->H' b=some (.frz o u)
 tbls:∀b ps,H b=some (.tbl ps)->∃more,H' b=some (.tbl (ps++more))
section
variable {fs fs' ex ex':zy zu}{H H1 H2:Hp}{h h1 h2 h':zl}{a x e:zu}{o:HO}
def Un.any (u:Un fs ex H H1 h h1){b:zu}{c:Obj}(q:h.get? b=some c)(n:H b=none)(hx:b ∉ ex):∃sl,h1.get? b=some {c with slots:=sl}:=by
 by_cases hb:b∈fs
 .exact u.slot b c q n hb hx
 .exact ⟨c.slots,u.keep b c q n hb hx⟩
def Un.kept (k:∀b u,h.get? b=some u->h'.get? b=some u):Un fs ex H H h h':=
 ⟨λb c q _ _ _=>k b c q,λb c q _ _ _=>⟨c.slots,k b c q⟩,λ_ _ _ n _=>n,λb c q _=>⟨c,k b c q⟩,λ_ _ q=>q,λ_ _ _ q=>q,λ_ ps q=>⟨#[],by rw[q];simp⟩⟩
def Un.refl:Un fs ex H H h h:=Un.kept λ_ _ q=>q
def Un.laid (k:∀b u,h.get? b=some u->h'.get? b=some u)(hp:h.objs.size<=a)(c:H a=none):Un fs ex H (upd H a o) h h' where
 keep:=λb u q _ _ _=>k b u q
 slot:=λb u q _ _ _=>⟨u.slots,k b u q⟩
 free:=λb u q n _=>by rw[AZ (AAK (AAP (AAF q) hp))];exact n
 there:=λb u q _=>⟨u,k b u q⟩
 tups:=λb xs q=>by rw[AZ (Ak q c)];exact q
 frzs:=λb u xs q=>by rw[AZ (Ak q c)];exact q
 tbls:=λb ps q=>⟨#[],by rw[AZ (Ak q c),q];simp⟩
def Un.write (c:cx (H x))(he:e=x\/H e=some (.own x))(k:∀b u,b≠e->h.get? b=some u->h'.get? b=some u)(g:∃u,h'.get? e=some u):Un fs ex H (upd H x o) h h':=by
 have hx:∀b,H b=none->b≠x:=λb n z=>by subst z;rw[n] at c;exact c
 have hb:∀b,H b=none->b≠e:=λb n z=>by
  subst z;rcases he with r|r
  .exact hx b n r
  .rw [n] at r;cases r
 have d:∀b u,H b=some u->¬cx (some u)->b≠x:=λb u q i z=>by subst z;rw[q] at c;exact i c
 refine⟨λb u q n _ _=>k b u (hb b n) q,λb u q n _ _=>⟨u.slots,k b u (hb b n) q⟩,λb u q n _=>by rw[AZ (hx b n)];exact n,λb u q _=> ?_,
  λb xs q=>by rw[AZ (d b _ q λz=>z)];exact q,λb u xs q=>by rw[AZ (d b _ q λz=>z)];exact q,λb ps q=>⟨#[],by rw[AZ (d b _ q λz=>z),q];simp⟩⟩
 by_cases f:b=e
 .subst f;exact g
 .exact ⟨u,k b u f q⟩
end
def gQ (h:zl)(H:Hp):zy zu:=(List.range h.objs.size).filter λa=>(H a).isSome
def NK (h:zl)(H:Hp):zl:=PySem.W.hideAll h (gQ h H)
def Tu (h:zl)(H:Hp):(NK h H).objs.size=h.objs.size:=PySem.W.hideAll_size _ _
def Vc {h:zl}{H:Hp}{b:zu}{o:Obj}(e:h.get? b=some o)(n:H b=none):(NK h H).get? b=some o:=
 PySem.W.hideAll_get _ e λa=>by have q:(H b).isSome=true:=(AAS.mp a).2;rw[n] at q;simp at q
def Xo {h:zl}{H:Hp}{b:zu}{o:Obj}(e:(NK h H).get? b=some o):h.get? b=some o/\H b=none:=by
 have a:h.get? b=some o:=PySem.W.of_hideAll (gQ h H) e;refine⟨a, ?_⟩;cases q:H b with
 | none=>rfl
 | some x=> have c:b∈gQ h H:=AAS.mpr ⟨ABP.mpr (AAF a),by simp[q]⟩;have z:(NK h H).get? b=none:=PySem.W.hideAll_none (gQ h H) c;rw[z] at e;cases e
def XU (g h:zl)(L:zu):zy (zu×Obj):=(List.range h.objs.size).filterMap λa=>if a=L\/(g.get? a).isSome=true then none else (h.get? a).map λo=>(a,o)
def rest (g h:zl)(L d:zu):zy (zu×Obj):=(XU g h L).filter λp=>decide (p.1≠d)
structure Mod (K:AAB) (mg:Str->Option Value) (base:Heap):Prop where
 kin:K.In base
 glob:base.Ns mainGlobals mg
 blt:∃mb,base.Ns builtinsNs mb/\∀x:Str,x≠"__name__" ->mb x=bootBuiltins x
 nolimit:base.NoLimit
structure Cx where
 prog:Program
 w:World
 K:AAB
 mg:Str->Option Value
 base:Heap
 A:Around
 N:List Str
 s₀:Shared
 H₀:Hp
 env:Env
 outer:List Env
 stack:List Env
 ex:List Addr
 fn:Str->Bool
 calm:Bool
 pn:List (Addr×Obj)
 xe:Value->Shared->Prop
def Uk (l:zy Env):zy zu:=l.filterMap (·.frame)
abbrev Cx.fs (X:Cx):zy zu:=Uk X.outer
def Yt (sc:Scope)(x:Str):Prop:=sc.names.lookup x=some .local\/sc.names.lookup x=some .cell\/sc.names.lookup x=some .free
def Loc (sc:Scope)(x:Str):Prop:=sc.names.lookup x=some .local\/sc.names.lookup x=some .cell
def Look (env:Env)(h:zl)(m:Str->zt zx)(x:Str)(u:zx):Prop:=
 (env.kindOf x=some .local/\m x=some u)\/((env.kindOf x=some .cell\/env.kindOf x=some .free)/\∃c,env.cells.lookup x=some c/\h.IsCell c (some u))
structure Cx.Ok (X:Cx):Prop where
 mod:Mod X.K X.mg X.base
 kind:X.env.scope.kind= .function
 glob:X.env.globals=mainGlobals
 blt:X.env.builtins=builtinsNs
 above:X.s₀.heap.objs.size<=X.env.locals
 inj:∀x y c,X.env.cells.lookup x=some c->X.env.cells.lookup y=some c->x=y
 has:∀x,(X.env.kindOf x=some .cell\/X.env.kindOf x=some .free)->∃c,X.env.cells.lookup x=some c
 cab:∀x c,X.fn x=true->X.env.cells.lookup x=some c->X.s₀.heap.objs.size<=c
 hd:X.calm=true->X.A.handled=none
 frames:X.A.frames=some X.stack
 stk:X.stack=X.outer\/(X.stack=X.env::X.outer/\X.env.frame=some X.env.locals)
 exf:∀b∈X.ex,b≠X.env.locals/\∀x c,X.env.cells.lookup x=some c->c≠b
 bs:∀b o,X.base.get? b=some o->X.s₀.heap.get? b=some o/\X.H₀ b=none
 bsz:X.base.objs.size<=X.s₀.heap.objs.size
 noex:∀b o,X.base.get? b=some o->b ∉ X.ex
 exfs:∀b∈X.ex,b ∉ X.fs
 funs:X.s₀.heap.FunFrames X.base X.outer
 frf:∀b∈X.fs,X.H₀ b=none
structure Inv (X:Cx) (zj:List (Addr×Obj)) (σ:List (Option V)) (H:Hp) (s:Shared):Prop where
 ok:X.Ok
 os:s.os=X.s₀.os
 bare:AllBare s.gens
 base:Un X.fs X.ex X.H₀ H X.s₀.heap s.heap
 loc:∃m,s.heap.Ns X.env.locals m/\∀(i:Nat) (x:Str) (v:V),X.N[i]? =some x->σ[i]? =some (some v)->Yt X.env.scope x->∃u,RelV v u/\Look X.env s.heap m x u
 cell:∀x c,X.env.cells.lookup x=some c->∃v,s.heap.IsCell c v
 free:H X.env.locals=none
 freeC:∀x c,X.env.cells.lookup x=some c->H c=none
 pin:∀p∈X.pn++zj,s.heap.get? p.1=some p.2/\H p.1=none/\p.1≠X.env.locals/\p.1 ∉ X.fs/\∀v,p.2.data≠ .cell v
 hok:GX X.prog X.w H s.heap
 len:σ.length=X.N.length
section
variable {X:Cx}{zj:zy (zu×Obj)}{σ:zy (zt V)}{H H':Hp}{s:zw}{h':zl}
def Cx.Ok.nofr (ok:X.Ok){b:zu}{o:Obj}(e:X.base.get? b=some o):b ∉ X.fs:=λhb=>by have:=(ok.funs.mem hb).1;rw[e] at this;cases this
def Inv.bs (I:Inv X zj σ H s):∀b o,X.base.get? b=some o->s.heap.get? b=some o/\H b=none:=λb o e=>
 ⟨I.base.keep b o (I.ok.bs b o e).1 (I.ok.bs b o e).2 (I.ok.nofr e) (I.ok.noex b o e),I.base.free b o (I.ok.bs b o e).1 (I.ok.bs b o e).2 (I.ok.noex b o e)⟩
def Inv.bk (I:Inv X zj σ H s):∀b o,X.base.get? b=some o->s.heap.get? b=some o:=λb o e=>(I.bs b o e).1
def Inv.mod (I:Inv X zj σ H s):Mod X.K X.mg X.base:=I.ok.mod
def Inv.kIn (I:Inv X zj σ H s):X.K.In s.heap:=I.ok.mod.kin.keeps I.bk
def Inv.nolimit (I:Inv X zj σ H s):s.heap.NoLimit:=I.ok.mod.nolimit.keeps I.bk
def Inv.fr (I:Inv X zj σ H s):∃m,Fr X.base X.env.locals s.heap m:=
 let ⟨m,a,_⟩:=I.loc
 ⟨m,a,I.bk,AAT I.ok.bsz I.ok.above⟩
def Inv.lt (I:Inv X zj σ H s):X.env.locals<s.heap.objs.size:=let ⟨_,a,_⟩:=I.loc;a.lt
def Inv.sz (I:Inv X zj σ H s):X.s₀.heap.objs.size<=s.heap.objs.size:=AAT I.ok.above (ABx I.lt)
def Inv.nofs (I:Inv X zj σ H s){a:zu}(h:s.heap.objs.size<=a):a ∉ X.fs:=λhb=>by obtain⟨_,o,b,_⟩:=I.ok.funs.mem hb;exact absurd (AAP (AAF b) (AAT I.sz h)) (ABE _)
def Inv.cne (I:Inv X zj σ H s):∀x c,X.env.cells.lookup x=some c->c≠X.env.locals:=λx c e z=>by obtain⟨v,o,a,hd⟩:=I.cell x c e;obtain⟨m,⟨f,es,ep,b,d,_⟩,_⟩:=I.loc;rw[z,b] at a;cases a;rw[d] at hd;cases hd
def Inv.funs (I:Inv X zj σ H s):s.heap.FunFrames X.base X.outer:=by
 have all:∀(l:zy Env),(∀b∈Uk l,b∈X.fs)->X.s₀.heap.FunFrames X.base l->s.heap.FunFrames X.base l:=by
  intro l;induction l with
  | nil=>intro _ _;trivial
  | cons env r d=> intro hs hl;obtain⟨hk,⟨L,o,a,f,g,hd⟩,h⟩:=hl;have c:L∈X.fs:=hs L (by unfold Uk;rw[ACr,a];exact AA4);obtain⟨sl,e⟩:=I.base.slot L o g (I.ok.frf L c) c λz=>I.ok.exfs L z c;exact⟨hk,⟨L,_,a,f,e,hd⟩,d (λb hb=>hs b (by unfold Uk;rw[ACr,a];exact AA5 _ hb)) h⟩
 exact all X.outer (λ_ hb=>hb) I.ok.funs
def Inv.stack (I:Inv X zj σ H s):s.heap.FunFrames X.base X.stack:=by
 rcases I.ok.stk with e|⟨e,a⟩
 .rw [e];exact I.funs
 .rw [e];obtain⟨m,b,_⟩:=I.loc;refine .cons (by rw[I.ok.kind];decide) a b ?_ I.funs;exact Heap.get?_none_of_le (AAT I.ok.bsz I.ok.above)
def Inv.stkSub (I:Inv X zj σ H s):∀b∈Uk X.stack,b∈X.env.locals::X.fs:=λb hb=>by
 rcases I.ok.stk with e|⟨e,a⟩
 .rw [e] at hb;exact AA5 _ hb
 .rw [e] at hb;unfold Uk at hb;rw[ACr,a] at hb;exact hb
def Inv.stkFree (I:Inv X zj σ H s):∀b∈Uk X.stack,H b=none:=λb hb=>by
 rcases AAH.mp (I.stkSub b hb) with e|hb
 .rw [e];exact I.free
 .obtain ⟨_,o,a,_⟩:=I.ok.funs.mem hb;exact I.base.free b o a (I.ok.frf b hb) λz=>I.ok.exfs b z hb
def Inv.step {g':Array GenState}{t':Nat}{d':Drawn}{ch:zy zu}(I:Inv X zj σ H s)(j:∀b∈ch,(b∈X.ex\/X.s₀.heap.objs.size<=b)/\b≠X.env.locals/\(∀x c,X.env.cells.lookup x=some c->c≠b)/\∀p∈X.pn++zj,p.1≠b)(keep:∀b o,b≠X.env.locals->b ∉ X.fs->b ∉ ch->s.heap.get? b=some o->H b=none->h'.get? b=some o)(slot:∀b o,b≠X.env.locals->b∈X.fs->b ∉ ch->s.heap.get? b=some o->H b=none->∃sl,h'.get? b=some {o with slots:=sl})(free:∀b o,b ∉ ch->s.heap.get? b=some o->H b=none->H' b=none)(there:∀b o,b ∉ ch->s.heap.get? b=some o->∃t,h'.get? b=some t)(tups:∀b xs,H b=some (.tup xs)->H' b=some (.tup xs))(frzs:∀b o u,H b=some (.frz o u)->H' b=some (.frz o u))(tbls:∀b ps,H b=some (.tbl ps)->∃more,H' b=some (.tbl (ps++more)))(ns:∀m,s.heap.Ns X.env.locals m->h'.Ns X.env.locals m)(hok:GX X.prog X.w H' h')(C:AllBare g'):Inv X zj σ H' {s with heap:=h',gens:=g',drawn:=d',toks:=t'}:=by
 have y:∀b o,X.s₀.heap.get? b=some o->b≠X.env.locals:=λb o e=>AAK (AAP (AAF e) I.ok.above);have f:∀b o,X.s₀.heap.get? b=some o->b ∉ X.ex->b ∉ ch:=λb o e hx hb=>by
  rcases (j b hb).1 with z|z
  .exact hx z
  .exact absurd (AAP (AAF e) z) (ABE _)
 have cellK:∀x c,X.env.cells.lookup x=some c->∀v,s.heap.IsCell c v->h'.IsCell c v:=λx c e v ⟨o,h,hd⟩=>by
  have a:c ∉ ch:=λz=>(j c z).2.2.1 x c e rfl;by_cases hc:c∈X.fs
  .obtain ⟨sl,q⟩:=slot c o (I.cne x c e) hc a h (I.freeC x c e);exact⟨_,q,hd⟩
  .exact ⟨o,keep c o (I.cne x c e) hc a h (I.freeC x c e),hd⟩
 refine⟨I.ok,I.os,C,⟨λb o e n hb hx=> ?_,λb o e n hb hx=> ?_,λb o e n hx=> ?_,λb o e hx=> ?_,λb xs e=>tups b xs (I.base.tups b xs e),λb o xs e=>frzs b o xs (I.base.frzs b o xs e),λb ps e=> ?_⟩, ?_,λx c e=> ?_, ?_,λx c e=> ?_,λp hp=> ?_,hok,I.len⟩
 .exact keep b o (y b o e) hb (f b o e hx) (I.base.keep b o e n hb hx) (I.base.free b o e n hx)
 .obtain ⟨sl,g⟩:=I.base.slot b o e n hb hx;obtain⟨UT,A⟩:=slot b _ (y b o e) hb (f b o e hx) g (I.base.free b o e n hx);exact⟨UT,A⟩
 .obtain ⟨t,g⟩:=I.base.there b o e hx;exact free b t (f b o e hx) g (I.base.free b o e n hx)
 .obtain ⟨t,g⟩:=I.base.there b o e hx;exact there b t (f b o e hx) g
 .obtain ⟨m1,g⟩:=I.base.tbls b ps e;obtain⟨m2,A⟩:=tbls b _ g;exact⟨m1++m2,by rw[A,Array.append_assoc]⟩
 .obtain ⟨m,D,hl⟩:=I.loc;refine⟨m,ns m D,λi x v g A E=> ?_⟩;obtain⟨u,r,l⟩:=hl i x v g A E;refine⟨u,r, ?_⟩;rcases l with l|⟨k,c,e,z⟩
  .exact .inl l
  .exact .inr ⟨k,c,e,cellK x c e _ z⟩
 .obtain ⟨v,z⟩:=I.cell x c e;exact⟨v,cellK x c e v z⟩
 .obtain ⟨m,⟨o,_,_,h,_⟩,_⟩:=I.loc;exact free _ o (λz=>(j _ z).2.1 rfl) h I.free
 .obtain ⟨v,o,h,hd⟩:=I.cell x c e;exact free c o (λz=>(j c z).2.2.1 x c e rfl) h (I.freeC x c e)
 .obtain ⟨e,n,ne,B,d⟩:=I.pin p hp;have a:p.1 ∉ ch:=λz=>(j p.1 z).2.2.2 p hp rfl;exact⟨keep p.1 p.2 ne B a e n,free p.1 p.2 a e n,ne,B,d⟩
def Inv.un {t':Nat}(I:Inv X zj σ H s)(u:Un X.fs [] H H' s.heap h')(hok:GX X.prog X.w H' h'):Inv X zj σ H' {s with heap:=h',toks:=t'}:=by
 obtain⟨m,⟨o,es,ep,d,r⟩,_⟩:=id I.loc;obtain⟨sl,g⟩:=u.any d I.free (by simp);exact I.step (g':=s.gens) (d':=s.drawn) (ch:= []) (λ_ z=>nomatch z) (λb o _ hb _ e n=>u.keep b o e n hb (by simp)) (λb o _ hb _ e n=>u.slot b o e n hb (by simp)) (λb o _ e n=>u.free b o e n (by simp)) (λb o _ e=>u.there b o e (by simp)) u.tups u.frzs u.tbls (λj h=>by
  obtain⟨k,a,c,f,i⟩:=h;rw[d] at f;cases f;exact⟨_,a,c,g,i⟩) hok I.bare
def Inv.call {g':Array GenState}{t':Nat}{d':Drawn}{ch:zy zu}(I:Inv X zj σ H s)(u:Un (Uk X.stack) ch H H' s.heap h')(hok:GX X.prog X.w H' h')(j:AllBare g')(g:∀b∈ch,(b∈X.ex\/X.s₀.heap.objs.size<=b)/\b≠X.env.locals/\(∀x c,X.env.cells.lookup x=some c->c≠b)/\∀p∈X.pn++zj,p.1≠b):Inv X zj σ H' {s with heap:=h',gens:=g',drawn:=d',toks:=t'}:=by
 obtain⟨m,⟨o,es,ep,h,r⟩,_⟩:=id I.loc;obtain⟨sl,a⟩:=u.any h I.free λz=>(g _ z).2.1 rfl;exact I.step (ch:=ch) g (λb o a hb hc e n=>u.keep b o e n (λz=>(AAH.mp (I.stkSub b z)).elim a hb) hc) (λb o _ _ hc e n=>u.any e n hc) (λb o hc e n=>u.free b o e n hc) (λb o hc e=>u.there b o e hc) u.tups u.frzs u.tbls (λt k=>by
  obtain⟨v,d,f,i,l⟩:=k;rw[h] at i;cases i;exact⟨_,d,f,a,l⟩) hok j
def Inv.turned {t':Nat}{it:zu}(I:Inv X zj σ H s)(k:∀b o,b≠it->s.heap.get? b=some o->h'.get? b=some o)(f:H it=none)(d:it≠X.env.locals)(h1:it∈X.ex\/X.s₀.heap.objs.size<=it)(h2:∀x c,X.env.cells.lookup x=some c->c≠it)(h3:∀p∈X.pn++zj,p.1≠it):Inv X zj σ H {s with heap:=h',toks:=t'}:=by
 have a:∀b u,H b=some u->b≠it:=λb u e z=>by rw[z,f] at e;cases e
 refine I.step (g':=s.gens) (d':=s.drawn) (ch:= [it]) (λb hb=> ?_) (λb o _ _ hc e _=>k b o (λz=>hc (by simp[z])) e) (λb o _ _ hc e _=>⟨o.slots,k b o (λz=>hc (by simp[z])) e⟩) (λ_ _ _ _ n=>n)
  (λb o hc e=>⟨o,k b o (λz=>hc (by simp[z])) e⟩) (λ_ _ e=>e) (λ_ _ _ e=>e) (λb ps e=>⟨#[],by rw[e];simp⟩) (λm g=> ?_) (λb u e=> ?_) I.bare
 .have e:b=it:=by simpa using hb
  subst e;exact⟨h1,d,h2,h3⟩
 .obtain ⟨o,es,ep,h,r⟩:=g;exact⟨o,es,ep,k _ o (AAp d) h,r⟩
 .refine (I.hok b u e).stay (λc v hc q=>k c v ?_ q) (λ_ q=>q) λ_ _ q=>q;rcases hc with z|z
  .rw [z];exact a b u e
  .exact a c _ z
def Inv.tok (I:Inv X zj σ H s)(t:Nat):Inv X zj σ H {s with toks:=t}:=I.un (h':=s.heap) (t':=t) Un.refl I.hok
def Inv.kept {t':Nat}(I:Inv X zj σ H s)(k:∀b u,s.heap.get? b=some u->h'.get? b=some u):Inv X zj σ H {s with heap:=h',toks:=t'}:=I.un (Un.kept k) (I.hok.kept k)
def Inv.laid {a:zu}{o:HO}{t':Nat}(I:Inv X zj σ H s)(k:∀b u,s.heap.get? b=some u->h'.get? b=some u)(hp:s.heap.objs.size<=a)(new:Bi X.prog X.w (upd H a o) h' a o):Inv X zj σ (upd H a o) {s with heap:=h',toks:=t'}:=I.un (Un.laid k hp (I.hok.fresh hp)) (I.hok.laid k hp new)
def Inv.write {x e:zu}{o:HO}{t':Nat}(I:Inv X zj σ H s)(a:cx (H x))(he:e=x\/H e=some (.own x))(k:∀b u,b≠e->s.heap.get? b=some u->h'.get? b=some u)(c:∃u,h'.get? e=some u)(new:Bi X.prog X.w (upd H x o) h' x o):Inv X zj σ (upd H x o) {s with heap:=h',toks:=t'}:=I.un (Un.write a he k c) (I.hok.write a he k c new)
def Inv.weak {σ':zy (zt V)}(I:Inv X zj σ H s)(hl:σ'.length=σ.length)(w:∀(i:Nat) v,σ'[i]? =some (some v)->σ[i]? =some (some v)):Inv X zj σ' H s:=
 ⟨I.ok,I.os,I.bare,I.base,let ⟨m,a,b⟩:=I.loc;⟨m,a,λi x v c d e=>b i x v c (w i v d) e⟩,I.cell,I.free,I.freeC,I.pin,I.hok,hl.trans I.len⟩
def Inv.pins_of {a:zy (zu×Obj)}(I:Inv X zj σ H s)(h:∀p∈a,s.heap.get? p.1=some p.2/\H p.1=none/\p.1≠X.env.locals/\p.1 ∉ X.fs/\∀v,p.2.data≠ .cell v):Inv X a σ H s:=
 ⟨I.ok,I.os,I.bare,I.base,I.loc,I.cell,I.free,I.freeC,λp hp=>(AAQ.mp hp).elim (λz=>I.pin p (List.mem_append_left _ z)) (h p),I.hok,I.len⟩
def O9 {N:zy Str}(hN:N.Nodup){i j:Nat}{x:Str}(a:N[i]? =some x)(b:N[j]? =some x):i=j:=by obtain⟨h1,c⟩:=AAm.mp a;obtain⟨h2,d⟩:=AAm.mp b;exact(List.getElem_inj hN).mp (c.trans d.symm)
def Hc {M:Model}{A:zk}{E:zx->zw->Prop}{i:Nat}{x:Str}{v:V}{u:zx}{Q:Unit->zw->Prop}(I:Inv X zj σ H s)(hN:X.N.Nodup)(hi:X.N[i]? =some x)(hx:Loc X.env.scope x)(r:RelV v u)(h:∀D,Inv X zj (σ.set i (some v)) H D->(∃a,Heap.SameBut a s.heap D.heap/\(a=X.env.locals\/X.env.cells.lookup x=some a))->Q () D)(Z:X.fn x=true\/X.env.scope.names.lookup x=some .local:=by first | exact .inl rfl|exact .inr rfl|assumption):wpAny M A (storeName X.env x u) Q E s:=by
 obtain⟨m,F,hl⟩:=id I.loc;have iA:(X.env.scope.kind == .class||(X.env.scope.kind == .module&&X.env.locals != X.env.globals))=false:=by rw[I.ok.kind];rfl
 have l:i<σ.length:=by rw[I.len];exact(AAm.mp hi).1
 have t:=I.cne;have tracked:∀{a:zu} {h':zl},(∃o,s.heap.get? a=some o/\H a=none)->Heap.SameBut a s.heap h'->GX X.prog X.w H h':=λ{a h'} ha hs b ob e=>by
  obtain⟨_,_,S⟩:=ha;refine(I.hok b ob e).stay (λc B hc q=>(hs.2 c ?_).trans q) (λ_ q=>q) λ_ _ q=>q;rintro rfl;rcases hc with rfl|hc
  .rw [S] at e;cases e
  .rw [S] at hc;cases hc
 rcases hx with hk|hk
 .refine wpAny_storeName_local hk F (λh' nL hs=> ?_) iA;obtain⟨oL,_,_,nN,_⟩:=id F;refine h _ ⟨I.ok,I.os,I.bare,⟨λb o e n hb hx=> ?_,λb o e n hb hx=> ?_,I.base.free,λb o e hx=> ?_,I.base.tups,I.base.frzs,I.base.tbls⟩,⟨_,nL,λj y G f g J=> ?_⟩,λy c e=> ?_,I.free,I.freeC,λp hp=> ?_,tracked ⟨oL,nN,I.free⟩ hs,by simpa using I.len⟩ ⟨_,hs, .inl rfl⟩
  .exact (hs.2 b (AAK (AAP (AAF e) I.ok.above))).trans (I.base.keep b o e n hb hx)
  .obtain ⟨sl,f⟩:=I.base.slot b o e n hb hx;exact⟨sl,(hs.2 b (AAK (AAP (AAF e) I.ok.above))).trans f⟩
  .obtain ⟨K,f⟩:=I.base.there b o e hx;exact⟨K,(hs.2 b (AAK (AAP (AAF e) I.ok.above))).trans f⟩
  .by_cases hj:j=i
   .subst hj;rw[hi] at f;cases f;rw[ABb l] at g;cases g;exact⟨u,r, .inl ⟨hk,by simp⟩⟩
   .rw [AAU (AAp hj)] at g;obtain⟨L,O,q⟩:=hl j y G f g J;refine⟨L,O, ?_⟩;rcases q with⟨k,e⟩|⟨k,c,e,z⟩
    .refine .inl ⟨k, ?_⟩;have:y≠x:=λe=>hj (O9 hN f (e ▸ hi));simp[this,e]
    .exact .inr ⟨k,c,e,z.sameBut hs (t y c e)⟩
  .obtain ⟨B,z⟩:=I.cell y c e;exact⟨B,z.sameBut hs (t y c e)⟩
  .obtain ⟨e,n,ne,P,d⟩:=I.pin p hp;exact⟨(hs.2 p.1 ne).trans e,n,ne,P,d⟩
 .have R:X.fn x=true:=by
   rcases Z with z|z
   .exact z
   .rw [z] at hk;cases hk
  obtain⟨c,hc⟩:=I.ok.has x (.inl hk);obtain⟨B,z⟩:=I.cell x c hc;refine wpAny_storeName_cell I.ok.kind hk hc z (λh' T hs=> ?_);obtain⟨U,W,iF⟩:=id z;refine h {s with heap:=h'} ⟨I.ok,I.os,I.bare,⟨λb o e n hb hx=> ?_,λb o e n hb hx=> ?_,I.base.free,λb o e hx=> ?_,I.base.tups,I.base.frzs,I.base.tbls⟩,⟨m,F.sameBut hs (AAp (t x c hc)),λj y G f g J=> ?_⟩,λy C e=> ?_,I.free,I.freeC,λp hp=> ?_,tracked ⟨U,W,I.freeC x c hc⟩ hs,by simpa using I.len⟩ ⟨c,hs, .inr hc⟩
  .exact (hs.2 b (AAK (AAP (AAF e) (I.ok.cab x c R hc)))).trans (I.base.keep b o e n hb hx)
  .obtain ⟨sl,f⟩:=I.base.slot b o e n hb hx;exact⟨sl,(hs.2 b (AAK (AAP (AAF e) (I.ok.cab x c R hc)))).trans f⟩
  .obtain ⟨K,f⟩:=I.base.there b o e hx;exact⟨K,(hs.2 b (AAK (AAP (AAF e) (I.ok.cab x c R hc)))).trans f⟩
  .by_cases hj:j=i
   .subst hj;rw[hi] at f;cases f;rw[ABb l] at g;cases g;exact⟨u,r, .inr ⟨.inl hk,c,hc,T⟩⟩
   .rw [AAU (AAp hj)] at g;obtain⟨L,O,q⟩:=hl j y G f g J;refine⟨L,O, ?_⟩;rcases q with q|⟨k,C,e,z'⟩
    .exact .inl q
    .refine .inr ⟨k,C,e,z'.sameBut hs ?_⟩;rintro rfl;exact hj (O9 hN f (I.ok.inj _ _ _ e hc ▸ hi))
  .by_cases Y:C=c
   .subst Y;exact⟨_,T⟩
   .obtain ⟨w2,z2⟩:=I.cell y C e;exact⟨w2,z2.sameBut hs Y⟩
  .obtain ⟨e,n,ne,P,d⟩:=I.pin p hp;refine⟨(hs.2 p.1 ?_).trans e,n,ne,P,d⟩;intro q;rw[q,W] at e;have q':U=p.2:=AAX e;exact d B (by rw[<-q'];exact iF)
def FI {M:Model}{A:zk}{E:zx->zw->Prop}{i:Nat}{x:Str}{v:V}{u:zx}{Q:Unit->zw->Prop}(I:Inv X zj σ H s)(hN:X.N.Nodup)(hi:X.N[i]? =some x)(hx:Loc X.env.scope x)(r:RelV v u)(h:∀a,Inv X zj (σ.set i (some v)) H a->Q () a)(b:X.fn x=true\/X.env.scope.names.lookup x=some .local:=by first | exact .inl rfl|exact .inr rfl|assumption):wpAny M A (storeName X.env x u) Q E s:=
 Hc I hN hi hx r (λa c _=>h a c) b
def Inv.call' {a:zw}{ch:zy zu}(I:Inv X zj σ H s)(d:a.os=s.os)(u:Un (Uk X.stack) ch H H' s.heap a.heap)(hok:GX X.prog X.w H' a.heap)(f:AllBare a.gens)(g:∀b∈ch,(b∈X.ex\/X.s₀.heap.objs.size<=b)/\b≠X.env.locals/\(∀x c,X.env.cells.lookup x=some c->c≠b)/\∀p∈X.pn++zj,p.1≠b):Inv X zj σ H' a:=by obtain⟨h',g',d',t',h⟩:=a;have e:h=s.os:=d;subst e;exact I.call (g':=g') (t':=t') (d':=d') u hok f g
end
abbrev XK:=zx->zt zu->Hp->Prop
abbrev St:=zy (zt V)
abbrev VK:=V->Hp->Prop
abbrev TE:=St->Hp->VK->Prop
abbrev TT:=St->Hp->(zq->Hp->Prop)->Prop
abbrev TA:=St->Hp->(zy V->Hp->Prop)->Prop
structure Ms where
 nx:St->Hp->Prop
 rt:VK
 bk:St->Hp->Prop:=λ_ _=>False
 ct:St->Hp->Prop:=λ_ _=>False
abbrev TS:=Ms->St->Hp->Prop
def EP (X:Cx)(b:zy (zu×Obj))(c:St)(Q:VK)(u:zx)(d:zw):Prop:=∃v a,Inv X b c a d/\RelV v u/\Q v a
def TP (X:Cx)(c:zy (zu×Obj))(d:St)(Q:zq->Hp->Prop)(b:zq)(e:zw):Prop:=∃a,Inv X c d a e/\Q b a
def AP (X:Cx)(b:zy (zu×Obj))(c:St)(Q:zy V->Hp->Prop)(d:zy zx)(e:zw):Prop:=∃vs a,Inv X b c a e/\An vs d/\Q vs a
def SP (X:Cx)(b:zy (zu×Obj))(D:Ms)(f:Flow)(c:zw):Prop:=
 match f with
 | .next=>∃σ' a,Inv X b σ' a c/\D.nx σ' a
 | .brk=>∃σ' a,Inv X b σ' a c/\D.bk σ' a
 | .cont=>∃σ' a,Inv X b σ' a c/\D.ct σ' a
 | .ret u=>∃v σ' a,Inv X b σ' a c/\RelV v u/\D.rt v a
def PE (X:Cx)(e:zr)(t:TE):Prop:=
 ∀(b:zy (zu×Obj)) (s:zw) (a:St) (H:Hp) (Q:VK),Inv X b a H s->t a H Q->wpAny (model X.prog X.w) X.A (eval e X.env) (EP X b a Q) X.xe s
def PT (X:Cx)(e:zr)(t:TT):Prop:=
 ∀(b:zy (zu×Obj)) (s:zw) (a:St) (H:Hp) (Q:zq->Hp->Prop),Inv X b a H s->t a H Q->wpAny (model X.prog X.w) X.A (isTrue e X.env (eval e X.env)) (TP X b a Q) X.xe s
def PW (X:Cx)(e:zr)(t:TT):Prop:=
 ∀(whole:Sem zx) (b:zy (zu×Obj)) (s:zw) (a:St) (H:Hp) (Q:zq->Hp->Prop),Inv X b a H s->t a H Q->wpAny (model X.prog X.w) X.A (isTrue e X.env whole) (TP X b a Q) X.xe s
def PW.pt {X:Cx}{e:zr}{t:TT}(h:PW X e t):PT X e t:=h _
def PA (X:Cx)(es:zy zr)(t:TA):Prop:=
 ∀(pos:Pos) (b:zy (zu×Obj)) (s:zw) (a:St) (H:Hp) (Q:zy V->Hp->Prop),Inv X b a H s->t a H Q->wpAny (model X.prog X.w) X.A (spliced (backTo pos (starEach es X.env))) (AP X b a Q) X.xe s
def PS (X:Cx)(st:Stmt)(t:TS):Prop:=
 ∀(a:zy (zu×Obj)) (s:zw) (b:St) (H:Hp) (D:Ms),Inv X a b H s->t D b H->wpAny (model X.prog X.w) X.A (exec st X.env) (SP X a D) X.xe s
def OX (X:Cx)(st:zy Stmt)(t:TS):Prop:=
 ∀(a:zy (zu×Obj)) (s:zw) (b:St) (H:Hp) (D:Ms),Inv X a b H s->t D b H->wpAny (model X.prog X.w) X.A (execs st X.env) (SP X a D) X.xe s
def BC {b:Type}{t:Sem b}{Q c:b->zw->Prop}{M:Model}{A:zk}{E:zx->zw->Prop}{s:zw}(h:wpAny M A t Q E s)(hQ:∀a s,Q a s->c a s):wpAny M A t c E s:=AA6 h hQ λ_ _ x=>x
section
variable {X:Cx}
def GK (i:Nat):TE:=λa H Q=>∃v,a[i]? =some (some v)/\Q v H
def tC (v:V):TE:=λ_ H Q=>Q v H
def KI {i:Nat}{x:Str}{pos:Pos}(hN:X.N[i]? =some x)(hv:Yt X.env.scope x)(hd:(x==("__debug__" :Str))=false:=by decide)(d:(x==("__classdict__" :Str))=false:=by decide):PE X (.Name x pos) (GK i):=by
 intro f s g H Q I h;obtain⟨v,e,h⟩:=h;obtain⟨m,j,hl⟩:=I.loc;obtain⟨u,r,l⟩:=hl i x v hN e hv;have a:EP X f g Q u s:=⟨v,H,I,r,h⟩;rcases l with⟨hk,k⟩|⟨hk,c,hc,b⟩
 .exact wpAny_Name (wpAny_loadName_local I.ok.kind hk j k a) hd
 .rcases hk with hk|hk
  .exact wpAny_Name (wpAny_loadName_cell I.ok.kind hk hc b a) hd
  .exact wpAny_Name (wpAny_loadName_free I.ok.kind hk hc b a d) hd
def A3 {i j pos}:PE X (.Constant (.int i) j pos) (tC (.int i)):=λ_ _ _ H _ I h=>wpAny_Constant_int ⟨.int i,H,I.tok _,⟨_,rfl⟩,h⟩
def d6 {b j pos}:PE X (.Constant (.bool b) j pos) (tC (.bl b)):=λ_ _ _ H _ I h=>Constant_bool ⟨.bl b,H,I,rfl,h⟩
def ak {j pos}:PE X (.Constant .none j pos) (tC .non):=λ_ _ _ H _ I h=>Constant_none ⟨.non,H,I,rfl,h⟩
def ao {x j pos}:PE X (.Constant (.str x) j pos) (tC (.str x)):=λ_ _ _ H _ I h=>Calls.Constant_str ⟨.str x,H,I.tok _,⟨_,rfl⟩,h⟩
def Gl (X:Cx)(x:Str):Prop:=X.env.kindOf x=some .globalImplicit
def SV {E:zx->zw->Prop}{a:zy (zu×Obj)}{s:zw}{b:St}{H:Hp}{x:Str}{u:zx}{pos:Pos}{Q:zx->zw->Prop}(I:Inv X a b H s)(c:Gl X x)(d:X.mg x=some u)(h:Q u s)(hd:(x==("__debug__" :Str))=false:=by decide):wpAny (model X.prog X.w) X.A (eval (.Name x pos) X.env) Q E s:=
 Calls.Name_function_global I.ok.kind c (Calls.loadGlobal_global (by rw[I.ok.glob];exact I.mod.glob.keeps I.bk) d h) hd
def J4 {E:zx->zw->Prop}{a:zy (zu×Obj)}{s:zw}{b:St}{H:Hp}{x:Str}{u:zx}{pos:Pos}{Q:zx->zw->Prop}(I:Inv X a b H s)(c:Gl X x)(d:X.mg x=none)(hv:bootBuiltins x=some u)(h:Q u s)(e:x≠"__name__" :=by decide)(hd:(x==("__debug__" :Str))=false:=by decide):wpAny (model X.prog X.w) X.A (eval (.Name x pos) X.env) Q E s:=by obtain⟨f,h1,h2⟩:=I.mod.blt;exact Calls.Name_function_global I.ok.kind c (Calls.loadGlobal_builtin (by rw[I.ok.glob];exact I.mod.glob.keeps I.bk) d (by rw[I.ok.blt];exact h1.keeps I.bk) ((h2 x e).trans hv) h) hd
def X1 {x:Str}{v:V}{u:zx}{pos:Pos}(a:Gl X x)(b:X.mg x=some u)(r:RelV v u)(hd:(x==("__debug__" :Str))=false:=by decide):PE X (.Name x pos) (tC v):=
 λ_ _ _ H _ I h=>SV I a b ⟨v,H,I,r,h⟩ hd
variable {a b:zr}{ta tb:TE}{pos:Pos}
def tB (t:TE):TT:=λd H Q=>t d H λx H1=>∃c,x= .bl c/\Q c H1
def az {e:zr}{t:TE}(h:PE X e t)(he:∀whole,isTrue e X.env whole=(do let v <-whole;standAt e.pos;holding [v] (truthy v)):=by intro _;rfl):PT X e (tB t):=by intro c s f H Q I hw;refine isTrue_plain (BC (h c s f H _ I hw) λv k ⟨x,H1,g,i,j⟩=> ?_) (he _);obtain⟨d,rfl,q⟩:=j;cases i;exact ABw ⟨H1,g,q⟩
variable {tA tB':TT}{rest:zy zr}
def ik (t u:TT):TT:=λd H Q=>t d H λc H1=>if c=true then u d H1 Q else Q false H1
def nz (t u:TT):TT:=λd H Q=>t d H λc H1=>if c=true then Q true H1 else u d H1 Q
def iz (t:TT):TT:=λd H Q=>t d H λc H1=>Q (!c) H1
def YH (ha:PT X a tA):PW X (.BoolOp .And [a] pos) tA:=by
 intro g d s f H Q I h;refine isTrue_and (BC (ha d s f H Q I h) λc i e=> ?_);cases c with
 | true=>exact isTrue_and_nil e
 | false=>exact e
def bD (ha:PT X a tA):PW X (.BoolOp .Or [a] pos) tA:=by
 intro g d s f H Q I h;refine isTrue_or (BC (ha d s f H Q I h) λc i e=> ?_);cases c with
 | false=>exact isTrue_or_nil e
 | true=>exact e
def bC (ha:PT X a tA)(hb:PW X (.BoolOp .And (b::rest) pos) tB'):PW X (.BoolOp .And (a::b::rest) pos) (ik tA tB'):=by
 intro i d s e H Q I h;refine isTrue_and (BC (ha d s e H _ I h) λc j ⟨H1,f,g⟩=> ?_);cases c with
 | true=>exact hb i d j e H1 Q f g
 | false=>exact⟨H1,f,g⟩
def eD (ha:PT X a tA)(hb:PW X (.BoolOp .Or (b::rest) pos) tB'):PW X (.BoolOp .Or (a::b::rest) pos) (nz tA tB'):=by
 intro i d s e H Q I h;refine isTrue_or (BC (ha d s e H _ I h) λc j ⟨H1,f,g⟩=> ?_);cases c with
 | true=>exact⟨H1,f,g⟩
 | false=>exact hb i d j e H1 Q f g
def ay (ha:PT X a tA):PT X (.UnaryOp .Not a pos) (iz tA):=by intro d s e H Q I h;exact isTrue_not (ha d s e H (λc H1=>Q (!c) H1) I h)
def fJ (ta tb:TE):TE:=λd H Q=>ta d H λx H1=>∃c,x= .bl c/\if c=true then tb d H1 Q else Q (.bl false) H1
def i4 (ta tb:TE):TE:=λd H Q=>ta d H λx H1=>∃c,x= .bl c/\if c=true then Q (.bl true) H1 else tb d H1 Q
def am {op}{t:TE}(h:PE X a t):PE X (.BoolOp op [a] pos) t:=λc s d H Q I hw=>BoolOp_one (h c s d H Q I hw)
def ah (ha:PE X a ta)(hb:PE X (.BoolOp .And (b::rest) pos) tb):PE X (.BoolOp .And (a::b::rest) pos) (fJ ta tb):=by
 intro e s f H Q I h;refine BoolOp_and (BC (ha e s f H _ I h) λv i ⟨x,H1,g,j,d⟩=> ?_);obtain⟨c,rfl,d⟩:=d;cases j;refine ABw ?_;cases c with
 | true=>exact hb e i f H1 Q g d
 | false=>exact⟨.bl false,H1,g,rfl,d⟩
def d8 (ha:PE X a ta)(hb:PE X (.BoolOp .Or (b::rest) pos) tb):PE X (.BoolOp .Or (a::b::rest) pos) (i4 ta tb):=by
 intro e s f H Q I h;refine BoolOp_or (BC (ha e s f H _ I h) λv i ⟨x,H1,g,j,d⟩=> ?_);obtain⟨c,rfl,d⟩:=d;cases j;refine ABw ?_;cases c with
 | false=>exact hb e i f H1 Q g d
 | true=>exact⟨.bl true,H1,g,rfl,d⟩
def nw (t:TT)(ta tb:TE):TE:=λd H Q=>t d H λc H1=>if c=true then ta d H1 Q else tb d H1 Q
def V6 {c:zr}(hc:PT X c tA)(ha:PE X a ta)(hb:PE X b tb):PE X (.IfExp c a b pos) (nw tA ta tb):=by
 intro e s f H Q I h;refine wpAny_IfExp (BC (hc e s f H _ I h) λd g ⟨H1,i,j⟩=> ?_);cases d with
 | true=>exact ha e g f H1 Q i j
 | false=>exact hb e g f H1 Q i j
end
def EQ (K:AAB)(H:Hp)(a:zu)(xs:zy V):Prop:=
 Rd H a (.lst xs)\/
  ∃(o:Obj) (b:Array zx) (n:Nat),K.lookup a=some o/\o.cls= .type "list" /\o.dict=none/\o.data= .seq b n/\b.size<=sizeLine/\An xs b.toList
def K5 (K:AAB)(H:Hp)(a:zu)(xs:zy V):Prop:=
 Rd H a (.tup xs)\/
  ∃(o:Obj) (b:Array zx) (n:Nat),K.lookup a=some o/\o.cls= .type "tuple" /\o.data= .seq b n/\b.size<=sizeLine/\An xs b.toList
def gz:zx->zt V
 | .none=>some .non
 | .bool b=>some (.bl b)
 | .int i _=>some (.int i)
 | .str x _=>some (.str x)
 | .bytes b _=>some (.byt b)
 | .float b _=>some (.flt b)
 | .ref a=>some (.ref a)
 | .type n=>some (.ty n)
 | _=>none
def RelV.abs {x:V}{u:zx}(r:RelV x u):gz u=some x:=by
 cases x with
 | non=>cases r;rfl
 | bl _=>cases r;rfl
 | int _=>obtain⟨t,rfl⟩:=r;rfl
 | str _=>obtain⟨t,rfl⟩:=r;rfl
 | byt _=>obtain⟨t,rfl⟩:=r;rfl
 | flt _=>obtain⟨t,rfl⟩:=r;rfl
 | ref _=>cases r;rfl
 | ty _=>cases r;rfl
def RelV.inj {x y:V}{u:zx}(r:RelV x u)(q:RelV y u):x=y:=AAX (r.abs.symm.trans q.abs)
theorem An.inj:∀{xs a:zy V} {b:zy zx},An xs b->An a b->xs=a
 | _,_,_, .nil, .nil=>rfl
 | _,_,_, .cons r t, .cons c t'=>by rw[r.inj c,An.inj t t']
section
variable {X:Cx}{zj:zy (zu×Obj)}{σ:St}{H:Hp}{s:zw}{a:zu}{xs ys:zy V}
def EQ.of {K:AAB}(h:H a=some (.lst xs)):EQ K H a xs:= .inl (.inl h)
def Inv.list (I:Inv X zj σ H s)(h:EQ X.K H a xs):∃b:zy zx,An xs b/\PlainL s.heap a b.toArray/\xs.length<=sizeLine:=by
 rcases h with h|⟨o,b,n,hk,hc,hd,hs,c,r⟩
 .obtain ⟨z,b,n,r,e⟩:=h.ok I.hok;exact⟨b,r,⟨_,n,e,rfl,rfl,rfl⟩,z⟩
 .refine ⟨b.toList,r,⟨o,n,I.kIn a o hk,hc,hd,by simpa using hs⟩, ?_⟩;have e:=r.length;simp only[ABa] at e;omega
def Inv.tuple (I:Inv X zj σ H s)(h:K5 X.K H a xs):∃b:zy zx,An xs b/\IsTup s.heap a b.toArray/\xs.length<=sizeLine:=by
 rcases h with h|⟨o,b,n,hk,hc,hs,c,r⟩
 .obtain ⟨z,b,r,p⟩:=h.ok I.hok;exact⟨b,r,p,z⟩
 .refine ⟨b.toList,r,⟨o,I.kIn a o hk,hc,n,by simpa using hs⟩, ?_⟩;have e:=r.length;simp only[ABa] at e;omega
def Inv.list_inj (I:Inv X zj σ H s)(h:EQ X.K H a xs)(h':EQ X.K H a ys):xs=ys:=by
 obtain⟨b,r,⟨o,n,e,_,_,d⟩,_⟩:=I.list h;obtain⟨its',f,⟨i,j,c,_,_,d'⟩,_⟩:=I.list h';rw[e] at c;cases c;rw[d] at d';injection d' with g _;have:b=its':=by simpa using congrArg Array.toList g
 subst this;exact r.inj f
def Inv.tuple_inj (I:Inv X zj σ H s)(h:K5 X.K H a xs)(h':K5 X.K H a ys):xs=ys:=by
 obtain⟨b,r,⟨o,e,_,n,d⟩,_⟩:=I.tuple h;obtain⟨its',f,⟨i,c,_,j,d'⟩,_⟩:=I.tuple h';rw[e] at c;cases c;rw[d] at d';injection d' with g _;have:b=its':=by simpa using congrArg Array.toList g
 subst this;exact r.inj f
end
abbrev Cx.wish (X:Cx)(E:zx->zw->Prop):Cx:={X with xe:=E}
abbrev Cx.nox (X:Cx):Cx:=X.wish λ_ _=>False
def Cx.Ok.wish {X:Cx}(ok:X.Ok)(E:zx->zw->Prop):(X.wish E).Ok:=
 ⟨ok.mod,ok.kind,ok.glob,ok.blt,ok.above,ok.inj,ok.has,ok.cab,ok.hd,ok.frames,ok.stk,ok.exf,ok.bs,ok.bsz,ok.noex,ok.exfs,ok.funs,ok.frf⟩
def Cx.Ok.unwish {X:Cx}{E:zx->zw->Prop}(ok:(X.wish E).Ok):X.Ok:=
 ⟨ok.mod,ok.kind,ok.glob,ok.blt,ok.above,ok.inj,ok.has,ok.cab,ok.hd,ok.frames,ok.stk,ok.exf,ok.bs,ok.bsz,ok.noex,ok.exfs,ok.funs,ok.frf⟩
section
variable {X:Cx}{zj:zy (zu×Obj)}{σ:St}{H:Hp}{s:zw}{E:zx->zw->Prop}
def Inv.wish (I:Inv X zj σ H s)(E:zx->zw->Prop):Inv (X.wish E) zj σ H s:=⟨I.ok.wish E,I.os,I.bare,I.base,I.loc,I.cell,I.free,I.freeC,I.pin,I.hok,I.len⟩
def Inv.unwish (I:Inv (X.wish E) zj σ H s):Inv X zj σ H s:=⟨I.ok.unwish,I.os,I.bare,I.base,I.loc,I.cell,I.free,I.freeC,I.pin,I.hok,I.len⟩
def SP.unwish {D:Ms}{f:Flow}{b:zw}(h:SP (X.wish E) zj D f b):SP X zj D f b:=by
 cases f with
 | next=>obtain⟨σ',a,I,q⟩:=h;exact⟨σ',a,I.unwish,q⟩
 | brk=>obtain⟨σ',a,I,q⟩:=h;exact⟨σ',a,I.unwish,q⟩
 | cont=>obtain⟨σ',a,I,q⟩:=h;exact⟨σ',a,I.unwish,q⟩
 | ret u=>obtain⟨v,σ',a,I,r,q⟩:=h;exact⟨v,σ',a,I.unwish,r,q⟩
def OX.nox {st:zy Stmt}{t:TS}(h:OX X.nox st t):OX X st t:=λzj s σ H D I hw=>
 AA6 (h zj s σ H D (I.wish _) hw) (λ_ _ q=>q.unwish) λ_ _ z=>False.elim z
end
section
variable {X:Cx}{st:Stmt}{rest:zy Stmt}{t u:TS}{e:zr}{te:TE}{pos:Pos}
def fQ:TS:=λD a H=>D.nx a H
def fS (t u:TS):TS:=λD a H=>t {D with nx:=u D} a H
def Nk:OX X [] fQ:=λ_ _ a H _ I h=>ACJ ⟨a,H,I,h⟩
def Bu (h1:PS X st t)(h2:OX X rest u):OX X (st::rest) (fS t u):=by
 intro a s b H D I h;refine wpAny_execs_cons (BC (h1 a s b H {D with nx:=u D} I h) λf c q=> ?_);cases f with
 | next=> obtain⟨σ',d,g,q⟩:=q;exact h2 a c σ' d D g q
 | ret v=>exact q
 | brk=>exact q
 | cont=>exact q
def FX (h1:PS X st t):OX X [st] t:=by
 intro a s b H D I h;refine wpAny_execs_cons (BC (h1 a s b H D I h) λf c q=> ?_);cases f with
 | next=>exact ACJ q
 | ret v=>exact q
 | brk=>exact q
 | cont=>exact q
def Inv.quiet {a:zy (zu×Obj)}{b:St}{H:Hp}{s:zw}(I:Inv X a b H s):interactive X.env=false:=by simp[interactive,I.ok.kind]
def ZG (te:TE):TS:=λD a H=>te a H λ_ H1=>D.nx a H1
def YE (he:PE X e te)(hs:swapsWith e none pos.line X.env=pure false:=by rfl):PS X (.Expr e pos) (ZG te):=by intro b s a H D I h;exact wpAny_Expr_any (BC (he b s a H _ I h) λv f ⟨x,H1,c,g,d⟩=>⟨a,H1,c,d⟩) I.quiet hs
def i6 (te:TE):TS:=λD a H=>te a H D.rt
def Nj (he:PE X e te):PS X (.Return (some e) pos) (i6 te):=by intro b s a H D I h;exact wpAny_Return_some (BC (he b s a H _ I h) λv g ⟨x,H1,c,d,f⟩=>⟨x,a,H1,c,d,f⟩)
def ir (c:TT)(t u:TS):TS:=λD a H=>c a H λb H1=>if b=true then t D a H1 else u D a H1
def WH {c:zr}{a b:zy Stmt}{i:TT}(hc:PT X c i)(ha:OX X a t)(hb:OX X b u):PS X (.If c a b pos) (ir i t u):=by
 intro f s g H D I h;refine wpAny_If (BC (hc f s g H _ I h) λd j ⟨H1,k,l⟩=> ?_);cases d with
 | true=>exact ha f j g H1 D k l
 | false=>exact hb f j g H1 D k l
end
abbrev TG:=V->St->Hp->(St->Hp->Prop)->Prop
abbrev QE:=zy V->St->Hp->(St->Hp->Prop)->Prop
def PG (X:Cx)(target:zr)(t:TG):Prop:=
 ∀(a:zy (zu×Obj)) (s:zw) (b:St) (H:Hp) (v:V) (u:zx) (Q:St->Hp->Prop),Inv X a b H s->RelV v u->t v b H Q->
  wpAny (model X.prog X.w) X.A (assign target X.env u) (λ_ d=>∃σ' c,Inv X a σ' c d/\Q σ' c) X.xe s
def cH (X:Cx)(e:zy zr)(t:QE):Prop:=
 ∀(a:zy (zu×Obj)) (s:zw) (b:St) (H:Hp) (vs:zy V) (c:zy zx) (Q:St->Hp->Prop),Inv X a b H s->An vs c->t vs b H Q->
  wpAny (model X.prog X.w) X.A (assignInOrder ((assignEach e X.env).map (·.2)) c) (λ_ f=>∃σ' d,Inv X a σ' d f/\Q σ' d) X.xe s
abbrev U6:=V->V->V->Hp->(Hp->Prop)->Prop
def ZS (X:Cx)(t:U6):Prop:=
 ∀(a:zy (zu×Obj)) (s:zw) (b:St) (H:Hp) (o i v:V) (c d u:zx) (Q:Hp->Prop),Inv X a b H s->RelV o c->RelV i d->RelV v u->t o i v H Q->
  wpAny (model X.prog X.w) X.A (setItem c d u) (λ_ f=>∃e,Inv X a b e f/\Q e) X.xe s
abbrev ZZ:=V->V->Hp->VK->Prop
def cI (X:Cx)(op:Operator)(t:ZZ):Prop:=
 ∀(a:zy (zu×Obj)) (s:zw) (b:St) (H:Hp) (x y:V) (v u:zx) (Q:VK),Inv X a b H s->RelV x v->RelV y u->t x y H Q->
  wpAny (model X.prog X.w) X.A (inplaceOp op v u) (EP X a b Q) X.xe s
section
variable {X:Cx}{pos:Pos}
def CA (i:Nat):TG:=λv a H Q=>Q (a.set i (some v)) H
def FW {i:Nat}{x:Str}(hN:X.N.Nodup)(hi:X.N[i]? =some x)(hx:Loc X.env.scope x)(a:X.fn x=true\/X.env.scope.names.lookup x=some .local:=by first | exact .inl rfl|exact .inr rfl|assumption):PG X (.Name x pos) (CA i):=by intro c s d H v u Q I r h;exact ACs (FI I hN hi hx r (λe b=>⟨_,H,b,h⟩) a)
def NC:QE:=λvs a H Q=>vs= [] /\Q a H
def EF (t:TG)(u:QE):QE:=λvs a H Q=>∃v r,vs=v::r/\t v a H λσ' b=>u r σ' b Q
def Iu:cH X [] NC:=by intro b s a H vs c Q I r h;obtain⟨e,h⟩:=h;subst e;cases r;exact assignInOrder_nil ⟨a,H,I,h⟩
def EH {e:zr}{es:zy zr}{t:TG}{u:QE}(h1:PG X e t)(h2:cH X es u)(hs:(assignEach (e::es) X.env).map (·.2)=assign e X.env::(assignEach es X.env).map (·.2):=by rfl):cH X (e::es) (EF t u):=by
 intro b s c H vs k Q I r h;obtain⟨v,l,d,h⟩:=h;subst d;cases r with
 | cons r f=> rw[hs];refine assignInOrder_cons (BC (h1 b s c H _ _ _ I r h) λ_ g ⟨a,H1,i,j⟩=> ?_);exact h2 b g a H1 _ _ Q i f j
def hU (b c:TE)(t:U6):TG:=λv a H Q=>b a H λo H1=>c a H1 λi d=>t o i v d λe=>Q a e
def Q4 {o i:zr}{e f:TE}{t:U6}(g:PE X o e)(hi:PE X i f)(hs:ZS X t)(ha:∀v,assign (.Subscript o i pos) X.env v=(do
   let a <-holding [v] (eval o X.env);let b <-holding [v,a] (eval i X.env)
   standAt pos
   holding [v,a,b] (setItem a b v)
   release [v,a,b] []):=by intro _;rfl):PG X (.Subscript o i pos) (hU e f t):=by intro d s c H v u Q I r h;rw[ha];refine AAA (AAW (BC (g d s c H _ I h) λa j ⟨x,H1,k,l,m⟩=> ?_));refine AAA (AAW (BC (hi d j c H1 _ k m) λb n ⟨y,p,w,z,A⟩=> ?_));refine AAA (ABF (AAA (AAW (BC (hs d n c p x y v a b u _ w l z r A) λ_ E ⟨B,C,D⟩=> ?_))));exact wpAny_release ⟨c,B,C,D⟩
def RQ (b:TE)(g:TG):TS:=λD a H=>b a H λx H1=>g x a H1 D.nx
def Ni {a e:zr}{b:TE}{g:TG}(he:PE X e b)(f:PG X a g)(hs:swapsWithSole [a] e pos.line X.env=pure false:=by rfl)(hw:swappedStores [a] e X.env=pure none:=by rfl)(h1:(assignEach [a] X.env).map (·.2)= [assign a X.env] :=by rfl):PS X (.Assign [a] e pos) (RQ b g):=by intro c s d H D I h;refine wpAny_Assign_stores (BC (he c s d H _ I h) λv i ⟨x,H1,j,k,l⟩=> ?_) hs hw;rw[h1];exact BC (f c i d H1 x v _ j k l) λ_ m q=>q
def F6 {i:Nat}{x:Str}{e:zr}{a:TE}{pos':Pos}(hN:X.N.Nodup)(hi:X.N[i]? =some x)(hx:Loc X.env.scope x)(he:PE X e a)(hs:swapsWith e (some (.Name x pos')) pos.line X.env=pure false:=by rfl)(b:X.fn x=true\/X.env.scope.names.lookup x=some .local:=by first | exact .inl rfl|exact .inr rfl|assumption):PS X (.Assign [.Name x pos'] e pos) (RQ a (CA i)):=by intro c s d H D I h;refine wpAny_Assign_Name (BC (he c s d H _ I h) λv l ⟨y,H1,f,g,j⟩=> ?_) hs;exact FI f hN hi hx g (λm k=>⟨_,H1,k,j⟩) b
def i5 (i j:Nat)(b:TA):TS:=λD a H=>b a H λvs H1=>∃v w,vs= [v,w] /\D.nx ((a.set i (some v)).set j (some w)) H1
def ax {i j:Nat}{x y:Str}{a b:zr}{r:TA}{g k l:Pos}{kt k2 pt2}(hc:X.calm=true)(hN:X.N.Nodup)(hi:X.N[i]? =some x)(hj:X.N[j]? =some y)(B:i≠j)(hx:X.env.scope.names.lookup x=some .local)(hy:X.env.scope.names.lookup y=some .local)(ha:PA X [a,b] r)(hw:swappedStores [.Tuple [.Name x g, .Name y k] kt l] (.Tuple [a,b] k2 pt2) X.env=pure (some [x,y]))(hs:swapsWithSole [.Tuple [.Name x g, .Name y k] kt l] (.Tuple [a,b] k2 pt2) pos.line X.env=pure false:=by rfl):PS X (.Assign [.Tuple [.Name x g, .Name y k] kt l] (.Tuple [a,b] k2 pt2) pos) (i5 i j r):=by
 intro t s u H D I h;rw[exec_Assign_arm];refine AAA (ABF ?_);rw[hs];refine AAA (AAC ?_);rw[AAD (by decide)];refine AAA (Tuple_ (BC (ha _ t s u H _ I h) λC c ⟨vs,H1,E,F,m⟩=> ?_));obtain⟨v,w,G,m⟩:=m;subst G;obtain⟨d,f,rfl,rv,n⟩:∃d f,C= [d,f] /\RelV v d/\RelV w f:=by
  cases F with
  | cons p q=>
    cases q with
    | cons J K=> cases K;exact⟨_,_,rfl,p,J⟩
 refine AAv ?_ (by show 2<=sizeLine;decide);have L:Inv X t u H1 {c with heap:=c.heap.push {cls:= .type "tuple",data:= .seq [d,f].toArray}}:=E.kept (t':=c.toks) λb o e=>AAG _ e;rw[hw];refine AAA (AAC ?_);show wpAny (model X.prog X.w) X.A (do rule "assign.swapped-stores";let items <-unpackItems (.ref c.heap.objs.size) 2 none;assignInOrder [λv=>bindName X.env y v,λv=>bindName X.env x v] items.reverse;pure Flow.next) _ _ _;refine AAA (ABO (AAA (unpackItems_tuple (items:= #[d,f]) (I.ok.hd hc) (IsTup.new c.heap _) λh' M=> ?_)));have O:=L.kept (h':=h') (t':=c.toks) λb o e=>M b o (AAK (AAF e)) e;show wpAny _ _ (assignInOrder [λv=>bindName X.env y v,λv=>bindName X.env x v] [f,d] >>= λ_=>pure Flow.next) _ _ _;refine AAA (assignInOrder_cons (wpAny_bindName (FI O hN hj (.inl hy) n (λQ P=> ?_) (.inr hy))));refine assignInOrder_cons (wpAny_bindName (FI P hN hi (.inl hx) rv (λR z=>assignInOrder_nil (AAC ?_)) (.inr hx)));rw[List.set_comm _ _ (AAp B)] at z;exact⟨_,H1,z,m⟩
def ip (i:Nat)(b:TE)(c:ZZ):TS:=λD a H=>∃x,a[i]? =some (some x)/\b a H λy H1=>c x y H1 λz d=>D.nx (a.set i (some z)) d
def aw {i:Nat}{x:Str}{e:zr}{g:TE}{op:Operator}{j:ZZ}{pos':Pos}(hN:X.N.Nodup)(hi:X.N[i]? =some x)(hx:Loc X.env.scope x)(he:PE X e g)(o:cI X op j)(p:X.fn x=true\/X.env.scope.names.lookup x=some .local:=by first | exact .inl rfl|exact .inr rfl|assumption):PS X (.AugAssign (.Name x pos') op e pos) (ip i g j):=by
 intro d s n H D I h;obtain⟨v,t,h⟩:=h;obtain⟨m,B,hl⟩:=I.loc;have f:Yt X.env.scope x:=by rcases hx with k|k;exact .inl k;exact .inr (.inl k)
 obtain⟨u,r,l⟩:=hl i x v hi t f;refine wpAny_AugAssign_Name ?_;have go:wpAny (model X.prog X.w) X.A (eval e X.env) (λw a=>wpAny (model X.prog X.w) X.A (inplaceOp op u w) (λr b=>wpAny (model X.prog X.w) X.A (storeName X.env x r) (λ_=>SP X d D .next) X.xe b) X.xe a) X.xe s:=by refine BC (he d s n H _ I h) λw C ⟨y,H1,E,F,G⟩=> ?_;refine BC (o d C n H1 v y u w _ E r F G) λz R ⟨S,J,K,L,M⟩=> ?_;exact FI K hN hi hx L (λT O=>⟨_,J,O,M⟩) p
 rcases l with⟨hk,P⟩|⟨hk,c,hc,Q⟩
 .exact wpAny_loadName_local I.ok.kind hk B P go
 .rcases hk with hk|hk
  .exact wpAny_loadName_cell I.ok.kind hk hc Q go
  .rcases hx with k|k
   .have:X.env.scope.names.lookup x=some .free:=hk;rw[k] at this;cases this
   .have:X.env.scope.names.lookup x=some .free:=hk;rw[k] at this;cases this
def fL (e f g:TE)(a:V->V->Hp->VK->Prop)(d:ZZ)(b:U6):TS:=λD c H=>e c H λo H1=>f c H1 λi h=>a o i h λx j=>g c j λy k=>d x y k λz l=>b o i z l λm=>D.nx c m
def cy (X:Cx)(t:V->V->Hp->VK->Prop):Prop:=
 ∀(a:zy (zu×Obj)) (s:zw) (b:St) (H:Hp) (o i:V) (c d:zx) (Q:VK),Inv X a b H s->RelV o c->RelV i d->t o i H Q->
  wpAny (model X.prog X.w) X.A (getItem c d) (EP X a b Q) X.xe s
def YC {o i e:zr}{m n p:TE}{a:V->V->Hp->VK->Prop}{j:ZZ}{b:U6}{op:Operator}{k:Pos}(x:PE X o m)(hi:PE X i n)(y:cy X a)(he:PE X e p)(hp:cI X op j)(hs:ZS X b)(ha:∀c d new,augStore i c d new=(do holding [new,c,d] (setItem c d new);release [new,c,d] [];pure .next):=by intros;rfl):PS X (.AugAssign (.Subscript o i k) op e pos) (fL m n p a j b):=by intro g s f H D I h;refine wpAny_AugAssign_SubscriptAny (BC (x g s f H _ I h) λc z ⟨r,H1,A,t,B⟩=> ?_) ha;refine BC (hi g z f H1 _ A B) λd C ⟨u,E,F,w,G⟩=> ?_;refine BC (y g C f E r u c d _ F t w G) λl J ⟨K,L,M,N,O⟩=> ?_;refine BC (he g J f L _ M O) λv P ⟨Q,R,S,T,U⟩=> ?_;refine BC (hp g P f R K Q l v _ S N T U) λnew W ⟨Y,Z,I5,r5,q5⟩=> ?_;exact BC (hs g W f Z r u Y c d new _ I5 t w r5 q5) λ_ s6 ⟨H6,I6,q6⟩=>⟨f,H6,I6,q6⟩
def nh (f:Int->Int->Int):ZZ:=λx y H Q=>∃i j,x= .int i/\y= .int j/\Q (.int (f i j)) H
def aA:cI X .Add (nh λi j=>i+j):=by intro e s f H x y v u Q I a b h;obtain⟨i,j,c,d,q⟩:=h;subst c;subst d;obtain⟨t,rfl⟩:=a;obtain⟨t',rfl⟩:=b;exact iadd_int ⟨.int _,H,I.tok _,⟨_,rfl⟩,q⟩
def bn (c:TT)(f:TS):TS:=λD a H=>∃W:Nat->St->Hp->Prop,(∃m,W m a H)/\∀m a H,W m a H->
 c a H λb H1=>if b=true then ∃N:St->Hp->Prop,(∀σ' d,N σ' d->∃e,e<m/\W e σ' d)/\f {D with nx:=N,ct:=N,bk:=D.nx} a H1 else D.nx a H1
def WI {c:zr}{body:zy Stmt}{r:TT}{t:TS}(hp:PassesOwn (model X.prog X.w) X.A X.env X.xe)(hc:PT X c r)(hb:OX X body t):PS X (.While c body [] pos) (bn r t):=by
 intro j s z H D I h;obtain⟨W,⟨m0,B⟩,turn⟩:=h;refine wpAny_While (codeAny_whileLoop (λn C=>∃σ' u,Inv X j σ' u C/\W n σ' u) ?_ m0 ⟨z,H,I,B⟩);rintro n E ⟨d,H1,F,G⟩;refine ABQ hp (BC (hc j E d H1 _ F (turn n d H1 G)) λb J ⟨x,y,g⟩=> ?_);cases b with
 | true=>
   obtain⟨N,hN,g⟩:=g;rw[AAE rfl];refine ABQ hp (BC (hb j J d x _ y g) λf K i=> ?_);cases f with
   | next=> obtain⟨a,e,k,l⟩:=i;obtain⟨m,o,p⟩:=hN a e l;exact⟨m,o,a,e,k,p⟩
   | cont=> obtain⟨a,e,k,l⟩:=i;obtain⟨m,o,p⟩:=hN a e l;exact⟨m,o,a,e,k,p⟩
   | brk=>exact i
   | ret v=>exact i
 | false=> rw[AAD AAO];exact ACJ ⟨d,x,y,g⟩
end
structure It where
 go:Nat->Hp->Prop
 yld:Nat->Hp->V->Hp->Prop
 stop:Nat->Hp->Prop
def EO (X:Cx)(a:zy (zu×Obj))(H:Hp)(b:zu):Prop:=
 H b=none/\b≠X.env.locals/\b ∉ X.fs/\(b∈X.ex\/X.s₀.heap.objs.size<=b)/\(∀x c,X.env.cells.lookup x=some c->c≠b)/\∀p∈X.pn++a,p.1≠b
def Inv.fpOk {X:Cx}{a:zy (zu×Obj)}{f:St}{H d:Hp}{s:zw}{b:zu}(I:Inv X a f H s)(hb:s.heap.objs.size<=b)(g:d b=none):EO X a d b:=by
 refine⟨g,AAj (AAP I.lt hb),I.nofs hb, .inr (AAT I.sz hb),λx c e z=> ?_,λp hp z=> ?_⟩
 .obtain ⟨v,q⟩:=I.cell x c e;exact absurd (AAP q.lt (by rw[z];exact hb)) (ABE _)
 .exact absurd (AAP (AAF (I.pin p hp).1) (by rw[z];exact hb)) (ABE _)
structure IV (P:Program) (w:World) (K:AAB) (tg:Expr) (J:It) (fp:List Addr) (it:Addr) (tn:Nat->Heap->Prop):Prop where
 mem:it∈fp
 obj:∀i h,tn i h->∀b∈fp,∃o,h.get? b=some o/\∀v,o.data≠ .cell v
 keep:∀i h h',tn i h->(∀b∈fp,∀o,h.get? b=some o->h'.get? b=some o)->tn i h'
 item:∀(X:Cx),X.prog=P->X.w=w->X.K=K->X.calm=true->∀(i:Nat) (zj:List (Addr×Obj)) (s:Shared) (σ:St) (H:Hp) (E:Value->Shared->Prop),Inv X zj σ H s->(∀b∈fp,EO X zj H b)->tn i s.heap->J.go i H->
  wpAny (model P w) X.A (pyNext (.ref it)) (λr s1=>∃u,r=some u/\
   wpAny (model P w) X.A (letOwnedTupleGo tg (.ref it) u) (λ_ s2=>∃x H',Inv X zj σ H' s2/\RelV x u/\J.yld i H x H'/\tn (i+1) s2.heap/\∀b∈fp,H' b=none) E s1) E s
 done:∀(X:Cx),X.prog=P->X.w=w->X.K=K->X.calm=true->∀(i:Nat) (zj:List (Addr×Obj)) (s:Shared) (σ:St) (H:Hp) (E:Value->Shared->Prop),Inv X zj σ H s->(∀b∈fp,EO X zj H b)->tn i s.heap->J.stop i H->
  wpAny (model P w) X.A (pyNext (.ref it)) (λr s1=>r=none/\Inv X zj σ H s1) E s
 self:∀(A:Around) (i:Nat) (s:Shared) (Q:Value->Shared->Prop) (E:Value->Shared->Prop),tn i s.heap->Q (.ref it) s->wpAny (model P w) A (pyIter (.ref it)) Q E s
abbrev TI:=St->Hp->(It->Hp->Prop)->Prop
def jt (X:Cx)(d:zy (zu×Obj))(g:St)(h:zr)(R:It->Hp->Prop)(a:zx)(e:zw):Prop:=
 ∃(it:zu) (f:zy zu) (tn:Nat->zl->Prop) (J:It) (c:Hp),a= .ref it/\Inv X d g c e/\IV X.prog X.w X.K h J f it tn/\tn 0 e.heap/\(∀b∈f,EO X d c b)/\R J c
def PI (X:Cx)(c iter:zr)(d:TI):Prop:=
 ∀(b:zy (zu×Obj)) (s:zw) (a:St) (H:Hp) (R:It->Hp->Prop),Inv X b a H s->d a H R->
  wpAny (model X.prog X.w) X.A (eval iter X.env) (λv e=>wpAny (model X.prog X.w) X.A (pyIter v) (jt X b a c R) X.xe e) X.xe s
def R9 {M:Model}{A:zk}{E:zx->zw->Prop}{s:zw}{a:zr}{it:zu}{u:zx}{o:Obj}{n:String}{vs:Array zx}{Q:Unit->zw->Prop}(b:s.heap.get? it=some o)(hc:o.cls= .type n)(hd:o.data= .fields vs)(c: ["enumerate","zip","dict_itemiterator","dict_reverseitemiterator","odict_iterator","itertools.zip_longest","itertools.pairwise"].contains n=false)(hQ:Q () s):wpAny M A (letOwnedTupleGo a (.ref it) u) Q E s:=by
 unfold letOwnedTupleGo;cases a <;> first
  | exact AAC hQ
  | (cases u <;> first
      | exact AAC hQ
      | (refine AAA (wpAny_load b ?_)
         rw[hc,hd];show wpAny M A (if (["enumerate","zip","dict_itemiterator","dict_reverseitemiterator","odict_iterator","itertools.zip_longest","itertools.pairwise"].contains n&&vs[0]?==some (rawInt _))=true then _ else _) Q E s;rw[AAD (by intro h;rw[c,Bool.false_and] at h;cases h)];exact AAC hQ))
def gi (K:AAB)(a:zu):It:=
 ⟨λi H=>∃xs x,EQ K H a xs/\xs[i]? =some x,λi H x b=>b=H/\∀xs,EQ K H a xs->xs[i]? =some x,λi H=>∃xs,EQ K H a xs/\xs.length<=i⟩
def gj (K:AAB)(a:zu):It:=
 ⟨λi H=>∃xs x,K5 K H a xs/\xs[i]? =some x,λi H x b=>b=H/\∀xs,K5 K H a xs->xs[i]? =some x,λi H=>∃xs,K5 K H a xs/\xs.length<=i⟩
def fY (lo:Int)(n:Nat):It:=⟨λi _=>i<n,λi H x a=>a=H/\x= .int (lo+i),λi _=>n<=i⟩
def Ua {P:zp}{w:zm}{K:AAB}{D:zr}(a it:zu):IV P w K D (gi K a) [it] it (λi h=>h.IsListIter it a i) where
 mem:=by simp
 obj:=λi h st b hb=>by
  have e:b=it:=by simpa using hb
  subst e;obtain⟨o,e,c,d⟩:=st;exact⟨o,e,λv z=>by rw[d] at z;cases z⟩
 keep:=λi h h' st k=>st.at λo e=>k it (by simp) o e
 item:=by intro X l hw m hc i B s C H E I g st n;subst l hw m;obtain⟨xs,x,j,hx⟩:=n;obtain⟨r,rv,p,F⟩:=I.list j;obtain⟨u,hu,G⟩:=rv.get hx;obtain⟨f0,f1,J,t,y,A⟩:=g it (by simp);refine wpAny_pyNext_list_item st p.isList (x:=u) (by simpa using hu) λh' f L=> ?_;have M:Inv X B C H {s with heap:=h'}:=I.turned (t':=s.toks) (λb o hb e=>(L.2 b hb).trans e) f0 f1 t y A;obtain⟨o,e,c,d⟩:=id f;exact⟨u,rfl,R9 (s:={s with heap:=h'}) e c d (by decide) ⟨x,H,M,G,⟨rfl,λO hy=>by rw[I.list_inj hy j];exact hx⟩,f,λb hb=>(g b hb).1⟩⟩
 done:=by intro X l hw m hc i B s C H E I g st n;subst l hw m;obtain⟨xs,j,hx⟩:=n;obtain⟨r,rv,p,F⟩:=I.list j;obtain⟨f0,f1,J,t,y,A⟩:=g it (by simp);have hl:=rv.length;exact wpAny_pyNext_list_end (I.ok.hd hc) st p.isList (by simp;omega) λh' N=>⟨rfl,I.turned (t':=s.toks) (λb o hb e=>N b o hb e) f0 f1 t y A⟩
 self:=λ_ _ _ _ _ st h=>wpAny_pyIter_listiter st h
def Rb {P:zp}{w:zm}{K:AAB}{D:zr}(a it:zu):IV P w K D (gj K a) [it] it (λi h=>h.IsTupleIter it a i) where
 mem:=by simp
 obj:=λi h st b hb=>by
  have e:b=it:=by simpa using hb
  subst e;obtain⟨o,e,c,d⟩:=st;exact⟨o,e,λv z=>by rw[d] at z;cases z⟩
 keep:=λi h h' st k=>st.at λo e=>k it (by simp) o e
 item:=by intro X m hw n hc i B s C H E I j st r;subst m hw n;obtain⟨xs,x,l,hx⟩:=r;obtain⟨f,rv,p,F⟩:=I.tuple l;obtain⟨u,hu,G⟩:=rv.get hx;obtain⟨f0,f1,J,t,y,A⟩:=j it (by simp);refine wpAny_pyNext_tuple_item st (show s.heap.IsTuple a f.toArray from p) (x:=u) (by simpa using hu) λh' g L=> ?_;have M:Inv X B C H {s with heap:=h'}:=I.turned (t':=s.toks) (λb o hb e=>(L.2 b hb).trans e) f0 f1 t y A;obtain⟨o,e,c,d⟩:=id g;exact⟨u,rfl,R9 (s:={s with heap:=h'}) e c d (by decide) ⟨x,H,M,G,⟨rfl,λO hy=>by rw[I.tuple_inj hy l];exact hx⟩,g,λb hb=>(j b hb).1⟩⟩
 done:=by intro X m hw n hc i B s C H E I j st r;subst m hw n;obtain⟨xs,l,hx⟩:=r;obtain⟨f,rv,p,F⟩:=I.tuple l;obtain⟨f0,f1,J,t,y,A⟩:=j it (by simp);have hl:=rv.length;exact wpAny_pyNext_tuple_end (I.ok.hd hc) st (show s.heap.IsTuple a f.toArray from p) (by simp;omega) λh' N=>⟨rfl,I.turned (t':=s.toks) (λb o hb e=>N b o hb e) f0 f1 t y A⟩
 self:=λ_ _ _ _ _ st h=>wpAny_pyIter_tupleiter st h
def Ra {P:zp}{w:zm}{K:AAB}{x:zr}(it:zu)(lo:Int)(n:Nat):IV P w K x (fY lo n) [it] it (λi h=>IsRangeIter h it (lo+(i:Nat)*1) ((n:Int)-(i:Nat)) 1) where
 mem:=by simp
 obj:=λi h st b hb=>by
  have e:b=it:=by simpa using hb
  subst e;exact⟨_,st,λv z=>by
   have y:Data.fields _=Data.cell v:=z;cases y⟩
 keep:=λi h h' st k=>k it (by simp) _ st
 item:=by intro X d hw f hc i p s r H E I c st g;subst d hw f;obtain⟨f0,f1,A,j,l,m⟩:=c it (by simp);have W:=Walks.range (prog:=X.prog) (w:=X.w) (I.ok.hd hc) it lo 1 n;refine W.item i s _ _ g st λv h' u hv a B=> ?_;obtain⟨t,rfl⟩:=hv;have C:Inv X p r H {s with heap:=h',toks:=u}:=I.turned (λb o hb e=>B b o (by simpa using hb) e) f0 f1 j l m;refine⟨_,rfl,R9 (s:={s with heap:=h',toks:=u}) (n:="range_iterator") a rfl rfl (by decide) ⟨.int (lo+i),H,C,⟨t, ?_⟩,⟨rfl,rfl⟩,a,λb hb=>(c b hb).1⟩⟩;rw[ABc]
 done:=by intro X d hw f hc i p s r H E I c st g;subst d hw f;obtain⟨f0,f1,A,j,l,m⟩:=c it (by simp);exact wpAny_pyNext_range_end (I.ok.hd hc) st (by have:n<=i:=g;omega) λh' D=>⟨rfl,I.turned (t':=s.toks) (λb o hb e=>D b o hb e) f0 f1 j l m⟩
 self:=λ_ _ _ _ _ st h=>wpAny_pyIter_rangeiter st h
section
variable {X:Cx}{tg:zr}
def WM {a:zy (zu×Obj)}{c:St}{H:Hp}{s:zw}{R:It->Hp->Prop}{E:zx->zw->Prop}{lo hi:Int}{t u v:Tok}{d:Nat}(I:Inv X a c H s)(h1: -(2^62)<=lo)(h2:lo<2^62)(h3: -(2^62)<=hi)(g:hi<2^62)(q:R (fY lo (hi-lo).toNat) H):wpAny (model X.prog X.w) X.A (pyIter (.ref s.heap.objs.size)) (jt X a c tg R) E {s with heap:=s.heap.push {cls:= .type "range",data:= .fields #[.int lo t, .int hi u, .int 1 v] },toks:=d}:=by
 refine wpAny_pyIter_range (IsRange.new ..) (small_one h1 h2 h3 g) ?_;have f:Inv X a c H {s with heap:=s.heap.push {cls:= .type "range",data:= .fields #[.int lo t, .int hi u, .int 1 v] },toks:=d}:=I.kept λb o e=>AAG _ e;refine⟨(s.heap.push {cls:= .type "range",data:= .fields #[.int lo t, .int hi u, .int 1 v] }).objs.size, [(s.heap.push {cls:= .type "range",data:= .fields #[.int lo t, .int hi u, .int 1 v] }).objs.size],_,_,H,rfl,
  f.kept (t':=d) λb o e=>AAG _ e,Ra _ lo (hi-lo).toNat, ?_,λb hb=> ?_,q⟩
 .have h:lo+((0:Nat):Int)*1=lo:=by simp
  have i:(((hi-lo).toNat:Nat):Int)-((0:Nat):Int)=Builtin.Range.rangeSize lo hi 1:=by rw[rangeSize_one];split <;> omega
  show IsRangeIter _ _ (lo+((0:Nat):Int)*1) ((((hi-lo).toNat:Nat):Int)-((0:Nat):Int)) 1;rw[h,i];exact AAN _ rfl
 .have e:b=(s.heap.push {cls:= .type "range",data:= .fields #[.int lo t, .int hi u, .int 1 v] }).objs.size:=by simpa using hb
  subst e;exact f.fpOk (AAI _) (f.hok.fresh (AAI _))
def dX (a:TA):TI:=λb H R=>a b H λvs H1=>∃j:Int,vs= [.int j] /\ -(2^62)<=j/\j<2^62/\R (fY 0 j.toNat) H1
def UM {a:zr}{c:TA}{p pos:Pos}(d:Gl X "range")(f:X.mg "range" =none)(ha:PA X [a] c)(hs:starEach [a] X.env= [(false,eval a X.env)] :=by rfl):PI X tg (.Call (.Name "range" p) [a] [] pos) (dX c):=by
 intro g s i H R I h;refine Call_ (J4 I d f boot_range (ACK (BC (ha pos g s i H _ I h) λo u ⟨vs,H1,k,l,b⟩=> ?_) hs rfl));obtain⟨j,e,b,m,q⟩:=b;subst e;cases l with
 | cons r n=> cases n;obtain⟨t,rfl⟩:=r;exact call_range_1 (WM k (by omega) (by omega) b m (by simpa using q))
def fP (e:TI)(g:TG)(f:TS):TS:=λD a H=>e a H λJ H1=>∃W:Nat->Nat->St->Hp->Prop,(∃m,W 0 m a H1)/\∀i m a H,W i m a H->
 (J.stop i H/\D.nx a H)\/(J.go i H/\∃N:St->Hp->Prop,(∀σ' b,N σ' b->∃d,d<m/\W (i+1) d σ' b)/\∀x b,J.yld i H x b->g x a b λc h=>f {D with nx:=N,ct:=N,bk:=D.nx} c h)
def HL (a:zy zu)(h:zl):zy (zu×Obj):=a.filterMap λb=>(h.get? b).map λo=>(b,o)
def Cr {a:zy zu}{h:zl}{b:zu}{o:Obj}(hb:b∈a)(e:h.get? b=some o):(b,o)∈HL a h:=List.mem_filterMap.mpr ⟨b,hb,by rw[e];rfl⟩
def UD {a:zy zu}{h:zl}{p:zu×Obj}(hp:p∈HL a h):p.1∈a/\h.get? p.1=some p.2:=by
 obtain⟨b,hb,e⟩:=List.mem_filterMap.mp hp;cases q:h.get? b with
 | none=>rw[q] at e;cases e
 | some o=> rw[q] at e;have c:(b,o)=p:=AAX e;subst c;exact⟨hb,q⟩
def Inv.pinned {a:zy (zu×Obj)}{f:St}{H:Hp}{s:zw}{c:zy zu}(I:Inv X a f H s)(h:∀b∈c,EO X a H b)(i:∀b∈c,∃o,s.heap.get? b=some o/\∀v,o.data≠ .cell v):Inv X (a++HL c s.heap) f H s:=
 I.pins_of λp hp=>(AAQ.mp hp).elim (λz=>I.pin p (AAb _ z)) λz=>by obtain⟨hb,e⟩:=UD z;obtain⟨f0,f1,j,_⟩:=h p.1 hb;obtain⟨o,g,d⟩:=i p.1 hb;rw[e] at g;cases g;exact⟨e,f0,f1,j,d⟩
def Inv.unpinned {a c:zy (zu×Obj)}{b:St}{H:Hp}{s:zw}(I:Inv X (a++c) b H s):Inv X a b H s:=I.pins_of λp hp=>I.pin p (AAb _ (List.mem_append_left _ hp))
def WG {iter:zr}{body:zy Stmt}{R:TI}{g:TG}{S:TS}{pos:Pos}(hp:PassesOwn (model X.prog X.w) X.A X.env X.xe)(hc:X.calm=true)(hi:PI X tg iter R)(hg:PG X tg g)(hb:OX X body S)(hs:∀x,foldedSetIterable iter X.env x=pure x:=by intro _;rfl):PS X (.For tg iter body [] pos) (fP R g S):=by
 intro y s U H D I h;refine wpAny_For (BC (hi y s U H _ I h) λv s1 h1=>BC h1 λitv s2 h2=> ?_) hs;obtain⟨it,B,tn,J,H2,e,I2,T,K,Y,W,⟨m0,w0⟩,turn⟩:=h2;subst e;have c:∀{p:Hp},(∀b∈B,p b=none)->∀b∈B,EO X y p b:=λhn b hb=>⟨hn b hb,(Y b hb).2⟩;refine codeAny_forLoop_any (λn Z=>∃i σ' p,Inv X y σ' p Z/\tn i Z.heap/\(∀b∈B,p b=none)/\W i n σ' p) ?_ m0 ⟨0,U,H2,I2,K,λb hb=>(Y b hb).1,w0⟩;rintro n s3 ⟨i,j,G,I3,C,E,w3⟩;rcases turn i n j G w3 with⟨stop,qn⟩|⟨go,N,hN,step⟩
 .refine ABQ hp (BC (T.done X rfl rfl rfl hc i y s3 j G X.xe I3 (c E) C stop) λr s4 ⟨L,I4⟩=> ?_);subst L;exact ACJ ⟨j,G,I4,qn⟩
 .refine ABQ hp (BC (T.item X rfl rfl rfl hc i y s3 j G X.xe I3 (c E) C go) λr s4 ⟨u,L,h4⟩=> ?_);subst L;refine ABQ hp (BC h4 λ_ s5 ⟨x,H5,I5,r5,y5,z,M⟩=> ?_);have O:=I5.pinned (c M) (T.obj _ _ z);refine ABQ hp (BC (hg _ s5 j H5 x u _ O r5 (step x H5 y5)) λ_ s6 ⟨P,H6,I6,q6⟩=> ?_);refine ABQ hp (BC (hb _ s6 P H6 _ I6 q6) λf Q t=> ?_);have again:∀{a:St} {k:Hp},Inv X (y++HL B s5.heap) a k Q->N a k->∃m,m<n/\∃i σ' p,Inv X y σ' p Q/\tn i Q.heap/\(∀b∈B,p b=none)/\W i m σ' p:=λ{a k} l F=>by obtain⟨m',hm,w7⟩:=hN a k F;refine⟨m',hm,i+1,a,k,l.unpinned,T.keep _ _ _ z λb hb o e=>(l.pin (b,o) (AAb _ (AAb _ (Cr hb e)))).1,λb hb=> ?_,w7⟩;obtain⟨o,e,d⟩:=T.obj _ _ z b hb;exact(l.pin (b,o) (AAb _ (AAb _ (Cr hb e)))).2.1
  cases f with
  | next=>obtain⟨a,k,l,F⟩:=t;exact again l F
  | cont=>obtain⟨a,k,l,F⟩:=t;exact again l F
  | brk=>obtain⟨a,k,l,t⟩:=t;exact⟨a,k,l.unpinned,t⟩
  | ret v=>obtain⟨x7,a,k,l,r7,t⟩:=t;exact⟨x7,a,k,l.unpinned,r7,t⟩
end
abbrev R2:=V->V->Hp->VK->Prop
def DF (X:Cx)(f:zx->zx->Sem zx)(r:R2):Prop:=
 ∀(a:zy (zu×Obj)) (s:zw) (b:St) (H:Hp) (x y:V) (v u:zx) (Q:VK),Inv X a b H s->RelV x v->RelV y u->r x y H Q->
  wpAny (model X.prog X.w) X.A (f v u) (EP X a b Q) X.xe s
def gw (X:Cx)(f:zx->Sem zx)(r:V->Hp->VK->Prop):Prop:=
 ∀(a:zy (zu×Obj)) (s:zw) (b:St) (H:Hp) (x:V) (v:zx) (Q:VK),Inv X a b H s->RelV x v->r x H Q->
  wpAny (model X.prog X.w) X.A (f v) (EP X a b Q) X.xe s
def CL (X:Cx)(f:zx)(r:zy V->Hp->VK->Prop):Prop:=
 ∀(a:zy (zu×Obj)) (s:zw) (b:St) (H:Hp) (xs:zy V) (c:zy zx) (Q:VK),Inv X a b H s->An xs c->r xs H Q->
  wpAny (model X.prog X.w) X.A (call f c) (EP X a b Q) X.xe s
def Yh (r:R2)(b c:TE):TE:=λa H Q=>b a H λx H1=>c a H1 λy d=>r x y d Q
def n9 (r:V->Hp->VK->Prop)(a:TE):TE:=λb H Q=>a b H λx H1=>r x H1 Q
def rI (C:Int->Int->Prop)(g:Int->Int->V):R2:=λx y H Q=>∃i j,x= .int i/\y= .int j/\C i j/\Q (g i j) H
def Np (g:Int->Int->V):R2:=λx y H Q=>∃i j,x= .int i/\y= .int j/\Q (g i j) H
def rU (g:Int->V):V->Hp->VK->Prop:=λx H Q=>∃i,x= .int i/\Q (g i) H
section
variable {X:Cx}{a b c:zr}{ta tb tc:TE}{pos:Pos}
def Zh (ha:PE X a ta)(hb:PE X b tb){j:zy (zu×Obj)}{s:zw}{d:St}{H:Hp}{R:V->V->Hp->Prop}(I:Inv X j d H s)(h:ta d H λx H1=>tb d H1 λy e=>R x y e){Q:zx->zw->Prop}{f:zx->zx->Sem zx}(l:∀v u k x y e,Inv X j d e k->RelV x v->RelV y u->R x y e->wpAny (model X.prog X.w) X.A (f v u) Q X.xe k):wpAny (model X.prog X.w) X.A (eval a X.env) (λv g=>wpAny (model X.prog X.w) X.A (eval b X.env) (λu i=>wpAny (model X.prog X.w) X.A (f v u) Q X.xe i) X.xe g) X.xe s:=by refine BC (ha j s d H _ I h) λv m ⟨x,H1,n,o,p⟩=> ?_;refine BC (hb j m d H1 _ n p) λu k ⟨y,e,r,t,z⟩=> ?_;exact l v u k x y e r o t z
def BR {op:Operator}{r:R2}(d:DF X (binaryOp op) r)(ha:PE X a ta)(hb:PE X b tb):PE X (.BinOp a op b pos) (Yh r ta tb):=by intro e s f H Q I h;exact wpAny_BinOp (Zh ha hb I h λv u g x y i j k l q=>d e g f i x y v u Q j k l q)
def d9 {op:UnaryOp}{r:V->Hp->VK->Prop}(f:gw X (unaryOp op) r)(ha:PE X a ta):PE X (.UnaryOp op a pos) (n9 r ta):=by intro d s e H Q I h;exact UnaryOp_ (BC (ha d s e H _ I h) λv g ⟨x,H1,i,j,k⟩=>f d g e H1 x v Q i j k)
def aT {f:zx->zx->Sem zx}{C:Int->Int->Prop}{g:Int->Int->Int}(rule:∀(i j:Int) (t u:Tok) (s:zw) (Q:zx->zw->Prop) (E:zx->zw->Prop),C i j->Q (.int (g i j) s.toks) {s with toks:=s.toks+1}->wpAny (model X.prog X.w) X.A (f (.int i t) (.int j u)) Q E s):DF X f (rI C λi j=> .int (g i j)):=by intro k s l H x y v u Q I d e h;obtain⟨i,j,rfl,rfl,hc,q⟩:=h;obtain⟨t,rfl⟩:=d;obtain⟨t',rfl⟩:=e;exact rule i j t t' s _ _ hc ⟨.int (g i j),H,I.tok _,⟨_,rfl⟩,q⟩
def dy {f:zx->zx->Sem zx}{g:Int->Int->Int}(rule:∀(i j:Int) (t u:Tok) (s:zw) (Q:zx->zw->Prop) (E:zx->zw->Prop),Q (.int (g i j) s.toks) {s with toks:=s.toks+1}->wpAny (model X.prog X.w) X.A (f (.int i t) (.int j u)) Q E s):DF X f (Np λi j=> .int (g i j)):=by intro k s l H x y v u Q I d e h;obtain⟨i,j,rfl,rfl,q⟩:=h;obtain⟨t,rfl⟩:=d;obtain⟨t',rfl⟩:=e;exact rule i j t t' s _ _ ⟨.int (g i j),H,I.tok _,⟨_,rfl⟩,q⟩
def Xu {f:zx->zx->Sem zx}{g:Int->Int->zq}(rule:∀(i j:Int) (t u:Tok) (s:zw) (Q:zx->zw->Prop) (E:zx->zw->Prop),Q (.bool (g i j)) s->wpAny (model X.prog X.w) X.A (f (.int i t) (.int j u)) Q E s):DF X f (Np λi j=> .bl (g i j)):=by intro k s l H x y v u Q I d e h;obtain⟨i,j,rfl,rfl,q⟩:=h;obtain⟨t,rfl⟩:=d;obtain⟨t',rfl⟩:=e;exact rule i j t t' s _ _ ⟨.bl (g i j),H,I,rfl,q⟩
def XG (i j:Int):Prop:=0<=j/\j<=1000000/\i.natAbs<2^64
def ZM (i j:Int):Prop:=(-(2^64)<i/\i<2^64)\/(-(2^64)<j/\j<2^64)
def ZM.ok {i j:Int}(h:ZM i j):IntMulOk i j:=by
 rcases h with⟨h1,h2⟩|⟨h1,h2⟩
 .exact .of_left (intBits_le_64 h1 h2)
 .exact .of_right (intBits_le_64 h1 h2)
def F4:DF X (binaryOp .Add) (Np λi j=> .int (i+j)):=dy λ_ _ _ _ _ _ _ q=>add_int q
def aa:DF X (binaryOp .Sub) (Np λi j=> .int (i-j)):=dy λ_ _ _ _ _ _ _ q=>sub_int q
def ET:DF X (binaryOp .Mod) (rI (λ_ j=>0<j) λi j=> .int (i % j)):=aT λi j _ _ _ _ _ hc q=>by have h1:(0:Int)<j:=hc;exact mod_int' (by omega) (by rw[ACt i (by omega)];exact q)
def Xw:DF X (binaryOp .Mod) (rI (λ_ j=>j≠0) λi j=> .int (i.fmod j)):=aT λ_ _ _ _ _ _ _ hc q=>mod_int' hc q
def V1:DF X (binaryOp .Pow) (rI XG λi j=> .int (i^j.toNat)):=aT λ_ _ _ _ _ _ _ hc q=>pow_int_small hc.1 hc.2.1 hc.2.2 q
def oB {f:zx->Sem zx}{g:Int->Int}(rule:∀(i:Int) (t:Tok) (s:zw) (Q:zx->zw->Prop) (E:zx->zw->Prop),Q (.int (g i) s.toks) {s with toks:=s.toks+1}->wpAny (model X.prog X.w) X.A (f (.int i t)) Q E s):gw X f (rU λi=> .int (g i)):=by intro e s j H x v Q I d h;obtain⟨i,rfl,q⟩:=h;obtain⟨t,rfl⟩:=d;exact rule i t s _ _ ⟨.int (g i),H,I.tok _,⟨_,rfl⟩,q⟩
def b9:gw X (unaryOp .USub) (rU λi=> .int (-i)):=oB λ_ _ _ _ _ q=>neg_int q
end
def bL:V->V->zq
 | .non, .non=>true | .non, .int _=>true | .int _, .non=>true | .non, .bl _=>true | .bl _, .non=>true | .non, .str _=>true | .str _, .non=>true
 | .int _, .int _=>true | .bl _, .bl _=>true | .str _, .str _=>true | .byt _, .byt _=>true
 | .int _, .str _=>true | .str _, .int _=>true | .bl _, .str _=>true | .str _, .bl _=>true
 | _,_=>false
def kJ:R2:=λx y H Q=>bL x y=true/\Q (.bl (decide (x=y))) H
def kK:R2:=λx y H Q=>bL x y=true/\Q (.bl (!decide (x=y))) H
def Ry {i j:Int}:decide (V.int i=V.int j)=(i==j):=by rw[ABd];simp
def VI {i j:zq}:decide (V.bl i=V.bl j)=(i==j):=by rw[ABd];simp
def Rz {i j:Str}:decide (V.str i=V.str j)=(i==j):=by rw[ABd];simp
def Rx {i j:Array UInt8}:decide (V.byt i=V.byt j)=(i.toList==j.toList):=by rw[ABd];cases i;cases j;simp
section
variable {X:Cx}{a b c:zr}{ta tb tc:TE}{pos:Pos}
def Ax {d:zy (zu×Obj)}{f:St}{H:Hp}{s:zw}{Q:VK}{k g:zq}(I:Inv X d f H s)(q:Q (.bl k) H)(e:k=g):EP X d f Q (.bool g) s:=by subst e;exact⟨.bl k,H,I,rfl,q⟩
def dz:DF X (compareOp .Eq) kJ:=by
 intro f s g H x y v u Q I e d h;obtain⟨hs,q⟩:=h;cases x with
 | non=>
   cases e;cases y with
   | non=>cases d;exact PySem.EqNone.eq_none_none (Ax I q (by simp))
   | bl j=>cases d;exact PySem.EqNone.eq_none_bool (Ax I q (by simp))
   | int j=>obtain⟨t',rfl⟩:=d;exact PySem.EqNone.eq_none_int (Ax I q (by simp))
   | str j=>obtain⟨t',rfl⟩:=d;exact PySem.EqNone.eq_none_str (Ax I q (by simp))
   | _=>exact absurd (show false=true from hs) AAO
 | bl i=>
   cases e;cases y with
   | non=>cases d;exact PySem.EqNone.eq_bool_none (Ax I q (by simp))
   | bl j=>cases d;exact eq_bool (Ax I q VI)
   | str j=>obtain⟨t',rfl⟩:=d;exact PySem.EqMixed.eq_bool_str (Ax I q (by simp))
   | _=>exact absurd (show false=true from hs) AAO
 | int i=>
   obtain⟨t,rfl⟩:=e;cases y with
   | non=>cases d;exact PySem.EqNone.eq_int_none (Ax I q (by simp))
   | int j=>obtain⟨t',rfl⟩:=d;exact eq_int (Ax I q Ry)
   | str j=>obtain⟨t',rfl⟩:=d;exact PySem.EqMixed.eq_int_str (Ax I q (by simp))
   | _=>exact absurd (show false=true from hs) AAO
 | str i=>
   obtain⟨t,rfl⟩:=e;cases y with
   | non=>cases d;exact PySem.EqNone.eq_str_none (Ax I q (by simp))
   | bl j=>cases d;exact PySem.EqMixed.eq_str_bool (Ax I q (by simp))
   | int j=>obtain⟨t',rfl⟩:=d;exact PySem.EqMixed.eq_str_int (Ax I q (by simp))
   | str j=>obtain⟨t',rfl⟩:=d;exact eq_str (Ax I q Rz)
   | _=>exact absurd (show false=true from hs) AAO
 | byt i=>
   obtain⟨t,rfl⟩:=e;cases y with
   | byt j=>obtain⟨t',rfl⟩:=d;exact PySem.W.eq_bytes (Ax I q Rx)
   | _=>exact absurd (show false=true from hs) AAO
 | _=>cases y <;> exact absurd (show false=true from hs) AAO
def d5:DF X (compareOp .NotEq) kK:=by
 intro f s g H x y v u Q I e d h;obtain⟨hs,q⟩:=h;cases x with
 | non=>
   cases e;cases y with
   | non=>cases d;exact PySem.EqNone.ne_none_none (Ax I q (by simp))
   | bl j=>cases d;exact PySem.EqNone.ne_none_bool (Ax I q (by simp))
   | int j=>obtain⟨t',rfl⟩:=d;exact PySem.EqNone.ne_none_int (Ax I q (by simp))
   | str j=>obtain⟨t',rfl⟩:=d;exact PySem.EqNone.ne_none_str (Ax I q (by simp))
   | _=>exact absurd (show false=true from hs) AAO
 | bl i=>
   cases e;cases y with
   | non=>cases d;exact PySem.EqNone.ne_bool_none (Ax I q (by simp))
   | bl j=>cases d;exact ne_bool (Ax I q (congrArg not VI))
   | str j=>obtain⟨t',rfl⟩:=d;exact PySem.EqMixed.ne_bool_str (Ax I q (by simp))
   | _=>exact absurd (show false=true from hs) AAO
 | int i=>
   obtain⟨t,rfl⟩:=e;cases y with
   | non=>cases d;exact PySem.EqNone.ne_int_none (Ax I q (by simp))
   | int j=>obtain⟨t',rfl⟩:=d;exact ne_int (Ax I q (congrArg not Ry))
   | str j=>obtain⟨t',rfl⟩:=d;exact PySem.EqMixed.ne_int_str (Ax I q (by simp))
   | _=>exact absurd (show false=true from hs) AAO
 | str i=>
   obtain⟨t,rfl⟩:=e;cases y with
   | non=>cases d;exact PySem.EqNone.ne_str_none (Ax I q (by simp))
   | bl j=>cases d;exact PySem.EqMixed.ne_str_bool (Ax I q (by simp))
   | int j=>obtain⟨t',rfl⟩:=d;exact PySem.EqMixed.ne_str_int (Ax I q (by simp))
   | str j=>obtain⟨t',rfl⟩:=d;exact ne_str (Ax I q (congrArg not Rz))
   | _=>exact absurd (show false=true from hs) AAO
 | byt i=>
   obtain⟨t,rfl⟩:=e;cases y with
   | byt j=>obtain⟨t',rfl⟩:=d;exact PySem.W.ne_bytes (Ax I q (congrArg not Rx))
   | _=>exact absurd (show false=true from hs) AAO
 | _=>cases y <;> exact absurd (show false=true from hs) AAO
def Y8:DF X (compareOp .Lt) (Np λi j=> .bl (decide (i<j))):=Xu λ_ _ _ _ _ _ _ q=>lt_int q
def d4:DF X (compareOp .LtE) (Np λi j=> .bl (decide (i<=j))):=Xu λ_ _ _ _ _ _ _ q=>le_int q
def Y7:DF X (compareOp .Gt) (Np λi j=> .bl (decide (j<i))):=Xu λ_ _ _ _ _ _ _ q=>gt_int q
def d3:DF X (compareOp .GtE) (Np λi j=> .bl (decide (j<=i))):=Xu λ_ _ _ _ _ _ _ q=>ge_int q
def aX:DF X (compareOp .Is) (λx y H Q=>y= .non/\Q (.bl (decide (x= .non))) H):=by
 intro f s g H x y v u Q I d e h;obtain⟨rfl,q⟩:=h;cases e;refine is_none_gen (Ax I q ?_);cases x <;> first
  | (cases d;rfl)
  | (obtain⟨t,rfl⟩:=d;rfl)
def Xx:DF X (compareOp .IsNot) (λx y H Q=>y= .non/\Q (.bl (!decide (x= .non))) H):=by
 intro f s g H x y v u Q I d e h;obtain⟨rfl,q⟩:=h;cases e;refine isnot_none_gen (Ax I q ?_);cases x <;> first
  | (cases d;rfl)
  | (obtain⟨t,rfl⟩:=d;rfl)
def DF.or {f:zx->zx->Sem zx}{r d:R2}(h:DF X f r)(h':DF X f d):DF X f (λx y H Q=>r x y H Q\/d x y H Q):=by
 intro e s g H x y v u Q I i j q;rcases q with q|q
 .exact h e s g H x y v u Q I i j q
 .exact h' e s g H x y v u Q I i j q
def CI (b:zr){op:CmpOp}(h:op≠ .In:=by decide)(h2:op≠ .NotIn:=by decide):behindInMarks op b=false:=by
 have d:(op==CmpOp.In)=false:=by cases op <;> first | rfl|exact absurd rfl h
 have e:(op==CmpOp.NotIn)=false:=by cases op <;> first | rfl|exact absurd rfl h2
 cases b <;> simp[behindInMarks,d,e]
def Sc {op:CmpOp}{r:R2}(d:DF X (compareOp op) r)(ha:PE X a ta)(hb:PE X b tb)(e:behindInMarks op b=false):PE X (.Compare a [op] [b] pos) (Yh r ta tb):=by intro f s g H Q I h;exact wpAny_Compare1 (Zh ha hb I h λv u i x y j k l m q=>d f i g j x y v u Q k l m q) e
def ZH (t:TE):TT:=λd H Q=>t d H λx e=>∃k,x= .bl k/\Q k e
def Nm {op:CmpOp}{r:R2}(g:DF X (compareOp op) r)(ha:PE X a ta)(hb:PE X b tb)(i:behindInMarks op b=false):PT X (.Compare a [op] [b] pos) (ZH (Yh r ta tb)):=by
 intro d s f H Q I h;refine wpAny_isTrue_Compare1 (BC (ha d s f H _ I h) λv j ⟨x,H1,l,m,n⟩=>BC (hb d j f H1 _ l n) λu o ⟨y,p,t,w,A⟩=>
  BC (g d o f p x y v u _ t m w A) λc F ⟨z,B,C,D,k,e,E⟩=> ?_) i
 subst e;cases D;exact ABw ⟨B,C,E⟩
def J5:(sizeLine:Nat)<2^63:=by rw[ABy];decide
def vals1 {x:V}{d:zy zx}(r:An [x] d):∃u,d= [u] /\RelV x u:=by
 cases r with
 | cons e f=>cases f;exact⟨_,rfl,e⟩
def vals2 {x y:V}{d:zy zx}(r:An [x,y] d):∃u e,d= [u,e] /\RelV x u/\RelV y e:=by
 cases r with
 | cons f g=>
   cases g with
   | cons h i=>cases i;exact⟨_,_,rfl,f,h⟩
def Ji:CL X (.builtin "abs") (λxs H Q=>∃i,xs= [.int i] /\Q (.int (if i<0 then -i else i)) H):=by intro d s e H xs f Q I r h;obtain⟨i,rfl,q⟩:=h;obtain⟨u,rfl,t,rfl⟩:=vals1 r;exact call_abs_int λu g=>⟨.int (if i<0 then -i else i),H,I.tok _,⟨_,rfl⟩,q⟩
def TW (hc:X.calm=true):CL X (.builtin "max") (λxs H Q=>∃i j,xs= [.int i, .int j] /\Q (.int (if j>i then j else i)) H):=by
 intro d s e H xs f Q I r h;obtain⟨i,j,rfl,q⟩:=h;obtain⟨u,g,rfl,⟨t,rfl⟩,⟨t',rfl⟩⟩:=vals2 r;refine max_two_ints (I.ok.hd hc) λh' l k=>⟨_,H,I.kept k, ?_,q⟩;by_cases hj:j>i
 .rw [AAE hj,AAE hj];exact⟨_,rfl⟩
 .rw [AAD hj,AAD hj];exact⟨_,rfl⟩
def TX (hc:X.calm=true):CL X (.builtin "min") (λxs H Q=>∃i j,xs= [.int i, .int j] /\Q (.int (if j<i then j else i)) H):=by
 intro d s e H xs f Q I r h;obtain⟨i,j,rfl,q⟩:=h;obtain⟨u,g,rfl,⟨t,rfl⟩,⟨t',rfl⟩⟩:=vals2 r;refine min_two_ints (I.ok.hd hc) λh' l k=>⟨_,H,I.kept k, ?_,q⟩;by_cases hj:j<i
 .rw [AAE hj,AAE hj];exact⟨_,rfl⟩
 .rw [AAD hj,AAD hj];exact⟨_,rfl⟩
def L6:CL X (.type "int") (λxs H Q=>(∃i,xs= [.int i] /\Q (.int i) H)\/∃k,xs= [.bl k] /\Q (.int (if k then 1 else 0)) H):=by
 intro e s f H xs g Q I r h;rcases h with⟨i,rfl,q⟩|⟨k,rfl,q⟩
 .obtain ⟨u,rfl,t,rfl⟩:=vals1 r;exact call_int_int ⟨.int i,H,I,⟨_,rfl⟩,q⟩
 .obtain ⟨u,rfl,d⟩:=vals1 r;cases d;exact call_int_bool ⟨.int (if k then 1 else 0),H,I.tok _,⟨_,rfl⟩,q⟩
end
structure mO (h:Heap) (x dx C:Addr) (mA:Str->Option Value):Prop where
 obj:h.get? x=some (PySem.W.instObj C dx)
 ns:h.Ns1 dx mA
 ne:dx≠x
def IT.some_of {v:V}{o:zt zx}(r:IT (some v) o):∃u,o=some u/\RelV v u:=by
 cases o with
 | none=>exact(show False from r).elim
 | some u=>exact⟨u,rfl,r⟩
structure lY (K:AAB) (C:Addr):Prop where
 pg:PySem.W.plainGet K C Str.empty=true
 hd:PySem.W.hasDictIn K C=true
 po:PySem.W.plainOver K C=true
 sa:PySem.W.findIn K (.ref C) "__setattr__" =some (some (.builtin "object.__setattr__"))
structure oY (K:AAB) (C:Addr) (f:Str) (v:V) (u:Value):Prop where
 at_:PySem.W.findIn K (.ref C) f=some (some u)
 rel:RelV v u
 get:PySem.W.specialIn K u "__get__" =some none
 cp:PySem.W.copiedNames.contains f=false
structure mM (K:AAB) (C:Addr) (m:Str) (f:Addr):Prop where
 at_:PySem.W.findIn K (.ref C) m=some (some (.ref f))
 fn:PySem.W.isFn K (.ref f)=true
 kp:PySem.W.keepIn K (.ref f)=true
section
variable {X:Cx}{zj:zy (zu×Obj)}{σ:St}{H:Hp}{s:zw}{a C dx:zu}{fs:zy (Str×V)}{f:Str}{v:V}{A:zk}{E:zx->zw->Prop}
def Inv.made (I:Inv X zj σ H s):Inv X zj σ (upd (upd H s.heap.objs.size (.own (s.heap.objs.size+1))) (s.heap.objs.size+1) (.ins C s.heap.objs.size [])) {s with heap:=(s.heap.push PySem.W.emptyDict).push (PySem.W.instObj C s.heap.objs.size)}:=by
 have c:(s.heap.push PySem.W.emptyDict).get? s.heap.objs.size=some PySem.W.emptyDict:=AAN s.heap rfl;have d:((s.heap.push PySem.W.emptyDict).push (PySem.W.instObj C s.heap.objs.size)).get? (s.heap.objs.size+1)=some (PySem.W.instObj C s.heap.objs.size):=by
  have:=AAN (s.heap.push PySem.W.emptyDict) (o:=PySem.W.instObj C s.heap.objs.size) rfl
  rwa [AA7] at this
 have g:(s.heap.push PySem.W.emptyDict).Ns s.heap.objs.size (λ_=>none):=⟨PySem.W.emptyDict, #[],_,c,rfl,(λe he=>absurd he (by simp)),λ_=>rfl⟩;have h:=I.laid (a:=s.heap.objs.size) (o:= .own (s.heap.objs.size+1)) (h':=s.heap.push PySem.W.emptyDict) (t':=s.toks) (λb u q=>AAG _ q) (AAI _) ⟨_,c⟩;refine h.laid (a:=s.heap.objs.size+1) (o:= .ins C s.heap.objs.size []) (t':=s.toks) (λb u q=>AAG _ q) (Nat.le_of_eq (AA7 _ _)) ?_;have ne:s.heap.objs.size≠s.heap.objs.size+1:=AAK (Nat.lt_succ_self _);refine⟨by rw[AZ ne,Ad],AAw _,ne,d,λ_=>none,(Heap.Ns1.of_empty g).at λo q=>AAG _ q,λ_=>True.intro,λy hy=>absurd rfl hy⟩
end
section
variable {X:Cx}{zj:zy (zu×Obj)}{σ:St}{H:Hp}{s:zw}{A:zk}{E:zx->zw->Prop}{Q:zx->zw->Prop}{c:zx}{b:zq}
inductive Je (K:AAB) (H:Hp):V->Value->Prop where
 | non:Je K H .non (.type "NoneType")
 | bl (x:Bool):Je K H (.bl x) (.type "bool")
 | int (i:Int):Je K H (.int i) (.type "int")
 | str (x:Str):Je K H (.str x) (.type "str")
 | flt (x:UInt64):Je K H (.flt x) (.type "float")
 | lst {a:Addr} {xs:List V} (e:H a=some (.lst xs)):Je K H (.ref a) (.type "list")
 | frz {a:Addr} {o:Obj} {xs:List V} (e:H a=some (.frz o (.lst xs))):Je K H (.ref a) (.type "list")
 | tup {a:Addr} {xs:List V} (e:H a=some (.tup xs)):Je K H (.ref a) (.type "tuple")
 | dK {a:Addr} {kvs:List (BU×V)} (e:H a=some (.dK kvs)):Je K H (.ref a) (.type "dict")
 | dT {a:Addr} {kvs:List (List BU×V)} (e:H a=some (.dT kvs)):Je K H (.ref a) (.type "dict")
 | ins {a C dx:Addr} {fs:List (Str×V)} (e:H a=some (.ins C dx fs)) (cl:lY K C) (ha:PySem.W.findIn K (.ref C) "__class__" =some (some (.builtin "object.__class__")))
    (hn:PySem.W.specialIn K (.builtin "object.__class__") "__get__" =some (some (.builtin "getset_descriptor.__get__"))) (pC:PySem.W.takesIn K (.builtin "object.__class__")=some true)
    (hm:PySem.W.mroIn K C (.type "object")=some true):Je K H (.ref a) (.ref C)
end
structure Room (k:Nat) (A:Around):Prop where
 hd:A.handled=none
 dp:A.depth+3*k+5<recursionLimit
 un:A.units+16*k+200<cLine
 gd:A.guards=some []
def Room.mono {j k:Nat}{A:zk}(r:Room k A)(h:j<=k):Room j A:=⟨r.hd,by have:=r.dp;omega,by have:=r.un;omega,r.gd⟩
def Room.deeper {k:Nat}{A:zk}(r:Room (k+1) A)(env:Env):Room k (A.deeper env):=
 ⟨r.hd,by have:=r.dp;show A.depth+1+3*k+5<_;omega,by have:=r.un;show A.units+3+16*k+200<_;omega,r.gd⟩
def Room.in1 {k:Nat}{A:zk}(r:Room (k+1) A):Room k A.in1:=
 ⟨r.hd,by have:=r.dp;show A.depth+3*k+5<_;omega,by have:=r.un;show A.units+1+16*k+200<_;omega,r.gd⟩
def Qn {A:zk}{C:zu}{a:zy zx}{b:zy (Str×zx)}:(A.under (.builtin "type.__call__" ⟨.ref C::a,b⟩)).depth=A.depth+1:=by first | rfl|simp[Around.under,Code.weight,Code.isCreation,Code.isGuard,Code.isCaller,Code.frames,Code.isFrame,guardIds]
def Qo {A:zk}{C:zu}{a:zy zx}{b:zy (Str×zx)}:(A.under (.builtin "type.__call__" ⟨.ref C::a,b⟩)).units=A.units+1:=by first | rfl|simp[Around.under,Code.cUnits,Code.frames,Code.isFrame]
def Room.make {k:Nat}{A:zk}(r:Room (k+1) A)(C:zu)(a:zy zx)(b:zy (Str×zx)):Room k (A.under (.builtin "type.__call__" ⟨.ref C::a,b⟩)):=
 ⟨r.hd,by have:=r.dp;rw[Qn];omega,by have:=r.un;rw[Qo];omega,by first | exact r.gd|simpa[Around.under,pushGuards,Code.guards,Code.isGuard,guardIds] using r.gd⟩
def Room.depth {k:Nat}{A:zk}(r:Room k A):A.depth<recursionLimit:=by have:=r.dp;omega
def Room.units {k:Nat}{A:zk}(r:Room k A):A.units+64<cLine:=by have:=r.un;omega
def iy:TA:=λ_ H Q=>Q [] H
def fM (b:TE)(c:TA):TA:=λa H Q=>b a H λx H1=>c a H1 λxs d=>Q (x::xs) d
section
variable {X:Cx}{e:zr}{es:zy zr}{te:TE}{t:TA}{pos:Pos}
def EU:PA X [] iy:=λ_ _ _ _ H Q I h=>Calls.spliced_nil ⟨[],H,I, .nil,h⟩
def Cw (ha:PE X e te)(c:PA X es t)(hs:starEach (e::es) X.env=(false,eval e X.env)::starEach es X.env:=by rfl):PA X (e::es) (fM te t):=by intro pos a s b H Q I h;rw[hs];show wpAny _ _ (spliced ((false,eval e X.env)::backTo pos (starEach es X.env))) _ _ s;refine ACu (BC (ha a s b H _ I h) λu d ⟨x,H1,f,g,i⟩=> ?_);exact BC (c pos a d b H1 _ f i) λn o ⟨xs,j,k,l,m⟩=>⟨x::xs,j,k, .cons g l,m⟩
def i7 (t:TA):TE:=λa H Q=>t a H λxs H1=>xs.length<=sizeLine/\∀p,H1 p=none->Q (.ref p) (upd H1 p (.tup xs))
def iu (t:TA):TE:=λa H Q=>t a H λxs H1=>xs.length<=sizeLine/\∀p,H1 p=none->Q (.ref p) (upd H1 p (.lst xs))
def aq {x1}(h:PA X es t):PE X (.Tuple es x1 pos) (i7 t):=by intro d s f H Q I g;refine wpAny_Tuple_spliced (BC (h pos d s f H _ I g) λi a ⟨xs,H1,c,r,z,q⟩=>⟨by rw[<-r.length];exact z, ?_⟩);have j:H1 a.heap.objs.size=none:=c.hok.fresh (AAI _);refine⟨.ref a.heap.objs.size,upd H1 a.heap.objs.size (.tup xs),c.laid (t':=a.toks) (λb u e=>AAG _ e) (AAI _) ?_,rfl,q _ j⟩;exact⟨z,i,r,⟨_,AAN _ rfl,rfl,_,rfl⟩⟩
def V7 (h:PA X es t):PE X (.List es pos) (iu t):=by intro d s f H Q I g;refine wpAny_List_spliced (BC (h pos d s f H _ I g) λi a ⟨xs,H1,c,r,z,q⟩=>⟨by rw[<-r.length];exact z, ?_⟩);have j:H1 a.heap.objs.size=none:=c.hok.fresh (AAI _);refine⟨.ref a.heap.objs.size,upd H1 a.heap.objs.size (.lst xs),c.laid (t':=a.toks) (λb u e=>AAG _ e) (AAI _) ?_,rfl,q _ j⟩;exact⟨z,i,0,r,AAN _ rfl⟩
end
abbrev Sp:=zy V->Hp->VK->XK->Prop
abbrev TB:=zy Env->Hp->zw->XK->zx->zw->Prop
structure LQ (P:Program) (w:World) (K:AAB) (mg:Str->Option Value) (base:Heap) (A:Around) (outer:List Env) (s:Shared) (H:Hp):Prop where
 frames:A.frames=some outer
 mod:Mod K mg base
 bs:∀b o,base.get? b=some o->s.heap.get? b=some o/\H b=none
 bsz:base.objs.size<=s.heap.objs.size
 funs:s.heap.FunFrames base outer
 frf:∀b∈Uk outer,H b=none
 hok:GX P w H s.heap
 bare:AllBare s.gens
def CE (outer:zy Env)(P:zp)(w:zm)(H:Hp)(s:zw)(Q:VK)(u:zx)(a:zw):Prop:=
 ∃v b,a.os=s.os/\AllBare a.gens/\Un (Uk outer) [] H b s.heap a.heap/\GX P w b a.heap/\RelV v u/\Q v b
def CR (CX:TB)(outer:zy Env)(P:zp)(w:zm)(H:Hp)(s:zw)(Q:VK)(E:XK)(r:Result)(a:zw):Prop:=
 match r with
 | .ok (.ret u)=>CE outer P w H s Q u a
 | .ok _=>False
 | .error e=>CX outer H s E e a
structure Co (P:Program) (w:World) (K:AAB) (mg:Str->Option Value) (base:Heap) (CX:TB) (k:Nat) (f:Addr) (fd:FuncData) (ps:List Str) (sp:Sp):Prop where
 len:∀vs H Q E,sp vs H Q E->vs.length=ps.length
 run:∀(A:Around) (outer:List Env) (s:Shared) (H:Hp) (args:Args) (us:List Value) (vs:List V) (Q:VK) (E:XK),Room k A->LQ P w K mg base A outer s H->BindsTo s fd args (ps.zip us)->An vs us->sp vs H Q E->
  codeAny (model P w) A (.call (.ref f) args) (CR CX outer P w H s Q E) s
def Co.mono {P:zp}{w:zm}{K:AAB}{mg:Str->zt zx}{base:zl}{CX:TB}{j k:Nat}{f:zu}{a:FuncData}{ps:zy Str}{sp:Sp}(F:Co P w K mg base CX j f a ps sp)(h:j<=k):Co P w K mg base CX k f a ps sp:=⟨F.len,λA outer s H args b vs Q E c=>F.run A outer s H args b vs Q E (c.mono h)⟩
def Co.imp {P:zp}{w:zm}{K:AAB}{mg:Str->zt zx}{base:zl}{CX:TB}{k:Nat}{f:zu}{b:FuncData}{ps:zy Str}{sp a:Sp}(F:Co P w K mg base CX k f b ps sp)(h:∀vs H Q E,a vs H Q E->sp vs H Q E):Co P w K mg base CX k f b ps a:=
 ⟨λvs H Q E q=>F.len vs H Q E (h _ _ _ _ q),λA outer s H args c vs Q E d he hb hv hs=>F.run A outer s H args c vs Q E d he hb hv (h _ _ _ _ hs)⟩
def LQ.make {P:zp}{w:zm}{K:AAB}{mg:Str->zt zx}{base:zl}{A:zk}{outer:zy Env}{s:zw}{H:Hp}(e:LQ P w K mg base A outer s H)(C:zu)(a:zy zx)(b:zy (Str×zx)):LQ P w K mg base (A.under (.builtin "type.__call__" ⟨.ref C::a,b⟩)) outer s H:=⟨by first | exact e.frames|(simpa[Around.under,Code.envs,Code.isFrame,pushEnvs] using e.frames),e.mod,e.bs,e.bsz,e.funs,e.frf,e.hok,e.bare⟩
def LQ.in1 {P:zp}{w:zm}{K:AAB}{mg:Str->zt zx}{base:zl}{A:zk}{outer:zy Env}{s:zw}{H:Hp}(e:LQ P w K mg base A outer s H):LQ P w K mg base A.in1 outer s H:=⟨e.frames,e.mod,e.bs,e.bsz,e.funs,e.frf,e.hok,e.bare⟩
section
variable {X:Cx}{zj:zy (zu×Obj)}{σ:St}{H:Hp}{s s':zw}
def Inv.env0 (I:Inv X zj σ H s):LQ X.prog X.w X.K X.mg X.base X.A X.stack s H:=
 ⟨I.ok.frames,I.ok.mod,I.bs,AAT I.ok.bsz I.sz,I.stack,I.stkFree,I.hok,I.bare⟩
def Inv.after {Q:VK}{u:zx}(I:Inv X zj σ H s)(h:CE X.stack X.prog X.w H s Q u s'):EP X zj σ Q u s':=by obtain⟨v,c,os,bare,un,hok,r,q⟩:=h;obtain⟨e,g,d,t,a⟩:=s';obtain rfl:a=s.os:=os;exact⟨v,c,I.call (h':=e) (g':=g) (d':=d) (t':=t) (ch:= []) un hok bare (λb z=>absurd z (by simp)),r,q⟩
end
def Wr (sp:Sp)(a:zy V)(E:XK)(t:TA):TE:=λb H Q=>t b H λvs H1=>sp (vs++a) H1 Q E
def Binds (K:AAB)(c:FuncData)(ps:zy Str)(b:zy zx):Prop:=
 ∀(s:zw) (a:zy zx),K.In s.heap->(a++b).length=ps.length->BindsTo s c ⟨a, []⟩ (ps.zip (a++b))
def Binds.all {K:AAB}{b:FuncData}{ps:zy Str}(h:∀a:zy zx,a.length=ps.length->bindArgs b ⟨a, []⟩=pure (ps.zip a)):Binds K b ps [] :=λs a _ hl=>by rw[ACv] at hl ⊢;exact .of_eq (h a hl)
def Passes (CX:TB)(X:Cx)(E:XK):Prop:=∀(b:zy (zu×Obj)) (c:St) (H:Hp) (s:zw) (e:zx) (a:zw),Inv X b c H s->CX X.stack H s E e a->X.xe e a
section
variable {X:Cx}{CX:TB}{k:Nat}{f C:zu}{fd:FuncData}{ps:zy Str}{sp:Sp}{dvs:zy V}{ds:zy zx}{E:XK}{x m:Str}{p pos apos:Pos}{e o:zr}{es:zy zr}{ta:TE}{t:TA}
theorem bE {c:zy (zu×Obj)}{d:St}{H:Hp}{s:zw}{Q:VK}{a:zy zx}{vs:zy V}(F:Co X.prog X.w X.K X.mg X.base CX k f fd ps sp)(i:Room k X.A)(hb:Binds X.K fd ps ds)(hd:An dvs ds)(hx:Passes CX X E)(I:Inv X c d H s)(r:An vs a)(h:sp (vs++dvs) H Q E):wpAny (model X.prog X.w) X.A (call (.ref f) a) (EP X c d Q) X.xe s:=by
 have g:An (vs++dvs) (a++ds):=r.append hd;have hl:(a++ds).length=ps.length:=by rw[<-g.length];exact F.len _ _ _ _ h
 refine ABz (ABe (F.run X.A X.stack s H ⟨a, []⟩ (a++ds) (vs++dvs) Q E i I.env0 (hb s a I.kIn hl) g h) λr j b=> ?_);cases r with
 | error e=>exact hx c d H s e j I b
 | ok l=>
   cases l with
   | ret u=>exact I.after b
   | next=>exact False.elim b
   | brk=>exact False.elim b
   | cont=>exact False.elim b
theorem Sa (F:Co X.prog X.w X.K X.mg X.base CX k f fd ps sp)(b:Room k X.A)(c:Gl X x)(d:X.mg x=some (.ref f))(hk:PySem.W.keepIn X.K (.ref f)=true)(hb:Binds X.K fd ps ds)(hd:An dvs ds)(hx:Passes CX X E)(ha:PA X (e::es) t)(hdb:(x==("__debug__" :Str))=false:=by decide)(he:starEach (e::es) X.env=(false,eval e X.env)::starEach es X.env:=by rfl)(hpl:(backTo pos (starEach es X.env)).any (·.1)=false:=by rfl):PE X (.Call (.Name x p) (e::es) [] pos) (Wr sp dvs E t):=by intro g s i H Q I h;refine ACw (SV I c d ?_ hdb);refine PySem.W.callWith_K (h₀:=X.base) I.ok.mod.kin hk (BC (ha pos g s i H _ I h) λj l ⟨vs,H1,a,r,q⟩=>⟨a.kIn, ?_⟩) he hpl;exact bE F b hb hd hx a r q
structure Mk (K:AAB) (C f:Addr):Prop where
 makes:PySem.W.makesIn K C=true
 init:PySem.W.findIn K (.ref C) "__init__" =some (some (.ref f))
 fn:PySem.W.isFn K (.ref f)=true
 kp:PySem.W.keepIn K (.ref C)=true
end
section
variable {X:Cx}{CX:TB}{k:Nat}{f C:zu}{fd:FuncData}{ps ks:zy Str}{sp:Sp}{E:XK}{x m:Str}{p pos apos kpos:Pos}{e o:zr}{es:zy zr}{kws:zy Keyword}{te ta:TE}{t tk:TA}{nm:zt Str}
structure gr (K:AAB) (fd:FuncData) (ps ks:List Str) (g:List Value->List Value->List Value) (gV:List V->List V->List V):Prop where
 to:∀(s:Shared) (us ws:List Value),K.In s.heap->(g us ws).length=ps.length->BindsTo s fd ⟨us,ks.zip ws⟩ (ps.zip (g us ws))
 rel:∀{vs:List V} {us:List Value} {zs:List V} {ws:List Value},An vs us->An zs ws->An (gV vs zs) (g us ws)
variable {g:zy zx->zy zx->zy zx}{gV:zy V->zy V->zy V}
end
structure Ca (N P:List Str) (sc:Scope):Prop where
 kind:sc.kind= .function
 co:sc.isCoroutine=false
 gen:sc.isGenerator=false
 nd:N.Nodup
 pre:N.take P.length=P
 par:∀x∈P,sc.names.lookup x=some .local\/sc.names.lookup x=some .cell
 nofree:∀y∈sc.names,y.2≠ .free
theorem L5 {kindOf:Str->zt NameKind}{x:Str}:∀{binds:zy (Str×zx)} {m:Str->zt zx},(∀v,(x,v) ∉ binds)->bindL kindOf binds m x=m x
 | [],_,_=>rfl
 | (n,v)::r,m,h=>by
   unfold bindL;rw[L5 λw hw=>h w (AA5 _ hw)];split
   .have:x≠n:=by rintro rfl;exact h v AA4
    simp[this]
   .rfl
theorem L3 {kindOf:Str->zt NameKind}{x:Str}:∀{binds:zy (Str×zx)} {m:Str->zt zx},(∀v,(x,v) ∉ binds)->bindC kindOf binds m x=m x
 | [],_,_=>rfl
 | (n,v)::r,m,h=>by
   unfold bindC;rw[L3 λw hw=>h w (AA5 _ hw)];split
   .rfl
   .have:x≠n:=by rintro rfl;exact h v AA4
    simp[this]
theorem L4 {kindOf:Str->zt NameKind}{x:Str}{v:zx}:∀{P:zy Str} {vs:zy zx} {i:Nat} {m:Str->zt zx},P.Nodup->P[i]? =some x->vs[i]? =some v->kindOf x=some .local-> bindL kindOf (P.zip vs) m x=some v
 | [],_,_,_,_,h,_,_=>by simp at h
 | _::_, [],_,_,_,_,h,_=>by simp at h
 | p::P,w::vs,0,m,nd,h1,h2,hk=>by simp at h1 h2;subst h1;subst h2;show bindL kindOf ((p,w)::P.zip vs) m p=_;unfold bindL;rw[L5 λv hv=>(ABR.mp nd).1 (ACx hv).1,AAE hk];simp
 | p::P,w::vs,i+1,m,nd,h1,h2,hk=>by show bindL kindOf ((p,w)::P.zip vs) m x=_;unfold bindL;exact L4 (i:=i) (ABR.mp nd).2 (by simpa using h1) (by simpa using h2) hk
theorem L1 {kindOf:Str->zt NameKind}{x:Str}{v:zx}:∀{P:zy Str} {vs:zy zx} {i:Nat} {m:Str->zt zx},P.Nodup->P[i]? =some x->vs[i]? =some v->kindOf x≠some .local-> bindC kindOf (P.zip vs) m x=some v
 | [],_,_,_,_,h,_,_=>by simp at h
 | _::_, [],_,_,_,_,h,_=>by simp at h
 | p::P,w::vs,0,m,nd,h1,h2,hk=>by simp at h1 h2;subst h1;subst h2;show bindC kindOf ((p,w)::P.zip vs) m p=_;unfold bindC;rw[L3 λv hv=>(ABR.mp nd).1 (ACx hv).1,AAD hk];simp
 | p::P,w::vs,i+1,m,nd,h1,h2,hk=>by show bindC kindOf ((p,w)::P.zip vs) m x=_;unfold bindC;exact L1 (i:=i) (ABR.mp nd).2 (by simpa using h1) (by simpa using h2) hk
def start (N:zy Str)(vs:zy V):St:=vs.map some++List.replicate (N.length-vs.length) none
def LY (CX:TB)(P:zp)(w:zm)(K:AAB)(mg:Str->zt zx)(base:zl)(N:zy Str)(qual:Str)(scope:Scope)(f:zu)(b:zx)(A:zk)(outer:zy Env)(s:zw)(H:Hp)(E:XK):Cx where
 prog:=P
 w:=w
 K:=K
 mg:=mg
 base:=base
 A:=A.deeper (envOfC qual scope s.heap.objs.size f b)
 N:=N
 s₀:=s
 H₀:=H
 env:=envOfC qual scope s.heap.objs.size f b
 outer:=outer
 stack:=envOfC qual scope s.heap.objs.size f b::outer
 ex:= []
 calm:=true
 fn:=λ_=>true
 pn:= []
 xe:=λe c=>wpAny (model P w) (A.deeper (envOfC qual scope s.heap.objs.size f b)) (leaving (envOfC qual scope s.heap.objs.size f b) e) (λ_ a=>CX outer H s E e a) (λd a=>CX outer H s E d a) c
def Og {sc:Scope}{n:Nat}{x:Str}(h:sc.names.lookup x=some .cell):∃c,(cellsFrom n sc.names []).lookup x=some c:=by have q:=ADW sc.names n [] (.inl h);exact Option.isSome_iff_exists.mp q
def Tw {CX:TB}{P:zp}{w:zm}{K:AAB}{mg:Str->zt zx}{base:zl}{N ps:zy Str}{qual:Str}{scope:Scope}{f:zu}{l:zx}{A:zk}{outer:zy Env}{s o:zw}{H:Hp}{E:XK}{m:zy zx}{vs:zy V}(S:Ca N ps scope)(hd:A.handled=none)(d:LQ P w K mg base A outer s H)(hl:vs.length=ps.length)(r:An vs m)(x:InCallC s s.heap.objs.size (bindL (envOfC qual scope s.heap.objs.size f l).kindOf (ps.zip m) λ_=>none) (cellsFrom (s.heap.objs.size+1) scope.names []) (bindC (envOfC qual scope s.heap.objs.size f l).kindOf (ps.zip m) λ_=>none) o):Inv (LY CX P w K mg base N qual scope f l A outer s H E) [] (start N vs) H o:=by
 have hpl:ps.length<=N.length:=by have:=congrArg List.length S.pre;rw[ACy] at this;omega
 obtain⟨h1,t,rfl,hk⟩:=x.done;have g:∀b:zu,b ∉ (LY CX P w K mg base N qual scope f l A outer s H E).ex:=λb z=>absurd (show b∈([] :zy zu) from z) (by simp);refine⟨⟨d.mod,S.kind,rfl,rfl,AAI _,λy z c h1 h2=> ?_,λy hy=> ?_,λy c _ h=> ?_,λ_=>hd,Around.frames_deeper d.frames, .inr ⟨rfl,rfl⟩,λb z=>absurd z (g b),d.bs,d.bsz,λb _ _=>g b,λb z=>absurd z (g b),d.funs,d.frf⟩,
  rfl,d.bare,Un.kept hk,⟨_,x.toInCall.ns,λi y v h1 h2 h3=> ?_⟩,λy c h=>⟨_,x.cell y c h⟩,d.hok.fresh (AAI _),λy c h=> ?_,λp hp=>absurd (show p∈([] :zy (zu×Obj)) from hp) (by simp),d.hok.kept hk, ?_⟩
 .exact name_of_addr x.apart (AB0 h1) (AB0 h2)
 .have hy:scope.names.lookup y=some .cell\/scope.names.lookup y=some .free:=hy;rcases hy with hy|hy
  .exact Og hy
  .exact absurd rfl (S.nofree _ (AB0 hy))
 .exact ABx (x.above y c (AB0 h))
 .have hi:i<vs.length:=by
   unfold start at h2;by_cases hi:i<vs.length
   .exact hi
   .rw [AAx (by simpa using hi)] at h2;rw[ABG] at h2;split at h2 <;> cases h2
  have ha:vs[i]? =some v:=by
   unfold start at h2;rw[AA8 (by simpa using hi),AAg] at h2;cases e:vs[i]? with
   | none=>rw[e] at h2;cases h2
   | some a=>rw[e] at h2;cases h2;rfl
  obtain⟨u,hu,rv⟩:=r.get ha;have hp:ps[i]? =some y:=by rw[<-S.pre,List.getElem?_take_of_lt (by omega)];exact h1
  have j:ps.Nodup:=by rw[<-S.pre];exact S.nd.sublist (List.take_sublist _ _)
  refine⟨u,rv, ?_⟩;rcases S.par y (ACz hp) with k|k
  .exact .inl ⟨k,L4 j hp hu k⟩
  .obtain ⟨c,e⟩:=Og (n:=s.heap.objs.size+1) k;refine .inr ⟨.inl k,c,e, ?_⟩;have q:=x.cell y c e;rw[L1 j hp hu (by show scope.names.lookup y≠_;rw[k];decide)] at q;exact q
 .exact d.hok.fresh (ABx (x.above y c (AB0 h)))
 .unfold start;show _=N.length;rw[AAy,AAL,ABH];omega
def Yx {CX:TB}{P:zp}{w:zm}{K:AAB}{mg:Str->zt zx}{base:zl}{k:Nat}{f:zu}{name qual:Str}{params:Arguments}{body:zy Stmt}{scope:Scope}{p kV d z a ct G:zx}{B L:zt zu}{i:Array (zt zx)}{N ps:zy Str}{sp:Sp}(M:K.lookup f=some ⟨G,L, .func (PySem.W.fnOf name qual params body scope p kV d z B a ct),i⟩)(O:PySem.W.codeIn K a qual=true)(S:Ca N ps scope)(len:∀vs H Q E,sp vs H Q E->vs.length=ps.length)(R:∀(A:zk) (outer:zy Env) (s:zw) (H:Hp) (vs:zy V) (Q:VK) (E:XK),Room k (A.deeper (envOfC qual scope s.heap.objs.size f a))->sp vs H Q E-> ∃t,OX (LY CX P w K mg base N qual scope f a A outer s H E) body t/\t {nx:=λ_ c=>Q .non c,rt:=Q} (start N vs) H):Co P w K mg base CX (k+1) f (PySem.W.fnOf name qual params body scope p kV d z B a ct) ps sp:=by
 refine⟨len,λA outer s H args T vs Q E j g hb r C=> ?_⟩;have hl:=len _ _ _ _ C;have D:K.In s.heap:=g.mod.kin.keeps λb o e=>(g.bs b o e).1;have l:s.heap.NoLimit:=g.mod.nolimit.keeps λb o e=>(g.bs b o e).1;have U:∀y∈ps.zip T,scope.names.lookup y.1=some .local\/(scope.names.lookup y.1=some .cell/\((cellsFrom (s.heap.objs.size+1) scope.names []).lookup y.1).isSome=true):=λ⟨n,v⟩ hy=>by
  rcases S.par n (ACx hy).1 with q|q
  .exact .inl q
  .exact .inr ⟨q,ADW _ _ _ (.inl q)⟩
 refine codeAny_call_function j.depth (D _ _ M) rfl S.co S.gen rfl (PySem.W.codeRec_of D O) (hb _ _ _ _ ?_);refine wpAny_newFunctionEnv_cells S.kind U λenv he F x=> ?_;subst he;refine⟨l.keeps x.toInCall.keep,codeAny_func ?_⟩;obtain⟨t,X,Y⟩:=R A outer s H vs Q E (j.deeper _) C;have I:Inv (LY CX P w K mg base N qual scope f a A outer s H E) [] (start N vs) H F:=Tw S j.hd g hl r x;refine AA6 (X [] F (start N vs) H _ I Y) (λZ m hs=> ?_) λe m hs=>hs;have h:∀{σ':St} {c:Hp} {v:V} {u:zx},Inv (LY CX P w K mg base N qual scope f a A outer s H E) [] σ' c m->RelV v u->Q v c->CE outer P w H s Q u m:=
  λ{σ' c v u} J rv q=>⟨v,c,J.os,J.bare,J.base,J.hok,rv,q⟩
 cases Z with
 | ret u=> obtain⟨v,σ',c,J,rv,q⟩:=hs;exact h J rv q
 | next=> obtain⟨σ',c,J,q⟩:=hs;exact h (v:=V.non) (u:=Value.none) J rfl q
 | brk=> obtain⟨_,_,_,q⟩:=hs;exact False.elim q
 | cont=> obtain⟨_,_,_,q⟩:=hs;exact False.elim q
section
variable {X:Cx}{x:Str}{p pos:Pos}{e:zr}{es:zy zr}{t:TA}{id T:String}{r:zy V->Hp->VK->Prop}
def iq (r:zy V->Hp->VK->Prop)(t:TA):TE:=λa H Q=>t a H λvs H1=>r vs H1 Q
def E2 (hc:CL X (.builtin id) r)(c:Gl X x)(d:X.mg x=none)(hv:bootBuiltins x=some (.builtin id))(ha:PA X (e::es) t)(f:x≠"__name__" :=by decide)(hdb:(x==("__debug__" :Str))=false:=by decide)(he:starEach (e::es) X.env=(false,eval e X.env)::starEach es X.env:=by rfl)(hpl:(backTo pos (starEach es X.env)).any (·.1)=false:=by rfl):PE X (.Call (.Name x p) (e::es) [] pos) (iq r t):=by intro a s b H Q I h;refine ACw (J4 I c d hv ?_ f hdb);exact PyProof.Rows.callWith_builtin1 (BC (ha pos a s b H _ I h) λg i ⟨vs,H1,j,k,l⟩=>hc a i b H1 vs g Q j k l) he hpl
def FV (hc:CL X (.type T) r)(c:Gl X x)(d:X.mg x=none)(hv:bootBuiltins x=some (.type T))(ha:PA X (e::es) t)(f:x≠"__name__" :=by decide)(hdb:(x==("__debug__" :Str))=false:=by decide)(he:starEach (e::es) X.env=(false,eval e X.env)::starEach es X.env:=by rfl)(hpl:(backTo pos (starEach es X.env)).any (·.1)=false:=by rfl):PE X (.Call (.Name x p) (e::es) [] pos) (iq r t):=by intro a s b H Q I h;refine ACw (J4 I c d hv ?_ f hdb);exact ACK (BC (ha pos a s b H _ I h) λg i ⟨vs,H1,j,k,l⟩=>hc a i b H1 vs g Q j k l) he hpl
end
end L2
namespace HT
open PySem PyProof.Rows
section
variable {prog:zp}{w:zm}{A:zk}{E:zx->zw->Prop}{s:zw}
def cat_tup {t b:zu}{vs a:zy zx}{Q:zx->zw->Prop}(m:IsTup s.heap t vs.toArray)(hb:IsTup s.heap b a.toArray)(hv:vs≠ [])(h1:a= [] ->Q (.ref t) s)(h2:a≠ [] ->Q (.ref s.heap.objs.size) {s with heap:=s.heap.push {cls:= .type "tuple",data:= .seq (vs++a).toArray}})(hsz:vs.length+a.length<=sizeLine):wpAny (model prog w) A (binaryOp .Add (.ref t) (.ref b)) Q E s:=by
 obtain⟨⟨cls,h,data,sl⟩,f,hc,n,hd⟩:=id m;obtain⟨⟨i,c,data2,d⟩,g,j,k,l⟩:=id hb;simp only at hc hd j l;subst hc hd j l;have e:vs.toArray++a.toArray=(vs++a).toArray:=by simp
 by_cases hw:a= []
 .exact concat_meets ⟨_,f,rfl⟩ ⟨_,g,rfl⟩ AC0 seq_tuple_add AC1 AC2 (AC3 _ _)
   (tuple_addW1 t b vs.toArray a.toArray n k h c sl d (by simpa using hv) (by simp[hw])) ⟨f,g,h1 hw⟩
 .refine concat_meets ⟨_,f,rfl⟩ ⟨_,g,rfl⟩ AC0 seq_tuple_add AC1 AC2 (AC3 _ _)
   (tuple_addW2 t b vs.toArray a.toArray n k h c sl d (by simpa using hv) (by simpa using hw) (by rw[AAR,AAR];exact hsz)) ⟨f,g, ?_⟩
  rw[e];exact h2 hw
def sIx (n d:Nat):zt Int->Nat
 | none=>d
 | some v=>if v<0 then (v+(n:Int)).toNat else min v.toNat n
def bF (n d:Nat)(hd:d<=n)(o:zt Int):sIx n d o<=n:=by
 cases o with
 | none=>exact hd
 | some v=>
   show (if v<0 then (v+(n:Int)).toNat else min v.toNat n)<=n;by_cases hv:v<0
   .rw [AAE hv];omega
   .rw [AAD hv];exact Nat.min_le_right _ _
def Rq (v:Int)(n d:Nat):(if v<0 then max (v+(n:Int)) 0 else min v (n:Int))=((sIx n d (some v):Nat):Int):=by
 show (if v<0 then max (v+(n:Int)) 0 else min v (n:Int))=(((if v<0 then (v+(n:Int)).toNat else min v.toNat n):Nat):Int);by_cases hv:v<0
 .simp only[AAE hv];omega
 .simp only[AAD hv];omega
def QG (lo hi:zt Int)(n:Nat):Builtin.Slice.sliceAdjust lo hi 1 (n:Int)=(((sIx n 0 lo:Nat):Int),((sIx n n hi:Nat):Int)):=by
 have h1:¬((1:Int)<0):=by omega
 unfold Builtin.Slice.sliceAdjust;simp only[h1,AAZ];refine AB1 ?_ ?_
 .cases lo with
  | none=>rfl
  | some v=>exact Rq v n 0
 .cases hi with
  | none=>rfl
  | some v=>exact Rq v n n
def Q6 (i j:Nat):Builtin.Slice.slicePlaces (i:Int) (j:Int) 1=j-i:=by
 unfold Builtin.Slice.slicePlaces;have h1:(1:Int)>0:=by omega
 simp only[h1,AAo,Int.ediv_one];split <;> omega
def Kq {v:zx}{o:zt Int}{Q:zt Int->zw->Prop}(p:IsPart v o)(h:Q o s):wpAny (model prog w) A (Builtin.Slice.slicePartIndex v) Q E s:=by
 cases p with
 | none=>exact slicePart_none h
 | int i t=>exact slicePart_int h
def sliceApplied_gen {sl:zu}{a b:zx}{lo hi:zt Int}{n:Nat}{Q:Int×Int×Nat->zw->Prop}(hs:s.heap.IsSliceOf sl a b .none)(e:IsPart a lo)(f:IsPart b hi)(h:Q (((sIx n 0 lo:Nat):Int),1,sIx n n hi-sIx n 0 lo) s):wpAny (model prog w) A (Builtin.Slice.sliceApplied (.ref sl) (pure (n:Int))) Q E s:=by obtain⟨os,c,g,d⟩:=id hs;unfold Builtin.Slice.sliceApplied Builtin.Slice.sliceFields;refine AAA (AAA (AAe c d (x:=a) rfl (AAA (AAe c d (x:=b) rfl (AAA (AAe c d (x:= .none) rfl (AAC ?_)))))));refine AAA (slicePart_none ?_);show wpAny _ _ (if ((1:Int)==0)=true then _ else _) _ _ s;rw[AAD (by decide)];refine AAA (Kq e (AAA (Kq f (AAA (AAC ?_)))));show wpAny _ _ (match Builtin.Slice.sliceAdjust lo hi 1 (n:Int) with | (lo,hi)=>pure (lo,(1:Int),Builtin.Slice.slicePlaces lo hi 1)) _ _ s;rw[QG lo hi n];show wpAny _ _ (pure (((sIx n 0 lo:Nat):Int),(1:Int),Builtin.Slice.slicePlaces ((sIx n 0 lo:Nat):Int) ((sIx n n hi:Nat):Int) 1)) _ _ s;rw[Q6];exact AAC h
def WA (xs:Array zx)(i k:Nat):((List.range k).filterMap λ(m:Nat)=>xs[((i:Int)+(m:Int)*1).toNat]?).toArray=((xs.toList.drop i).take k).toArray:=by
 have e:(λ(m:Nat)=>xs[((i:Int)+(m:Int)*1).toNat]?)=λm=>xs[i+m]? :=by
  funext m
  have:((i:Int)+(m:Int)*1).toNat=i+m:=by omega
  rw[this]
 rw[e];have:=pick_run xs i k;rw[List.filterMap_map] at this;have a:((λx=>xs[x]?) ∘ λx=>i+x)=λm=>xs[i+m]? :=rfl;rw[a] at this;rw[this]
def getItem_tuple_cut {t sl:zu}{items:Array zx}{c d:zx}{lo hi:zt Int}{Q:zx->zw->Prop}(a:IsTup s.heap t items)(hs:s.heap.IsSliceOf sl c d .none)(e:IsPart c lo)(f:IsPart d hi)(hw:¬(sIx items.size 0 lo=0/\sIx items.size items.size hi=items.size))(h:Q (.ref s.heap.objs.size) {s with heap:=s.heap.push {cls:= .type "tuple",data:= .seq ((items.toList.drop (sIx items.size 0 lo)).take (sIx items.size items.size hi-sIx items.size 0 lo)).toArray}})(hsz:items.size<=sizeLine):wpAny (model prog w) A (getItem (.ref t) (.ref sl)) Q E s:=by
 have b:sizeOk (.seq ((items.toList.drop (sIx items.size 0 lo)).take (sIx items.size items.size hi-sIx items.size 0 lo)).toArray):=by show ((items.toList.drop (sIx items.size 0 lo)).take (sIx items.size items.size hi-sIx items.size 0 lo)).toArray.size<=sizeLine;rw[AAR,ACy,List.length_drop,ABa];omega
 have hj:sIx items.size items.size hi<=items.size:=bF _ _ (AAI _) hi;obtain⟨os,g,i,l⟩:=id hs;have j:s.TypeIs (.ref sl) "slice" :=⟨os,g,i⟩;unfold getItem;try with_reducible refine AAW ?_
 first | refine AAA (AAC ?_)|skip
 refine AAA (wpAny_sequenceKey a.typeIs (by decide) ?_);refine AAA (ABf (name:=Str.ofString "__getitem__") a.typeIs ABg
  (AAt ABg a.typeIs entry_tuple_getitem ?_ (args_tuple_getitem _ _)))
 show wpAny _ _ (Builtin.Tuple.tupleItemsOf (.ref t) >>= _) _ _ s;refine AAA (tupleItemsOf_ a ?_);refine AAA (wpAny_typeOf j ?_);rw[AAE (by decide)];refine AAA (sliceApplied_gen hs e f ?_);have k:¬((((sIx items.size 0 lo:Nat):Int)==0&&(1:Int)==1&&(sIx items.size items.size hi-sIx items.size 0 lo)==items.size)=true):=by intro q;rw[AAz,AAz] at q;have n:((sIx items.size 0 lo:Nat):Int)=0:=eq_of_beq q.1.1;have o:sIx items.size items.size hi-sIx items.size 0 lo=items.size:=eq_of_beq q.2;exact hw ⟨by omega,by omega⟩
 show wpAny _ _ (if (((sIx items.size 0 lo:Nat):Int)==0&&(1:Int)==1&&(sIx items.size items.size hi-sIx items.size 0 lo)==items.size)=true then _ else _) _ _ s;rw[AAD k,WA];first
  | exact AAA (m:=Builtin.Tuple.tupleExact _) (AAv (AAC ⟨_,rfl,AAC h⟩) b)
  | exact AAA (m:=Builtin.Tuple.tupleExact _) (AAv (AAA (AAC (AAC ⟨_,rfl,AAC h⟩))) b)
  | exact AAA (AAA (m:=Builtin.Tuple.tupleExact _) (AAv (AAC (AAC ⟨_,rfl,AAC h⟩)) b))
  | exact AAA (AAA (m:=Builtin.Tuple.tupleExact _) (AAv (AAC ⟨_,rfl,AAC h⟩) b))
end
end HT
namespace L2
open PySem PySem.Spec PyProof.Rows
abbrev TO:=St->Hp->(zt Int->Hp->Prop)->Prop
def PO (X:Cx)(e:zt zr)(t:TO):Prop:=
 ∀(b:zy (zu×Obj)) (s:zw) (a:St) (H:Hp) (Q:zt Int->Hp->Prop),Inv X b a H s->t a H Q->
  wpAny (model X.prog X.w) X.A (evalPart e X.env) (λu d=>∃o c,Inv X b a c d/\IsPart u o/\Q o c) X.xe s
def Yg:TO:=λ_ H Q=>Q none H
def fR (t:TE):TO:=λa H Q=>t a H λx H1=>∃i,x= .int i/\Q (some i) H1
section
variable {X:Cx}{e:zr}{te:TE}{lo hi:zt zr}{tl th:TO}{pos p2:Pos}
def X7:PO X none Yg:=by intro a s b H Q I h;rw[evalPart_none];exact AAC ⟨none,H,I, .none,h⟩
def X8 (h:PE X e te):PO X (some e) (fR te):=by intro a s b H Q I hw;rw[evalPart_some];refine BC (h a s b H _ I hw) λu g ⟨x,H1,c,d,f⟩=> ?_;obtain⟨i,rfl,q⟩:=f;obtain⟨t,rfl⟩:=d;exact⟨some i,H1,c, .int i t,q⟩
def Yr (X:Cx)(r:V->zt Int->zt Int->Hp->VK->Prop):Prop:=
 ∀(a:zy (zu×Obj)) (s:zw) (b:St) (H:Hp) (x:V) (v c d:zx) (lo hi:zt Int) (sl:zu) (Q:VK),Inv X a b H s->RelV x v->s.heap.IsSliceOf sl c d .none->IsPart c lo->IsPart d hi->r x lo hi H Q->
  ∃T id,typeLookup (.type T) "__getitem__" =pure (some (.builtin id))/\s.TypeIs v T/\wpAny (model X.prog X.w) X.A (getItem v (.ref sl)) (EP X a b Q) X.xe s
def Yr.or {r a:V->zt Int->zt Int->Hp->VK->Prop}(h:Yr X r)(h':Yr X a):Yr X (λx lo hi H Q=>r x lo hi H Q\/a x lo hi H Q):=by
 intro b s c H x v d f lo hi sl Q I g hs i j q;rcases q with q|q
 .exact h b s c H x v d f lo hi sl Q I g hs i j q
 .exact h' b s c H x v d f lo hi sl Q I g hs i j q
def n8 (r:V->zt Int->zt Int->Hp->VK->Prop)(te:TE)(tl th:TO):TE:=λa H Q=>te a H λx H1=>tl a H1 λl b=>th a b λu c=>r x l u c Q
def V8 {r:V->zt Int->zt Int->Hp->VK->Prop}(j:Yr X r)(he:PE X e te)(hl:PO X lo tl)(hu:PO X hi th):PE X (.Subscript e (.Slice lo hi none p2) pos) (n8 r te tl th):=by intro c s d H Q I h;refine Subscript_ (BC (he c s d H _ I h) λv k ⟨x,H1,m,n,o⟩=> ?_);refine wpAny_Slice (BC (hl c k d H1 _ m o) λf p ⟨l,t,y,z,B⟩=>BC (hu c p d t _ y B) λg a ⟨u,i,C,D,E⟩=> ?_);rw[evalPart_none];refine AAC ?_;have F:Inv X c d i {a with heap:=a.heap.push {cls:= .type "slice",data:= .fields #[f,g, .none] }}:=C.kept (t':=a.toks) λb L q=>AAG _ q;obtain⟨T,id,G,J,K⟩:=j c {a with heap:=a.heap.push {cls:= .type "slice",data:= .fields #[f,g, .none] }} d i x v f g l u a.heap.objs.size Q F n (Heap.IsSliceOf.new ..) z D E;show wpAny (model X.prog X.w) X.A (subscriptTail e (.Slice lo hi none p2) v (.ref a.heap.objs.size)) (EP X c d Q) X.xe {a with heap:=a.heap.push {cls:= .type "slice",data:= .fields #[f,g, .none] }};exact tail_any (ops:= [.ref a.heap.objs.size,v]) J G K (by with_unfolding_all rfl)
def LX (xs:zy V)(lo hi:zt Int):zy V:=(xs.drop (HT.sIx xs.length 0 lo)).take (HT.sIx xs.length xs.length hi-HT.sIx xs.length 0 lo)
def Ho (xs:zy V)(lo hi:zt Int):(LX xs lo hi).length<=xs.length:=by unfold LX;rw[ACy,List.length_drop];omega
def ie (K:AAB):V->zt Int->zt Int->Hp->VK->Prop:=λx lo hi H Q=>∃a xs,x= .ref a/\K5 K H a xs/\
 ¬(HT.sIx xs.length 0 lo=0/\HT.sIx xs.length xs.length hi=xs.length)/\∀p,H p=none->Q (.ref p) (upd H p (.tup (LX xs lo hi)))
def bV:Yr X (ie X.K):=by
 intro l s m H x v n p lo hi sl Q I i hs j k h;obtain⟨a,xs,rfl,hx,hw,q⟩:=h;cases i;obtain⟨c,r,f,g⟩:=I.tuple hx;have d:c.toArray.size=xs.length:=by rw[AAR];exact r.length.symm
 refine⟨"tuple",_,ABg.lookup,f.typeIs, ?_⟩;refine HT.getItem_tuple_cut f hs j k (by rw[d];exact hw) ?_ (by rw[d];exact g);rw[d];refine⟨.ref s.heap.objs.size,_,I.laid (t':=s.toks) (o:= .tup (LX xs lo hi)) (λb t q=>AAG _ q) (AAI _) ?_,rfl,q _ (I.hok.fresh (AAI _))⟩;exact⟨AAT (Ho xs lo hi) g,_,(r.drop (HT.sIx xs.length 0 lo)).take (HT.sIx xs.length xs.length hi-HT.sIx xs.length 0 lo),IsTup.new _ _⟩
def ZB (K:AAB):R2:=λx y H Q=>∃a b xs c,x= .ref a/\y= .ref b/\K5 K H a xs/\K5 K H b c/\xs≠ [] /\xs.length+c.length<=sizeLine/\
 (c= [] ->Q (.ref a) H)/\(c≠ [] ->∀p,H p=none->Q (.ref p) (upd H p (.tup (xs++c))))
def An.nil_iff {xs:zy V}{a:zy zx}(r:An xs a):a= [] ↔xs= [] :=by
 cases r with
 | nil=>simp
 | cons _ _=>simp
def Xv:DF X (binaryOp .Add) (ZB X.K):=by intro r s t H x y v u Q I i j h;obtain⟨a,b,xs,k,rfl,rfl,ha,hb,hx,f,l,m⟩:=h;cases i;cases j;obtain⟨n,d,p,_⟩:=I.tuple ha;obtain⟨g,c,p2,_⟩:=I.tuple hb;refine HT.cat_tup p p2 (λz=>hx (d.nil_iff.mp z)) (λz=>⟨.ref a,H,I,rfl,l (c.nil_iff.mp z)⟩) (λz=> ?_) (by rw[<-d.length,<-c.length];exact f);refine⟨.ref s.heap.objs.size,_,I.laid (t':=s.toks) (o:= .tup (xs++k)) (λb A q=>AAG _ q) (AAI _) ?_,rfl,m (λw=>z (c.nil_iff.mpr w)) _ (I.hok.fresh (AAI _))⟩;exact⟨by rw[AAy];exact f,_,d.append c,IsTup.new _ _⟩
end
def T4 (n:Nat)(i:Int):zt Nat:=if 0<=i then (if i<n then some i.toNat else none) else if -(n:Int)<=i then some (i+n).toNat else none
def M3 {a:Type}(xs:zy a)(i:Int):zt a:=(T4 xs.length i).bind λj=>xs[j]?
def SQ {n:Nat}{i:Int}{j:Nat}(h:T4 n i=some j):seqIndex? i n=some j/\j<n/\ -(n:Int)<=i/\i<n:=by
 unfold T4 at h;by_cases a:0<=i
 .rw [AAE a] at h;by_cases h1:i<n
  .rw [AAE h1] at h;have e:i.toNat=j:=AAX h;exact⟨by rw[seqIndex_of a h1,e],by omega,by omega,h1⟩
  .rw [AAD h1] at h;cases h
 .rw [AAD a] at h;by_cases h1: -(n:Int)<=i
  .rw [AAE h1] at h;have e:(i+n).toNat=j:=AAX h;exact⟨by rw[seqIndex_neg (by omega) h1,e],by omega,h1,by omega⟩
  .rw [AAD h1] at h;cases h
def Rm {a:Type}{xs:zy a}{i:Int}{v:a}(h:M3 xs i=some v):∃j,seqIndex? i xs.length=some j/\xs[j]? =some v/\j<xs.length/\ -(xs.length:Int)<=i/\i<xs.length:=by
 unfold M3 at h;cases e:T4 xs.length i with
 | none=>rw[e] at h;cases h
 | some j=> rw[e] at h;obtain⟨h1,h2,h3,b⟩:=SQ e;exact⟨j,h1,h,h2,h3,b⟩
def DI {a:Type}{xs:zy a}{j:Nat}{v:a}(h:xs[j]? =some v):M3 xs (j:Int)=some v:=by
 have hj:j<xs.length:=(AAm.mp h).1;have e:T4 xs.length (j:Int)=some j:=by unfold T4;rw[AAE (by omega),AAE (by omega)];simp
 unfold M3;rw[e];exact h
def Mu (b:zr):Prop:=∀o i,subscripted b false o i=operate [o,i] (getItem o i)
def XN (X:Cx)(r:R2):Prop:=
 ∀(value slice:zr) (a:zy (zu×Obj)) (s:zw) (b:St) (H:Hp) (x y:V) (v u:zx) (Q:VK),Inv X a b H s->RelV x v->RelV y u->r x y H Q->
  subscripted slice false v u=operate [v,u] (getItem v u)->wpAny (model X.prog X.w) X.A (subscriptTail value slice v u) (EP X a b Q) X.xe s
def mN (X:Cx)(id:String)(r:V->zy V->Hp->VK->Prop):Prop:=
 ∀(a:zy (zu×Obj)) (s:zw) (b:St) (H:Hp) (x:V) (xs:zy V) (v:zx) (c:zy zx) (Q:VK),Inv X a b H s->RelV x v->An xs c->r x xs H Q->
  wpAny (model X.prog X.w) X.A (call (.builtin id) (v::c)) (EP X a b Q) X.xe s
section
variable {X:Cx}{a b:zr}{ta tb:TE}{pos:Pos}
def XN.or {r c:R2}(h:XN X r)(h':XN X c):XN X (λx y H Q=>r x y H Q\/c x y H Q):=by
 intro value slice d s e H x y v u Q I f g q hs;rcases q with q|q
 .exact h value slice d s e H x y v u Q I f g q hs
 .exact h' value slice d s e H x y v u Q I f g q hs
def Ht {r:R2}(c:XN X r)(ha:PE X a ta)(hb:PE X b tb)(hs:Mu b):PE X (.Subscript a b pos) (Yh r ta tb):=by intro d s e H Q I h;exact Subscript_ (Zh ha hb I h λv u f x y g i j k q=>c a b d f e g x y v u Q i j k q (hs _ _))
def eJ (K:AAB):R2:=λx y H Q=>∃p xs i v,x= .ref p/\y= .int i/\EQ K H p xs/\M3 xs i=some v/\Q v H
def eO (K:AAB):R2:=λx y H Q=>∃p xs i v,x= .ref p/\y= .int i/\K5 K H p xs/\M3 xs i=some v/\Q v H
def Dq:XN X (eJ X.K):=by
 intro value slice g s k H x y v u Q I m n h hs;obtain⟨p,xs,i,z,rfl,rfl,o,he,q⟩:=h;cases m;obtain⟨t,rfl⟩:=n;obtain⟨d,r,e,D⟩:=I.list o;obtain⟨j,h1,h2,h3,A,B⟩:=Rm he;obtain⟨w,ew,f⟩:=r.get h2;have hl:=r.length;have E:=J5;have c:EP X g k Q w s:=⟨z,H,I,f,q⟩;by_cases l:0<=i
 .have hj:i.toNat=j:=by rw[seqIndex_of l B] at h1;exact AAX h1
  exact item_listR e.isList l (by omega) (by rw[hj];simpa using ew) c hs
 .have hj:(i+(d.toArray.size:Int)).toNat=j:=by rw[seqIndex_neg (by omega) A] at h1;rw[AAR,<-hl];exact AAX h1
  exact subscriptTail_builtinR (x:=w) e.isList.typeIs slot_list_getitem.lookup
   (wpAny_getItem_list_neg (Q:=λr C=>r=w/\EP X g k Q r C) e.isList (by omega) (by rw[AAR] <;> omega) (by omega) (by rw[hj];simpa using ew) ⟨rfl,c⟩) hs
def aD:XN X (eO X.K):=by
 intro value slice e s f H x y v u Q I k l h hs;obtain⟨p,xs,i,z,rfl,rfl,m,he,q⟩:=h;cases k;obtain⟨t,rfl⟩:=l;obtain⟨n,r,g,A⟩:=I.tuple m;obtain⟨j,h1,h2,h3,B,C⟩:=Rm he;obtain⟨w,ew,c⟩:=r.get h2;have hl:=r.length;have D:=J5;have d:EP X e f Q w s:=⟨z,H,I,c,q⟩;exact subscriptTail_builtinR (x:=w) g.typeIs slot_tuple_getitem.lookup
  (getItem_tuple (j:=j) (Q:=λr o=>r=w/\EP X e f Q r o) g (by omega) (by omega) (by rw[AAR,<-hl];exact h1) (by simpa using ew) ⟨rfl,d⟩) hs
def Qp (c:zy zx)(n j:Nat)(u:zx):Obj.mapSeq (·.setIfInBounds j u) {cls:= .type "list",data:= .seq c.toArray n}={cls:= .type "list",data:= .seq (c.set j u).toArray n}:=by simp[Obj.mapSeq]
def Inv.lst {d:zy (zu×Obj)}{f:St}{H:Hp}{s:zw}{p:zu}{xs:zy V}(I:Inv X d f H s)(h:H p=some (.lst xs)):∃(c:zy zx) (n:Nat),An xs c/\s.heap.get? p=some {cls:= .type "list",data:= .seq c.toArray n}/\xs.length<=sizeLine:=by obtain⟨z,c,n,r,e⟩:=I.hok p _ h;exact⟨c,n,r,e,z⟩
def Inv.lstUpd {i:zy (zu×Obj)}{j:St}{H:Hp}{s:zw}{p:zu}{xs d:zy V}{c its':zy zx}{n g:Nat}{f:Obj->Obj}(I:Inv X i j H s)(h:H p=some (.lst xs))(l:s.heap.get? p=some {cls:= .type "list",data:= .seq c.toArray n})(k:f {cls:= .type "list",data:= .seq c.toArray n}={cls:= .type "list",data:= .seq its'.toArray g})(r:An d its')(m:d.length<=sizeLine)(t:Nat):Inv X i j (upd H p (.lst d)) {s with heap:=s.heap.update p f,toks:=t}:=by
 have e:(s.heap.update p f).get? p=some {cls:= .type "list",data:= .seq its'.toArray g}:=by rw[ACL f l (by rw[k] <;> rfl),k]
 refine I.write (x:=p) (e:=p) (by rw[h];trivial) (.inl rfl) (λb u hb q=>(Heap.get?_update_other _ _ (AAp hb)).trans q) ⟨_,e⟩ ?_;exact⟨m,its',g,r,e⟩
def eV:V->V->V->Hp->(Hp->Prop)->Prop:=λo i v H Q=>∃p xs k j,o= .ref p/\i= .int k/\H p=some (.lst xs)/\T4 xs.length k=some j/\Q (upd H p (.lst (xs.set j v)))
def Gx:ZS X eV:=by
 intro l s m H o i v z A u Q I w x rv h;obtain⟨p,xs,k,j,rfl,rfl,hp,hj,q⟩:=h;cases w;obtain⟨t,rfl⟩:=x;obtain⟨c,n,r,d,y⟩:=I.lst hp;obtain⟨h1,h2,h3,e⟩:=SQ hj;have hl:=r.length;have B:=J5;have f:Inv X l m (upd H p (.lst (xs.set j v))) {s with heap:=s.heap.update p (Obj.mapSeq (·.setIfInBounds j u))}:=
  I.lstUpd hp d (Qp c n j u) (r.set rv j) (by rw[List.length_set];exact y) s.toks
 by_cases g:0<=k
 .have hk:k.toNat=j:=by rw[seqIndex_of g e] at h1;exact AAX h1
  exact PySem.W.ki_setAt d g (by omega) (by rw[AAR,<-hl];exact e) (by rw[hk];exact⟨_,f,q⟩)
 .have hk:(k+(c.toArray.size:Int)).toNat=j:=by rw[seqIndex_neg (by omega) h3] at h1;rw[AAR,<-hl];exact AAX h1
  exact PySem.W.ki_setBack d (by omega) (by rw[AAR,<-hl];exact h3) (by omega) (by rw[hk];exact⟨_,f,q⟩)
def OA (lo hi:zt Int)(n:Nat):(sliceBounds lo hi none n).1=((HT.sIx n 0 lo:Nat):Int)/\(sliceBounds lo hi none n).2.1=((HT.sIx n n hi:Nat):Int)/\(sliceBounds lo hi none n).2.2=1:=by
 refine⟨?_, ?_,rfl⟩
 .cases lo with
  | none=>simp[sliceBounds,HT.sIx]
  | some i=>
    simp only[sliceBounds,HT.sIx,Option.getD_none,show (1:Int)>0 by decide,AAo];by_cases h:i<0
    .simp only[h,AAo] <;> omega
    .simp only[h,AAZ] <;> omega
 .cases hi with
  | none=>simp[sliceBounds,HT.sIx]
  | some i=>
    simp only[sliceBounds,HT.sIx,Option.getD_none,show (1:Int)>0 by decide,AAo];by_cases h:i<0
    .simp only[h,AAo] <;> omega
    .simp only[h,AAZ] <;> omega
def Lm (c:zy zx)(lo hi:zt Int):slicePick c.toArray lo hi none=((c.drop (HT.sIx c.length 0 lo)).take (HT.sIx c.length c.length hi-HT.sIx c.length 0 lo)).toArray:=by obtain⟨h1,h2,h3⟩:=OA lo hi c.toArray.size;unfold slicePick;rw[h1,h2,h3];simp only[sliceRange_one,pick_run,AAR] <;> rfl
def ic (K:AAB):V->zt Int->zt Int->Hp->VK->Prop:=λx lo hi H Q=>∃a xs,x= .ref a/\EQ K H a xs/\∀p,H p=none->Q (.ref p) (upd H p (.lst (LX xs lo hi)))
def YX:Yr X (ic X.K):=by intro k s l H x v m n lo hi sl Q I d hs e f h;obtain⟨a,xs,rfl,hx,q⟩:=h;cases d;obtain⟨g,r,c,i⟩:=I.list hx;have j:=r.length;refine⟨"list",_,slot_list_getitem.lookup,c.isList.typeIs, ?_⟩;refine wpAny_getItem_list_slice c.isList hs e f .none (by simp) ?_ (by rw[AAR] <;> omega);rw[Lm,<-j];refine⟨.ref s.heap.objs.size,_,I.laid (t':=s.toks) (o:= .lst (LX xs lo hi)) (λb p q=>AAG _ q) (AAI _) ?_,rfl,q _ (I.hok.fresh (AAI _))⟩;exact⟨AAT (Ho xs lo hi) i,_,0,(r.drop (HT.sIx xs.length 0 lo)).take (HT.sIx xs.length xs.length hi-HT.sIx xs.length 0 lo),AAN _ rfl⟩
def Gd:CL X (.builtin "len") (λxs H Q=>∃p c,xs= [.ref p] /\(EQ X.K H p c\/K5 X.K H p c)/\Q (.int c.length) H):=by
 intro l s m H xs n Q I r h;obtain⟨p,c,rfl,d,q⟩:=h;obtain⟨u,rfl,j⟩:=vals1 r;cases j;have o:=J5;rcases d with d|d
 .obtain ⟨e,f,g,k⟩:=I.list d;have i:=f.length;exact Calls.call_len_list g.isList (by simp only[AAR] <;> omega) ⟨.int c.length,H,I.tok _,⟨s.toks+1,by rw[AAR,i]⟩,q⟩
 .obtain ⟨e,f,g,k⟩:=I.tuple d;have i:=f.length;exact len_tuple g (by simp only[AAR] <;> omega) ⟨.int c.length,H,I.tok _,⟨s.toks+1,by rw[AAR,i]⟩,q⟩
def LV:CL X (.type "tuple") (λxs H Q=>∃p d,xs= [.ref p] /\((EQ X.K H p d/\∀l,H l=none->Q (.ref l) (upd H l (.tup d)))\/(K5 X.K H p d/\Q (.ref p) H))):=by
 intro j s k H xs y Q I r h;obtain⟨p,d,rfl,h⟩:=h;obtain⟨u,rfl,t⟩:=vals1 r;cases t;rcases h with⟨f,q⟩|⟨f,q⟩
 .obtain ⟨c,g,i,m⟩:=I.list f;have z:=g.length;refine call_tuple_list i.isList (λh' v=> ?_) (by simp only[AAR] <;> omega);have n:Inv X j k H {s with heap:=h'}:=I.kept (t':=s.toks) v;have x:Inv X j k (upd H h'.objs.size (.tup d)) {s with heap:=h'.push {cls:= .type "tuple",data:= .seq c.toArray}}:=
   n.laid (t':=s.toks) (λb o e=>AAG _ e) (AAI _) (show Bi X.prog X.w _ _ _ (.tup d) from⟨m,c,g,IsTup.new _ _⟩)
  exact⟨.ref h'.objs.size,_,x,rfl,q _ (n.hok.fresh (AAI _))⟩
 .obtain ⟨c,g,i,m⟩:=I.tuple f;exact call_tuple_same i ⟨.ref p,H,I,rfl,q⟩
def kP (K:AAB)(T:String)(x:V)(H:Hp):Prop:=match x with
 | .str _=>T="str"
 | .int _=>T="int"
 | .ref p=>(T="list" /\∃xs,EQ K H p xs)\/(T="tuple" /\∃o,K.lookup p=some o/\o.cls= .type "tuple" /\o.dict=none)\/
     (T="dict" /\((∃kvs,H p=some (.dK kvs))\/∃kvs,H p=some (.dT kvs)))\/(T="set" /\∃S n,H p=some (.set S n))
 | _=>False
def bu {j:zy (zu×Obj)}{k:St}{H:Hp}{s:zw}{T:String}{x:V}{v:zx}(I:Inv X j k H s)(r:RelV x v)(d:kP X.K T x H):s.TypeIs v T/\∀a,v= .ref a->∃g,s.heap.get? a=some g/\g.dict=none:=by
 cases x with
 | str z=> obtain⟨t,rfl⟩:=r;cases (show T="str" from d);exact⟨typeIs_str s z t,λ_ e=>nomatch e⟩
 | int i=> obtain⟨t,rfl⟩:=r;cases (show T="int" from d);exact⟨typeIs_int s i t,λ_ e=>nomatch e⟩
 | ref p=>
   cases r;rcases d with⟨rfl,xs,l⟩|⟨rfl,o,hk,hc,hd⟩|⟨rfl,hk⟩|⟨rfl,S,n,hk⟩
   .obtain ⟨m,_,h,_⟩:=I.list l;refine⟨h.isList.typeIs,λa e=> ?_⟩;cases e;obtain⟨o,n,e,c,hd,_⟩:=h;exact⟨o,e,hd⟩
   .refine ⟨⟨o,I.kIn p o hk,hc⟩,λa e=> ?_⟩;cases e;exact⟨o,I.kIn _ o hk,hd⟩
   .have z:∃o,s.heap.get? p=some o/\o.ExactDict:=by
     rcases hk with⟨kvs,hk⟩|⟨kvs,hk⟩
     .obtain ⟨_,_,_,_,o,_,_,e,ex,_⟩:=I.hok p _ hk;exact⟨o,e,ex⟩
     .obtain ⟨_,_,_,_,o,_,_,e,ex,_⟩:=I.hok p _ hk;exact⟨o,e,ex⟩
    obtain⟨o,e,ex⟩:=z;refine⟨⟨o,e,ex.1⟩,λa f=> ?_⟩;cases f;exact⟨o,e,ex.2.1⟩
   .obtain ⟨o,_,_,_,e,ex,_⟩:=I.hok p _ hk;refine⟨⟨o,e,ex.1⟩,λa f=> ?_⟩;cases f;exact⟨o,e,ex.2.1⟩
 | _=>exact False.elim d
def kN (K:AAB)(T:String)(r:V->zy V->Hp->VK->Prop)(d:TE)(t:TA):TE:=λc H Q=>d c H λx H1=>kP K T x H1/\t c H1 λxs e=>r x xs e Q
variable {o e:zr}{es:zy zr}{to:TE}{t:TA}{name:Str}{apos cpos:Pos}{T id:String}{r:V->zy V->Hp->VK->Prop}
def d7 (j:PlainAttrs T)(slot:Slot T name id)(k:typeOf (.builtin id)=pure (.type "method_descriptor"))(l:mN X id r)(m:PE X o to)(ha:PA X (e::es) t)(n:attributeBase o name X.env (eval o X.env)=eval o X.env:=by rfl)(p:((backTo cpos (starEach (e::es) X.env)).all (λx=> !x.1)&&(backToKw cpos (keywordEach [] X.env)).all (λx=>x.1.isSome) && decide ((e::es).length+([] :zy Keyword).length+(if ([] :zy Keyword).isEmpty then 0 else 1)<30))=true:=by rfl)(u:(apos.endLine==cpos.line)=true:=by rfl)(hs:starEach (e::es) X.env=(false,eval e X.env)::starEach es X.env:=by rfl)(w:(backTo cpos (starEach es X.env)).any (·.1)=false:=by rfl):PE X (.Call (.Attribute o name apos) (e::es) [] cpos) (kN X.K T r to t):=by intro c s d H Q I h;refine wpAny_Call_method_late n p u rfl (BC (m c s d H _ I h) λv y ⟨x,H1,f,g,z,A⟩=> ?_);obtain⟨h1,h2⟩:=bu f g z;refine⟨T,id,j,slot,k,h1,h2, ?_⟩;have i:=ha cpos c y d H1 _ f A;rw[hs] at i ⊢;refine ACN (by show (false||(backTo cpos (starEach es X.env)).any (·.1))=false;rw[w] <;> rfl) (Calls.evalArgs_plain ?_);exact BC i λB C ⟨vs,D,E,F,G⟩=>l c C d D x vs v B Q E g F G
end
def gt (X:Cx)(id:String)(r:V->zy V->Hp->VK->Prop):Prop:=
 ∀(a:zy (zu×Obj)) (s:zw) (b:St) (H:Hp) (x:V) (xs:zy V) (v:zx) (c:zy zx) (Q:VK),Inv X a b H s->RelV x v->An xs c->r x xs H Q->
  wpAny (model X.prog X.w) X.A (call (.builtin id) (v::c)) (EP X a b Q) X.xe s
def An.one:∀{x:V} {a:zy zx},An [x] a->∃u,a= [u] /\RelV x u
 | _,_, .cons r .nil=>⟨_,rfl,r⟩
def An.two:∀{x y:V} {a:zy zx},An [x,y] a->∃u v,a= [u,v] /\RelV x u/\RelV y v
 | _,_,_, .cons r (.cons q .nil)=>⟨_,_,rfl,r,q⟩
def An.zero:∀{a:zy zx},An [] a->a= []
 | _, .nil=>rfl
def An.dropLast {xs:zy V}{a:zy zx}(h:An xs a):An xs.dropLast a.dropLast:=by
 induction h with
 | nil=>exact .nil
 | cons r t b=>
   cases t with
   | nil=>exact .nil
   | cons q t'=>exact .cons r b
def An.reverse {xs:zy V}{a:zy zx}(h:An xs a):An xs.reverse a.reverse:=by
 induction h with
 | nil=>exact .nil
 | cons r t b=>rw[ACO,ACO];exact An.append b (.cons r .nil)
section
variable {X:Cx}{zj:zy (zu×Obj)}{σ:St}{H:Hp}{s:zw}{l b:zu}{xs ys zs:zy V}
def Inv.lset {a its':zy zx}{n:Nat}{f:Array zx->Array zx}{t':Nat}(I:Inv X zj σ H s)(c:H l=some (.lst xs))(e:s.heap.get? l=some {cls:= .type "list",data:= .seq a.toArray n})(d:f a.toArray=its'.toArray)(hv:An ys its')(g:ys.length<=sizeLine):Inv X zj σ (upd H l (.lst ys)) {s with heap:=s.heap.update l (Obj.mapSeq f),toks:=t'}:=by have q:=PySem.IsL.update e f;rw[d] at q;refine I.write (x:=l) (e:=l) (by rw[c];exact trivial) (.inl rfl) (λh u hb hu=>(Heap.get?_update_other s.heap (Obj.mapSeq f) (AAp hb)).trans hu) ⟨_,q⟩ ?_;exact⟨g,its',_,hv,q⟩
def Inv.lnew {a:zy zx}{t':Nat}(I:Inv X zj σ H s)(hv:An ys a)(c:ys.length<=sizeLine):Inv X zj σ (upd H s.heap.objs.size (.lst ys)) {s with heap:=s.heap.push {cls:= .type "list",data:= .seq a.toArray},toks:=t'}:=
 I.laid (λ_ _ q=>AAG _ q) (AAI _) ⟨c,a,0,hv,AAN _ rfl⟩
def Inv.fresh (I:Inv X zj σ H s):H s.heap.objs.size=none:=I.hok.fresh (AAI _)
def Inv.lstM (I:Inv X zj σ H s)(c:H l=some (.lst xs)):xs.length<=sizeLine/\∃(a:zy zx) (n:Nat),An xs a/\xs.length=a.length/\s.heap.get? l=some {cls:= .type "list",data:= .seq a.toArray n}:=by obtain⟨z,a,n,r,e⟩:=I.hok l _ c;exact⟨z,a,n,r,r.length,e⟩
end
section
variable {X:Cx}
def Nn:V->zy V->Hp->VK->Prop:=λx vs H Q=>∃l xs y,x= .ref l/\vs= [y] /\H l=some (.lst xs)/\xs.length<sizeLine/\Q .non (upd H l (.lst (xs ++ [y])))
def MN:gt X "list.append" Nn:=by intro f s g H x vs v i Q I c rv h;obtain⟨l,xs,y,rfl,rfl,b,j,q⟩:=h;cases c;obtain⟨u,rfl,d⟩:=rv.one;obtain⟨z,a,n,r,hl,e⟩:=I.lstM b;refine call_meets F.slot_list_append ⟨_,e,rfl⟩ F.entry_list_append (F.args_list_append_2 _ _) (PySem.list_append l a.toArray n u (by rw[AAR];omega)) ⟨e, ?_⟩;refine⟨.non,_,I.lset (its':=a ++ [u]) b e (by simp) (r.append (.cons d .nil)) ?_,rfl,q⟩;rw[AAy,List.length_singleton];omega
def eF:R2:=λx y H Q=>∃l b xs a,x= .ref l/\y= .ref b/\H l=some (.lst xs)/\H b=some (.lst a)/\xs.length+a.length<=sizeLine/\∀p,H p=none->Q (.ref p) (upd H p (.lst (xs++a)))
def aU:DF X (binaryOp .Add) eF:=by
 intro o s p H x y v u Q I d f h;obtain⟨l,b,xs,t,rfl,rfl,g,i,w,q⟩:=h;cases d;cases f;obtain⟨z,c,n,r,hl,e⟩:=I.lstM g;obtain⟨A,a,B,j,C,k⟩:=I.lstM i;refine PySem.P.add_list e k ?_ (by rw[AAR,AAR];omega);have m:c.toArray++a.toArray=(c++a).toArray:=by simp
 rw[m];exact⟨.ref _,_,I.lnew (t':=s.toks) (r.append j) (by rw[AAy];omega),rfl,q _ I.fresh⟩
end
section
variable {prog:zp}{w:zm}{A:zk}{E:zx->zw->Prop}{s:zw}
set_option maxRecDepth 100000 in
end
end L2
namespace Att
open PySem PySem.W PySem.Calls PyProof.Rows
def Ib {P:Params}{h:zl}:∀(ns:zy Int) (vs:zy zx),WellAll P h vs (ns.map WData.int)->IntsAre vs ns:=by
 intro ns;induction ns with
 | nil=> intro vs w;rw[AB2] at w;cases w;exact .nil
 | cons n ns c=>
   intro vs w;rw[AAM] at w;cases w with
   | cons a b=> cases a;exact .cons _ _ (c _ b)
def US {l:OpenLaw}{n:Nat}(f:l.most=some n){P:Params}{h:zl}{args:zy WData}{vals:zy zx}(e:l.row.toRowW.claim.pre args=true)(g:WellAll P h vals args):∃a vs ns,vals= [Value.ref a] /\args= [WData.list (ns.map WData.int)] /\h.get? a=some {cls:= .type "list",data:= .seq vs.toArray}/\IntsAre vs ns/\ns.length<=n:=by
 have i:WShape.hasAll [] args [.list .int] =true:=(pre_splitW e).1;have hc:l.pre.holds [] {args:=args}=true:=(pre_splitW e).2;obtain⟨d,r,rfl,h1,h2⟩:=hasAllW_cons i;obtain rfl:=hasAllW_nil h2;obtain⟨xs,rfl,h3⟩:=hasW_list h1;obtain⟨ns,rfl⟩:=items_int h3;have j:ns.length<=n:=by
  unfold OpenLaw.pre at hc;have b:(WTm.not (.lt (.lit (.int (n:Int))) (.len (.arg 0)))).holds [] {args:= [.list (ns.map .int)] }=true:=by have b:=(holds_andW hc).1;rw[f] at b;exact b
  have c:=condW_of b (w_not (w_lt w_lit (w_len_list (w_arg rfl))));rw[AAL] at c;refine Nat.le_of_not_lt λq=> ?_;have k:(n:Int)<((ns.length:Nat):Int):=by omega
  first
   | (rw[AAV k] at c;exact absurd c (by decide))
   | (simp at c;omega)
 cases g with
 | cons m o=>
   cases o;cases m with
   | list p s=>exact⟨_,_,ns,rfl,rfl,p,Ib ns _ s,j⟩
def UO (l:OpenLaw)(args:zy WData):l.row.toRowW.claim.post args (.bool true) args=true:=
 postW_of (r:=l.row.toRowW) (X:=(true==true))
  (show WShape.has [] (.bool true) .bool=true by first | rfl|decide|simp[WShape.has,WShape.arms,WShape.armsAll])
  (show (WTm.eq .res (.lit (.bool true))).value [] {args:=args,res:=some (.bool true),after:=args}=some (.bool (true==true)) from w_eq_bool (w_res rfl) w_lit) rfl
def attach_call {l:OpenLaw}{n:Nat}{q:zp}{loose:zy Str}{XP:(Str->zt zx)->zl->Prop}{YP:zm->zl->Prop}{d:DefRec}(m:l.most=some n)(p:d.params.defaults= [])(call:∀(w:zm) (s₀ b:zw) (mg i:Str->zt zx) (e:zu) (o:Obj) (j g c:zx) (a:zu) (vs:zy zx) (ns:zy Int),Ground q loose [] XP w s₀ mg i b.heap->YP w b.heap-> b.heap.get? e=some o->o.data= .func (docDef d.name d.params d.body d.scope j g c)->b.heap.CodeRec g d.name->mg d.name=some (.ref e)-> b.heap.get? a=some {cls:= .type "list",data:= .seq vs.toArray}->IntsAre vs ns->ns.length<=n->b.gens= #[] -> codeAny (model l.prog w) callerA (.call (.ref e) ⟨[.ref a], []⟩) (λr h=>r= .ok (.ret (.bool true))/\OldK b.heap h.heap/\h.os=b.os/\AllBare h.gens) b):WalkO q loose XP YP l.row.toRowW d [] (λf vs=>PySem.call f vs):=by intro w s₀ b mg i G Y e o j g c s kV t hd u k v x args vals as y H I z J;obtain rfl:s= .none:=Dflts.none k p;obtain rfl:kV= .none:=Dflts.noKw k;obtain⟨a,vs,ns,rfl,rfl,A,B,C⟩:=US m y z;refine enter_call (ABe (call w s₀ b mg i e o j g c a vs ns G Y t (fd_plain hd) u v A B C x) λr h D=> ?_);obtain⟨rfl,h2,h3,E⟩:=D;exact⟨.inl ⟨.bool true, .bool true, [],rfl,λ_=>rfl, .bool true,UO l _,λ_=>⟨List.Pairwise.nil,λ_ F=>(nomatch F)⟩⟩,h2,h3,E⟩
section
variable {prog:zp}{w:zm}{A:zk}{E:zx->zw->Prop}{s:zw}{K:Frag}
def iU (h:zl)(L d:zu):zy (zu×Obj):=(List.range h.objs.size).filterMap λa=>if a=L\/a=d then none else (h.get? a).map λo=>(a,o)
end
end Att
namespace L2
open PySem PySem.Spec PyProof.Rows
theorem MX:∀{vs:zy zx} {ns:zy Int},IntsAre vs ns->An (ns.map V.int) vs
 | _,_, .nil=> .nil
 | _,_, .cons n t h=> .cons ⟨t,rfl⟩ (MX h)
def ZR (H:Hp):Prop:=∀b,H b=none\/∃o xs,H b=some (.frz o (.lst xs))
def Vo {P:zp}{w:zm}{K:AAB}{mg p:Str->zt zx}{CX:TB}{k:Nat}{t a:zu}{B:FuncData}{x:Str}{sp:Sp}{c:zw}{vs:zy zx}{ns:zy Int}(C:K.In c.heap)(D:c.heap.Ns mainGlobals mg)(hb:c.heap.Ns builtinsNs p)(L:∀x:Str,x≠"__name__" ->p x=bootBuiltins x)(M:c.heap.NoLimit)(N:c.gens= #[])(ha:c.heap.get? a=some {cls:= .type "list",data:= .seq vs.toArray})(hi:IntsAre vs ns)(hl:ns.length<=sizeLine)(O:Room k callerA)(F:∀base:zl,K.In base->base.Ns mainGlobals mg->Co P w K mg base CX k t B [x] sp)(Q:∀(s:zw) (u:zx),BindsTo s B ⟨[u], []⟩ [(x,u)])(R:∀H:Hp,ZR H->EQ K H a (ns.map V.int)->sp [.ref a] H (λv _=>v= .bl true) λ_ _ _=>False)(S:∀H e g,CX [] H c (λ_ _ _=>False) e g->False):codeAny (model P w) callerA (.call (.ref t) ⟨[.ref a], []⟩) (λr g=>r= .ok (.ret (.bool true))/\OldK c.heap g.heap/\g.os=c.os/\AllBare g.gens) c:=by
 have rv:=MX hi;have j:=hi.length;have core:∀H:Hp,ZR H->EQ K H a (ns.map V.int)->GX P w H c.heap->(∀b,H b≠none->b=a)->(H a≠none->K.lookup a=none)->
  codeAny (model P w) callerA (.call (.ref t) ⟨[.ref a], []⟩) (λr g=>r= .ok (.ret (.bool true))/\OldK c.heap g.heap/\g.os=c.os/\AllBare g.gens) c:=by
  intro H E T hok G U;have f:∀{b:zu} {o:Obj},c.heap.get? b=some o->H b=none->(NK c.heap H).get? b=some o:=λe n=>Vc e n;have y:∀{b:zu} {o:Obj} {es:Array DictEntry} {ep:Nat},c.heap.get? b=some o->o.data= .dict es ep->H b=none:=λ{b o es ep} e d=>by
   cases q:H b with
   | none=>rfl
   | some u=> have A:b=a:=G b (by rw[q];simp);subst A;rw[ha] at e;cases e;have d':Data.seq vs.toArray _=Data.dict es ep:=d;cases d'
  have i:∀{b:zu} {m:Str->zt zx},c.heap.Ns b m->(NK c.heap H).Ns b m:=λ{b m} ⟨o,es,ep,e,d,r⟩=>⟨o,es,ep,f e (y e d),d,r⟩;have I:K.In (NK c.heap H):=λb o e=>f (C b o e) (by
   cases q:H b with
   | none=>rfl
   | some u=>
     have A:b=a:=G b (by rw[q];simp);subst A;rw[U (by rw[q];simp)] at e;cases e)
  have W:Mod K mg (NK c.heap H):=⟨I,i D,⟨p,i hb,L⟩,let ⟨X,h1,h2⟩:=M;⟨X,i h1,h2⟩⟩;have Y:LQ P w K mg (NK c.heap H) callerA [] c H:=⟨rfl,W,λb o e=>Xo e,Nat.le_of_eq (Tu _ _),trivial,λb hb=>absurd (show b∈([] :zy zu) from hb) (by simp),hok, .of_eq N⟩;refine ABe ((F _ I (i D)).run callerA [] c H ⟨[.ref a], []⟩ [.ref a] [.ref a] _ _ O Y (Q c (.ref a)) (.cons rfl .nil) (R H E T)) λr g h=> ?_;cases r with
  | error e=>exact(S H e g h).elim
  | ok Z=>
    cases Z with
    | next=>exact False.elim h
    | brk=>exact False.elim h
    | cont=>exact False.elim h
    | ret u=>
      obtain⟨v,H',os,bare,un,iG,r',q⟩:=h;have q':v= .bl true:=q;subst q';obtain rfl:u=Value.bool true:=r';refine⟨rfl,OldK.of_keep λb o e=> ?_,os,bare⟩;cases q:H b with
      | none=>exact un.keep b o e q (by intro z;exact absurd (show b∈([] :zy zu) from z) (by simp)) (by simp)
      | some u=>
        rcases E b with z|⟨ob,xs,z⟩
        .rw [q] at z;cases z
        .have z2:=un.frzs b ob _ z;obtain⟨J,_⟩:=hok b _ z;obtain⟨e2,_⟩:=iG b _ z2;rw[e] at J;cases J;exact e2
 cases hk:K.lookup a with
 | some o=> have e:=C a o hk;rw[ha] at e;cases e;refine core (λ_=>none) (λ_=> .inl rfl) (.inr ⟨_,vs.toArray,_,hk,rfl,rfl,rfl,by rw[AAR,j];exact hl,by simpa using rv⟩) (λb u z=>by have l:(none:zt HO)=some u:=z;cases l) (λb z=>absurd rfl z) λz=>absurd rfl z
 | none=>
   refine core (λb=>if b=a then some (.frz {cls:= .type "list",data:= .seq vs.toArray} (.lst (ns.map V.int))) else none) (λb=> ?_) (.inl (.inr ⟨{cls:= .type "list",data:= .seq vs.toArray},AAE rfl⟩)) (λb u z=> ?_) (λb z=> ?_) λ_=>hk
   .by_cases hb:b=a
    .exact .inr ⟨_,_,AAE hb⟩
    .exact .inl (AAD hb)
   .by_cases hb:b=a
    .have l:=(AAE hb).symm.trans z;cases l;subst hb;exact⟨ha,by rw[AAL];exact hl,vs,_,rv,ha⟩
    .have l:=(AAD hb).symm.trans z;cases l
   .by_cases hb:b=a
    .exact hb
    .exact absurd (AAD hb) z
abbrev oZ {K:AAB}{h:zl}(_:K.In h):AAB:=K
def walk_of {l:PySem.W.OpenLaw}{n k:Nat}{q:zp}{loose:zy Str}{XP:(Str->zt zx)->zl->Prop}{YP:zm->zl->Prop}{d:DefRec}{K:Params->AAB}{CX:zm->TB}{sp:zm->Sp}{x:Str}(t:l.most=some n)(y:n<=sizeLine)(z:d.params.defaults= [])(A:Room k callerA)(B:∀(w:zm) (h:zl),YP w h->(K w.params).In h)(F:∀(w:zm) (mg:Str->zt zx) (i:zu) (h:zl),(K w.params).In h->h.Ns mainGlobals mg->mg d.name=some (.ref i)-> ∃j:FuncData,(∀(s:zw) (u:zx),BindsTo s j ⟨[u], []⟩ [(x,u)])/\ ∀base:zl,(K w.params).In base->base.Ns mainGlobals mg->Co l.prog w (K w.params) mg base (CX w) k i j [x] (sp w))(C:∀(w:zm) (H:Hp) (a:zu) (ns:zy Int),ns.length<=n->ZR H->EQ (K w.params) H a (ns.map V.int)->sp w [.ref a] H (λv _=>v= .bl true) λ_ _ _=>False)(D:∀(w:zm) (H:Hp) (s:zw) (e:zx) (m:zw),CX w [] H s (λ_ _ _=>False) e m->False):PySem.W.WalkO q loose XP YP l.row.toRowW d [] (λf vs=>PySem.call f vs):=by refine Att.attach_call t z λw s₀ c mg P i o Q R E a vs ns G Y S hd U I J L p M=> ?_;have r:=B w _ Y;obtain⟨j,hb,hF⟩:=F w mg i _ r G.T.g I;exact Vo r G.T.g G.T.b G.T.builtins G.T.nolimit M J L (AAT p y) A hF hb (λH N O=>C w H a ns p N O) λH e m=>D w H c e m
abbrev JT:TB:=λ_ _ _ _ _ _=>False
abbrev E0:XK:=λ_ _ _=>False
def Y9 {X:Cx}:Passes JT X E0:=λ_ _ _ _ _ _ _ h=>h.elim
structure Rh (K:AAB) (x qual:Str) (st:Stmt) (f:Addr) (fd:FuncData):Prop where
 ex:∃(oc:Value) (od:Option Addr) (kV doc pm:Value) (an:Option Addr) (cdv ct:Value) (osl:Array (Option Value)),
  fd=PySem.W.fnOf x qual (Cv st) (BW st) (Ai st) .none kV doc pm an cdv ct/\K.lookup f=some ⟨oc,od, .func fd,osl⟩/\PySem.W.codeIn K cdv qual=true
 kp:PySem.W.keepIn K (.ref f)=true
section
variable {P:zp}{w:zm}{K:AAB}{mg:Str->zt zx}{base:zl}
def Rh.ok {x qual:Str}{st:Stmt}{f:zu}{b:FuncData}{N ps:zy Str}{k:Nat}{sp:Sp}(F:Rh K x qual st f b)(S:Ca N ps (Ai st))(len:∀vs H Q E,sp vs H Q E->vs.length=ps.length)(c:∀(a:zx) (A:zk) (outer:zy Env) (s:zw) (H:Hp) (vs:zy V) (Q:VK) (E:XK),Room k (A.deeper (envOfC qual (Ai st) s.heap.objs.size f a))->sp vs H Q E-> ∃t,OX (LY JT P w K mg base N qual (Ai st) f a A outer s H E).nox (BW st) t/\t {nx:=λ_ d=>Q .non d,rt:=Q} (start N vs) H):Co P w K mg base JT (k+1) f b ps sp:=by obtain⟨n,o,kV,e,p,r,a,ct,g,rfl,i,j⟩:=F.ex;refine Yx i j S len λA outer s H vs Q E l m=> ?_;obtain⟨t,h,q⟩:=c a A outer s H vs Q E l m;exact⟨t,h.nox,q⟩
def Rh.binds {x qual:Str}{st:Stmt}{f:zu}{g:FuncData}{ps:zy Str}(F:Rh K x qual st f g)(h:∀(kV a c:zx) (d:zt zu) (b ct:zx) (e:zy zx),e.length=ps.length->bindArgs (PySem.W.fnOf x qual (Cv st) (BW st) (Ai st) .none kV a c d b ct) ⟨e, []⟩=pure (ps.zip e)):Binds K g ps [] :=by obtain⟨j,k,kV,a,c,d,b,ct,i,rfl,l,m⟩:=F.ex;exact .all (h kV a c d b ct)
def VQ {x qual:Str}{st:Stmt}{f:zu}{h:zx}{i e:zt zu}{d:Array (zt zx)}{kV b g a ct:zx}(l:K.lookup f=some ⟨h,i, .func (PySem.W.fnOf x qual (Cv st) (BW st) (Ai st) .none kV b g e a ct),d⟩)(c:PySem.W.codeIn K a qual=true)(k:PySem.W.keepIn K (.ref f)=true):Rh K x qual st f (PySem.W.fnOf x qual (Cv st) (BW st) (Ai st) .none kV b g e a ct):=⟨⟨h,i,kV,b,g,e,a,ct,d,rfl,l,c⟩,k⟩
end
section
variable {X:Cx}
def pv (i:Nat){x:Str}{pos:Pos}(hN:X.N[i]? =some x:=by rfl)(hv:Yt X.env.scope x:=by first | exact Or.inl rfl|exact Or.inr (Or.inl rfl)|exact Or.inr (Or.inr rfl))(hd:(x==("__debug__" :Str))=false:=by decide)(a:(x==("__classdict__" :Str))=false:=by decide):PE X (.Name x pos) (GK i):=KI hN hv hd a
end
def dc {c A B:Prop}[Decidable c](h1:c->A)(h2:¬c->B):if c then A else B:=by
 by_cases h:c
 .rw [AAE h];exact h1 h
 .rw [AAD h];exact h2 h
def OZ (H a:Hp):Prop:=∀b o,H b=some o->a b=some o
def OZ.free {H a:Hp}(e:OZ H a){l:zu}(h:a l=Option.none):H l=Option.none:=by
 cases q:H l with
 | none=>rfl
 | some o=> rw[e l o q] at h;cases h
def OZ.seq {K:AAB}{H b:Hp}{a:zu}{xs:zy V}(e:OZ H b)(h:EQ K H a xs):EQ K b a xs:=by
 rcases h with(h|⟨o,h⟩)|h
 .exact .inl (.inl (e _ _ h))
 .exact .inl (.inr ⟨o,e _ _ h⟩)
 .exact .inr h
theorem HE {c d:Type}[BEq c][LawfulBEq c]{k:c}{a:d}:∀{l:zy (c×d)},l.lookup k=some a->(k,a)∈l
 | [],h=>by simp at h
 | (n,b)::r,h=>by
   rw[List.lookup_cons] at h;cases e:k==n with
   | true=>
     rw[e] at h;have f:k=n:=by simpa using e
     have hb:b=a:=by simpa using h
     subst f hb;exact AA4
   | false=> rw[e] at h;exact AA5 _ (HE h)
theorem MH {c d:Type}[BEq c][LawfulBEq c]{k:c}{a:d}:∀{l:zy (c×d)},(k,a)∈l->∃b,l.lookup k=some b
 | [],h=>nomatch h
 | (n,b)::r,h=>by
   rw[List.lookup_cons];cases e:k==n with
   | true=>exact⟨b,rfl⟩
   | false=>
     rcases AAH.mp h with z|z
     .have:k=n:=congrArg Prod.fst z;rw[this] at e;simp at e
     .exact MH z
theorem Ew {env:Env}{F:Str×NameKind->zy (Str×zu)->Sem (ForInStep (zy (Str×zu)))}(h1:∀n r c,env.cells.lookup n=some c->F (n, .free) r=pure (.yield ((n,c)::r)))(h2:∀n k r,k≠NameKind.free->F (n,k) r=pure (.yield r)):∀(names:zy (Str×NameKind)) (f:zy (Str×zu)),(∀x∈names,x.2= .free->∃c,env.cells.lookup x.1=some c)-> ∃cl,(forIn names f F:Sem _)=pure cl/\(∀p∈cl,p∈f\/env.cells.lookup p.1=some p.2)/\(∀p∈f,p∈cl)/\∀x∈names,x.2= .free->∃c,(x.1,c)∈cl
 | [],f,_=>⟨f,rfl,λp hp=> .inl hp,λp hp=>hp,λx hx=>nomatch hx⟩
 | (n,k)::r,f,h=>by
   by_cases hk:k= .free
   .subst hk;obtain⟨c,hc⟩:=h (n, .free) AA4 rfl;obtain⟨cl,e,a,b,d⟩:=Ew h1 h2 r ((n,c)::f) (λx hx=>h x (AA5 _ hx));refine⟨cl, ?_,λp hp=> ?_,λp hp=>b p (AA5 _ hp),λx hx g=> ?_⟩
    .rw [ABh,h1 n f c hc];exact e
    .rcases a p hp with z|z
     .rcases AAH.mp z with z|z
      .subst z;exact .inr hc
      .exact .inl z
     .exact .inr z
    .rcases AAH.mp hx with z|z
     .subst z;exact⟨c,b _ AA4⟩
     .exact d x z g
   .obtain ⟨cl,e,a,b,d⟩:=Ew h1 h2 r f (λx hx=>h x (AA5 _ hx));refine⟨cl, ?_,a,b,λx hx g=> ?_⟩
    .rw [ABh,h2 n k f hk];exact e
    .rcases AAH.mp hx with z|z
     .subst z;exact absurd g hk
     .exact d x z g
def Fw {env:Env}{scope:Scope}(h:∀x∈scope.names,x.2= .free->∃c,env.cells.lookup x.1=some c):∃cl,closureFor scope env=pure cl/\(∀y c,cl.lookup y=some c->env.cells.lookup y=some c)/\∀y,(y,NameKind.free)∈scope.names->∃c,cl.lookup y=some c:=by
 obtain⟨cl,e,a,_,d⟩:=Ew (env:=env) (F:=λx cs=>match x with | (name,kind)=>if (kind==NameKind.free)=true then do let a <-cellOf env name;pure (ForInStep.yield ((name,a)::cs)) else pure (ForInStep.yield cs))
  (λn r c hc=>by
    show (do let a <-cellOf env n;pure (ForInStep.yield ((n,a)::r)):Sem _)=_;unfold cellOf;rw[hc];rfl)
  (λn k r hk=>by
    have:(k==NameKind.free)=false:=by simpa using hk
    simp[this]) scope.names [] h
 refine⟨cl, ?_,λy c q=> ?_,λy hy=> ?_⟩
 .unfold closureFor;have b:(forIn scope.names ([] :zy (Str×zu)) λx cs=>match x with | (name,kind)=>if (kind==NameKind.free)=true then do let a <-cellOf env name;pure (ForInStep.yield ((name,a)::cs)) else pure (ForInStep.yield cs):Sem _) >>= (λr=>pure r)=pure cl:=by rw[e];rfl
  exact b
 .rcases a _ (HE q) with z|z
  .exact nomatch z
  .exact z
 .obtain ⟨c,hc⟩:=d (y, .free) hy rfl;exact MH hc
def Fu (env:Env)(sc:Scope)(cl:zy (Str×zu))(C:zu):Env:=
 {scope:=sc,locals:=C,globals:=env.globals,cells:=cl,qual:=env.qual,func:=none,code:=env.code,frame:=env.frame,builtins:=env.builtins}
def blk (X:Cx)(sc:Scope)(N:zy Str)(cl:zy (Str×zu))(C:zu)(s:zw)(H:Hp)(ex:zy zu)(pn:zy (zu×Obj)):Cx where
 prog:=X.prog
 w:=X.w
 K:=X.K
 mg:=X.mg
 base:=X.base
 A:=X.A
 N:=N
 s₀:=s
 H₀:=H
 env:=Fu X.env sc cl C
 outer:=X.stack
 stack:=X.stack
 ex:=ex
 fn:=λ_=>false
 calm:=X.calm
 pn:=pn
 xe:=λ_ _=>False
section
variable {X:Cx}{zj:zy (zu×Obj)}{σ:St}{H:Hp}{s:zw}{fp:zy zu}{sc:Scope}{N:zy Str}{cl:zy (Str×zu)}
def Inv.notStk (I:Inv X zj σ H s){b:zu}(h1:b≠X.env.locals)(h2:b ∉ X.fs):b ∉ Uk X.stack:=λz=>by
 rcases AAH.mp (I.stkSub b z) with e|e
 .exact h1 e
 .exact h2 e
def Inv.szLt (I:Inv X zj σ H s){x:Str}{c:zu}(e:X.env.cells.lookup x=some c):c<s.heap.objs.size:=by obtain⟨v,q⟩:=I.cell x c e;exact q.lt
def Zi (I:Inv X zj σ H s)(d:∀b∈fp,EO X zj H b)(f:∀b∈fp,b<s.heap.objs.size)(hk:sc.kind= .function)(h1:∀y c,cl.lookup y=some c->X.env.cells.lookup y=some c)(h2:∀y,(sc.names.lookup y=some .cell\/sc.names.lookup y=some .free)->∃c,cl.lookup y=some c):(blk X sc N cl s.heap.objs.size s H fp (X.pn++zj)).Ok where
 mod:=I.ok.mod
 kind:=hk
 glob:=I.ok.glob
 blt:=I.ok.blt
 above:=AAI _
 inj:=λx y c a b=>I.ok.inj x y c (h1 x c a) (h1 y c b)
 has:=λx hx=>h2 x hx
 cab:=λx c z=>nomatch z
 hd:=I.ok.hd
 frames:=I.ok.frames
 stk:= .inl rfl
 exf:=λb hb=>⟨AAK (f b hb),λx c e=>(d b hb).2.2.2.2.1 x c (h1 x c e)⟩
 bs:=I.bs
 bsz:=AAT I.ok.bsz I.sz
 noex:=λb o e hb=>by
  rcases (d b hb).2.2.2.1 with z|z
  .exact I.ok.noex b o e z
  .exact absurd (AAP (AAF (I.ok.bs b o e).1) z) (ABE _)
 exfs:=λb hb=>I.notStk (d b hb).2.1 (d b hb).2.2.1
 funs:=I.stack
 frf:=I.stkFree
def Bk (own:Nat)(ix:zy Nat)(σ:St):St:=List.replicate own none++ix.map λi=>(σ[i]?).getD none
def TR {own:Nat}{ix:zy Nat}{σ:St}:(Bk own ix σ).length=own+ix.length:=by simp[Bk]
def Fv {own:Nat}{ix:zy Nat}{σ:St}{j:Nat}{v:V}(h:(Bk own ix σ)[j]? =some (some v)):own<=j/\∃i,ix[j-own]? =some i/\σ[i]? =some (some v):=by
 unfold Bk at h;by_cases hj:j<own
 .rw [AA8 (by simpa using hj),ABG] at h;simp[hj] at h
 .have Ul:own<=j:=by omega
  rw[AAx (by simpa using Ul),ABH,AAg] at h;refine⟨Ul, ?_⟩;cases e:ix[j-own]? with
  | none=>rw[e] at h;simp at h
  | some i=>
    rw[e] at h;refine⟨i,rfl, ?_⟩;have h':(σ[i]?).getD none=some v:=by simpa using h
    cases a:σ[i]? with
    | none=>rw[a] at h';simp at h'
    | some o=>
      rw[a] at h';have:o=some v:=by simpa using h'
      rw[this]
structure Uy (X:Cx) (sc:Scope) (own:Nat) (ix:List Nat) (N:List Str):Prop where
 len:N.length=own+ix.length
 out:∀j i,ix[j]? =some i->∃x,N[own+j]? =some x/\X.N[i]? =some x/\X.env.scope.names.lookup x=some .cell/\sc.names.lookup x=some .cell
def VD {own:Nat}{ix:zy Nat}{h':zl}{m:Str->zt zx}{t':Nat}(I:Inv X zj σ H s)(B:∀b∈fp,EO X zj H b)(C:∀b∈fp,b<s.heap.objs.size)(hk:sc.kind= .function)(h1:∀y c,cl.lookup y=some c->X.env.cells.lookup y=some c)(h2:∀y,(sc.names.lookup y=some .cell\/sc.names.lookup y=some .free)->∃c,cl.lookup y=some c)(F:Uy X sc own ix N)(D:h'.Ns s.heap.objs.size m)(k:∀b o,s.heap.get? b=some o->h'.get? b=some o):Inv (blk X sc N cl s.heap.objs.size s H fp (X.pn++zj)) [] (Bk own ix σ) H {s with heap:=h',toks:=t'} where
 ok:=Zi I B C hk h1 h2
 os:=rfl
 bare:=I.bare
 base:=Un.kept k
 loc:=by
  refine⟨m,D,λi x v E G R=> ?_⟩;obtain⟨Ul,J,K,es⟩:=Fv G;obtain⟨y,n,L,t,w⟩:=F.out _ _ K;have g:x=y:=by have h:N[i]? =some x:=E;rw[show own+(i-own)=i by omega,h] at n;exact AAX n
  subst g;obtain⟨m0,S,M⟩:=I.loc;obtain⟨u,r,l⟩:=M J x v L es (.inr (.inl t));refine⟨u,r, ?_⟩;rcases l with⟨z,_⟩|⟨_,c,O,z⟩
  .have A:X.env.scope.names.lookup x=some .local:=z;rw[t] at A;cases A
  .obtain ⟨P,f⟩:=h2 x (.inl w);have:=h1 x P f;rw[O] at this;cases this;obtain⟨o,j,hd⟩:=z;exact .inr ⟨.inl w,c,f,o,k c o j,hd⟩
 cell:=λx c e=>by obtain⟨v,o,j,hd⟩:=I.cell x c (h1 x c e);exact⟨v,o,k c o j,hd⟩
 free:=I.hok.fresh (AAI _)
 freeC:=λx c e=>I.freeC x c (h1 x c e)
 pin:=λp hp=>by
  have Q:p∈X.pn++zj:=by simpa[blk] using hp
  obtain⟨a,b,c,d,e⟩:=I.pin p Q;exact⟨k _ _ a,b,AAK (AAF a),I.notStk c d,e⟩
 hok:=I.hok.kept k
 len:=by rw[TR];exact F.len.symm
def Rp {own:Nat}{ix:zy Nat}{σ':St}{d:Hp}{e:zw}{a:zy (zu×Obj)}(I:Inv X zj σ H s)(c:∀b∈fp,EO X zj H b)(f:∀b∈fp,b<s.heap.objs.size)(B:Inv (blk X sc N cl s.heap.objs.size s H fp (X.pn++zj)) a σ' d e):Inv X zj σ d e:=
 I.call' (ch:=fp) B.os B.base B.hok B.bare λb hb=>⟨(c b hb).2.2.2.1,(c b hb).2.1,(c b hb).2.2.2.2.1,(c b hb).2.2.2.2.2⟩
def Oc {d:Hp}{σ':St}{a:zw}{C:zu}{h':zl}(I:Inv X zj σ H s)(f:C=s.heap.objs.size)(g:Inv X zj σ' d a)(h:d C=none)(hs:Heap.SameBut C a.heap h'):Inv X zj σ' d {a with heap:=h'}:=by subst f;refine g.turned (t':=a.toks) (it:=s.heap.objs.size) (λb o hb e=>(hs.2 b hb).trans e) h (AAj I.lt) (.inr I.sz) (λx c e=>AAK (I.szLt e)) λp hp=>AAK (AAF (I.pin p hp).1)
end
def Yq (X:Cx)(a:zy zr)(t:TT):Prop:=
 ∀(d:zy (zu×Obj)) (s:zw) (b:St) (H:Hp) (Q:zq->Hp->Prop),Inv X d b H s->t b H Q->
  wpAny (model X.prog X.w) X.A (forIn a true λc r=>if r=true then do let ok <-isTrue c X.env (eval c X.env);pure (ForInStep.yield ok) else pure (ForInStep.yield r)) (TP X d b Q) X.xe s
def Yi:TT:=λ_ H Q=>Q true H
def Sd {X:Cx}:Yq X [] Yi:=λ_ _ _ H _ I h=>wpAny_tests_nil ⟨H,I,h⟩
def X6 {X:Cx}{c:zr}{t:TT}(hc:PT X c t):Yq X [c] t:=λa s b H Q I h=>wpAny_tests_one (hc a s b H Q I h)
def Jc (own:Nat)(g:TG):Prop:=∀v b H Q,g v b H Q->g v b H λa c=>Q a c/\a.length=b.length/\∀j,own<=j->a[j]? =b[j]?
def Jd (own:Nat)(g:QE):Prop:=∀vs b H Q,g vs b H Q->g vs b H λa c=>Q a c/\a.length=b.length/\∀j,own<=j->a[j]? =b[j]?
def NE {own i:Nat}(h:i<own):Jc own (CA i):=λv a H Q q=>⟨q,by simp,λj hj=>AAU (by omega)⟩
def R8 {own:Nat}:Jd own NC:=λvs a H Q q=>⟨q.1,q.2,rfl,λ_ _=>rfl⟩
def Jt {own:Nat}{t:TG}{u:QE}(h1:Jc own t)(m1:∀v b H Q d,(∀a c,Q a c->d a c)->t v b H Q->t v b H d)(h2:Jd own u)(m2:∀v b H Q d,(∀a c,Q a c->d a c)->u v b H Q->u v b H d):Jd own (EF t u):=by intro vs b H Q q;obtain⟨v,r,e,q⟩:=q;refine⟨v,r,e,m1 _ _ _ _ _ (λa c z=> ?_) (h1 _ _ _ _ q)⟩;obtain⟨z,l,g⟩:=z;refine m2 _ _ _ _ _ (λh m f=> ?_) (h2 _ _ _ _ z);obtain⟨f,i,k⟩:=f;exact⟨f,i.trans l,λj hj=>(k j hj).trans (g j hj)⟩
def Il {i:Nat}:∀v b H Q c,(∀a d,Q a d->c a d)->CA i v b H Q->CA i v b H c:=λ_ _ _ _ _ m q=>m _ _ q
def NF:∀v b H Q c,(∀a d,Q a d->c a d)->NC v b H Q->NC v b H c:=λ_ _ _ _ _ m q=>⟨q.1,m _ _ q.2⟩
def Os {t:TG}{u:QE}(m1:∀v b H Q c,(∀a d,Q a d->c a d)->t v b H Q->t v b H c)(m2:∀v b H Q c,(∀a d,Q a d->c a d)->u v b H Q->u v b H c):∀v b H Q c,(∀a d,Q a d->c a d)->EF t u v b H Q->EF t u v b H c:=λ_ _ _ _ _ m ⟨v,r,e,q⟩=>⟨v,r,e,m1 _ _ _ _ _ (λ_ _ z=>m2 _ _ _ _ _ m z) q⟩
def QI (J:It)(D:zu)(σ0:St)(g:TG)(h:TT)(j:TE)(Q:Hp->Prop)(W:Nat->Nat->Hp->Prop):Prop:=
 ∀i m H,W i m H->(J.stop i H/\Q H)\/(J.go i H/\∀x d,J.yld i H x d->g x σ0 d λa k=>h a k λok e=>
  if ok=true then j a e λy f=>∃c,f D=some (.lst c)/\c.length<sizeLine/\∃b,b<m/\W (i+1) b (upd f D (.lst (c ++ [y]))) else ∃b,b<m/\W (i+1) b e)
def Ws (b:TI)(own:Nat)(ix:zy Nat)(g:TG)(c:TT)(d:TE):TE:=λa H Q=>b a H λJ H1=>∀D,H1 D=none->
 ∃W:Nat->Nat->Hp->Prop,(∃m,W 0 m (upd H1 D (.lst [])))/\QI J D (Bk own ix a) g c d (Q (.ref D)) W
section
variable {X:Cx}{tg elt iter:zr}{ifs:zy zr}{scope:Scope}{pos:Pos}{wi:TI}{own:Nat}{ix:zy Nat}{N:zy Str}{g:TG}{tt:TT}{te:TE}
structure EM (X:Cx) (tg elt:Expr) (ifs:List Expr) (scope:Scope) (own:Nat) (ix:List Nat) (N:List Str) (g:TG) (tt:TT) (te:TE):Prop where
 kind:scope.kind= .function
 nocell:∀y∈scope.names,y.2≠ .cell
 names:∀y∈scope.names,y.2= .local->scope.names.lookup y.1=some .local
 frees:∀y∈scope.names,y.2= .free->X.env.scope.names.lookup y.1=some .cell
 ins:Uy X (relabel scope X.env) own ix N
 keep:Jc own g
 tgt:∀cl C s H ex pn,PG (blk X (relabel scope X.env) N cl C s H ex pn) tg g
 tst:∀cl C s H ex pn,Yq (blk X (relabel scope X.env) N cl C s H ex pn) ifs tt
 val:∀cl C s H ex pn,PE (blk X (relabel scope X.env) N cl C s H ex pn) elt te
def Ds {env:Env}{y:Str}{k:NameKind}(c:∀y∈scope.names,y.2≠ .cell)(h:(y,k)∈(relabel scope env).names)(hk:k= .cell\/k= .free):(y,NameKind.free)∈scope.names:=by
 obtain⟨⟨n,b⟩,a,e⟩:=AAJ.mp (show (y,k)∈scope.names.map _ from h);dsimp only at e;split at e
 .rename_i hc;cases e;have:b= .free:=by cases b <;> simp_all
  subst this;exact a
 .cases e;rcases hk with z|z
  .subst z;exact absurd rfl (c _ a)
  .subst z;exact a
def Ta {C:zy (zu×Obj)}{P:St}{H:Hp}{s:zw}{k:zy zu}{cl:zy (Str×zu)}{it:zu}{tn:Nat->zl->Prop}{J:It}{D:zu}{R:Result->zw->Prop}{Qh:Hp->Prop}{W:Nat->Nat->Hp->Prop}(hc:X.calm=true)(O:EM X tg elt ifs scope own ix N g tt te)(T:IV X.prog X.w X.K tg J k it tn)(I:Inv X C P H s)(hf:∀b∈k,EO X C H b)(F0:∀b∈k,b<s.heap.objs.size)(hW:QI J D (Bk own ix P) g tt te Qh W)(hR:∀σ' a S,Inv (blk X (relabel scope X.env) N cl s.heap.objs.size s H k (X.pn++C)) [] σ' a S->Qh a->R (.ok .next) S)(n:Nat)(s0:zw)(h0:∃i a,Inv (blk X (relabel scope X.env) N cl s.heap.objs.size s H k (X.pn++C)) [] (Bk own ix P) a s0/\tn i s0.heap/\(∀b∈k,a b=none)/\W i n a):codeAny (model X.prog X.w) X.A (.compLoop (.ListComp elt [⟨tg,iter,ifs,0⟩] scope pos) 0 (.ref it) (.ref D) (Fu X.env (relabel scope X.env) cl s.heap.objs.size)) R s0:=by
 refine codeAny_loop rfl (λn S=>∃i a,Inv (blk X (relabel scope X.env) N cl s.heap.objs.size s H k (X.pn++C)) [] (Bk own ix P) a S/\tn i S.heap/\(∀b∈k,a b=none)/\W i n a) (λn s1 h1=> ?_) n h0;obtain⟨i,H1,B1,U,Z,w1⟩:=h1;generalize f:blk X (relabel scope X.env) N cl s.heap.objs.size s H k (X.pn++C)=Y at *;have eA:Y.A=X.A:=by rw[<-f];rfl
 have eP:Y.prog=X.prog:=by rw[<-f];rfl
 have eW:Y.w=X.w:=by rw[<-f];rfl
 have eK:Y.K=X.K:=by rw[<-f];rfl
 have eE:Fu X.env (relabel scope X.env) cl s.heap.objs.size=Y.env:=by rw[<-f];rfl
 have eX:Y.xe=λ_ _=>False:=by rw[<-f];rfl
 have eC:Y.calm=true:=by rw[<-f];exact hc
 have hg:PG Y tg g:=by rw[<-f];exact O.tgt _ _ _ _ _ _
 have ht:Yq Y ifs tt:=by rw[<-f];exact O.tst _ _ _ _ _ _
 have hv:PE Y elt te:=by rw[<-f];exact O.val _ _ _ _ _ _
 have l:∀{a:Hp},(∀b∈k,a b=none)->∀b∈k,EO Y [] a b:=λ{a} hn b hb=>by
  obtain⟨_,a1,a2,a3,a4,a5⟩:=hf b hb;refine⟨hn b hb, ?_, ?_, ?_, ?_, ?_⟩
  .rw [<-f];exact AAK (F0 b hb)
  .rw [<-f];exact I.notStk a1 a2
  .rw [<-f];exact .inl hb
  .intro x c e;exact(B1.ok.exf b (by rw[<-f];exact hb)).2 x c e
  .intro p hp;have:p∈X.pn++C:=by rw[<-f] at hp;simpa[blk] using hp
   exact a5 p this
 rw[eE,<-eA,<-eP,<-eW];show wpAny _ _ ((compTurn (.ListComp elt [⟨tg,iter,ifs,0⟩] scope pos) 0 (.ref it) (.ref D) Y.env).onRaise (λx=>do noteFrame x Y.env;theTreesLotGoes x)) _ _ s1;refine wpAny_noted ?_;rw[compTurn_list];have ff:∀{α:Type} {t:Sem α} {Q:α->zw->Prop} {E:zx->zw->Prop} {s:zw},wpAny (model Y.prog Y.w) Y.A t Q Y.xe s->wpAny (model Y.prog Y.w) Y.A t Q E s:=λh=>AA6 h (λ_ _ q=>q) λ_ _ z=>by rw[eX] at z;exact z.elim
 refine AAA (ABF (AAA ?_));rcases hW i n H1 w1 with⟨stop,qn⟩|⟨go,step⟩
 .have zd:=λE=>T.done Y eP eW eK eC i [] s1 _ H1 E B1 (l Z) U stop;rw[<-eP,<-eW] at zd;refine BC (zd _) λr s4 ⟨hr,I4⟩=> ?_;subst hr;exact AAC (hR _ _ _ I4 qn)
 .have zi:=λE=>T.item Y eP eW eK eC i [] s1 _ H1 E B1 (l Z) U go;rw[<-eP,<-eW] at zi;refine BC (zi _) λr s4 ⟨u,hr,h4⟩=> ?_;subst hr;refine AAA (BC h4 λ_ s5 ⟨x,H5,I5,r5,y5,F,fr5⟩=> ?_);have I5':=I5.pinned (l fr5) (T.obj _ _ F);refine AAA (BC (ff (hg _ s5 _ H5 x u _ I5' r5 (O.keep _ _ _ _ (step x H5 y5)))) λ_ s6 ⟨B,H6,I6,q6,l6,k6⟩=> ?_);refine AAA (BC (ff (ht _ s6 B H6 _ I6 q6)) λok s7 ⟨H7,I7,q7⟩=> ?_);have back:∀{G:Hp} {L:zw} {M:Nat},Inv Y ([] ++ HL k s5.heap) B G L->M<n->W (i+1) M G->
   ∃m,m<n/\∃i a,Inv Y [] (Bk own ix P) a L/\tn i L.heap/\(∀b∈k,a b=none)/\W i m a:=λ{G L M} I8 hm w8=>by
   refine⟨M,hm,i+1,G,I8.unpinned.weak l6.symm (λj v hj=> ?_),T.keep _ _ _ F λb hb o e=>(I8.pin (b,o) (AAb _ (AAb _ (Cr hb e)))).1,λb hb=> ?_,w8⟩
   .rw [k6 j (Fv hj).1];exact hj
   .obtain ⟨o,e,d⟩:=T.obj _ _ F b hb;exact(I8.pin (b,o) (AAb _ (AAb _ (Cr hb e)))).2.1
  cases ok with
  | false=> obtain⟨M,hm,w8⟩:=q7;exact AAC ⟨rfl,back I7 hm w8⟩
  | true=> refine AAA (AAA (BC (ff (hv _ s7 B H7 _ I7 q7)) λyv L ⟨y,G,I8,r8,ys,hD,hz,M,hm,w8⟩=> ?_));refine AAA (BC (ff (MN _ L B G (.ref D) [y] (.ref D) [yv] (λ_ H9=>H9=upd G D (.lst (ys ++ [y]))) I8 rfl (.cons r8 .nil) ⟨D,ys,y,rfl,rfl,hD,hz,rfl⟩)) λ_ s9 ⟨_,H9,I9,_,e9⟩=> ?_);subst e9;exact AAC (AAC ⟨rfl,back I9 hm w8⟩)
def Oi {f:zy (zu×Obj)}{v:St}{H:Hp}{s:zw}{use:zt (zx->Sem Unit)}{Q:zx->zw->Prop}{it:zu}{k:zy zu}{cl:zy (Str×zu)}{tn:Nat->zl->Prop}{J:It}{Qd:zu->Hp->Prop}(hc:X.calm=true)(O:EM X tg elt ifs scope own ix N g tt te)(T:IV X.prog X.w X.K tg J k it tn)(I:Inv X f v H s)(R:∀b∈k,EO X f H b)(st:tn 0 s.heap)(h1:∀y c,cl.lookup y=some c->X.env.cells.lookup y=some c)(h2:∀y,(y,NameKind.free)∈scope.names->∃c,cl.lookup y=some c)(S:∀D,H D=none->∃W:Nat->Nat->Hp->Prop,(∃m,W 0 m (upd H D (.lst [])))/\QI J D (Bk own ix v) g tt te (Qd D) W)(U:∀D C j l,(∃m,l.heap.Ns C m)->Inv X f v j l->(∀h E,Inv X f h j E->∀h',Heap.SameBut C E.heap h'->Inv X f h j {E with heap:=h'})->C≠X.env.locals->(∀x c,X.env.cells.lookup x=some c->C≠c)->Qd D j-> compPost (model X.prog X.w) X.A X.xe use Q (.ref D) C (.ok .next) l):wpAny (model X.prog X.w) X.A (newList []) (λn p=>wpAny (model X.prog X.w) X.A (newFunctionEnv scope X.env.globals cl [] X.env.qual none .none (some X.env)) (λd r=> codeAny (model X.prog X.w) X.A (.compStart (.ListComp elt [⟨tg,iter,ifs,0⟩] scope pos) 0 (.ref it) n {d with scope:=relabel scope X.env}) (compPost (model X.prog X.w) X.A X.xe use Q n d.locals) r) X.xe p) X.xe s:=by
 refine AAv ?_ (by simp[sizeOk]);have i:Inv X f v (upd H s.heap.objs.size (.lst [])) {s with heap:=s.heap.push {cls:= .type "list",data:= .seq ([] :zy zx).toArray}}:=I.lnew (t':=s.toks) .nil (AAw _);have Y:=I.fresh;obtain⟨W,⟨m0,Z⟩,hW⟩:=S _ Y;have Z4:∀b∈k,b<s.heap.objs.size:=λb hb=>by obtain⟨o,e,_⟩:=T.obj _ _ st b hb;exact AAF e
 have F:∀b∈k,EO X f (upd H s.heap.objs.size (.lst [])) b:=λb hb=>by obtain⟨a0,ar⟩:=R b hb;exact⟨by rw[AZ (AAK (Z4 b hb))];exact a0,ar⟩
 generalize iI:({s with heap:=s.heap.push {cls:= .type "list",data:= .seq ([] :zy zx).toArray}}:zw)=s3 at i;have t:tn 0 s3.heap:=T.keep _ _ _ st λb hb o e=>by rw[<-iI];exact AAG _ e
 have G:∀b∈k,b<s3.heap.objs.size:=λb hb=>by obtain⟨o,e,_⟩:=T.obj _ _ t b hb;exact AAF e
 refine wpAny_newFunctionEnv O.nocell (by intro y hy;simp at hy) (λa cS iJ=> ?_) O.kind;have P:∀b o,s3.heap.get? b=some o->a.get? b=some o:=λb o e=>iJ.extBut b o (AAK (AAF e)) (AAG _ e);have Y2:∀y,((relabel scope X.env).names.lookup y=some .cell\/(relabel scope X.env).names.lookup y=some .free)->∃c,cl.lookup y=some c:=λy hy=>by
  rcases hy with z|z
  .exact h2 y (Ds O.nocell (HE z) (.inl rfl))
  .exact h2 y (Ds O.nocell (HE z) (.inr rfl))
 have B:=VD (N:=N) (t':=s3.toks+([] :zy (Str×zx)).length) i F G (sc:=relabel scope X.env) O.kind h1 Y2 O.ins cS P;have u:tn 0 a:=T.keep _ _ _ t λb hb o e=>P b o e;have loop:∀L:zw,L={s3 with heap:=a,toks:=s3.toks+([] :zy (Str×zx)).length}->
  codeAny (model X.prog X.w) X.A (.compLoop (.ListComp elt [⟨tg,iter,ifs,0⟩] scope pos) 0 (.ref it) (.ref s.heap.objs.size) (Fu X.env (relabel scope X.env) cl s3.heap.objs.size)) (compPost (model X.prog X.w) X.A X.xe use Q (.ref s.heap.objs.size) s3.heap.objs.size) L:=by rintro L rfl;refine Ta (cl:=cl) (Qh:=Qd s.heap.objs.size) hc O T i F G hW (λσ' j l M q'=> ?_) m0 _ ⟨0,_,B,u,λb hb=>(F b hb).1,Z⟩;refine U _ _ j l (let ⟨m,hm,_⟩:=M.loc;⟨m,hm⟩) (Rp (own:=own) (ix:=ix) i F G M) (λh E I2 h' hs=>Oc i rfl I2 M.free hs) (AAj i.lt) (λx c e=>AAj (i.szLt e)) q'
 exact codeAny_compStart_list (loop _ rfl) (T.self _ 0 _ _ _ u (loop _ rfl))
def Xz (hc:X.calm=true)(hi:PI X tg iter wi)(O:EM X tg elt ifs scope own ix N g tt te)(hs:∀x,foldedSetIterable iter X.env x=pure x:=by intro _;rfl):PE X (.ListComp elt [⟨tg,iter,ifs,0⟩] scope pos) (Ws wi own ix g tt te):=by intro d s c H Q I h;obtain⟨cl,f,h1,h2⟩:=Fw (env:=X.env) (scope:=scope) λy hy e=>I.ok.has y.1 (.inl (O.frees y hy e));rw[eval_ListComp];refine AC4 (use:=none) rfl hs f O.kind O.names (BC (hi d s c H _ I h) λv u hv=>BC hv λi w j=> ?_);obtain⟨it,z,tn,J,A,rfl,k,T,a,l,q⟩:=j;exact Oi (Qd:=λD b=>Q (.ref D) b) hc O T k l a h1 h2 q λD C b n o p gone B E r=>by obtain⟨m,t⟩:=o;exact⟨m,t,λh' hs=>⟨.ref D,b,gone c n p h' hs,rfl,r⟩⟩
def Se {i:Nat}{x:Str}{pos' b:Pos}(hc:X.calm=true)(hN:X.N.Nodup)(n:X.N[i]? =some x)(hx:Loc X.env.scope x)(hi:PI X tg iter wi)(O:EM X tg elt ifs scope own ix N g tt te)(o:swapsWith (.ListComp elt [⟨tg,iter,ifs,0⟩] scope pos) (some (.Name x pos')) b.line X.env=pure true:=by rfl)(hs:∀x,foldedSetIterable iter X.env x=pure x:=by intro _;rfl)(p:X.fn x=true\/X.env.scope.names.lookup x=some .local:=by first | exact .inl rfl|exact .inr rfl|assumption):PS X (.Assign [.Name x pos'] (.ListComp elt [⟨tg,iter,ifs,0⟩] scope pos) b) (RQ (Ws wi own ix g tt te) (CA i)):=by
 intro k s l H D I h;obtain⟨cl,r,h1,h2⟩:=Fw (env:=X.env) (scope:=scope) λy hy e=>I.ok.has y.1 (.inl (O.frees y hy e));rw[exec_Assign_Name_used _ _ _ _ o];refine AAA (ABF (AAA ?_));show wpAny _ _ (do let _ <-comprehension (.ListComp elt [⟨tg,iter,ifs,0⟩] scope pos) scope X.env _ (newList []) false (eval iter X.env) (some (assign (.Name x pos') X.env))) _ _ s;refine AAA (BC (AC4 (use:=some (assign (.Name x pos') X.env)) (Q:=λ_ c=>SP X k D .next c) rfl hs r O.kind O.names (BC (hi k s l H _ I h) λv W hv=>BC hv λt Y u=> ?_)) λ_ c w=>AAC (AAC w));obtain⟨it,Z,tn,J,H2,rfl,A,T,f,B,q⟩:=u;refine Oi (Qd:=λd j=>CA i (.ref d) l j D.nx) hc O T A B f h1 h2 q λd C j c E F gone G K L=> ?_;obtain⟨m,M⟩:=E;show wpAny _ _ (assign (.Name x pos') X.env (.ref d)) _ _ c;refine ACs (Hc (v:= .ref d) F hN n hx rfl (λP R ⟨a,S,ha⟩=> ?_) p);have U:C≠a:=by
  rcases ha with z|z
  .rw [z];exact G
  .exact K x a z
 exact⟨m,M.sameBut S U,λh' hs=>⟨_,j,gone _ P R h' hs,L⟩⟩
end
def Gj {n k:Nat}(h:n<2^k)(hk:0<k):n.log2<k:=by
 by_cases e:n=0
 .subst e;simpa using hk
 .exact (Nat.log2_lt e).mpr h
def FT {i:Int}{k:Nat}(h:i.natAbs<2^k):Builtin.Int.intBits i<=k:=by
 unfold Builtin.Int.intBits;by_cases e:i=0
 .subst e;simp
 .have a:(i==0)=false:=by simpa using e
  rw[a];simp only[AAi,AAZ];have b:i.natAbs≠0:=by omega
  have:=(Nat.log2_lt b).mpr h;omega
section
variable {X:Cx}
def ga (i j:Int):Prop:=i.natAbs<2^8000/\j.natAbs<2^8000
def cr (i j:Int):Prop:=ZM i j\/ga i j
def FU:DF X (binaryOp .Mult) (rI cr λi j=> .int (i*j)):=aT λ_ _ _ _ _ _ _ hc q=>mul_int q (by
 rcases hc with z|z
 .exact z.ok
 .exact .of_le (FT z.1) (FT z.2) (by decide))
def cm (_ j:Int):Prop:=0<j/\j.natAbs<2^8000
def Vz:DF X (binaryOp .FloorDiv) (rI cm λi j=> .int (i/j)):=aT λi j _ _ _ _ _ hc q=>by have h1:(0:Int)<j:=hc.1;refine floordiv_int (by omega) ?_ (.inl (ADX (AB3 (Gj hc.2 (by decide)) (by decide))));rw[ABI _ (Int.le_of_lt h1)];exact q
inductive Kd where
 | int|bl|non|str|lst|tup
 deriving DecidableEq
def Tx:Kd->String->zq
 | .int,T=>T == "int"
 | .bl,T=>T == "bool" || T == "int"
 | .non,_=>false
 | .str,_=>false
 | .lst,T=>T == "list"
 | .tup,T=>T == "tuple"
def Inv.walked {g:zy (zu×Obj)}{h:St}{H:Hp}{s c:zw}{o:Obj}(I:Inv X g h H s)(m:Moved [s.heap.objs.size] (λa b=>b=a) {s with heap:=s.heap.push o} c):Inv X g h H c:=by
 obtain⟨h',g',d',t',i⟩:=c;obtain⟨hk,d,hd,f,_⟩:=m;have j:∀b u,s.heap.get? b=some u->h'.get? b=some u:=λb u e=>hk b u (by
  intro z;have k:b=s.heap.objs.size:=by simpa using z
  exact absurd (AAF e) (by rw[k];exact ABE _)) (AAG _ e)
 have d:g'=s.gens:=d;have hd:d'=s.drawn:=hd;have f:i=s.os:=f;subst d hd f;exact I.kept (t':=t') j
def iO (xs:zy V)(k:Nat)(y:V):zy V:=xs.take k++y::xs.drop k
def An.ins {xs:zy V}{a:zy zx}{y:V}{u:zx}(r:An xs a)(b:RelV y u)(k:Nat):An (iO xs k y) (a.take k++u::a.drop k):=An.append (r.take k) (.cons b (r.drop k))
end
def QA:zq->zl->zu->zu->Nat->Prop
 | true,h,q,l,k=>h.IsListIter q l k
 | false,h,q,l,k=>h.IsTupleIter q l k
def OY:zq->zl->zu->Array zx->Prop
 | true,h,l,xs=>h.IsList l xs
 | false,h,l,xs=>h.IsTuple l xs
def QA.mv {b:zq}{h h':zl}{q l:zu}{k:Nat}(x:QA b h q l k)(e:∀o,h.get? q=some o->h'.get? q=some o):QA b h' q l k:=by
 cases b with
 | true=>obtain⟨o,a,r⟩:=x;exact⟨o,e o a,r⟩
 | false=>obtain⟨o,a,r⟩:=x;exact⟨o,e o a,r⟩
def QA.obj {b:zq}{h:zl}{q l:zu}{k:Nat}(x:QA b h q l k):∃o,h.get? q=some o/\∀v,o.data≠ .cell v:=by
 cases b with
 | true=> obtain⟨o,a,_,d⟩:=x;exact⟨o,a,λv z=>by rw[d] at z;cases z⟩
 | false=> obtain⟨o,a,_,d⟩:=x;exact⟨o,a,λv z=>by rw[d] at z;cases z⟩
def OY.mv {b:zq}{h h':zl}{l:zu}{xs:Array zx}(x:OY b h l xs)(e:∀o,h.get? l=some o->h'.get? l=some o):OY b h' l xs:=by
 cases b with
 | true=>obtain⟨o,a,r⟩:=x;exact⟨o,e o a,r⟩
 | false=>obtain⟨o,a,r⟩:=x;exact⟨o,e o a,r⟩
section
variable {prog:zp}{w:zm}{A:zk}{E:zx->zw->Prop}{s:zw}
def Jl {b:zq}{q l:zu}{k:Nat}{xs:Array zx}{x:zx}{Q:zx->zw->Prop}(e:QA b s.heap q l k)(hl:OY b s.heap l xs)(hx:xs[k]? =some x)(hQ:∀h',QA b h' q l (k+1)->Heap.SameBut q s.heap h'->Q x {s with heap:=h'}):wpAny (model prog w) A (Builtin.SmallTypes.nextOf (.ref q)) Q E s:=by
 cases b with
 | true=>exact wpAny_nextOf_list_item e hl hx hQ
 | false=> have d:s.heap.IsTupleIter q l k:=e;obtain⟨g,c,f,a⟩:=id d;obtain⟨ol,gl,_,h,dl⟩:=hl;unfold Builtin.SmallTypes.nextOf;refine AAA (ABf (name:=Str.ofString "__next__") d.typeIs ACP (AAt ACP d.typeIs ADY ?_ (ADZ _)));show wpAny _ _ (field (.ref q) 0 >>= _) _ _ _;refine AAA (AAe c a (x:= .ref l) rfl ?_);show wpAny _ _ (if (Value.ref l==Value.none)=true then _ else _) _ _ _;rw[AAD (by intro z;cases z)];show wpAny _ _ (field (.ref q) 1 >>= _) _ _ _;refine AAA (AAe c a (x:= .int k 0) rfl ?_);show wpAny _ _ (seqItems? (.ref l) >>= _) _ _ _;refine AAA (AAu gl dl ?_);simp only[ABi,hx];refine AAA (wpAny_setField c a (by simp) (AAC ⟨x,rfl,AAC (hQ _ ?_ (Heap.SameBut.update ..))⟩));refine⟨_,ACL _ c (Obj.isFreed_of_fields (Obj.data_mapFields a _)),(Obj.cls_mapFields ..).trans f, ?_⟩;rw[Obj.data_mapFields a];simp[rawInt]
def MA {b:zq}{q l:zu}{k:Nat}{xs:Array zx}{Q:zx->zw->Prop}(c:A.handled=none)(h:QA b s.heap q l k)(hl:OY b s.heap l xs)(hx:xs[k]? =none)(i:∀h' e,Heap.ExtBut q s.heap h'->(∃o,h'.get? e=some o/\o.cls= .type "StopIteration")->E (.ref e) {s with heap:=h'}):wpAny (model prog w) A (Builtin.SmallTypes.nextOf (.ref q)) Q E s:=by
 cases b with
 | true=>exact wpAny_nextOf_list_end c h hl hx i
 | false=>
   have d:s.heap.IsTupleIter q l k:=h;obtain⟨j,f,n,g⟩:=id d;obtain⟨ol,gl,_,p,dl⟩:=hl;unfold Builtin.SmallTypes.nextOf;refine AAA (ABf (name:=Str.ofString "__next__") d.typeIs ACP (AAt ACP d.typeIs ADY ?_ (ADZ _)));show wpAny _ _ (field (.ref q) 0 >>= _) _ _ _;refine AAA (AAe f g (x:= .ref l) rfl ?_);show wpAny _ _ (if (Value.ref l==Value.none)=true then _ else _) _ _ _;rw[AAD (by intro z;cases z)];show wpAny _ _ (field (.ref q) 1 >>= _) _ _ _;refine AAA (AAe f g (x:= .int k 0) rfl ?_);show wpAny _ _ (seqItems? (.ref l) >>= _) _ _ _;refine AAA (AAu gl dl ?_);simp only[ABi,hx];refine AAA (ABO (AAA (wpAny_setField f g (by simp) ?_)));refine AAA (m:=newExc (.type "StopIteration") []) ?_;simp only[newExc,newTuple];refine AAA (AAv ?_ (by size_fits));refine AAA (m:=firstArgMember _ _) (ABj (a:=Value.none) (by first | rfl|(simp only[firstArgMember];rfl)) (AAv ?_ (by size_fits)));simp only[raiseNew];refine AAA (wpAny_handled ?_);first | rw[show A.in1.handled=none from c] | rw[c]
   exact AAA (AAC (wpAny_throw (i _ _ (((Heap.SameBut.update ..).extBut.push _).push _) ⟨_,AAN _ rfl,rfl⟩)))
structure Zb (b c:Bool) (z TI TO i j l m:Addr) (k:Nat) (f:Value) (h:Heap):Prop where
 zip:IsZip h z TI TO f
 its:IsPair h TI (.ref i) (.ref j)
 own:∃x y,IsPair h TO x y
 one:QA b h i l k
 two:QA c h j m k
def Zb.mv {b c:zq}{z TI TO i j l m:zu}{k:Nat}{f:zx}{h h':zl}(Z:Zb b c z TI TO i j l m k f h)(e:∀p∈ [z,TI,TO,i,j],∀o,h.get? p=some o->h'.get? p=some o):Zb b c z TI TO i j l m k f h':=by obtain⟨a,d,⟨x,y,g⟩,n,r⟩:=Z;exact⟨e z (by simp) _ a,e TI (by simp) _ d,⟨x,y,e TO (by simp) _ g⟩,n.mv (e i (by simp)),r.mv (e j (by simp))⟩
variable {b c:zq}{z TI TO i j l m:zu}{k:Nat}{xs ys:Array zx}
def fV {x y:zx}{Q:zx->zw->Prop}(D:ZipApart z TI TO i j l m)(Z:Zb b c z TI TO i j l m k .none s.heap)(hl:OY b s.heap l xs)(hm:OY c s.heap m ys)(hx:xs[k]? =some x)(hy:ys[k]? =some y)(hQ:∀h',IsZip h' z TI TO (rawInt s.heap.objs.size)->IsPair h' TI (.ref i) (.ref j)->IsPair h' TO x y->QA b h' i l (k+1)->QA c h' j m (k+1)->IsPair h' s.heap.objs.size x y-> (∀p o,p≠z->p≠TO->p≠i->p≠j->s.heap.get? p=some o->h'.get? p=some o)->Q (.ref s.heap.objs.size) {s with heap:=h'}):wpAny (model prog w) A (Builtin.«zip.__next__» ⟨[.ref z], []⟩) (λL s'=>∃v,L= .done (.ret v)/\Q v s') E s:=by
 obtain⟨n,T,⟨x0,M,zo⟩,z1,z2⟩:=Z;show wpAny _ _ (field (.ref z) 2 >>= _) _ _ _;refine AAA (AAe n rfl (x:= .bool false) rfl ?_);show wpAny _ _ (field (.ref z) 3 >>= _) _ _ _;refine AAA (AAe n rfl (x:= .ref TI) rfl (AAA (AAu T rfl ?_)));refine AAA (m:=Builtin.SmallTypes.ownedTupleIsFree (.ref z)) ?_;unfold Builtin.SmallTypes.ownedTupleIsFree;refine AAA (AAe n rfl (x:= .none) rfl (AAC ?_));simp only[AAo];refine AAA (ABO (AAA (AAe n rfl (x:= .ref TO) rfl (AAA (ABk n (by simp) λg1 N g=> ?_)))));have N:IsZip g1 z TI TO .ellipsis:=N;refine AAA ?_;simp only[List.zipIdx_cons,List.zipIdx_nil,ABh,ACQ];refine AAA (AAA (ACR ?_));refine AAA (m:=Builtin.SmallTypes.nextOf (.ref i)) (Jl (z1.mv λo=>g.extBut _ o D.i1z) (hl.mv λo=>g.extBut _ o D.l1z) hx λg2 e2 b2=>AAC ?_);have U:IsPair g2 TO x0 M:=b2.extBut _ _ D.TOi1 (g.extBut _ _ D.TOz zo);refine AAA (AAu U rfl (AAA (AC5 U λg3 O h=>AAA (wpAny_letGo (AAC ?_)))));have O:IsPair g3 TO x M:=O;refine AAA (AAA (ACR ?_));refine AAA (m:=Builtin.SmallTypes.nextOf (.ref j)) (Jl (((z2.mv λo=>g.extBut _ o D.i2z).mv λo=>b2.extBut _ o D.i12.symm).mv λo=>h.extBut _ o D.TOi2.symm)
  (((hm.mv λo=>g.extBut _ o D.l2z).mv λo=>b2.extBut _ o D.l2i1).mv λo=>h.extBut _ o D.l2TO) hy λg4 e4 r=>AAC ?_)
 have W:IsPair g4 TO x M:=r.extBut _ _ D.TOi2 O;refine AAA (AAu W rfl (AAA (AC5 W λa G t=>AAA (wpAny_letGo (AAC (AAC ?_))))));have G:IsPair a TO x y:=G;refine AAA (AAu G rfl (AAA (wpAny_newTuple ?_)));have sz:a.objs.size=s.heap.objs.size:=by rw[t.1,r.1,h.1,b2.1,g.1]
 have X:IsZip a z TI TO .ellipsis:=t.extBut _ _ D.TOz.symm (r.extBut _ _ D.i2z.symm (h.extBut _ _ D.TOz.symm (b2.extBut _ _ D.i1z.symm N)));have d:∀p o,p≠z->p≠TO->p≠i->p≠j->s.heap.get? p=some o->a.get? p=some o:=λp o H I P R e=>
  t.extBut _ _ I (r.extBut _ _ R (h.extBut _ _ I (b2.extBut _ _ P (g.extBut _ _ H e))))
 have u:QA b a i l (k+1):=((e2.mv λo=>h.extBut _ o D.TOi1.symm).mv λo=>r.extBut _ o D.i12).mv λo=>t.extBut _ o D.TOi1.symm;have B:QA c a j m (k+1):=e4.mv λo=>t.extBut _ o D.TOi2.symm;have C:z<a.objs.size:=AAF X;refine AAA (m:=Builtin.SmallTypes.ownedTupleHandOut (.ref z) (.ref a.objs.size)) ?_;unfold Builtin.SmallTypes.ownedTupleHandOut;have k6:IsZip (a.push {cls:= .type "tuple",data:= .seq #[x,y] }) z TI TO .ellipsis:=AAG _ X;refine AAA (ABk k6 (by simp) λg7 S Y=> ?_);have S:IsZip g7 z TI TO (rawInt a.objs.size):=S;refine ABk S (by simp) λJ K b8=> ?_;have K:IsZip J z TI TO (rawInt a.objs.size):=K;have F:∀p o,p≠z->a.get? p=some o->J.get? p=some o:=λp o q e=>b8.extBut _ _ q (Y.extBut _ _ q (AAG _ e));have f:IsPair J a.objs.size x y:=b8.extBut _ _ (AAj C) (Y.extBut _ _ (AAj C) (AAN _ rfl));rw[sz] at K f;refine AAC ⟨_,rfl, ?_⟩;show Q (.ref a.objs.size) _;rw[sz];exact hQ J K (F _ _ D.TIz (d _ _ D.TIz D.TITO D.TIi1 D.TIi2 T)) (F _ _ D.TOz G) (u.mv λo=>F _ o D.i1z) (B.mv λo=>F _ o D.i2z) f λp o H I P R e=>F p o H (d p o H I P R e)
def ji {Q:Fin->zw->Prop}(B:A.handled=none)(D:ZipApart z TI TO i j l m)(Z:Zb b c z TI TO i j l m k .none s.heap)(hl:OY b s.heap l xs)(M:OY c s.heap m ys)(N:xs[k]? =none\/ys[k]? =none)(C:∀h' e,(∀p o,p≠z->p≠TO->p≠i->p≠j->s.heap.get? p=some o->h'.get? p=some o)->(∃o,h'.get? e=some o/\o.cls= .type "StopIteration")->E (.ref e) {s with heap:=h'}):wpAny (model prog w) A (Builtin.«zip.__next__» ⟨[.ref z], []⟩) Q E s:=by
 obtain⟨g,O,⟨P,R,S⟩,F,T⟩:=Z;show wpAny _ _ (field (.ref z) 2 >>= _) _ _ _;refine AAA (AAe g rfl (x:= .bool false) rfl ?_);show wpAny _ _ (field (.ref z) 3 >>= _) _ _ _;refine AAA (AAe g rfl (x:= .ref TI) rfl (AAA (AAu O rfl ?_)));refine AAA (m:=Builtin.SmallTypes.ownedTupleIsFree (.ref z)) ?_;unfold Builtin.SmallTypes.ownedTupleIsFree;refine AAA (AAe g rfl (x:= .none) rfl (AAC ?_));simp only[AAo];refine AAA (ABO (AAA (AAe g rfl (x:= .ref TO) rfl (AAA (ABk g (by simp) λU r a=> ?_)))));have r:IsZip U z TI TO .ellipsis:=r;refine AAA ?_;simp only[List.zipIdx_cons,List.zipIdx_nil,ABh,ACQ];refine AAA (AAA (ACR ?_));cases hx:xs[k]? with
 | none=>
   refine AAA (m:=Builtin.SmallTypes.nextOf (.ref i)) (MA B (F.mv λo=>a.extBut _ o D.i1z) (hl.mv λo=>a.extBut _ o D.l1z) hx λt e b2 he=> ?_);obtain⟨u,d,h⟩:=he;have G:IsZip t z TI TO .ellipsis:=b2 _ _ D.i1z.symm r;have v:e≠z:=λq=>by subst q;rw[G] at d;cases d;simp at h
   refine ABk G (by simp) λH _ f=>C H e (λp o n _ y _ q=>f.extBut _ _ n (b2 _ _ y (a.extBut _ _ n q))) ⟨u,f.extBut _ _ v d,h⟩
 | some x=>
   have hy:ys[k]? =none:=by
    rcases N with q|q
    .rw [hx] at q;cases q
    .exact q
   refine AAA (m:=Builtin.SmallTypes.nextOf (.ref i)) (Jl (F.mv λo=>a.extBut _ o D.i1z) (hl.mv λo=>a.extBut _ o D.l1z) hx λt e2 b2=>AAC ?_);have I:IsPair t TO P R:=b2.extBut _ _ D.TOi1 (a.extBut _ _ D.TOz S);refine AAA (AAu I rfl (AAA (AC5 I λH o3 f=>AAA (wpAny_letGo (AAC ?_)))));refine AAA (AAA (ACR ?_));refine AAA (m:=Builtin.SmallTypes.nextOf (.ref j)) (MA B (((T.mv λo=>a.extBut _ o D.i2z).mv λo=>b2.extBut _ o D.i12.symm).mv λo=>f.extBut _ o D.TOi2.symm)
    (((M.mv λo=>a.extBut _ o D.l2z).mv λo=>b2.extBut _ o D.l2i1).mv λo=>f.extBut _ o D.l2TO) hy λW e J he=> ?_)
   obtain⟨u,d,h⟩:=he;have K:IsZip W z TI TO .ellipsis:=J _ _ D.i2z.symm (f.extBut _ _ D.TOz.symm (b2.extBut _ _ D.i1z.symm r));have v:e≠z:=λq=>by subst q;rw[K] at d;cases d;simp at h
   refine ABk K (by simp) λX _ L=>C X e (λp o n Y y q4 q=>L.extBut _ _ n (J _ _ q4 (f.extBut _ _ Y (b2.extBut _ _ y (a.extBut _ _ n q))))) ⟨u,L.extBut _ _ v d,h⟩
end
def XB (b:zq)(l:zu):Obj:={cls:= .type (match b with | true=>"list_iterator" | false=>"tuple_iterator"),data:= .fields #[.ref l, .int 0 0] }
abbrev zA (b:zq)(h:zl)(l:zu):zl:=h.push (XB b l)
abbrev zB (b c:zq)(h:zl)(l m:zu):zl:=(zA b h l).push (XB c m)
abbrev zC (b c:zq)(h:zl)(l m:zu):zl:=(zB b c h l m).push {cls:= .type "tuple",data:= .seq #[.ref h.objs.size, .ref (zA b h l).objs.size] }
abbrev zD (b c:zq)(h:zl)(l m:zu):zl:=(zC b c h l m).push {cls:= .type "tuple",data:= .seq #[.none, .none] }
abbrev zF (b c:zq)(h:zl)(l m:zu):zl:=(zD b c h l m).push {cls:= .type "zip",data:= .fields #[.none, .bool false, .bool false, .ref (zB b c h l m).objs.size, .ref (zC b c h l m).objs.size] }
def Vk {prog:zp}{w:zm}{A:zk}{E:zx->zw->Prop}{h:zl}{g:Array GenState}{d:Drawn}{a:Nat}{os:OsState}{b:zq}{l:zu}{xs:Array zx}{Q:zx->zw->Prop}(hl:OY b h l xs)(q:Q (.ref h.objs.size) ⟨h.push (XB b l),g,d,a,os⟩):wpAny (model prog w) A (pyIter (.ref l)) Q E ⟨h,g,d,a,os⟩:=by
 cases b with
 | true=>exact AC6 (s:=⟨h,g,d,a,os⟩) hl q
 | false=>exact wpAny_pyIter_tuple (s:=⟨h,g,d,a,os⟩) hl q
def Uf (b c:zq)(l m:zu)(xs a:Array zx):Meets (Builtin.«zip.__new__» ⟨[.type "zip", .ref l, .ref m], []⟩) (λ_ R s=>OY b s.heap l xs/\OY c s.heap m a/\R (.ok (.ret (.ref (zD b c s.heap l m).objs.size))) {s with heap:=zF b c s.heap l m}):=
 .of_wp λprog w A R s h=>by
   obtain⟨hp,g,d,k,os⟩:=s;obtain⟨hl,f,h⟩:=h;have n:=sub_zip;have i:OY b hp l xs:=hl;have j:OY c (hp.push (XB b l)) m a:=f.mv λo e=>AAG _ e
   wp_walk using Vk i,Vk j
   exact⟨_,rfl,h⟩
section
variable {prog:zp}{w:zm}{A:zk}{E:zx->zw->Prop}{s:zw}{b c:zq}{l m:zu}{xs ys:Array zx}
def Y5 {h:zl}{q:zu}(e:h.get? q=some (XB b l)):QA b h q l 0:=by
 cases b with
 | true=>exact⟨_,e,rfl,rfl⟩
 | false=>exact⟨_,e,rfl,rfl⟩
def cF (hl:OY b s.heap l xs)(r:OY c s.heap m ys){Q:zx->zw->Prop}(h:∀h',Zb b c (s.heap.objs.size+4) (s.heap.objs.size+2) (s.heap.objs.size+3) s.heap.objs.size (s.heap.objs.size+1) l m 0 .none h'->(∀p o,s.heap.get? p=some o->h'.get? p=some o)->Q (.ref (s.heap.objs.size+4)) {s with heap:=h'}):wpAny (model prog w) A (call (.type "zip") [.ref l, .ref m]) Q E s:=by
 refine callType_new F.called_zip (by decide) (F.typeCall_zip_2 _ _) (F.newCall_zip_2 _ _) (λobj=>F.args_object_init_3 obj _ _) F.entry_zip_new (Uf b c l m xs ys) ⟨hl,r, ?_⟩;have a:(zA b s.heap l).objs.size=s.heap.objs.size+1:=AA7 ..;have d:(zB b c s.heap l m).objs.size=s.heap.objs.size+2:=by rw[AA7,a]
 have f:(zC b c s.heap l m).objs.size=s.heap.objs.size+3:=by rw[AA7,d]
 have i:(zD b c s.heap l m).objs.size=s.heap.objs.size+4:=by rw[AA7,f]
 have g:(zF b c s.heap l m).get? (zD b c s.heap l m).objs.size=some _:=AAN _ rfl;have j:(zF b c s.heap l m).get? (zC b c s.heap l m).objs.size=some _:=AAG _ (AAN _ rfl);have k:(zF b c s.heap l m).get? (zB b c s.heap l m).objs.size=some _:=AAG _ (AAG _ (AAN _ rfl));have n:(zF b c s.heap l m).get? (zA b s.heap l).objs.size=some (XB c m):=AAG _ (AAG _ (AAG _ (AAN _ rfl)));have t:(zF b c s.heap l m).get? s.heap.objs.size=some (XB b l):=AAG _ (AAG _ (AAG _ (AAG _ (AAN _ rfl))));rw[d,f,i] at g;rw[a,d] at k;rw[f] at j;rw[a] at n;show _/\_;rw[i];exact⟨⟨_,g,rfl⟩,h _ ⟨g,k,⟨_,_,j⟩,Y5 t,Y5 n⟩ λp o e=>AAG _ (AAG _ (AAG _ (AAG _ (AAG _ e))))⟩
end
def Sq (K:AAB):zq->Hp->zu->zy V->Prop
 | true,H,a,xs=>EQ K H a xs
 | false,H,a,xs=>K5 K H a xs
section
variable {X:Cx}{zj:zy (zu×Obj)}{σ:St}{H:Hp}{s:zw}{a:zu}{ys xs:zy V}{b:zq}{h':zl}
def Inv.sq (I:Inv X zj σ H s)(h:Sq X.K b H a xs):∃c:zy zx,An xs c/\OY b s.heap a c.toArray/\xs.length<=sizeLine:=by
 cases b with
 | true=> obtain⟨c,r,p,z⟩:=I.list h;exact⟨c,r,p.isList,z⟩
 | false=> obtain⟨c,r,p,z⟩:=I.tuple h;exact⟨c,r,p,z⟩
def Inv.sq_inj (I:Inv X zj σ H s)(h:Sq X.K b H a xs)(h2:Sq X.K b H a ys):xs=ys:=by
 cases b with
 | true=>exact I.list_inj h h2
 | false=>exact I.tuple_inj h h2
def Inv.turnedL {ch:zy zu}{t':Nat}(I:Inv X zj σ H s)(c:∀p∈ch,EO X zj H p)(k:∀p o,p ∉ ch->s.heap.get? p=some o->h'.get? p=some o):Inv X zj σ H {s with heap:=h',toks:=t'}:=by
 have d:∀p u,H p=some u->p ∉ ch:=λp u e z=>by rw[(c p z).1] at e;cases e
 refine I.step (g':=s.gens) (d':=s.drawn) (ch:=ch) (λp hp=>⟨(c p hp).2.2.2.1,(c p hp).2.1,(c p hp).2.2.2.2.1,(c p hp).2.2.2.2.2⟩) (λp o _ _ hc e _=>k p o hc e) (λp o _ _ hc e _=>⟨o.slots,k p o hc e⟩)
  (λ_ _ _ _ n=>n) (λp o hc e=>⟨o,k p o hc e⟩) (λ_ _ e=>e) (λ_ _ _ e=>e) (λp ps e=>⟨#[],by rw[e];simp⟩) (λm f=> ?_) (λp u e=> ?_) I.bare
 .obtain ⟨o,es,ep,g,r⟩:=f;exact⟨o,es,ep,k _ o (λz=>(c _ z).2.1 rfl) g,r⟩
 .refine (I.hok p u e).stay (λq v h i=>k q v ?_ i) (λ_ q=>q) λ_ _ q=>q;rcases h with z|z
  .rw [z];exact d p u e
  .exact d q _ z
def Inv.turnedN {ch:zy zu}{t':Nat}{n:zu}{o:HO}(I:Inv X zj σ H s)(c:∀p∈ch,EO X zj H p)(l:∀p∈ch,p<s.heap.objs.size)(k:∀p o,p ∉ ch->s.heap.get? p=some o->h'.get? p=some o)(g:s.heap.objs.size<=n)(new:Bi X.prog X.w (upd H n o) h' n o):Inv X zj σ (upd H n o) {s with heap:=h',toks:=t'}:=by
 have h:Inv X zj σ H {s with heap:=h',toks:=t'}:=I.turnedL c k;have d:H n=none:=I.hok.fresh g;have hx:∀p u,s.heap.get? p=some u->p≠n:=λp u e=>AAK (AAP (AAF e) g);refine I.step (g':=s.gens) (d':=s.drawn) (ch:=ch) (λp hp=>⟨(c p hp).2.2.2.1,(c p hp).2.1,(c p hp).2.2.2.2.1,(c p hp).2.2.2.2.2⟩) (λp o _ _ hc e _=>k p o hc e) (λp o _ _ hc e _=>⟨o.slots,k p o hc e⟩)
  (λp u _ e z=>by rw[AZ (hx p u e)];exact z) (λp o hc e=>⟨o,k p o hc e⟩) (λp xs e=>by rw[AZ (Ak e d)];exact e) (λp o xs e=>by rw[AZ (Ak e d)];exact e)
  (λp ps e=>⟨#[],by rw[AZ (Ak e d),e];simp⟩) (λm i=> ?_) (λp u e=> ?_) I.bare
 .obtain ⟨o,es,ep,j,r⟩:=i;exact⟨o,es,ep,k _ o (λz=>(c _ z).2.1 rfl) j,r⟩
 .by_cases hp:p=n
  .subst hp;rw[Ad] at e;cases e;exact new
  .rw [AZ hp] at e;exact(h.hok p u e).stay (λ_ _ _ q=>q) (λq f=>by rw[AZ (Ak f d)];exact f) λq xs f=>by rw[AZ (Ak f d)];exact f
end
def gk (K:AAB)(b c:zq)(l m:zu):It:=
 ⟨λi H=>∃xs a x y,Sq K b H l xs/\Sq K c H m a/\xs[i]? =some x/\a[i]? =some y,
  λi H v d=>∃T x y,v= .ref T/\H T=none/\d=upd H T (.tup [x,y])/\(∀xs,Sq K b H l xs->xs[i]? =some x)/\∀a,Sq K c H m a->a[i]? =some y,
  λi H=>∃xs a,Sq K b H l xs/\Sq K c H m a/\(xs.length<=i\/a.length<=i)⟩
def W0 {P:zp}{w:zm}{K:AAB}{es:zy zr}{N:Nat}{pos:Pos}{b c:zq}{z TI TO i j l m:zu}(D:ZipApart z TI TO i j l m):IV P w K (.Tuple es N pos) (gk K b c l m) [z,TI,TO,i,j] z (λk h=>Zb b c z TI TO i j l m k .none h) where
 mem:=by simp
 obj:=λk h Z p hp=>by
  have a:p=z\/p=TI\/p=TO\/p=i\/p=j:=by simpa using hp
  rcases a with e|e|e|e|e
  .subst e;exact⟨_,Z.zip,λv q=>nomatch q⟩
  .subst e;exact⟨_,Z.its,λv q=>nomatch q⟩
  .subst e;obtain⟨x,y,q⟩:=Z.own;exact⟨_,q,λv q=>nomatch q⟩
  .subst e;exact Z.one.obj
  .subst e;exact Z.two.obj
 keep:=λk h h' Z e=>Z.mv e
 item:=by
  intro X r hw t hc k J s L H E I g Z A;subst r hw t;obtain⟨xs,O,x,y,hl,n,hx,hy⟩:=A;obtain⟨M,B,C,_⟩:=I.sq hl;obtain⟨vs,rv,sv,_⟩:=I.sq n;obtain⟨u,hu,Q⟩:=B.get hx;obtain⟨v,hv,R⟩:=rv.get hy;have f:s.TypeIs (.ref z) "zip" :=⟨_,Z.zip,rfl⟩;unfold pyNext;refine AAA (wpAny_attempt (ABf (name:=Str.ofString "__next__") f ACS (AAt ACS f F.entry_zip_next
   (fV D Z C sv (x:=u) (y:=v) (by simpa using hu) (by simpa using hv) λh1 S U W Y a5 a6 a7=>AAC ?_) (F.args_zip_next_1 _))))
  refine⟨_,rfl,wpAny_letOwnedTupleGo_zip (s:={s with heap:=h1}) S λh2 c1 c2=> ?_⟩;have G:∀p∈ [z,TI,TO,i,j],p<s.heap.objs.size:=λp hp=>by
   have a:p=z\/p=TI\/p=TO\/p=i\/p=j:=by simpa using hp
   rcases a with e|e|e|e|e
   .subst e;exact AAF Z.zip
   .subst e;exact AAF Z.its
   .subst e;obtain⟨x,y,q⟩:=Z.own;exact AAF q
   .subst e;obtain⟨o,q,_⟩:=Z.one.obj;exact AAF q
   .subst e;obtain⟨o,q,_⟩:=Z.two.obj;exact AAF q
  have d:∀p o,p≠z->h1.get? p=some o->h2.get? p=some o:=λp o q e=>c2.extBut _ _ q e;have kp:∀p o,p ∉ [z,TI,TO,i,j] ->s.heap.get? p=some o->h2.get? p=some o:=λp o hp e=>by
   have a:p≠z/\p≠TI/\p≠TO/\p≠i/\p≠j:=by simpa using hp
   exact d p o a.1 (a7 p o a.1 a.2.2.1 a.2.2.2.1 a.2.2.2.2 e)
  have ng:s.heap.objs.size≠z:=AAj (G z (by simp));have I2:Inv X J L (upd H s.heap.objs.size (.tup [x,y])) {s with heap:=h2,toks:=s.toks}:=I.turnedN g G kp (AAI _)
   ⟨(by show 2<=sizeLine;decide), [u,v], .cons Q (.cons R .nil),⟨_,d _ _ ng a6,rfl,_,rfl⟩⟩
  have Tt:H s.heap.objs.size=none:=I.fresh;refine⟨.ref s.heap.objs.size,upd H s.heap.objs.size (.tup [x,y]),I2,rfl,⟨_,x,y,rfl,Tt,rfl,λxs' h'=> ?_,λys' h'=> ?_⟩, ?_,λp hp=> ?_⟩
  .rw [I.sq_inj h' hl];exact hx
  .rw [I.sq_inj h' n];exact hy
  .exact ⟨c1,d _ _ D.TIz U,⟨_,_,d _ _ D.TOz W⟩,Y.mv λo=>d _ o D.i1z,a5.mv λo=>d _ o D.i2z⟩
  .rw [AZ (AAK (G p hp))];exact(g p hp).1
 done:=by
  intro X r hw t hc k J s L H E I g Z A;subst r hw t;obtain⟨xs,O,hl,n,he⟩:=A;obtain⟨M,B,C,_⟩:=I.sq hl;obtain⟨vs,rv,sv,_⟩:=I.sq n;have e1:=B.length;have e2:=rv.length;have Zz:M.toArray[k]? =none\/vs.toArray[k]? =none:=by
   rcases he with q|q
   .exact .inl (by simp;omega)
   .exact .inr (by simp;omega)
  have f:s.TypeIs (.ref z) "zip" :=⟨_,Z.zip,rfl⟩;unfold pyNext;refine AAA (wpAny_attempt (ABf (name:=Str.ofString "__next__") f ACS (AAt ACS f F.entry_zip_next
   (ji (I.ok.hd hc) D Z C sv Zz λh1 e hk he=> ?_) (F.args_zip_next_1 _))))
  obtain⟨o,ho,h9⟩:=he;refine AAA (ABv (T:="StopIteration") (b:=true) ⟨o,ho,h9⟩ isSubtype_stop (AAC ⟨rfl, ?_⟩));exact I.turnedL (t':=s.toks) g λp o hp e=>by
   have a:p≠z/\p≠TI/\p≠TO/\p≠i/\p≠j:=by simpa using hp
   exact hk p o a.1 a.2.2.1 a.2.2.2.1 a.2.2.2.2 e
 self:=λ_ _ _ _ _ Z h=>wpAny_pyIter_zip Z.zip h
structure Has (P:Program) (w:World) (K:AAB) (mg:Str->Option Value) (base:Heap) (k:Nat) (x:Str) (ps:List Str) (sp:Sp):Prop where
 ex:∃f fd,mg x=some (.ref f)/\PySem.W.keepIn K (.ref f)=true/\Binds K fd ps [] /\Co P w K mg base JT k f fd ps sp
def Has.mono {P:zp}{w:zm}{K:AAB}{mg:Str->zt zx}{base:zl}{j k:Nat}{x:Str}{ps:zy Str}{sp:Sp}(h:Has P w K mg base j x ps sp)(hk:j<=k):Has P w K mg base k x ps sp:=by obtain⟨f,e,a,b,c,d⟩:=h.ex;exact⟨f,e,a,b,c,d.mono hk⟩
section
variable {X:Cx}{x:Str}{p pos:Pos}{e:zr}{es:zy zr}{t:TA}{k:Nat}{ps:zy Str}{sp:Sp}
def aj (D:Has X.prog X.w X.K X.mg X.base k x ps sp)(a:Room k X.A)(b:Gl X x)(ha:PA X (e::es) t)(hs:starEach (e::es) X.env=(false,eval e X.env)::starEach es X.env:=by rfl)(hpl:(backTo pos (starEach es X.env)).any (·.1)=false:=by rfl)(hd:(x==("__debug__" :Str))=false:=by decide):PE X (.Call (.Name x p) (e::es) [] pos) (Wr sp [] E0 t):=by obtain⟨f,h,c,d,g,G⟩:=D.ex;exact Sa G a b c d g .nil Y9 ha (hdb:=hd) (he:=hs) (hpl:=hpl)
end
section
variable {X:Cx}{tg elt:zr}{ifs:zy zr}{scope:Scope}{own:Nat}{ix:zy Nat}{N:zy Str}{g:TG}{tt:TT}{te:TE}
def QX (X:Cx)(sc:Scope)(own:Nat)(ix:zy Nat)(N:zy Str):zq:=
 (List.range ix.length).all λj=>match ix[j]? with
   | none=>false
   | some i=>match N[own+j]?,X.N[i]? with
     | some x,some y=>decide (x=y)&&decide (X.env.scope.names.lookup x=some .cell)&&decide (sc.names.lookup x=some .cell)
     | _,_=>false
def VP {sc:Scope}(h1:N.length=own+ix.length)(h2:QX X sc own ix N=true):Uy X sc own ix N:=by
 refine⟨h1,λj i hj=> ?_⟩;have c:j<ix.length:=(AAm.mp hj).1;have h:=ACT.mp h2 j (ABP.mpr c);rw[hj] at h;dsimp only at h;cases a:N[own+j]? with
 | none=>rw[a] at h;simp at h
 | some x=>
   cases b:X.N[i]? with
   | none=>rw[a,b] at h;simp at h
   | some y=> rw[a,b] at h;simp only[AAz,decide_eq_true_eq] at h;obtain⟨⟨h3,d⟩,e⟩:=h;subst h3;exact⟨x,rfl,rfl,d,e⟩
def Rt (h1:scope.kind= .function)(h2:(scope.names.all λy=> !decide (y.2= .cell))=true)(h3:(scope.names.all λy=> !decide (y.2= .local)||decide (scope.names.lookup y.1=some .local))=true)(c:(scope.names.all λy=> !decide (y.2= .free)||decide (X.env.scope.names.lookup y.1=some .cell))=true)(d:N.length=own+ix.length)(f:QX X (relabel scope X.env) own ix N=true)(hk:Jc own g)(a:∀cl C s H ex pn,PG (blk X (relabel scope X.env) N cl C s H ex pn) tg g)(b:∀cl C s H ex pn,Yq (blk X (relabel scope X.env) N cl C s H ex pn) ifs tt)(val:∀cl C s H ex pn,PE (blk X (relabel scope X.env) N cl C s H ex pn) elt te):EM X tg elt ifs scope own ix N g tt te:=by
 refine⟨h1,λy hy e=> ?_,λy hy e=> ?_,λy hy e=> ?_,VP d f,hk,a,b,val⟩
 .have:=ACT.mp h2 y hy;simp[e] at this
 .have:=ACT.mp h3 y hy;simpa[e] using this
 .have:=ACT.mp c y hy;simpa[e] using this
end
def OZ.new {H:Hp}{p:zu}{o:HO}(h:H p=none):OZ H (upd H p o):=λb u q=>by rw[AZ (Ak q h)];exact q
def gZ (p:zu)(H a:Hp):Prop:=∀b o,b≠p->H b=some o->a b=some o
def OZ.but {p:zu}{H H1:Hp}(a:OZ H H1):gZ p H H1:=λc o _ h=>a c o h
def gZ.upd {p:zu}{H:Hp}{o:HO}:gZ p H (upd H p o):=λb u n q=>by rw[AZ n];exact q
end L2
namespace PL
open PySem PySem.Spec PyProof.Rows L2
inductive PV where
 | non|bl (b:Bool)|int (i:Int)|str (x:Str)|ty (n:String)
 | tup (xs:List PV)|lst (xs:List PV)|tape|scr (ns:List Int)|dct (kvs:List (FK×Int))|dk (kvs:List (Int×Int))
def D3 (H:Hp)(p:zu):Prop:=∃d x:Int,H p=some (.lst [.int d, .int x])/\0<=d/\0<=x/\x<2147483647
def IS (o:HO):Prop:=(∀vs,o≠ .tup vs)/\∀q u,o≠ .frz q u
def IS.lst {xs:zy V}:IS (.lst xs):=⟨(λ_ e=>nomatch e),(λ_ _ e=>nomatch e)⟩
def D3.mut {H:Hp}{p:zu}(h:D3 H p):∃o,H p=some o/\IS o:=by obtain⟨d,x,e,_⟩:=h;exact⟨_,e,IS.lst⟩
def fi (K:AAB)(H:Hp)(a:zu)(xs:zy V):Prop:=H a=some (.tup xs)\/∃(o:Obj) (b:Array zx) (n:Nat),K.lookup a=some o/\o.cls= .type "tuple" /\o.data= .seq b n/\b.size<=sizeLine/\An xs b.toList
def fi.sq {K:AAB}{H:Hp}{a:zu}{xs:zy V}(h:fi K H a xs):K5 K H a xs:=h.elim (λz=> .inl (.inl z)) .inr
def dZ (kvs:zy (FK×Int)):zy (FK×V):=kvs.map λp=>(p.1,V.int p.2)
def EG (kvs:zy (Int×Int)):zy (BU×V):=kvs.map λp=>(.inl p.1,V.int p.2)
mutual
inductive B5 (K:AAB) (T M:Addr->Prop) (H:Hp):V->PV->Prop where
 | non:B5 K T M H .non .non
 | bl (b:Bool):B5 K T M H (.bl b) (.bl b)
 | int (i:Int):B5 K T M H (.int i) (.int i)
 | str (x:Str):B5 K T M H (.str x) (.str x)
 | ty (n:String):B5 K T M H (.ty n) (.ty n)
 | tup {a:Addr} {vs:List V} {xs:List PV} (h:fi K H a vs) (r:Ar K T M H vs xs):B5 K T M H (.ref a) (.tup xs)
 | lst {a:Addr} {vs:List V} {xs:List PV} (h:H a=some (.lst vs)) (t:¬T a) (m:¬M a) (r:Ar K T M H vs xs):B5 K T M H (.ref a) (.lst xs)
 | tape {a:Addr} (t:T a):B5 K T M H (.ref a) .tape
 | dct {a:Addr} {kvs:List (FK×Int)} (h:H a=some (.dN K (dZ kvs))) (t:¬T a) (m:¬M a):B5 K T M H (.ref a) (.dct kvs)
 | dk {a:Addr} {o:Obj} {es:Array DictEntry} {ep:Nat} {kvs:List (Int×Int)} (h:H a=some (.frz o (.dK (EG kvs)))) (e:o.data= .dict es ep):B5 K T M H (.ref a) (.dk kvs)
 | scr {a:Addr} {ns:List Int} (h:(Rd H a (.lst (ns.map V.int))/\¬T a/\¬M a)\/∀H,EQ K H a (ns.map V.int)):B5 K T M H (.ref a) (.scr ns)
inductive Ar (K:AAB) (T M:Addr->Prop) (H:Hp):List V->List PV->Prop where
 | nil:Ar K T M H [] []
 | cons {v:V} {x:PV} {vs:List V} {xs:List PV} (h:B5 K T M H v x) (t:Ar K T M H vs xs):Ar K T M H (v::vs) (x::xs)
end
structure Hj (T M:Addr->Prop) (H:Hp):Prop where
 tp:∀a,T a->D3 H a
 mu:∀a,M a->∃o,H a=some o/\IS o
def Hj.noFrz {T M:zu->Prop}{H:Hp}(v:Hj T M H){a:zu}{q:Obj}{u:HO}(r:H a=some (.frz q u)):¬T a/\¬M a:=by
 refine⟨λz=> ?_,λz=> ?_⟩
 .obtain ⟨o,e,_,n⟩:=(v.tp a z).mut;rw[r] at e;cases e;exact n _ _ rfl
 .obtain ⟨o,e,_,n⟩:=v.mu a z;rw[r] at e;cases e;exact n _ _ rfl
def Hj.noTup {T M:zu->Prop}{H:Hp}(v:Hj T M H){a:zu}{vs:zy V}(r:Rd H a (.tup vs)):¬T a/\¬M a:=by
 have go:∀o,H a=some o->IS o->False:=λo e m=>by
  rcases r with r|⟨q,r⟩
  .rw [e] at r;cases r;exact m.1 _ rfl
  .rw [e] at r;cases r;exact m.2 _ _ rfl
 exact⟨λt=>let ⟨o,e,m⟩:=(v.tp a t).mut;go o e m,λt=>let ⟨o,e,m⟩:=v.mu a t;go o e m⟩
structure Mv (K:AAB) (T M:Addr->Prop) (H:Hp) (T' M':Addr->Prop) (H':Hp):Prop where
 va:Hj T M H
 keep:∀b o,¬T b->¬M b->H b=some o->H' b=some o
 sub:∀b,T b->T' b
 tn:∀b,H b≠none->T' b->T b
 mn:∀b,H b≠none->M' b->M b
def Sg {H:Hp}{a:zu}{u:HO}(r:Rd H a u):H a≠none:=by rcases r with r|⟨o,r⟩ <;> rw[r] <;> exact λe=>nomatch e
def eY {H b:Hp}{a:zu}{u:HO}(r:Rd H a u)(k:∀o,H a=some o->b a=some o):Rd b a u:=by
 rcases r with r|⟨o,r⟩
 .exact .inl (k _ r)
 .exact .inr ⟨o,k _ r⟩
section
variable {K:AAB}{T M T' M':zu->Prop}{H H':Hp}
mutual
theorem B5.mv (m:Mv K T M H T' M' H'):∀{v:V} {x:PV},B5 K T M H v x->B5 K T' M' H' v x
 | _,_, .non=> .non
 | _,_, .bl b=> .bl b
 | _,_, .int i=> .int i
 | _,_, .str x=> .str x
 | _,_, .ty n=> .ty n
 | _,_, .tup (a:=a) (vs:=vs) h r=>by
   refine .tup (vs:=vs) ?_ (Ar.mv m r);rcases h with h|h
   .obtain ⟨t,u⟩:=m.va.noTup (.inl h);exact .inl (m.keep _ _ t u h)
   .exact .inr h
 | _,_, .lst (a:=a) h t u r=> .lst (m.keep _ _ t u h) (λz=>t (m.tn a (by rw[h];exact λe=>nomatch e) z)) (λz=>u (m.mn a (by rw[h];exact λe=>nomatch e) z)) (Ar.mv m r)
 | _,_, .tape t=> .tape (m.sub _ t)
 | _,_, .dct (a:=a) h t u=> .dct (m.keep _ _ t u h) (λz=>t (m.tn a (by rw[h];exact λe=>nomatch e) z)) (λz=>u (m.mn a (by rw[h];exact λe=>nomatch e) z))
 | _,_, .dk h e=>by obtain⟨t,u⟩:=m.va.noFrz h;exact .dk (m.keep _ _ t u h) e
 | _,_, .scr (a:=a) (.inl ⟨h,t,u⟩)=> .scr (.inl ⟨eY h λo e=>m.keep _ o t u e,λz=>t (m.tn a (Sg h) z),λz=>u (m.mn a (Sg h) z)⟩)
 | _,_, .scr (.inr h)=> .scr (.inr h)
theorem Ar.mv (m:Mv K T M H T' M' H'):∀{vs:zy V} {xs:zy PV},Ar K T M H vs xs->Ar K T' M' H' vs xs
 | _,_, .nil=> .nil
 | _,_, .cons h t=> .cons (B5.mv m h) (Ar.mv m t)
end
end
def Ar.length {K:AAB}{T M:zu->Prop}{H:Hp}:∀{vs:zy V} {xs:zy PV},Ar K T M H vs xs->vs.length=xs.length
 | _,_, .nil=>rfl
 | _,_, .cons _ t=>by simp[t.length]
theorem Ar.get {K:AAB}{T M:zu->Prop}{H:Hp}:∀{vs:zy V} {xs:zy PV} {i:Nat} {x:PV},Ar K T M H vs xs->xs[i]? =some x->∃v,vs[i]? =some v/\B5 K T M H v x
 | _,_,_,_, .nil,e=>by simp at e
 | _,_,0,_, .cons h _,e=>by simp at e;subst e;exact⟨_,rfl,h⟩
 | _,_,i+1,x, .cons _ t,e=>by obtain⟨u,h1,h2⟩:=Ar.get (i:=i) (x:=x) t (by simpa using e);exact⟨u,by simpa using h1,h2⟩
def Ar.get' {K:AAB}{T M:zu->Prop}{H:Hp}{vs:zy V}{xs:zy PV}{i:Nat}{v:V}(h:Ar K T M H vs xs)(e:vs[i]? =some v):∃x,xs[i]? =some x/\B5 K T M H v x:=by have hl:=h.length;have hi:i<vs.length:=(AAm.mp e).1;obtain⟨w,a,r⟩:=h.get (i:=i) (x:=xs[i]'(by omega)) (AAc (by omega));rw[e] at a;cases a;exact⟨_,AAc (by omega),r⟩
def Ar.append {K:AAB}{T M:zu->Prop}{H:Hp}:∀{vs a:zy V} {xs b:zy PV},Ar K T M H vs xs->Ar K T M H a b->Ar K T M H (vs++a) (xs++b)
 | _,_,_,_, .nil,s=>s
 | _,_,_,_, .cons h t,s=> .cons h (t.append s)
def Ar.take {K:AAB}{T M:zu->Prop}{H:Hp}:∀{vs:zy V} {xs:zy PV} (n:Nat),Ar K T M H vs xs->Ar K T M H (vs.take n) (xs.take n)
 | _,_,0,_=> .nil
 | _,_,_+1, .nil=> .nil
 | _,_,n+1, .cons r t=> .cons r (t.take n)
def Ar.drop {K:AAB}{T M:zu->Prop}{H:Hp}:∀{vs:zy V} {xs:zy PV} (n:Nat),Ar K T M H vs xs->Ar K T M H (vs.drop n) (xs.drop n)
 | _,_,0,r=>r
 | _,_,_+1, .nil=> .nil
 | _,_,n+1, .cons _ t=>t.drop n
theorem Ar.set {K:AAB}{T M:zu->Prop}{H:Hp}{v:V}{x:PV}(r:B5 K T M H v x):∀{vs:zy V} {xs:zy PV} (i:Nat),Ar K T M H vs xs->Ar K T M H (vs.set i v) (xs.set i x)
 | _,_,_, .nil=> .nil
 | _,_,0, .cons _ t=> .cons r t
 | _,_,i+1, .cons q t=> .cons q (Ar.set r i t)
def Ar.reverse {K:AAB}{T M:zu->Prop}{H:Hp}{vs:zy V}{xs:zy PV}(h:Ar K T M H vs xs):Ar K T M H vs.reverse xs.reverse:=by
 induction vs generalizing xs with
 | nil=>cases h;exact .nil
 | cons v vs a=>
   cases h with
   | cons h t=>rw[ACO,ACO];exact(a t).append (.cons h .nil)
structure CP (T:Addr->Prop) (H:Hp) (T':Addr->Prop) (H':Hp):Prop where
 keep:∀b o,¬T b->H b=some o->H' b=some o
 sub:∀b,T b->T' b
 new:∀b,T' b->T b\/H b=none
 tp:∀a,T' a->D3 H' a
def CP.refl {T:zu->Prop}{H:Hp}(h:∀a,T a->D3 H a):CP T H T H:=⟨λ_ _ _ e=>e,λ_ e=>e,λ_ e=> .inl e,h⟩
def CP.some {T c:zu->Prop}{H a:Hp}(s:CP T H c a){b:zu}(h:H b≠none):a b≠none:=by
 by_cases t:T b
 .obtain ⟨o,e,_⟩:=(s.tp b (s.sub b t)).mut;rw[e];exact λe=>nomatch e
 .cases e:H b with
  | none=>exact absurd e h
  | some o=>rw[s.keep b o t e];exact λe=>nomatch e
def CP.none {T c:zu->Prop}{H a:Hp}(s:CP T H c a){b:zu}(h:a b=none):H b=none:=by
 cases e:H b with
 | none=>rfl
 | some o=>exact absurd h (s.some (by rw[e];exact λe=>nomatch e))
def CP.trans {T T1 d:zu->Prop}{H H1 f:Hp}(a:CP T H T1 H1)(b:CP T1 H1 d f):CP T H d f where
 keep:=λc o t e=>b.keep c o (λz=>(a.new c z).elim t λn=>by rw[n] at e;cases e) (a.keep c o t e)
 sub:=λc t=>b.sub c (a.sub c t)
 new:=λc t=>(b.new c t).elim (λz=>a.new c z) λz=> .inr (a.none z)
 tp:=b.tp
def CP.lay {T:zu->Prop}{H:Hp}{p:zu}{o:HO}(h:∀a,T a->D3 H a)(hp:H p=Option.none):CP T H T (upd H p o) where
 keep:=λb u _ e=>by rw[AZ (Ak e hp)];exact e
 sub:=λ_ t=>t
 new:=λ_ t=> .inl t
 tp:=λa t=>by obtain⟨d,x,e,z⟩:=h a t;exact⟨d,x,by rw[AZ (Ak e hp)];exact e,z⟩
def CP.mv {K:AAB}{T a M:zu->Prop}{H c:Hp}(s:CP T H a c)(v:Hj T M H):Mv K T M H a M c where
 va:=v
 keep:=λb o t _ e=>s.keep b o t e
 sub:=s.sub
 tn:=λb n t=>(s.new b t).elim id λz=>absurd z n
 mn:=λ_ _ z=>z
def B5.stp {K:AAB}{T a M:zu->Prop}{H b:Hp}{v:V}{x:PV}(r:B5 K T M H v x)(s:CP T H a b)(va:Hj T M H):B5 K a M b v x:=r.mv (s.mv va)
def Ar.stp {K:AAB}{T a M:zu->Prop}{H b:Hp}{v:zy V}{x:zy PV}(r:Ar K T M H v x)(s:CP T H a b)(va:Hj T M H):Ar K a M b v x:=r.mv (s.mv va)
def Mv.anti {K:AAB}{T M c:zu->Prop}{H:Hp}(v:Hj T M H)(h:∀a,c a->M a):Mv K T M H T c H:=⟨v,λ_ _ _ _ e=>e,λ_ t=>t,λ_ _ t=>t,λb _ t=>h b t⟩
inductive AV where
 | val (x:PV)
 | own (xs:List PV)
abbrev A0:=zy (zt AV)
structure B9 where
 T:Addr->Prop
 H:Hp
 M:Addr->Prop
def B9.add (B:B9)(p:zu):B9:=⟨B.T,B.H,λa=>B.M a\/a=p⟩
def Bs (a:L2.St)(τ:A0)(p:zu):Prop:=∃(i:Nat) (xs:zy PV),τ[i]? =some (some (.own xs))/\a[i]? =some (some (.ref p))
def mt (B:B9)(a:L2.St)(τ:A0)(p:zu):Prop:=B.M p\/Bs a τ p
structure SR (K:AAB) (B:B9) (T:Addr->Prop) (H:Hp) (σ:L2.St) (τ:A0):Prop where
 len:σ.length=τ.length
 val:∀(i:Nat) (x:PV),τ[i]? =some (some (.val x))->∃v,σ[i]? =some (some v)/\B5 K T (mt B σ τ) H v x
 own:∀(i:Nat) (xs:List PV),τ[i]? =some (some (.own xs))->∃p vs,σ[i]? =some (some (.ref p))/\H p=some (.lst vs)/\Ar K T (mt B σ τ) H vs xs/\B.H p=none/\¬T p/\¬B.M p
 dist:∀(i j:Nat) (xs ys:List PV) (p:Addr),τ[i]? =some (some (.own xs))->τ[j]? =some (some (.own ys))->σ[i]? =some (some (.ref p))->σ[j]? =some (some (.ref p))->i=j
 tp:∀a,T a->D3 H a
 bm:∀a,B.M a->∃o,H a=some o/\IS o
 bt:∀a,B.M a->¬T a
 st:CP B.T B.H T H
section
variable {K:AAB}{B:B9}{T T':zu->Prop}{H H':Hp}{σ:L2.St}{τ:A0}
def SR.ownH (s:SR K B T H σ τ){p:zu}(o:Bs σ τ p):∃vs,H p=some (.lst vs)/\B.H p=none/\¬T p/\¬B.M p:=by obtain⟨i,xs,h1,h2⟩:=o;obtain⟨q,vs,e,h,_,b,t,m⟩:=s.own i xs h1;rw[h2] at e;cases e;exact⟨vs,h,b,t,m⟩
def SR.va (s:SR K B T H σ τ):Hj T (mt B σ τ) H:=⟨s.tp,λa m=>m.elim (s.bm a) λo=>let ⟨vs,h,_⟩:=s.ownH o;⟨_,h,IS.lst⟩⟩
def SR.nt (s:SR K B T H σ τ){a:zu}(m:mt B σ τ a):¬T a:=m.elim (s.bt a) λo=>let ⟨_,_,_,t,_⟩:=s.ownH o;t
def SR.stp (s:SR K B T H σ τ)(p:CP T H T' H'):SR K B T' H' σ τ where
 len:=s.len
 val:=λi x e=>let ⟨v,h,r⟩:=s.val i x e;⟨v,h,r.stp p s.va⟩
 own:=λi xs e=>by obtain⟨q,vs,c,h,r,b,t,m⟩:=s.own i xs e;exact⟨q,vs,c,p.keep _ _ t h,r.stp p s.va,b,(λz=>(p.new q z).elim t λn=>by rw[n] at h;cases h),m⟩
 dist:=s.dist
 tp:=p.tp
 bm:=λa m=>let ⟨o,e,q⟩:=s.bm a m;⟨o,p.keep a o (s.bt a m) e,q⟩
 bt:=λa m z=>by obtain⟨o,e,_⟩:=s.bm a m;exact(p.new a z).elim (s.bt a m) λn=>by rw[n] at e;cases e
 st:=s.st.trans p
def SR.add {p:zu}{o:HO}(s:SR K B T H σ τ)(q:CP T H T' H')(f:H p=none)(k:H' p=some o)(l:IS o)(u:¬T' p):SR K (B.add p) T' H' σ τ:=by
 have c:=s.stp q;have g:Mv K T (mt B σ τ) H T' (mt (B.add p) σ τ) H':=⟨s.va,λb o t _ e=>q.keep b o t e,q.sub,λb n t=>(q.new b t).elim id λz=>absurd z n,λb n z=>by
  rcases z with(z|z)|z
  .exact .inl z
  .subst z;exact absurd f n
  .exact .inr z⟩
 refine⟨s.len,λi x e=> ?_,λi xs e=> ?_,s.dist,c.tp,λa m=> ?_,λa m=> ?_,c.st⟩
 .obtain ⟨v,h,r⟩:=s.val i x e;exact⟨v,h,r.mv g⟩
 .obtain ⟨a,vs,j,h,r,b,t,m⟩:=s.own i xs e;obtain⟨y,w,d,h',_,A,t',C⟩:=c.own i xs e;rw[j] at d;cases d;rw[q.keep _ _ t h] at h';cases h';refine⟨a,vs,j,q.keep _ _ t h,r.mv g,b,t',λz=> ?_⟩;rcases z with z|z
  .exact m z
  .subst z;rw[f] at h;cases h
 .rcases m with m|m
  .exact c.bm a m
  .subst m;exact⟨o,k,l⟩
 .rcases m with m|m
  .exact c.bt a m
  .subst m;exact u
end
def Zs:zt AV->zt AV
 | some (.own xs)=>some (.val (.lst xs))
 | o=>o
def frz (τ:A0):A0:=τ.map Zs
def R5 {τ:A0}{i:Nat}:(frz τ)[i]? =(τ[i]?).map Zs:=by simp[frz]
def XZ {τ:A0}{i:Nat}{x:PV}(h:(frz τ)[i]? =some (some (.val x))):τ[i]? =some (some (.val x))\/∃xs,x= .lst xs/\τ[i]? =some (some (.own xs)):=by
 rw[R5] at h;cases e:τ[i]? with
 | none=>rw[e] at h;cases h
 | some o=>
   rw[e] at h;cases o with
   | none=>cases h
   | some a=>
     cases a with
     | val y=>cases h;exact .inl rfl
     | own xs=>cases h;exact .inr ⟨xs,rfl,rfl⟩
def NB {τ:A0}{i:Nat}{xs:zy PV}:(frz τ)[i]? ≠some (some (.own xs)):=by
 rw[R5];cases e:τ[i]? with
 | none=>exact λz=>nomatch z
 | some o=>
   cases o with
   | none=>exact λz=>nomatch z
   | some a=>cases a <;> exact λz=>nomatch z
def PQ {a:L2.St}{τ:A0}{p:zu}:¬Bs a (frz τ) p:=λ⟨_,_,h,_⟩=>NB h
section
variable {K:AAB}{B:B9}{T T':zu->Prop}{H H':Hp}{σ:L2.St}{τ:A0}
def SR.frz (s:SR K B T H σ τ):SR K B T H σ (frz τ):=by
 have d:Mv K T (mt B σ τ) H T (mt B σ (PL.frz τ)) H:= .anti s.va λa m=>m.elim .inl λz=>absurd z PQ;refine⟨by simp[PL.frz,s.len],λi x e=> ?_,λi xs e=>absurd e NB,λi j xs k p e=>absurd e NB,s.tp,s.bm,s.bt,s.st⟩;rcases XZ e with c|⟨xs,f,c⟩
 .obtain ⟨v,h,r⟩:=s.val i x c;exact⟨v,h,r.mv d⟩
 .subst f;obtain⟨p,vs,g,h,r,b,t,m⟩:=s.own i xs c;exact⟨.ref p,g, .lst h t (λz=>z.elim m PQ) (r.mv d)⟩
end
mutual
def aN:PV->zq
 | .lst _=>false
 | .tape=>false
 | .scr _=>false
 | .dct _=>false
 | .tup xs=>Xn xs
 | _=>true
def Xn:zy PV->zq
 | [] =>true
 | x::xs=>aN x&&Xn xs
end
section
variable {K:AAB}{T M M':zu->Prop}{H:Hp}
mutual
theorem B5.free:∀{v:V} {x:PV},aN x=true->B5 K T M H v x->B5 K T M' H v x
 | _,_,_, .non=> .non
 | _,_,_, .bl b=> .bl b
 | _,_,_, .int i=> .int i
 | _,_,_, .str x=> .str x
 | _,_,_, .ty n=> .ty n
 | _,_,n, .tup h r=> .tup h (Ar.free (by rw[aN] at n;exact n) r)
 | _,_,n, .lst _ _ _ _=>by rw[aN] at n;cases n
 | _,_,n, .tape _=>by rw[aN] at n;cases n
 | _,_,n, .scr _=>by rw[aN] at n;cases n
 | _,_,n, .dct _ _ _=>by rw[aN] at n;cases n
 | _,_,_, .dk h e=> .dk h e
theorem Ar.free:∀{vs:zy V} {xs:zy PV},Xn xs=true->Ar K T M H vs xs->Ar K T M' H vs xs
 | _,_,_, .nil=> .nil
 | _,_,n, .cons h t=>by rw[Xn,AAz] at n;exact .cons (B5.free n.1 h) (Ar.free n.2 t)
end
end
abbrev AE:=A0->(PV->Prop)->Prop
abbrev AT:=A0->(zq->Prop)->Prop
abbrev AA:=A0->(zy PV->Prop)->Prop
abbrev AF:=zy PV->(PV->Prop)->Prop
def OI:A0->Nat->zt AV
 | [],_=>none
 | x::_,0=>x
 | _::r,n+1=>OI r n
theorem KB:∀{τ:A0} {i:Nat} {a:AV},OI τ i=some a->τ[i]? =some (some a)
 | [],_,_,h=>by simp[OI] at h
 | x::_,0,_,h=>by simpa[OI] using h
 | _::r,n+1,a,h=>by have:=KB (τ:=r) (i:=n) (a:=a) (by simpa[OI] using h);simpa using this
def OJ (x:PV)(R:Int->Prop):Prop:=match x with | .int i=>R i|_=>False
def aQ (x y:PV)(R:Int->Int->Prop):Prop:=match x,y with | .int i, .int j=>R i j|_,_=>False
def Y6 (x:PV)(R:zq->Prop):Prop:=match x with | .bl b=>R b|_=>False
def dw (o:zt PV)(R:PV->Prop):Prop:=match o with | some z=>R z|none=>False
def aS {o:zt PV}{R:PV->Prop}(h:dw o R):∃z,o=some z/\R z:=by cases o <;> first | exact⟨_,rfl,h⟩|exact h.elim
def Q3 (x:PV)(R:zy PV->Prop):Prop:=match x with | .tup xs=>R xs | .lst xs=>R xs|_=>False
def E1 {x:PV}{R:Int->Prop}(h:OJ x R):∃i,x= .int i/\R i:=by cases x <;> first | exact⟨_,rfl,h⟩|exact h.elim
def Nb {x y:PV}{R:Int->Int->Prop}(h:aQ x y R):∃i j,x= .int i/\y= .int j/\R i j:=by cases x <;> cases y <;> first | exact⟨_,_,rfl,rfl,h⟩|exact h.elim
def Q2 {x:PV}{R:zq->Prop}(h:Y6 x R):∃b,x= .bl b/\R b:=by cases x <;> first | exact⟨_,rfl,h⟩|exact h.elim
def KH {x:PV}{R:zy PV->Prop}(h:Q3 x R):∃xs,(x= .tup xs\/x= .lst xs)/\R xs:=by cases x <;> first | exact⟨_, .inl rfl,h⟩|exact⟨_, .inr rfl,h⟩|exact h.elim
def B5.toI {K:AAB}{T M:zu->Prop}{H:Hp}{v:V}{i:Int}(r:B5 K T M H v (.int i)):v= .int i:=by cases r;rfl
def B5.toB {K:AAB}{T M:zu->Prop}{H:Hp}{v:V}{i:zq}(r:B5 K T M H v (.bl i)):v= .bl i:=by cases r;rfl
def IU (K:AAB)(t:TE)(a:AE):Prop:=∀(B:B9) (T:zu->Prop) (b:L2.St) (τ:A0) (H:Hp) (Q:VK) (d:PV->Prop),SR K B T H b τ->a τ d->
 (∀v x e c,CP T H e c->B5 K e (mt B b τ) c v x->d x->Q v c)->t b H Q
def QC (K:AAB)(t:TT)(a:AT):Prop:=∀(B:B9) (T:zu->Prop) (c:L2.St) (τ:A0) (H:Hp) (Q:zq->Hp->Prop) (d:zq->Prop),SR K B T H c τ->a τ d->
 (∀b f e,CP T H f e->d b->Q b e)->t c H Q
def ZW (K:AAB)(t:TA)(a:AA):Prop:=∀(B:B9) (T:zu->Prop) (b:L2.St) (τ:A0) (H:Hp) (Q:zy V->Hp->Prop) (d:zy PV->Prop),SR K B T H b τ->a τ d->
 (∀vs xs e c,CP T H e c->Ar K e (mt B b τ) c vs xs->d xs->Q vs c)->t b H Q
def XT (K:AAB)(t:TE)(a:AA):Prop:=∀(B:B9) (T:zu->Prop) (c:L2.St) (τ:A0) (H:Hp) (Q:VK) (e:zy PV->Prop),SR K B T H c τ->a τ e->
 (∀p vs xs d b,CP T H d b->SR K (B.add p) d b c τ->H p=none->b p=some (.lst vs)->¬d p->Ar K d (mt (B.add p) c τ) b vs xs->e xs->Q (.ref p) b)->t c H Q
def SE (X:Cx)(e:zr)(a:AE):Prop:=∃t,PE X e t/\IU X.K t a
def Ri (X:Cx)(e:zr)(a:AT):Prop:=∃t,PT X e t/\QC X.K t a
def SW (X:Cx)(e:zr)(a:AT):Prop:=∃t,PW X e t/\QC X.K t a
def SA (X:Cx)(es:zy zr)(a:AA):Prop:=∃t,PA X es t/\ZW X.K t a
def SF (X:Cx)(e:zr)(a:AA):Prop:=∃t,PE X e t/\XT X.K t a
abbrev GY:=PV->PV->(PV->Prop)->Prop
def Bj (K:AAB)(r:R2)(f:GY):Prop:=∀(T M:zu->Prop) (H:Hp) (u v:V) (x y:PV) (Q:VK) (b:PV->Prop),Hj T M H->B5 K T M H u x->B5 K T M H v y->f x y b->
 (∀w z c a,CP T H c a->B5 K c M a w z->b z->Q w a)->r u v H Q
def Eu (K:AAB)(r:zy V->Hp->VK->Prop)(f:AF):Prop:=∀(T M:zu->Prop) (H:Hp) (b:zy V) (xs:zy PV) (Q:VK) (c:PV->Prop),Hj T M H->Ar K T M H b xs->f xs c->
 (∀w z d a,CP T H d a->B5 K d M a w z->c z->Q w a)->r b H Q
section
variable {X:Cx}{a b c:zr}{es:zy zr}{pos:Pos}{ta tb:AE}{tA tB':AT}
def aV (i:Nat):AE:=λτ Q=>match OI τ i with | some (.val x)=>Q x|_=>False
def c6 {i:Nat}{τ:A0}{Q:PV->Prop}(h:aV i τ Q):∃x,τ[i]? =some (some (.val x))/\Q x:=by
 unfold aV at h;cases e:OI τ i with
 | none=>rw[e] at h;exact h.elim
 | some z=>
   rw[e] at h;cases z with
   | own xs=>exact h.elim
   | val x=>exact⟨x,KB e,h⟩
def AJ (i:Nat){x:Str}{pos:Pos}(hN:X.N[i]? =some x:=by rfl)(hv:Yt X.env.scope x:=by first | exact Or.inl rfl|exact Or.inr (Or.inl rfl)|exact Or.inr (Or.inr rfl))(hd:(x==("__debug__" :Str))=false:=by decide)(d:(x==("__classdict__" :Str))=false:=by decide):SE X (.Name x pos) (aV i):=by refine⟨_,KI hN hv hd d,λB T g τ H Q j s h k=> ?_⟩;obtain⟨x,e,q⟩:=c6 h;obtain⟨v,f,r⟩:=s.val i x e;exact⟨v,f,k v x T H (.refl s.tp) r q⟩
def aC (x:PV):AE:=λ_ Q=>Q x
def Pi {v:V}{x:PV}(h:∀T M H,B5 X.K T M H v x):IU X.K (tC v) (aC x):=λB T d τ H Q e s h' k=>k v x T H (.refl s.tp) (h _ _ _) h'
def AH {i:Int}{j pos}:SE X (.Constant (.int i) j pos) (aC (.int i)):=⟨_,A3,Pi λ_ _ _=> .int i⟩
def WU {i:zq}{j pos}:SE X (.Constant (.bool i) j pos) (aC (.bl i)):=⟨_,d6,Pi λ_ _ _=> .bl i⟩
def Cg {j pos}:SE X (.Constant .none j pos) (aC .non):=⟨_,ak,Pi λ_ _ _=> .non⟩
def HX {i:Str}{j pos}:SE X (.Constant (.str i) j pos) (aC (.str i)):=⟨_,ao,Pi λ_ _ _=> .str i⟩
def AX (f:GY)(ta tb:AE):AE:=λτ Q=>ta τ λx=>tb τ λy=>f x y Q
def N9 {r:R2}{f:GY}{t u:TE}(i:Bj X.K r f)(ha:IU X.K t ta)(hb:IU X.K u tb):IU X.K (Yh r t u) (AX f ta tb):=by intro B T g τ H Q j s h k;refine ha B T g τ H _ _ s h λv x T1 H1 d l h1=> ?_;refine hb B T1 g τ H1 _ _ (s.stp d) h1 λw y m n e o h2=> ?_;have p:=(s.stp d).stp e;exact i m _ n v w x y Q j p.va (l.stp e (s.stp d).va) o h2 λw z T3 A C D q=>k w z T3 A ((d.trans e).trans C) D q
def Ag {op:Operator}{r:R2}{f:GY}(d:DF X (binaryOp op) r/\Bj X.K r f)(ha:SE X a ta)(hb:SE X b tb):SE X (.BinOp a op b pos) (AX f ta tb):=
 let ⟨_,p,s⟩:=ha;let ⟨_,e,g⟩:=hb;⟨_,BR d.1 p e,N9 d.2 s g⟩
def DZ {op:CmpOp}{r:R2}{f:GY}(d:DF X (compareOp op) r/\Bj X.K r f)(ha:SE X a ta)(hb:SE X b tb)(e:behindInMarks op b=false):SE X (.Compare a [op] [b] pos) (AX f ta tb):=
 let ⟨_,p,s⟩:=ha;let ⟨_,g,h⟩:=hb;⟨_,Sc d.1 p g e,N9 d.2 s h⟩
def e8 {r:R2}{f:GY}(d:XN X r/\Bj X.K r f)(ha:SE X a ta)(hb:SE X b tb)(hs:Mu b):SE X (.Subscript a b pos) (AX f ta tb):=
 let ⟨_,p,s⟩:=ha;let ⟨_,e,g⟩:=hb;⟨_,Ht d.1 p e hs,N9 d.2 s g⟩
def fI (g:Int->Int->PV):GY:=λx y Q=>aQ x y λi j=>Q (g i j)
def cO (C:Int->Int->Prop)(g:Int->Int->PV):GY:=λx y Q=>aQ x y λi j=>C i j/\Q (g i j)
def Ss {g:Int->Int->V}{g':Int->Int->PV}(d:∀i j T M H,B5 X.K T M H (g i j) (g' i j)):Bj X.K (Np g) (fI g'):=by intro T M H u v x y Q f va e rv h k;obtain⟨i,j,rfl,rfl,q⟩:=Nb h;exact⟨i,j,e.toI,rv.toI,k _ _ T H (.refl va.tp) (d i j T M H) q⟩
def N6 {C:Int->Int->Prop}{g:Int->Int->V}{g':Int->Int->PV}(d:∀i j T M H,B5 X.K T M H (g i j) (g' i j)):Bj X.K (rI C g) (cO C g'):=by intro T M H u v x y Q f va e rv h k;obtain⟨i,j,rfl,rfl,c,q⟩:=Nb h;exact⟨i,j,e.toI,rv.toI,c,k _ _ T H (.refl va.tp) (d i j T M H) q⟩
abbrev Jn:GY:=fI λi j=> .int (i-j)
abbrev Uj:GY:=fI λi j=> .bl (decide (i<j))
abbrev jx:GY:=fI λi j=> .bl (decide (i<=j))
abbrev Yw:GY:=fI λi j=> .bl (decide (j<i))
def D7:DF X (binaryOp .Sub) (Np λi j=> .int (i-j))/\Bj X.K (Np λi j=> .int (i-j)) Jn:=⟨aa,Ss λi j _ _ _=> .int _⟩
def FF:DF X (compareOp .Lt) (Np λi j=> .bl (decide (i<j)))/\Bj X.K (Np λi j=> .bl (decide (i<j))) Uj:=⟨Y8,Ss λi j _ _ _=> .bl _⟩
def fF:DF X (compareOp .LtE) (Np λi j=> .bl (decide (i<=j)))/\Bj X.K (Np λi j=> .bl (decide (i<=j))) jx:=⟨d4,Ss λi j _ _ _=> .bl _⟩
def MW:DF X (compareOp .Gt) (Np λi j=> .bl (decide (j<i)))/\Bj X.K (Np λi j=> .bl (decide (j<i))) Yw:=⟨Y7,Ss λi j _ _ _=> .bl _⟩
structure MulOk (i j:Int):Prop where
 l:i.natAbs<2^1000000
 r:j.natAbs<2^1000000
def Nc:DF X (binaryOp .Mult) (rI MulOk λi j=> .int (i*j)):=aT λ_ _ _ _ _ _ _ hc q=>mul_int q (.of_le (FT hc.l) (FT hc.r) (by decide))
abbrev CG:GY:=cO MulOk λi j=> .int (i*j)
def A7:DF X (binaryOp .Mult) (rI MulOk λi j=> .int (i*j))/\Bj X.K (rI MulOk λi j=> .int (i*j)) CG:=⟨Nc,N6 λi j _ _ _=> .int _⟩
structure Rg (i j:Int):Prop where
 ne:j≠0
 lt:j.natAbs<2^8900
def V0:DF X (binaryOp .FloorDiv) (rI Rg λi j=> .int (i.fdiv j)):=aT λi j _ _ _ _ _ hc q=>
 floordiv_int hc.ne q (.inl (ADX (AB3 (Gj hc.lt (by decide)) (by decide))))
abbrev M9:GY:=cO Rg λi j=> .int (i.fdiv j)
def Dv:DF X (binaryOp .FloorDiv) (rI Rg λi j=> .int (i.fdiv j))/\Bj X.K (rI Rg λi j=> .int (i.fdiv j)) M9:=⟨V0,N6 λi j _ _ _=> .int _⟩
abbrev Ti:GY:=cO (λ_ j=>j≠0) λi j=> .int (i.fmod j)
def RL:DF X (binaryOp .Mod) (rI (λ_ j=>j≠0) λi j=> .int (i.fmod j))/\Bj X.K (rI (λ_ j=>j≠0) λi j=> .int (i.fmod j)) Ti:=⟨Xw,N6 λi j _ _ _=> .int _⟩
abbrev Zm:GY:=cO XG λi j=> .int (i^j.toNat)
def Wi:DF X (binaryOp .Pow) (rI XG λi j=> .int (i^j.toNat))/\Bj X.K (rI XG λi j=> .int (i^j.toNat)) Zm:=⟨V1,N6 λi j _ _ _=> .int _⟩
def gG:PV->zq | .non=>true|_=>false
def Th:GY:=λx y Q=>match y with | .non=>Q (.bl (gG x))|_=>False
def Jm:GY:=λx y Q=>match y with | .non=>Q (.bl (!gG x))|_=>False
def SN {K:AAB}{T M:zu->Prop}{H:Hp}{v:V}{x:PV}(r:B5 K T M H v x):decide (v= .non)=gG x:=by cases r <;> simp[gG]
def RK:DF X (compareOp .Is) (λx y H Q=>y= .non/\Q (.bl (decide (x= .non))) H)/\Bj X.K (λx y H Q=>y= .non/\Q (.bl (decide (x= .non))) H) Th:=by
 refine⟨aX,λT M H u v x y Q e va d rv h k=> ?_⟩;cases y <;> first | exact h.elim|skip
 cases rv;refine⟨rfl, ?_⟩;rw[SN d];exact k _ _ T H (.refl va.tp) (.bl _) h
def OB:DF X (compareOp .IsNot) (λx y H Q=>y= .non/\Q (.bl (!decide (x= .non))) H)/\Bj X.K (λx y H Q=>y= .non/\Q (.bl (!decide (x= .non))) H) Jm:=by
 refine⟨Xx,λT M H u v x y Q e va d rv h k=> ?_⟩;cases y <;> first | exact h.elim|skip
 cases rv;refine⟨rfl, ?_⟩;rw[SN d];exact k _ _ T H (.refl va.tp) (.bl _) h
def Ah:GY:=λx y Q=>Q3 x λxs=>OJ y λi=>dw (M3 xs i) Q
def Rn {K:AAB}{T M:zu->Prop}{H:Hp}{vs:zy V}{xs:zy PV}{i:Int}{z:PV}(r:Ar K T M H vs xs)(h:M3 xs i=some z):∃v,M3 vs i=some v/\B5 K T M H v z:=by
 unfold M3 at h ⊢;rw[r.length];cases e:T4 xs.length i with
 | none=>rw[e] at h;cases h
 | some j=> rw[e] at h;exact r.get h
def eM (K:AAB):R2:=λx y H Q=>eJ K x y H Q\/eO K x y H Q
def fE:XN X (eM X.K)/\Bj X.K (eM X.K) Ah:=by
 refine⟨Dq.or aD,λT M H u v x y Q j va g rv h k=> ?_⟩;obtain⟨xs,hx,h1⟩:=KH h;obtain⟨i,rfl,h2⟩:=E1 h1;cases rv.toI;obtain⟨z,e,q⟩:=aS h2;rcases hx with rfl|rfl
 .cases g with
  | tup f r=> obtain⟨w,ew,d⟩:=Rn r e;exact .inr ⟨_,_,i,w,rfl,rfl,f.sq,ew,k w z T H (.refl va.tp) d q⟩
 .cases g with
  | lst f t m r=> obtain⟨w,ew,d⟩:=Rn r e;exact .inl ⟨_,_,i,w,rfl,rfl, .inl (.inl f),ew,k w z T H (.refl va.tp) d q⟩
def Uh (f:PV->(PV->Prop)->Prop)(ta:AE):AE:=λτ Q=>ta τ λx=>f x Q
def IY (x:PV)(Q:PV->Prop):Prop:=OJ x λi=>Q (.int (-i))
def D6 (ha:SE X a ta):SE X (.UnaryOp .USub a pos) (Uh IY ta):=by obtain⟨t,p,s⟩:=ha;refine⟨_,d9 b9 p,λB T d τ H Q j e h k=>s B T d τ H _ _ e h λv x T1 H1 f g h1=> ?_⟩;obtain⟨i,rfl,q⟩:=E1 h1;exact⟨i,g.toI,k _ _ T1 H1 f (.int _) q⟩
def Zc (ta tb:AE):AE:=λτ Q=>ta τ λx=>Y6 x λc=>if c=true then tb τ Q else Q (.bl false)
def gy (ta tb:AE):AE:=λτ Q=>ta τ λx=>Y6 x λc=>if c=true then Q (.bl true) else tb τ Q
def WW {op}(h:SE X a ta):SE X (.BoolOp op [a] pos) ta:=let ⟨_,p,s⟩:=h;⟨_,am p,s⟩
def bM {rest:zy zr}(ha:SE X a ta)(hb:SE X (.BoolOp .And (b::rest) pos) tb):SE X (.BoolOp .And (a::b::rest) pos) (Zc ta tb):=by
 obtain⟨t,p,s⟩:=ha;obtain⟨t',g,j⟩:=hb;refine⟨_,ah p g,λB T e τ H Q u f h k=>s B T e τ H _ _ f h λv x T1 H1 d l h1=> ?_⟩;obtain⟨i,rfl,q⟩:=Q2 h1;refine⟨i,l.toB, ?_⟩;cases i with
 | true=>rw[AAE rfl] at q ⊢;exact j B T1 e τ H1 _ _ (f.stp d) q λw y m n o r h2=>k w y m n (d.trans o) r h2
 | false=>rw[AAD AAO] at q ⊢;exact k _ _ T1 H1 d (.bl _) q
def fA {rest:zy zr}(ha:SE X a ta)(hb:SE X (.BoolOp .Or (b::rest) pos) tb):SE X (.BoolOp .Or (a::b::rest) pos) (gy ta tb):=by
 obtain⟨t,p,s⟩:=ha;obtain⟨t',g,j⟩:=hb;refine⟨_,d8 p g,λB T e τ H Q u f h k=>s B T e τ H _ _ f h λv x T1 H1 d l h1=> ?_⟩;obtain⟨i,rfl,q⟩:=Q2 h1;refine⟨i,l.toB, ?_⟩;cases i with
 | false=>rw[AAD AAO] at q ⊢;exact j B T1 e τ H1 _ _ (f.stp d) q λw y m n o r h2=>k w y m n (d.trans o) r h2
 | true=>rw[AAE rfl] at q ⊢;exact k _ _ T1 H1 d (.bl _) q
def BP (ta:AE):AT:=λτ Q=>ta τ λx=>Y6 x Q
def Sv {t:TE}(s:IU X.K t ta):QC X.K (ZH t) (BP ta):=λB T d τ H Q j e h k=>s B T d τ H _ _ e h λv x T1 H1 f g h1=>by obtain⟨i,rfl,q⟩:=Q2 h1;exact⟨i,g.toB,k _ T1 H1 f q⟩
def bZ {op:CmpOp}{r:R2}{f:GY}(d:DF X (compareOp op) r/\Bj X.K r f)(ha:SE X a ta)(hb:SE X b tb)(e:behindInMarks op b=false):Ri X (.Compare a [op] [b] pos) (BP (AX f ta tb)):=
 let ⟨_,p,s⟩:=ha;let ⟨_,g,h⟩:=hb;⟨_,Nm d.1 p g e,Sv (N9 d.2 s h)⟩
def GJ {e:zr}(h:SE X e ta)(he:∀whole,isTrue e X.env whole=(do let v <-whole;standAt e.pos;holding [v] (truthy v)):=by intro _;rfl):Ri X e (BP ta):=
 let ⟨_,p,s⟩:=h;⟨_,az p he,Sv s⟩
def Rk (t:AT):AT:=λτ Q=>t τ λc=>Q (!c)
def Rj (t u:AT):AT:=λτ Q=>t τ λc=>if c=true then u τ Q else Q false
def VA (t u:AT):AT:=λτ Q=>t τ λc=>if c=true then Q true else u τ Q
def Wk (ha:Ri X a tA):Ri X (.UnaryOp .Not a pos) (Rk tA):=by obtain⟨t,p,s⟩:=ha;exact⟨_,ay p,λB T d τ H Q g e h k=>s B T d τ H _ _ e h λv T1 H1 f h1=>k _ T1 H1 f h1⟩
def S5 (ha:Ri X a tA):SW X (.BoolOp .And [a] pos) tA:=let ⟨_,p,s⟩:=ha;⟨_,YH p,s⟩
def RP (ha:Ri X a tA):SW X (.BoolOp .Or [a] pos) tA:=let ⟨_,p,s⟩:=ha;⟨_,bD p,s⟩
def Wn {rest:zy zr}(ha:Ri X a tA)(hb:SW X (.BoolOp .And (b::rest) pos) tB'):SW X (.BoolOp .And (a::b::rest) pos) (Rj tA tB'):=by
 obtain⟨t,p,s⟩:=ha;obtain⟨t',g,j⟩:=hb;refine⟨_,bC p g,λB T e τ H Q o f h k=>s B T e τ H _ _ f h λi T1 H1 d q=> ?_⟩;cases i with
 | true=>rw[AAE rfl] at q ⊢;exact j B T1 e τ H1 _ _ (f.stp d) q λb l m n h2=>k b l m (d.trans n) h2
 | false=>rw[AAD AAO] at q ⊢;exact k _ T1 H1 d q
def Wo {rest:zy zr}(ha:Ri X a tA)(hb:SW X (.BoolOp .Or (b::rest) pos) tB'):SW X (.BoolOp .Or (a::b::rest) pos) (VA tA tB'):=by
 obtain⟨t,p,s⟩:=ha;obtain⟨t',g,j⟩:=hb;refine⟨_,eD p g,λB T e τ H Q o f h k=>s B T e τ H _ _ f h λi T1 H1 d q=> ?_⟩;cases i with
 | false=>rw[AAD AAO] at q ⊢;exact j B T1 e τ H1 _ _ (f.stp d) q λb l m n h2=>k b l m (d.trans n) h2
 | true=>rw[AAE rfl] at q ⊢;exact k _ T1 H1 d q
def Wl (h:SW X a tA):Ri X a tA:=let ⟨_,p,s⟩:=h;⟨_,p.pt,s⟩
def cJ (t:AT)(ta tb:AE):AE:=λτ Q=>t τ λc=>if c=true then ta τ Q else tb τ Q
def Sj (hc:Ri X c tA)(ha:SE X a ta)(hb:SE X b tb):SE X (.IfExp c a b pos) (cJ tA ta tb):=by
 obtain⟨t,p,s⟩:=hc;obtain⟨v,r,e⟩:=ha;obtain⟨x,u,f⟩:=hb;refine⟨_,V6 p r u,λB T g τ H Q z j h k=>s B T g τ H _ _ j h λi T1 H1 d q=> ?_⟩;cases i with
 | true=>rw[AAE rfl] at q ⊢;exact e B T1 g τ H1 _ _ (j.stp d) q λw y l m n o h2=>k w y l m (d.trans n) o h2
 | false=>rw[AAD AAO] at q ⊢;exact f B T1 g τ H1 _ _ (j.stp d) q λw y l m n o h2=>k w y l m (d.trans n) o h2
def AM:AA:=λ_ Q=>Q []
def AB (ta:AE)(r:AA):AA:=λτ Q=>ta τ λx=>r τ λxs=>Q (x::xs)
def Ka:SA X [] AM:=⟨_,EU,λB T e τ H Q f d h k=>k [] [] T H (.refl d.tp) .nil h⟩
def BY {e:zr}{r:AA}(ha:SE X e ta)(j:SA X es r)(hs:starEach (e::es) X.env=(false,eval e X.env)::starEach es X.env:=by rfl):SA X (e::es) (AB ta r):=by obtain⟨t,p,s⟩:=ha;obtain⟨t',l,m⟩:=j;refine⟨_,Cw p l hs,λB T g τ H Q y d h k=>s B T g τ H _ _ d h λv x T1 H1 f n h1=> ?_⟩;exact m B T1 g τ H1 _ _ (d.stp f) h1 λvs xs o u i w h2=>k _ _ o u (f.trans i) (.cons (n.stp i (d.stp f).va) w) h2
def Ap (r:AA):AE:=λτ Q=>r τ λxs=>xs.length<=sizeLine/\Q (.tup xs)
def AU {x1}{r:AA}(h:SA X es r):SE X (.Tuple es x1 pos) (Ap r):=by obtain⟨t,p,s⟩:=h;refine⟨_,aq p,λB T g τ H Q j d h k=>s B T g τ H _ _ d h λvs xs T1 H1 e f h1=>⟨by rw[f.length];exact h1.1,λq i=> ?_⟩⟩;have l:=CP.lay (o:= .tup vs) (d.stp e).tp i;exact k _ _ T1 _ (e.trans l) (.tup (.inl Ad) (f.stp l (d.stp e).va)) h1.2
def HB (r:AA):AA:=λτ Q=>r τ λxs=>xs.length<=sizeLine/\Q xs
def Xl {K:AAB}{B:B9}{T:zu->Prop}{H:Hp}{d:L2.St}{τ:A0}{p:zu}{vs:zy V}{xs:zy PV}(f:SR K B T H d τ)(g:H p=none)(r:Ar K T (mt B d τ) H vs xs):CP T H T (upd H p (.lst vs))/\SR K (B.add p) T (upd H p (.lst vs)) d τ/\¬T p/\Ar K T (mt (B.add p) d τ) (upd H p (.lst vs)) vs xs:=by
 have l:=CP.lay (o:= .lst vs) f.tp g;have h:¬T p:=λz=>by obtain⟨o,e,_⟩:=(f.tp p z).mut;rw[g] at e;cases e
 refine⟨l,f.add l g Ad IS.lst h,h,r.mv ⟨f.va,λb o t _ e=>l.keep b o t e,l.sub,λb n t=>t,λb n z=> ?_⟩⟩;rcases z with(z|z)|z
 .exact .inl z
 .subst z;exact absurd g n
 .exact .inr z
def Db {r:AA}(h:SA X es r):SF X (.List es pos) (HB r):=by obtain⟨t,p,s⟩:=h;refine⟨_,V7 p,λB T j τ H Q o f h k=>s B T j τ H _ _ f h λvs xs T1 H1 d g h1=>⟨by rw[g.length];exact h1.1,λq i=> ?_⟩⟩;obtain⟨l,e,m,n⟩:=Xl (f.stp d) i g;exact k q vs xs T1 _ (d.trans l) e (d.none i) Ad m n h1.2
def Mz (r:AA):AE:=λτ Q=>r τ λxs=>Q (.lst xs)
def Wa {t:TE}{r:AA}(s:XT X.K t r):IU X.K t (Mz r):=λB T g τ H Q v d h k=>s B T g τ H _ _ d h λp vs xs T1 H1 j f i hp l n h1=>by
 have u:¬Bs g τ p:=λo=>by obtain⟨_,e,_⟩:=d.ownH o;rw[i] at e;cases e
 have hb:¬B.M p:=λo=>by obtain⟨_,e,_⟩:=d.bm p o;rw[i] at e;cases e
 exact k _ _ T1 H1 j (.lst hp l (λz=>z.elim hb u) (n.mv (.anti f.va λa m=>m.elim (λz=> .inl (.inl z)) .inr))) h1
def Ii {r:AA}(h:SF X a r):SE X a (Mz r):=let ⟨_,p,s⟩:=h;⟨_,p,Wa s⟩
def Ci (K:AAB)(n:Nat)(F:AF):Sp:=λvs H Q _=>∃(T M:zu->Prop) (xs:zy PV) (e:PV->Prop),Hj T M H/\(∀a,M a->¬T a)/\Ar K T M H vs xs/\xs.length=n/\F xs e/\
 ∀v x f d,CP T H f d->B5 K f M d v x->e x->Q v d
def AN (n:Nat)(F:AF)(r:AA):AE:=λτ Q=>r τ λxs=>xs.length=n/\F xs Q
def AK {x:Str}{p:Pos}{e:zr}{k n:Nat}{ps:zy Str}{F:AF}{r:AA}(D:Has X.prog X.w X.K X.mg X.base k x ps (Ci X.K n F))(g:Room k X.A)(i:Gl X x)(ha:SA X (e::es) r)(hs:starEach (e::es) X.env=(false,eval e X.env)::starEach es X.env:=by rfl)(hpl:(backTo pos (starEach es X.env)).any (·.1)=false:=by rfl)(hd:(x==("__debug__" :Str))=false:=by decide):SE X (.Call (.Name x p) (e::es) [] pos) (AN n F r):=by obtain⟨t,j,s⟩:=ha;refine⟨_,aj D g i j hs hpl hd,λB T l τ H Q o d h k=>s B T l τ H _ _ d h λvs xs T1 H1 f u h1=> ?_⟩;rw[ACv];exact⟨T1,_,xs,o,(d.stp f).va,λa m=>(d.stp f).nt m,u,h1.1,h1.2,λv x y z C E q=>k v x y z (f.trans C) E q⟩
def K6 (f:AF)(r:AA):AE:=λτ Q=>r τ λxs=>f xs Q
def WZ {d:zy V->Hp->VK->Prop}{f:AF}{t:TA}{r:AA}(i:Eu X.K d f)(s:ZW X.K t r):IU X.K (iq d t) (K6 f r):=λB T j τ H Q l e h k=>s B T j τ H _ _ e h λvs xs T1 H1 g m h1=>
 i T1 _ H1 vs xs Q l (e.stp g).va m h1 λw z n o p u q=>k w z n o (g.trans p) u q
def Cf {id:String}{x:Str}{p:Pos}{e:zr}{d:zy V->Hp->VK->Prop}{f:AF}{r:AA}(hc:CL X (.builtin id) d/\Eu X.K d f)(g:Gl X x)(h:X.mg x=none)(hv:bootBuiltins x=some (.builtin id))(ha:SA X (e::es) r)(i:x≠"__name__" :=by decide)(hdb:(x==("__debug__" :Str))=false:=by decide)(he:starEach (e::es) X.env=(false,eval e X.env)::starEach es X.env:=by rfl)(hpl:(backTo pos (starEach es X.env)).any (·.1)=false:=by rfl):SE X (.Call (.Name x p) (e::es) [] pos) (K6 f r):=by obtain⟨t,j,s⟩:=ha;exact⟨_,E2 hc.1 g h hv j i hdb he hpl,WZ hc.2 s⟩
def B3 {T:String}{x:Str}{p:Pos}{e:zr}{d:zy V->Hp->VK->Prop}{f:AF}{r:AA}(hc:CL X (.type T) d/\Eu X.K d f)(g:Gl X x)(h:X.mg x=none)(hv:bootBuiltins x=some (.type T))(ha:SA X (e::es) r)(i:x≠"__name__" :=by decide)(hdb:(x==("__debug__" :Str))=false:=by decide)(he:starEach (e::es) X.env=(false,eval e X.env)::starEach es X.env:=by rfl)(hpl:(backTo pos (starEach es X.env)).any (·.1)=false:=by rfl):SE X (.Call (.Name x p) (e::es) [] pos) (K6 f r):=by obtain⟨t,j,s⟩:=ha;exact⟨_,FV hc.1 g h hv j i hdb he hpl,WZ hc.2 s⟩
end
section
variable {X:Cx}
def FG {K:AAB}{T M:zu->Prop}{H:Hp}{v:V}{xs:zy PV}(r:B5 K T M H v (.tup xs)):∃a vs,v= .ref a/\K5 K H a vs/\Ar K T M H vs xs:=by
 cases r with
 | tup h r=>exact⟨_,_,rfl,h.sq,r⟩
def bW {K:AAB}{T M:zu->Prop}{H:Hp}{v:V}{xs:zy PV}(r:B5 K T M H v (.tup xs)):∃a vs,v= .ref a/\fi K H a vs/\Ar K T M H vs xs:=by
 cases r with
 | tup h r=>exact⟨_,_,rfl,h,r⟩
def Dc {K:AAB}{T M:zu->Prop}{H:Hp}{v:V}{xs:zy PV}(r:B5 K T M H v (.lst xs)):∃a vs,v= .ref a/\H a=some (.lst vs)/\¬T a/\¬M a/\Ar K T M H vs xs:=by
 cases r with
 | lst h t m r=>exact⟨_,_,rfl,h,t,m,r⟩
def WT {K:AAB}{T M:zu->Prop}{H:Hp}{v:V}{ns:zy Int}(r:B5 K T M H v (.scr ns)):∃a,v= .ref a/\EQ K H a (ns.map V.int):=by
 cases r with
 | scr h=>
   rcases h with⟨h,_,_⟩|h
   .exact ⟨_,rfl, .inl h⟩
   .exact ⟨_,rfl,h H⟩
def QZ:AF:=λxs Q=>match xs with | [.tup ys] =>Q (.int ys.length) | [.lst ys] =>Q (.int ys.length) | [.scr ns] =>Q (.int ns.length)|_=>False
def eQ (K:AAB):zy V->Hp->VK->Prop:=λxs H Q=>∃p a,xs= [.ref p] /\(EQ K H p a\/K5 K H p a)/\Q (.int a.length) H
def WO:CL X (.builtin "len") (eQ X.K)/\Eu X.K (eQ X.K) QZ:=by
 refine⟨Gd,λT M H d xs Q e va r h k=> ?_⟩;unfold QZ at h;split at h <;> first | exact h.elim|skip
 .rename_i c;cases r with | cons r t=>cases t;obtain⟨a,vs,rfl,b,r⟩:=FG r;refine⟨a,vs,rfl, .inr b, ?_⟩;rw[r.length];exact k _ _ T H (.refl va.tp) (.int _) h
 .rename_i c;cases r with | cons r t=>cases t;obtain⟨a,vs,rfl,b,_,_,r⟩:=Dc r;refine⟨a,vs,rfl, .inl (.inl (.inl b)), ?_⟩;rw[r.length];exact k _ _ T H (.refl va.tp) (.int _) h
 .rename_i ns;cases r with | cons r t=>cases t;obtain⟨a,rfl,b⟩:=WT r;refine⟨a,_,rfl, .inl b, ?_⟩;rw[AAL];exact k _ _ T H (.refl va.tp) (.int _) h
def Tk:AF:=λxs Q=>match xs with | [.int i] =>Q (.int i.natAbs)|_=>False
def N3:CL X (.builtin "abs") (λxs H Q=>∃i,xs= [.int i] /\Q (.int (if i<0 then -i else i)) H)/\Eu X.K (λxs H Q=>∃i,xs= [.int i] /\Q (.int (if i<0 then -i else i)) H) Tk:=by
 refine⟨Ji,λT M H a xs Q b va r h k=> ?_⟩;unfold Tk at h;split at h <;> first | exact h.elim|skip
 rename_i i;cases r with
 | cons r t=> cases t;cases r;refine⟨i,rfl, ?_⟩;rw[show (if i<0 then -i else i)=(i.natAbs:Int) by split <;> omega];exact k _ _ T H (.refl va.tp) (.int _) h
def Zt (g:Int->Int->Int):AF:=λxs Q=>match xs with | [.int i, .int j] =>Q (.int (g i j))|_=>False
def WY {g g':Int->Int->Int}(a:∀i j,g i j=g' i j):Eu X.K (λxs H Q=>∃i j,xs= [.int i, .int j] /\Q (.int (g i j)) H) (Zt g'):=by
 intro T M H c xs Q d va r h k;unfold Zt at h;split at h <;> first | exact h.elim|skip
 rename_i i j;cases r with
 | cons r t=>
   cases t with
   | cons b t=> cases t;cases r;cases b;refine⟨i,j,rfl, ?_⟩;rw[a];exact k _ _ T H (.refl va.tp) (.int _) h
def bK (hc:X.calm=true):CL X (.builtin "min") (λxs H Q=>∃i j,xs= [.int i, .int j] /\Q (.int (if j<i then j else i)) H)/\Eu X.K (λxs H Q=>∃i j,xs= [.int i, .int j] /\Q (.int (if j<i then j else i)) H) (Zt min):=
 ⟨TX hc,WY λi j=>by split <;> omega⟩
def bJ (hc:X.calm=true):CL X (.builtin "max") (λxs H Q=>∃i j,xs= [.int i, .int j] /\Q (.int (if j>i then j else i)) H)/\Eu X.K (λxs H Q=>∃i j,xs= [.int i, .int j] /\Q (.int (if j>i then j else i)) H) (Zt max):=
 ⟨TW hc,WY λi j=>by split <;> omega⟩
def QY:AF:=λxs Q=>match xs with | [.int i] =>Q (.int i) | [.bl k] =>Q (.int (if k then 1 else 0))|_=>False
def N4:CL X (.type "int") (λxs H Q=>(∃i,xs= [.int i] /\Q (.int i) H)\/∃k,xs= [.bl k] /\Q (.int (if k then 1 else 0)) H)/\Eu X.K (λxs H Q=>(∃i,xs= [.int i] /\Q (.int i) H)\/∃k,xs= [.bl k] /\Q (.int (if k then 1 else 0)) H) QY:=by
 refine⟨L6,λT M H a xs Q b va r h k=> ?_⟩;unfold QY at h;split at h <;> first | exact h.elim|skip
 .cases r with | cons r t=>cases t;cases r;exact .inl ⟨_,rfl,k _ _ T H (.refl va.tp) (.int _) h⟩
 .cases r with | cons r t=>cases t;cases r;exact .inr ⟨_,rfl,k _ _ T H (.refl va.tp) (.int _) h⟩
def Ex:AF:=λxs Q=>match xs with | [.tup ys] =>Q (.tup ys) | [.lst ys] =>Q (.tup ys)|_=>False
def WL (K:AAB):zy V->Hp->VK->Prop:=λxs H Q=>∃p a,xs= [.ref p] /\((EQ K H p a/\∀l,H l=none->Q (.ref l) (upd H l (.tup a)))\/(K5 K H p a/\Q (.ref p) H))
def FD:CL X (.type "tuple") (WL X.K)/\Eu X.K (WL X.K) Ex:=by
 refine⟨LV,λT M H d xs Q e va r h k=> ?_⟩;unfold Ex at h;split at h <;> first | exact h.elim|skip
 .cases r with | cons r t=>cases t;obtain⟨a,vs,rfl,b,c⟩:=bW r;exact⟨a,vs,rfl, .inr ⟨b.sq,k _ _ T H (.refl va.tp) (.tup b c) h⟩⟩
 .cases r with
  | cons r t=> cases t;obtain⟨a,vs,rfl,b,_,_,c⟩:=Dc r;refine⟨a,vs,rfl, .inl ⟨.inl (.inl b),λl hl=> ?_⟩⟩;have s:=CP.lay (o:= .tup vs) va.tp hl;exact k _ _ T _ s (.tup (.inl Ad) (c.stp s va)) h
def WQ:PV->PV->zt zq
 | .non, .non=>some true | .non, .int _=>some false | .int _, .non=>some false | .non, .bl _=>some false | .bl _, .non=>some false | .non, .str _=>some false | .str _, .non=>some false
 | .int i, .int j=>some (decide (i=j)) | .bl i, .bl j=>some (decide (i=j)) | .str i, .str j=>some (decide (i=j))
 | .int _, .str _=>some false | .str _, .int _=>some false | .bl _, .str _=>some false | .str _, .bl _=>some false
 | _,_=>none
def Ph {K:AAB}{T M:zu->Prop}{H:Hp}{u v:V}{x y:PV}{b:zq}(r:B5 K T M H u x)(a:B5 K T M H v y)(e:WQ x y=some b):bL u v=true/\decide (u=v)=b:=by cases r <;> cases a <;> first | (cases e;done)|(cases e;exact⟨rfl,rfl⟩)|(cases e;exact⟨rfl,by simp⟩)
end
structure GM where
 nx:A0->Prop
 rt:PV->Prop
 bk:A0->Prop
 ct:A0->Prop
abbrev AS:=GM->A0->Prop
structure D2 (T:Addr->Prop) (H:Hp) (σ:L2.St) (τ:A0) (T':Addr->Prop) (H':Hp) (σ':L2.St) (τ':A0):Prop where
 keep:∀b o,¬T b->¬Bs σ τ b->H b=some o->H' b=some o
 sub:∀b,T b->T' b
 new:∀b,T' b->T b\/H b=none
 own:∀b,Bs σ' τ' b->Bs σ τ b\/H b=none
 some:∀b,H b≠none->H' b≠none
section
variable {K:AAB}{B:B9}{T T' T1 T2:zu->Prop}{H H' H1 H2:Hp}{σ σ' σ1 σ2:L2.St}{τ τ' τ1 τ2:A0}
def D2.refl:D2 T H σ τ T H σ τ:=⟨λ_ _ _ _ e=>e,λ_ t=>t,λ_ t=> .inl t,λ_ o=> .inl o,λ_ h=>h⟩
def D2.trans (a:D2 T H σ τ T1 H1 σ1 τ1)(b:D2 T1 H1 σ1 τ1 T2 H2 σ2 τ2):D2 T H σ τ T2 H2 σ2 τ2 where
 keep:=λc o t w e=>b.keep c o (λz=>(a.new c z).elim t λn=>by rw[n] at e;cases e) (λz=>(a.own c z).elim w λn=>by rw[n] at e;cases e) (a.keep c o t w e)
 sub:=λc t=>b.sub c (a.sub c t)
 new:=λc t=>(b.new c t).elim (λz=>a.new c z) λz=> .inr (by
  cases e:H c with
  | none=>rfl
  | some o=>exact absurd z (a.some c (by rw[e];exact λe=>nomatch e)))
 own:=λc t=>(b.own c t).elim (λz=>a.own c z) λz=> .inr (by
  cases e:H c with
  | none=>rfl
  | some o=>exact absurd z (a.some c (by rw[e];exact λe=>nomatch e)))
 some:=λc h=>b.some c (a.some c h)
def CP.prog (s:CP T H T' H'):D2 T H σ τ T' H' σ τ:=⟨λb o t _ e=>s.keep b o t e,s.sub,s.new,λ_ o=> .inl o,λ_ h=>s.some h⟩
def D2.less (h:∀b,Bs σ' τ' b->Bs σ τ b):D2 T H σ τ T H σ' τ':=⟨λ_ _ _ _ e=>e,λ_ t=>t,λ_ t=> .inl t,λb o=> .inl (h b o),λ_ h=>h⟩
structure ER (K:AAB) (B:B9) (T:Addr->Prop) (H:Hp) (σ:L2.St) (τ:A0) (D:Ms) (AD:GM):Prop where
 nx:∀T' H' σ' τ',D2 T H σ τ T' H' σ' τ'->SR K B T' H' σ' τ'->AD.nx τ'->D.nx σ' H'
 bk:∀T' H' σ' τ',D2 T H σ τ T' H' σ' τ'->SR K B T' H' σ' τ'->AD.bk τ'->D.bk σ' H'
 ct:∀T' H' σ' τ',D2 T H σ τ T' H' σ' τ'->SR K B T' H' σ' τ'->AD.ct τ'->D.ct σ' H'
 rt:∀v x T' H',CP B.T B.H T' H'->B5 K T' B.M H' v x->AD.rt x->D.rt v H'
def ER.shift {D:Ms}{a:GM}(e:ER K B T H σ τ D a)(p:D2 T H σ τ T1 H1 σ1 τ1):ER K B T1 H1 σ1 τ1 D a:=
 ⟨λ_ _ _ _ q=>e.nx _ _ _ _ (p.trans q),λ_ _ _ _ q=>e.bk _ _ _ _ (p.trans q),λ_ _ _ _ q=>e.ct _ _ _ _ (p.trans q),e.rt⟩
end
def U4 (K:AAB)(t:TS)(a:AS):Prop:=∀(B:B9) (T:zu->Prop) (b:L2.St) (τ:A0) (H:Hp) (D:Ms) (c:GM),SR K B T H b τ->a c τ->ER K B T H b τ D c->t D b H
def SS (X:Cx)(st:Stmt)(a:AS):Prop:=∃t,PS X st t/\U4 X.K t a
def TL (X:Cx)(st:zy Stmt)(a:AS):Prop:=∃t,OX X st t/\U4 X.K t a
def A1 {a:Type}{l:zy a}{i j:Nat}{x y:a}(h:(l.set i x)[j]? =some y):(j=i/\y=x/\i<l.length)\/(j≠i/\l[j]? =some y):=by
 by_cases e:j=i
 .subst e;rw[ACU] at h;simp at h;obtain⟨h1,h2⟩:=h;exact .inl ⟨rfl,h2.symm,h1⟩
 .rw [AAU (λz=>e z.symm)] at h;exact .inr ⟨e,h⟩
section
variable {K:AAB}{B:B9}{T:zu->Prop}{H:Hp}{σ:L2.St}{τ:A0}
def Bt {i:Nat}{v:V}{x:PV}{b:zu}(h:Bs (σ.set i (some v)) (τ.set i (some (.val x))) b):Bs σ τ b:=by
 obtain⟨j,xs,h1,h2⟩:=h;rcases A1 h1 with⟨_,e,_⟩|⟨n,a⟩
 .cases e
 .rw [AAU (λz=>n z.symm)] at h2;exact⟨j,xs,a,h2⟩
def SR.set {i:Nat}{v:V}{x:PV}(s:SR K B T H σ τ)(r:B5 K T (mt B σ τ) H v x):SR K B T H (σ.set i (some v)) (τ.set i (some (.val x))):=by
 have c:Mv K T (mt B σ τ) H T (mt B (σ.set i (some v)) (τ.set i (some (.val x)))) H:= .anti s.va λa m=>m.elim .inl λz=> .inr (Bt z);refine⟨by simp[s.len],λj y e=> ?_,λj d e=> ?_,λj k d t p u A l o=> ?_,s.tp,s.bm,s.bt,s.st⟩
 .rcases A1 e with⟨rfl,b,hl⟩|⟨n,b⟩
  .cases b;refine⟨v,by rw[ACU];simp[s.len,hl],r.mv c⟩
  .obtain ⟨w,hw,f⟩:=s.val j y b;exact⟨w,by rw[AAU (λz=>n z.symm)];exact hw,f.mv c⟩
 .rcases A1 e with⟨_,b,_⟩|⟨n,b⟩
  .cases b
  .obtain ⟨p,vs,h1,h2,h3,C⟩:=s.own j d b;exact⟨p,vs,by rw[AAU (λz=>n z.symm)];exact h1,h2,h3.mv c,C⟩
 .rcases A1 u with⟨_,b,_⟩|⟨n,g⟩
  .cases b
  .rcases A1 A with⟨_,b,_⟩|⟨D,h⟩
   .cases b
   .rw [AAU (λz=>n z.symm)] at l;rw[AAU (λz=>D z.symm)] at o;exact s.dist j k d t p g h l o
def Hs {i:Nat}{p:zu}{xs:zy PV}{b:zu}(h:Bs (σ.set i (some (.ref p))) (τ.set i (some (.own xs))) b):Bs σ τ b\/b=p:=by
 obtain⟨j,a,h1,h2⟩:=h;rcases A1 h1 with⟨rfl,e,_⟩|⟨n,c⟩
 .rcases A1 h2 with⟨_,d,_⟩|⟨n,_⟩
  .cases d;exact .inr rfl
  .exact absurd rfl n
 .rw [AAU (λz=>n z.symm)] at h2;exact .inl ⟨j,a,c,h2⟩
def SR.take {i:Nat}{p:zu}{vs:zy V}{xs:zy PV}(s:SR K (B.add p) T H σ τ)(hp:H p=some (.lst vs))(D:¬T p)(v:¬Bs σ τ p)(E:¬B.M p)(F:B.H p=none)(r:Ar K T (mt (B.add p) σ τ) H vs xs):SR K B T H (σ.set i (some (.ref p))) (τ.set i (some (.own xs))):=by
 have l:Mv K T (mt (B.add p) σ τ) H T (mt B (σ.set i (some (.ref p))) (τ.set i (some (.own xs)))) H:= .anti s.va λa m=>by
  rcases m with m|m
  .exact .inl (.inl m)
  .rcases Hs m with z|z
   .exact .inr z
   .exact .inl (.inr z)
 refine⟨by simp[s.len],λj y e=> ?_,λj g e=> ?_,λj k g x q G A h d=> ?_,s.tp,λa m=>s.bm a (.inl m),λa m=>s.bt a (.inl m),s.st⟩
 .rcases A1 e with⟨_,b,_⟩|⟨n,b⟩
  .cases b
  .obtain ⟨w,hw,o⟩:=s.val j y b;exact⟨w,by rw[AAU (λz=>n z.symm)];exact hw,o.mv l⟩
 .rcases A1 e with⟨rfl,b,hl⟩|⟨n,b⟩
  .cases b;exact⟨p,vs,by rw[ACU];simp[s.len,hl],hp,r.mv l,F,D,E⟩
  .obtain ⟨q,I,h1,h2,h3,J,L,N⟩:=s.own j g b;exact⟨q,I,by rw[AAU (λz=>n z.symm)];exact h1,h2,h3.mv l,J,L,λz=>N (.inl z)⟩
 .rcases A1 G with⟨C,_,_⟩|⟨n,f⟩
  .rcases A1 A with⟨t,_,_⟩|⟨u,c⟩
   .rw [C,t]
   .subst C;rw[AAU (λz=>u z.symm)] at d;rcases A1 h with⟨_,b,_⟩|⟨n,_⟩
    .cases b;exact absurd ⟨k,x,c,d⟩ v
    .exact absurd rfl n
  .rw [AAU (λz=>n z.symm)] at h;rcases A1 A with⟨t,_,_⟩|⟨u,c⟩
   .subst t;rcases A1 d with⟨_,b,_⟩|⟨n,_⟩
    .cases b;exact absurd ⟨j,g,f,h⟩ v
    .exact absurd rfl n
   .rw [AAU (λz=>u z.symm)] at d;exact s.dist j k g x q f c h d
def SR.write {i:Nat}{p:zu}{N vs:zy V}{xs l:zy PV}(s:SR K B T H σ τ)(g:τ[i]? =some (some (.own xs)))(hs:σ[i]? =some (some (.ref p)))(hp:H p=some (.lst N))(r:Ar K T (mt B σ τ) H vs l):SR K B T (upd H p (.lst vs)) σ (τ.set i (some (.own l)))/\D2 T H σ τ T (upd H p (.lst vs)) σ (τ.set i (some (.own l))):=by
 obtain⟨S,O,I,U,W,J,E,L⟩:=s.own i xs g;rw[hs] at I;cases I;have X:σ.set i (some (.ref p))=σ:=by
  apply List.ext_getElem?;intro k;by_cases hk:i=k
  .subst hk;rw[ACU,hs];simp[(AAm.mp hs).1]
  .rw [AAU hk]
 have u:Bs σ τ p:=⟨i,xs,g,hs⟩;have M:∀b,Bs σ (τ.set i (some (.own l))) b->Bs σ τ b:=λb h=>by
  obtain⟨j,f,h1,h2⟩:=h;rcases A1 h1 with⟨rfl,e,_⟩|⟨n,C⟩
  .exact ⟨j,xs,g,h2⟩
  .exact ⟨j,f,C,h2⟩
 have F:Mv K T (mt B σ τ) H T (mt B σ (τ.set i (some (.own l)))) (upd H p (.lst vs)):=⟨s.va,λb o _ m e=>by
  rw[AZ (λz=>m (by subst z;exact .inr u))];exact e,λ_ t=>t,λ_ _ t=>t,λb _ m=>m.elim .inl λz=> .inr (M b z)⟩
 refine⟨⟨by simp[s.len],λj y e=> ?_,λj f e=> ?_,λj k f D q h1 h2 h3 A=> ?_,λa t=> ?_,λa m=> ?_,s.bt, ?_⟩,⟨λb o t w e=>by rw[AZ (λz=>w (by subst z;exact u))];exact e,λ_ t=>t,λ_ t=> .inl t,λb o=> .inl (M b o),λb h=> ?_⟩⟩
 .rcases A1 e with⟨_,c,_⟩|⟨n,c⟩
  .cases c
  .obtain ⟨v,h,P⟩:=s.val j y c;exact⟨v,h,P.mv F⟩
 .rcases A1 e with⟨rfl,c,_⟩|⟨n,c⟩
  .cases c;exact⟨p,vs,hs,Ad,r.mv F,J,E,L⟩
  .obtain ⟨q,D,h1,h2,h3,A⟩:=s.own j f c;have Q:q≠p:=λz=>by subst z;exact n (s.dist j i f xs q c g h1 hs)
   exact⟨q,D,h1,by rw[AZ Q];exact h2,h3.mv F,A⟩
 .rcases A1 h1 with⟨rfl,_,_⟩|⟨n,C⟩
  .rcases A1 h2 with⟨rfl,_,_⟩|⟨R,G⟩
   .rfl
   .exact s.dist _ k xs D q g G h3 A
  .rcases A1 h2 with⟨rfl,_,_⟩|⟨R,G⟩
   .exact s.dist j _ f xs q C g h3 A
   .exact s.dist j k f D q C G h3 A
 .obtain ⟨d,x,e,z⟩:=s.tp a t;exact⟨d,x,by rw[AZ (λw=>by subst w;exact E t)];exact e,z⟩
 .obtain ⟨o,e,z⟩:=s.bm a m;exact⟨o,by rw[AZ (λw=>by subst w;exact L m)];exact e,z⟩
 .refine ⟨λb o t e=> ?_,s.st.sub,s.st.new,λa t=> ?_⟩
  .rw [AZ (λw=>by subst w;rw[J] at e;cases e)];exact s.st.keep b o t e
  .obtain ⟨d,x,e,z⟩:=s.tp a t;exact⟨d,x,by rw[AZ (λw=>by subst w;exact E t)];exact e,z⟩
 .by_cases z:b=p
  .subst z;rw[Ad];exact λe=>nomatch e
  .rw [AZ z];exact h
end
section
variable {X:Cx}{st:Stmt}{rest:zy Stmt}{e:zr}{pos:Pos}{a b:AS}{ta:AE}
def B6:AS:=λD τ=>D.nx τ
def Ab (a b:AS):AS:=λD τ=>a {D with nx:=b D} τ
def BS:TL X [] B6:=⟨_,Nk,λB T c τ H D g d h f=>f.nx T H c τ .refl d h⟩
def AL (h1:SS X st a)(h2:TL X rest b):TL X (st::rest) (Ab a b):=by obtain⟨t,p,s⟩:=h1;obtain⟨t',f,g⟩:=h2;exact⟨_,Bu p f,λB T i τ H D j k h c=>s B T i τ H _ _ k h ⟨λl m σ' τ' q d h'=>g B l σ' τ' m D j d h' (c.shift q),c.bk,c.ct,c.rt⟩⟩
def AR (h1:SS X st a):TL X [st] a:=let ⟨_,p,s⟩:=h1;⟨_,FX p,s⟩
def Ay (ta:AE):AS:=λD τ=>ta (frz τ) D.rt
def AY (h:SE X e ta):SS X (.Return (some e) pos) (Ay ta):=by obtain⟨t,p,s⟩:=h;refine⟨_,Nj p,λB T f τ H D j c h g=>s B T f (frz τ) H _ _ c.frz h λv x T1 H1 d i h1=> ?_⟩;exact g.rt v x T1 H1 (c.st.trans d) (i.mv (.anti (c.frz.stp d).va λa m=> .inl m)) h1
def Dh (c:AT)(a b:AS):AS:=λD τ=>c τ λk=>if k=true then a D τ else b D τ
def CS {c:zr}{x y:zy Stmt}{l:AT}(hc:Ri X c l)(ha:TL X x a)(hb:TL X y b):SS X (.If c x y pos) (Dh l a b):=by
 obtain⟨t,p,s⟩:=hc;obtain⟨u,o,f⟩:=ha;obtain⟨v,r,g⟩:=hb;refine⟨_,WH p o r,λB T i τ H D m j h n=>s B T i τ H _ _ j h λk T1 H1 d h1=> ?_⟩;cases k with
 | true=>rw[AAE rfl] at h1 ⊢;exact f B T1 i τ H1 D m (j.stp d) h1 (n.shift d.prog)
 | false=>rw[AAD AAO] at h1 ⊢;exact g B T1 i τ H1 D m (j.stp d) h1 (n.shift d.prog)
abbrev AG:=PV->A0->(A0->Prop)->Prop
abbrev Px:=zy PV->A0->(A0->Prop)->Prop
def My (K:AAB)(g:TG)(f:AG):Prop:=∀(B:B9) (T:zu->Prop) (c:L2.St) (τ:A0) (H:Hp) (v:V) (x:PV) (Q:L2.St->Hp->Prop) (d:A0->Prop),SR K B T H c τ->B5 K T (mt B c τ) H v x->f x τ d->
 (∀σ' τ',SR K B T H σ' τ'->(∀b,Bs σ' τ' b->Bs c τ b)->d τ'->Q σ' H)->g v c H Q
def Ly (K:AAB)(g:QE)(f:Px):Prop:=∀(B:B9) (T:zu->Prop) (c:L2.St) (τ:A0) (H:Hp) (vs:zy V) (xs:zy PV) (Q:L2.St->Hp->Prop) (d:A0->Prop),SR K B T H c τ->Ar K T (mt B c τ) H vs xs->f xs τ d->
 (∀σ' τ',SR K B T H σ' τ'->(∀b,Bs σ' τ' b->Bs c τ b)->d τ'->Q σ' H)->g vs c H Q
def SG (X:Cx)(c:zr)(d:AG):Prop:=∃g,PG X c g/\My X.K g d
def fg (X:Cx)(c:zy zr)(d:Px):Prop:=∃g,cH X c g/\Ly X.K g d
def Av (i:Nat):AG:=λx τ Q=>Q (τ.set i (some (.val x)))
def N8 {K:AAB}{i:Nat}:My K (CA i) (Av i):=λB T d τ H v x Q f c r h k=>k _ _ (c.set r) (λb o=>Bt o) h
def Sm {i:Nat}{x:Str}(hN:X.N.Nodup)(hi:X.N[i]? =some x)(hx:Loc X.env.scope x)(c:X.fn x=true\/X.env.scope.names.lookup x=some .local:=by first | exact .inl rfl|exact .inr rfl|assumption):SG X (.Name x pos) (Av i):=
 ⟨_,FW hN hi hx c,N8⟩
def Cc:Px:=λxs τ Q=>match xs with | [] =>Q τ|_=>False
def Aj (g:AG)(r:Px):Px:=λxs τ Q=>match xs with | x::t=>g x τ λτ'=>r t τ' Q | [] =>False
def Pj {K:AAB}:Ly K NC Cc:=λB T c τ H vs xs Q f d r h k=>by
 cases r with
 | nil=>exact⟨rfl,k c τ d (λ_ o=>o) h⟩
 | cons _ _=>exact h.elim
def MV {K:AAB}{g:TG}{p:QE}{s:AG}{c:Px}(h1:My K g s)(h2:Ly K p c):Ly K (EF g p) (Aj s c):=λB T w τ H vs xs Q x u r h k=>by
 cases r with
 | nil=>exact h.elim
 | cons r t=> refine⟨_,_,rfl,h1 B T w τ H _ _ _ _ u r h λd f i v y=> ?_⟩;exact h2 B T d f H _ _ Q x i (t.mv (.anti u.va λa m=>m.elim .inl λz=> .inr (v a z))) y λj l n A C=>k j l n (λb o=>v b (A b o)) C
def B4:fg X [] Cc:=⟨_,Iu,Pj⟩
def Ae {es:zy zr}{d:AG}{c:Px}(h1:SG X e d)(h2:fg X es c)(hs:(assignEach (e::es) X.env).map (·.2)=assign e X.env::(assignEach es X.env).map (·.2):=by rfl):fg X (e::es) (Aj d c):=
 let ⟨_,p,s⟩:=h1;let ⟨_,f,g⟩:=h2;⟨_,EH p f hs,MV s g⟩
def As (ta:AE)(g:AG):AS:=λD τ=>ta τ λx=>g x τ D.nx
def N7 {K:AAB}{t:TE}{g:TG}{i:AG}(s:IU K t ta)(m:My K g i):U4 K (RQ t g) (As ta i):=λB T j τ H D u k h n=>s B T j τ H _ _ k h λv x T1 H1 l o h1=>
 m B T1 j τ H1 v x _ _ (k.stp l) o h1 λc d f p r=>n.nx T1 H1 c d (l.prog.trans (.less p)) f r
def FH {c:zr}{d:AG}(he:SE X e ta)(f:SG X c d)(hs:swapsWithSole [c] e pos.line X.env=pure false:=by rfl)(hw:swappedStores [c] e X.env=pure none:=by rfl)(h1:(assignEach [c] X.env).map (·.2)= [assign c X.env] :=by rfl):SS X (.Assign [c] e pos) (As ta d):=
 let ⟨_,p,s⟩:=he;let ⟨_,g,h⟩:=f;⟨_,Ni p g hs hw h1,N7 s h⟩
def Kv {i:Nat}{x:Str}{pos':Pos}(hN:X.N.Nodup)(hi:X.N[i]? =some x)(hx:Loc X.env.scope x)(he:SE X e ta)(hs:swapsWith e (some (.Name x pos')) pos.line X.env=pure false:=by rfl)(c:X.fn x=true\/X.env.scope.names.lookup x=some .local:=by first | exact .inl rfl|exact .inr rfl|assumption):SS X (.Assign [.Name x pos'] e pos) (As ta (Av i)):=let ⟨_,p,s⟩:=he;⟨_,F6 hN hi hx p hs c,N7 s N8⟩
def LS (r:AA)(i:Nat):AS:=λD τ=>r τ λxs=>D.nx (τ.set i (some (.own xs)))
def Su {K:AAB}{t:TE}{r:AA}{i:Nat}(s:XT K t r):U4 K (RQ t (CA i)) (LS r i):=λB T j τ H D v c h k=>s B T j τ H _ _ c h λp vs xs T1 H1 d g f hp l m h1=>by
 have n:¬Bs j τ p:=λo=>by obtain⟨_,e,_⟩:=c.ownH o;rw[f] at e;cases e
 have u:¬B.M p:=λo=>by obtain⟨_,e,_⟩:=c.bm p o;rw[f] at e;cases e
 refine k.nx T1 H1 _ _ ⟨λb o t _ e=>d.keep b o t e,d.sub,d.new,λb o=> ?_,λb h=>d.some h⟩ (g.take hp l n u (c.st.none f) m) h1;rcases Hs o with z|z
 .exact .inl z
 .subst z;exact .inr f
def OC {i:Nat}{x:Str}{pos':Pos}{r:AA}(hN:X.N.Nodup)(hi:X.N[i]? =some x)(hx:Loc X.env.scope x)(he:SF X e r)(hs:swapsWith e (some (.Name x pos')) pos.line X.env=pure false:=by rfl)(c:X.fn x=true\/X.env.scope.names.lookup x=some .local:=by first | exact .inl rfl|exact .inr rfl|assumption):SS X (.Assign [.Name x pos'] e pos) (LS r i):=let ⟨_,p,s⟩:=he;⟨_,F6 hN hi hx p hs c,Su s⟩
def Oa (i j:Nat)(r:AA):AS:=λD τ=>r τ λxs=>match xs with | [x,y] =>D.nx ((τ.set i (some (.val x))).set j (some (.val y)))|_=>False
def OD {i j:Nat}{x y:Str}{c d:zr}{r:AA}{g k l:Pos}{kt k2 pt2}(hc:X.calm=true)(hN:X.N.Nodup)(hi:X.N[i]? =some x)(hj:X.N[j]? =some y)(v:i≠j)(hx:X.env.scope.names.lookup x=some .local)(hy:X.env.scope.names.lookup y=some .local)(ha:SA X [c,d] r)(hw:swappedStores [.Tuple [.Name x g, .Name y k] kt l] (.Tuple [c,d] k2 pt2) X.env=pure (some [x,y]))(hs:swapsWithSole [.Tuple [.Name x g, .Name y k] kt l] (.Tuple [c,d] k2 pt2) pos.line X.env=pure false:=by rfl):SS X (.Assign [.Tuple [.Name x g, .Name y k] kt l] (.Tuple [c,d] k2 pt2) pos) (Oa i j r):=by
 obtain⟨t,p,s⟩:=ha;refine⟨_,ax hc hN hi hj v hx hy p hw hs,λB T w τ H D G n h A=>s B T w τ H _ _ n h λvs xs T1 H1 u C h1=> ?_⟩;cases C with
 | nil=>exact h1.elim
 | cons ra ta=>
   cases ta with
   | nil=>exact h1.elim
   | cons E F=>
     cases F with
     | cons _ _=>exact h1.elim
     | nil=> have f:=n.stp u;refine⟨_,_,rfl,A.nx T1 H1 _ _ ?_ ((f.set (i:=i) ra).set (i:=j) (E.mv (.anti f.va λa m=>m.elim .inl λz=> .inr (Bt z)))) h1⟩;exact u.prog.trans (.less λb o=>Bt (Bt o))
def TM (i:Nat)(f:GY)(ta:AE):AS:=λD τ=>match OI τ i with | some (.val x)=>ta τ λy=>f x y λz=>D.nx (τ.set i (some (.val z)))|_=>False
def bX {i:Nat}{x:Str}{op:Operator}{g:ZZ}{f:GY}{pos':Pos}(hN:X.N.Nodup)(hi:X.N[i]? =some x)(hx:Loc X.env.scope x)(he:SE X e ta)(j:cI X op g/\Bj X.K g f)(l:X.fn x=true\/X.env.scope.names.lookup x=some .local:=by first | exact .inl rfl|exact .inr rfl|assumption):SS X (.AugAssign (.Name x pos') op e pos) (TM i f ta):=by
 obtain⟨t,p,s⟩:=he;refine⟨_,aw hN hi hx p j.1 l,λB T m τ H D I c h n=> ?_⟩;unfold TM at h;split at h <;> first | exact h.elim|skip
 rename_i y r;obtain⟨v,A,rv⟩:=c.val i y (KB r);refine⟨v,A,s B T m τ H _ _ c h λw z T1 H1 d C h1=> ?_⟩;refine j.2 T1 _ H1 v w y z _ _ (c.stp d).va (rv.stp d c.va) C h1 λu q E F k G h2=> ?_;exact n.nx E F _ _ ((d.trans k).prog.trans (.less λb o=>Bt o)) (((c.stp d).stp k).set G) h2
def IW (i:Nat)(τ:A0)(R:zy PV->Prop):Prop:=match OI τ i with | some (.own xs)=>R xs|_=>False
def M0 {i:Nat}{τ:A0}{R:zy PV->Prop}(h:IW i τ R):∃xs,τ[i]? =some (some (.own xs))/\R xs:=by
 unfold IW at h;cases e:OI τ i with
 | none=>rw[e] at h;exact h.elim
 | some z=>
   rw[e] at h;cases z with
   | val x=>exact h.elim
   | own xs=>exact⟨xs,KB e,h⟩
abbrev cG:=zy PV->zy PV->(zy PV->Prop)->Prop
def ZX (K:AAB)(r:V->zy V->Hp->VK->Prop)(f:cG):Prop:=∀(T M:zu->Prop) (H:Hp) (l:zu) (g vs:zy V) (xs h:zy PV) (Q:VK) (i:zy PV->Prop),H l=some (.lst g)->Ar K T M H g xs->Ar K T M H vs h->f xs h i->
 (∀c d,Ar K T M H c d->i d->Q .non (upd H l (.lst c)))->r (.ref l) vs H Q
def Hk (i:Nat)(f:cG)(r:AA):AS:=λD τ=>IW i τ λxs=>r τ λc=>f xs c λd=>D.nx (τ.set i (some (.own d)))
def Wc {K:AAB}{i:Nat}{l:V->zy V->Hp->VK->Prop}{f:cG}{t:TA}{r:AA}(u:ZX K l f)(s:ZW K t r):U4 K (ZG (kN K "list" l (GK i) t)) (Hk i f r):=λB T m τ H D E d h v=>by obtain⟨xs,e,h⟩:=M0 h;obtain⟨p,vs,n,hp,w,F,o,G⟩:=d.own i xs e;refine⟨.ref p,n, .inl ⟨rfl,vs, .inl (.inl hp)⟩,s B T m τ H _ _ d h λx y T1 H1 c z h2=> ?_⟩;have g:=d.stp c;refine u T1 (mt B m τ) H1 p vs x xs y _ _ (c.keep _ _ o hp) (w.stp c d.va) z h2 λA I C h3=> ?_;obtain⟨j,k⟩:=g.write (i:=i) (xs:=xs) e n (c.keep _ _ o hp) C;exact v.nx T1 _ _ _ (c.prog.trans k) j h3
def G1 {i:Nat}{x name:Str}{es:zy zr}{id:String}{d:V->zy V->Hp->VK->Prop}{f:cG}{r:AA}{p apos c:Pos}(slot:Slot "list" name id)(h:typeOf (.builtin id)=pure (.type "method_descriptor"))(g:gt X id d/\ZX X.K d f)(ha:SA X (e::es) r)(hN:X.N[i]? =some x:=by rfl)(hv:Yt X.env.scope x:=by first | exact Or.inl rfl|exact Or.inr (Or.inl rfl)|exact Or.inr (Or.inr rfl))(hd:(x==("__debug__" :Str))=false:=by decide)(j:(x==("__classdict__" :Str))=false:=by decide)(k:attributeBase (.Name x p) name X.env (eval (.Name x p) X.env)=eval (.Name x p) X.env:=by rfl)(l:((backTo c (starEach (e::es) X.env)).all (λx=> !x.1)&&(backToKw c (keywordEach [] X.env)).all (λx=>x.1.isSome) && decide ((e::es).length+([] :zy Keyword).length+(if ([] :zy Keyword).isEmpty then 0 else 1)<30))=true:=by rfl)(m:(apos.endLine==c.line)=true:=by rfl)(hs:starEach (e::es) X.env=(false,eval e X.env)::starEach es X.env:=by rfl)(n:(backTo c (starEach es X.env)).any (·.1)=false:=by rfl)(o:swapsWith (.Call (.Attribute (.Name x p) name apos) (e::es) [] c) none pos.line X.env=pure false:=by rfl):SS X (.Expr (.Call (.Attribute (.Name x p) name apos) (e::es) [] c) pos) (Hk i f r):=by obtain⟨t,u,s⟩:=ha;exact⟨_,YE (d7 PySem.F.plainAttrs_list slot h g.1 (KI hN hv hd j) u k l m hs n) o,Wc g.2 s⟩
def O5:cG:=λxs c Q=>match c with | [y] =>xs.length<sizeLine/\Q (xs ++ [y])|_=>False
def EL:gt X "list.append" Nn/\ZX X.K Nn O5:=by
 refine⟨MN,λT M H l d vs xs i Q j hl c f h k=> ?_⟩;unfold O5 at h;split at h <;> first | exact h.elim|skip
 cases f with
 | cons g t=> cases t;exact⟨l,d,_,rfl,rfl,hl,by rw[c.length];exact h.1,k _ _ (c.append (.cons g .nil)) h.2⟩
def gN (o:zt Nat)(R:Nat->Prop):Prop:=match o with | some j=>R j|none=>False
def aR {o:zt Nat}{R:Nat->Prop}(h:gN o R):∃z,o=some z/\R z:=by cases o <;> first | exact⟨_,rfl,h⟩|exact h.elim
def Zd (i:Nat)(c ta:AE):AS:=λD τ=>ta τ λy=>IW i τ λxs=>c τ λk=>OJ k λk=>gN (T4 xs.length k) λj=>D.nx (τ.set i (some (.own (xs.set j y))))
def bY {i:Nat}{x:Str}{ix:zr}{u:AE}{p c:Pos}(hi:SE X ix u)(he:SE X e ta)(hN:X.N[i]? =some x:=by rfl)(hv:Yt X.env.scope x:=by first | exact Or.inl rfl|exact Or.inr (Or.inl rfl)|exact Or.inr (Or.inr rfl))(hd:(x==("__debug__" :Str))=false:=by decide)(I:(x==("__classdict__" :Str))=false:=by decide)(ha:∀v,assign (.Subscript (.Name x p) ix c) X.env v=(do
   let g <-holding [v] (eval (.Name x p) X.env);let l <-holding [v,g] (eval ix X.env)
   standAt c
   holding [v,g,l] (setItem g l v)
   release [v,g,l] []):=by intro _;rfl)(hs:swapsWithSole [.Subscript (.Name x p) ix c] e pos.line X.env=pure false:=by rfl)(hw:swappedStores [.Subscript (.Name x p) ix c] e X.env=pure none:=by rfl)(h1:(assignEach [.Subscript (.Name x p) ix c] X.env).map (·.2)= [assign (.Subscript (.Name x p) ix c) X.env] :=by rfl):SS X (.Assign [.Subscript (.Name x p) ix c] e pos) (Zd i u ta):=by obtain⟨t,J,s⟩:=hi;obtain⟨t',m,K⟩:=he;refine⟨_,Ni m (Q4 (KI hN hv hd I) J Gx ha) hs hw h1,λB T z τ H D R A h L=>K B T z τ H _ _ A h λv y T1 H1 C M h1=> ?_⟩;have d:=A.stp C;obtain⟨xs,e,h1⟩:=M0 h1;obtain⟨q,vs,E,hp,F,S,G,U⟩:=d.own i xs e;refine⟨.ref q,E,s B T1 z τ H1 _ _ d h1 λw k O W f P h3=> ?_⟩;obtain⟨k,rfl,h3⟩:=E1 h3;obtain⟨j,Q,h3⟩:=aR h3;cases P.toI;have n:=d.stp f;obtain⟨o,r⟩:=n.write (i:=i) (xs:=xs) e E (f.keep _ _ G hp) (((F.stp f d.va)).set (M.stp f d.va) j);exact⟨q,vs,k,j,rfl,rfl,f.keep _ _ G hp,by rw[F.length];exact Q,L.nx O _ _ _ ((C.trans f).prog.trans r) o h3⟩
end
section
variable {X:Cx}{st:Stmt}{e:zr}{pos:Pos}{a b:AS}{ta:AE}
def Rc (c:AT)(b:AS)(D:GM):Nat->A0->Prop
 | 0,_=>False
 | n+1,τ=>c (frz τ) λk=>if k=true then b {D with nx:=Rc c b D n,ct:=Rc c b D n,bk:=D.nx} τ else D.nx τ
def QF (c:AT)(b:AS):AS:=λD τ=>∃n,Rc c b D n τ
def Pn {c:zr}{body:zy Stmt}{v:AT}(hp:PassesOwn (model X.prog X.w) X.A X.env X.xe)(hc:Ri X c v)(hb:TL X body b):SS X (.While c body [] pos) (QF v b):=by
 obtain⟨t,p,s⟩:=hc;obtain⟨t',G,I⟩:=hb;refine⟨_,WI hp p G,λB T y τ H D z J h C=> ?_⟩;obtain⟨n,h⟩:=h;refine⟨λm f H1=>∃T1 d,SR X.K B T1 H1 f d/\D2 T H y τ T1 H1 f d/\Rc v b z m d,⟨n,T,τ,J, .refl,h⟩, ?_⟩;rintro m f H1 ⟨T1,d,l,g,h1⟩;cases m with
 | zero=>exact h1.elim
 | succ m=>
   refine s B T1 f (frz d) H1 _ _ l.frz h1 λk E F x h2=> ?_;have o:=l.stp x;have r:=(C.shift g).shift x.prog;cases k with
   | false=>rw[AAD AAO] at h2 ⊢;exact r.nx E F f d .refl o h2
   | true=> rw[AAE rfl] at h2 ⊢;refine⟨λσ' u=>∃j τ',SR X.K B j u σ' τ'/\D2 T H y τ j u σ' τ'/\Rc v b z m τ',λσ' u q=>⟨m,Nat.lt_succ_self m,q⟩, ?_⟩;exact I B E f d F _ _ o h2 ⟨λj u σ' τ' q i h'=>⟨j,τ',i,(g.trans x.prog).trans q,h'⟩,r.nx,λj u σ' τ' q i h'=>⟨j,τ',i,(g.trans x.prog).trans q,h'⟩,C.rt⟩
abbrev AI:=A0->(zy PV->Prop)->Prop
structure P9 (K:AAB) (M:Addr->Prop) (J:It) (xs:List PV) (T:Addr->Prop) (H:Hp):Prop where
 go:∀i y,xs[i]? =some y->J.go i H
 yld:∀i y v H',xs[i]? =some y->J.yld i H v H'->CP T H T H'/\B5 K T M H' v y
 stop:∀i,xs.length<=i->J.stop i H
def XO (T:zu->Prop)(H c:Hp):Prop:=∀b o,¬T b->H b=some o->c b=some o
def c4 (K:AAB)(s:zq)(j:TI)(k:AI):Prop:=∀(B:B9) (T:zu->Prop) (f:L2.St) (τ:A0) (H:Hp) (R:It->Hp->Prop) (i:zy PV->Prop),SR K B T H f τ->k τ i->
 (∀J xs g c,CP T H g c->(∀M2 h d,Mv K g (mt B f τ) c h M2 d->Hj h M2 d->(s=true\/XO g c d)->P9 K M2 J xs h d)->i xs->R J c)->j f H R
def SI (X:Cx)(d iter:zr)(s:zq)(f:AI):Prop:=∃c,PI X d iter c/\c4 X.K s c f
def iN (K:AAB)(c:TE):TI:=λd H R=>c d H λx H1=>∃a,x= .ref a/\(((∃xs,EQ K H1 a xs)/\R (gi K a) H1)\/((∃xs,K5 K H1 a xs)/\R (gj K a) H1))
def au {j l:zr}{i:TE}(hl:PE X l i):PI X j l (iN X.K i):=by
 intro k s m H R I h;refine BC (hl k s m H _ I h) λv c ⟨x,H1,d,n,r⟩=> ?_;obtain⟨a,e,q⟩:=r;subst e;cases n;rcases q with⟨⟨xs,g⟩,q⟩|⟨⟨xs,g⟩,q⟩
 .obtain ⟨f,rv,p,t⟩:=d.list g;refine AC6 p.isList ?_;refine⟨c.heap.objs.size, [c.heap.objs.size],_,_,H1,rfl,d.kept (t':=c.toks) λb o e=>AAG _ e,Ua a _,⟨_,AAN _ rfl,rfl,rfl⟩,λb hb=> ?_,q⟩;have e:b=c.heap.objs.size:=by simpa using hb
  subst e;exact d.fpOk (AAI _) (d.hok.fresh (AAI _))
 .obtain ⟨f,rv,p,t⟩:=d.tuple g;refine wpAny_pyIter_tuple (show c.heap.IsTuple a f.toArray from p) ?_;refine⟨c.heap.objs.size, [c.heap.objs.size],_,_,H1,rfl,d.kept (t':=c.toks) λb o e=>AAG _ e,Rb a _,⟨_,AAN _ rfl,rfl,rfl⟩,λb hb=> ?_,q⟩;have e:b=c.heap.objs.size:=by simpa using hb
  subst e;exact d.fpOk (AAI _) (d.hok.fresh (AAI _))
def Ob (ta:AE):AI:=λτ Q=>ta τ λx=>Q3 x Q
def Vi {K:AAB}{T M:zu->Prop}{H:Hp}{a:zu}{xs:zy PV}(va:Hj T M H)(r:B5 K T M H (.ref a) (.tup xs)):P9 K M (gj K a) xs T H:=by
 obtain⟨k,vs,e,c,d⟩:=FG r;cases e;refine⟨λi y h=> ?_,λi y v l h f=> ?_,λi h=>⟨vs,c,by rw[d.length];exact h⟩⟩
 .obtain ⟨v,hv,_⟩:=d.get h;exact⟨vs,v,c,hv⟩
 .obtain ⟨rfl,f⟩:=f;obtain⟨z,g,j⟩:=d.get' (f vs c);rw[h] at g;cases g;exact⟨.refl va.tp,j⟩
def Vg {K:AAB}{T M:zu->Prop}{H:Hp}{a:zu}{vs:zy V}{xs:zy PV}(va:Hj T M H)(j:H a=some (.lst vs))(c:Ar K T M H vs xs):P9 K M (gi K a) xs T H:=by
 have d:EQ K H a vs:= .inl (.inl j);refine⟨λi y h=> ?_,λi y v l h f=> ?_,λi h=>⟨vs,d,by rw[c.length];exact h⟩⟩
 .obtain ⟨v,hv,_⟩:=c.get h;exact⟨vs,v,d,hv⟩
 .obtain ⟨rfl,f⟩:=f;obtain⟨z,g,k⟩:=c.get' (f vs d);rw[h] at g;cases g;exact⟨.refl va.tp,k⟩
def GH {j:zr}(h:SE X e ta):SI X j e true (Ob ta):=by
 obtain⟨t,p,s⟩:=h;refine⟨_,au p,λB T l τ H R z m h k=>s B T l τ H _ _ m h λv x T1 H1 i c h1=> ?_⟩;obtain⟨xs,hx,q⟩:=KH h1;rcases hx with rfl|rfl
 .obtain ⟨a,vs,rfl,d,n⟩:=FG c;refine⟨a,rfl, .inr ⟨⟨vs,d⟩,k _ xs T1 H1 i (λM2 o r f va _=>Vi va (c.mv f)) q⟩⟩
 .obtain ⟨a,vs,rfl,d,A,C,n⟩:=Dc c;refine⟨a,rfl, .inl ⟨⟨vs, .inl (.inl d)⟩,k _ xs T1 H1 i (λM2 o r f va _=> ?_) q⟩⟩;obtain⟨D,u,w,y,_,_,g⟩:=Dc (c.mv f);cases w;exact Vg va y g
def rng (lo:Int)(n:Nat):zy PV:=(List.range n).map λ(k:Nat)=> .int (lo+(k:Int))
def Vh {K:AAB}{T M:zu->Prop}{H:Hp}{lo:Int}{n:Nat}(va:Hj T M H):P9 K M (fY lo n) (rng lo n) T H:=by
 have hl:(rng lo n).length=n:=by simp[rng]
 refine⟨λi y h=> ?_,λi y v d h c=> ?_,λi h=>by rw[hl] at h;exact h⟩
 .have:=(AAm.mp h).1;rw[hl] at this;exact this
 .obtain ⟨rfl,rfl⟩:=c;have hi:=(AAm.mp h).1;rw[hl] at hi;have:y= .int (lo+(i:Int)):=by simp[rng,List.getElem?_range hi] at h;exact h.symm
  subst this;exact⟨.refl va.tp, .int _⟩
def TN (r:AA):AI:=λτ Q=>r τ λxs=>match xs with | [.int j] =>(-(2^62)<=j/\j<2^62)/\Q (rng 0 j.toNat)|_=>False
def So {d c:zr}{r:AA}{p:Pos}(f:Gl X "range")(g:X.mg "range" =none)(ha:SA X [c] r)(hs:starEach [c] X.env= [(false,eval c X.env)] :=by rfl):SI X d (.Call (.Name "range" p) [c] [] pos) true (TN r):=by
 obtain⟨t,i,s⟩:=ha;refine⟨_,UM f g i hs,λB T j τ H R o l h k=>s B T j τ H _ _ l h λvs xs T1 H1 m n h1=> ?_⟩;split at h1 <;> first | exact h1.elim|skip
 cases n with
 | cons r t=> cases t;cases r;exact⟨_,rfl,h1.1.1,h1.1.2,k _ _ T1 H1 m (λM2 u v w va _=>Vh va) h1.2⟩
def K2 (xs c:zy PV):zy PV:=List.zipWith (λx y=> .tup [x,y]) xs c
def dY (K:AAB)(ta:TA):TI:=λd H R=>ta d H λvs H1=>∃b c l m,vs= [.ref l, .ref m] /\(∃xs,Sq K b H1 l xs)/\(∃f,Sq K c H1 m f)/\R (gk K b c l m) H1
def X5 {e f:zr}{ta:TA}{p pos g:Pos}{es:zy zr}{w:Nat}(x:Gl X "zip")(y:X.mg "zip" =none)(ha:PA X [e,f] ta)(hs:starEach [e,f] X.env= [(false,eval e X.env),(false,eval f X.env)] :=by rfl)(t:starEach [f] X.env= [(false,eval f X.env)] :=by rfl):PI X (.Tuple es w g) (.Call (.Name "zip" p) [e,f] [] pos) (dY X.K ta):=by
 intro z s A H R I h;refine Call_ (J4 I x y boot_zip (ACK (BC (ha pos z s A H _ I h) λB d ⟨vs,H1,i,C,D⟩=> ?_) (by rw[hs,t]) (by rw[t];rfl)));obtain⟨b,c,l,m,rfl,⟨xs,hl⟩,⟨L,E⟩,q⟩:=D;cases C with
 | cons r j=>
 cases j with
 | cons F j=>
 cases j;cases r;cases F;obtain⟨B,M,u,_⟩:=i.sq hl;obtain⟨vs,rv,sv,_⟩:=i.sq E;have k:l<d.heap.objs.size:=by cases b <;> (obtain⟨o,e,_⟩:=u;exact AAF e)
 have n:m<d.heap.objs.size:=by cases c <;> (obtain⟨o,e,_⟩:=sv;exact AAF e)
 refine cF u sv λh1 Z G=>wpAny_pyIter_zip Z.zip ?_;refine⟨_,_,_,_,H1,rfl,i.kept (t':=d.toks) G,W0 (zipApart_new k n),Z,λp hp=> ?_,q⟩;have v:d.heap.objs.size<=p:=by
  have J:p=d.heap.objs.size+4\/p=d.heap.objs.size+2\/p=d.heap.objs.size+3\/p=d.heap.objs.size\/p=d.heap.objs.size+1:=by simpa using hp
  rcases J with e|e|e|e|e <;> (rw[e];omega)
 exact i.fpOk v (i.hok.fresh v)
def c8:PV->zq | .lst _=>true|_=>false
def S1 {K:AAB}{T M:zu->Prop}{H:Hp}{v:V}{x:PV}{xs:zy PV}(hx:x= .tup xs\/x= .lst xs)(r:B5 K T M H v x):∃a vs,v= .ref a/\Sq K (c8 x) H a vs/\Ar K T M H vs xs:=by
 rcases hx with rfl|rfl
 .obtain ⟨a,vs,rfl,c,d⟩:=FG r;exact⟨a,vs,rfl,c,d⟩
 .obtain ⟨a,vs,rfl,c,_,_,d⟩:=Dc r;exact⟨a,vs,rfl, .inl (.inl c),d⟩
def Vj {K:AAB}{T M:zu->Prop}{H:Hp}{l m:zu}{x y:PV}{xs c:zy PV}(va:Hj T M H)(hx:x= .tup xs\/x= .lst xs)(hy:y= .tup c\/y= .lst c)(r:B5 K T M H (.ref l) x)(C:B5 K T M H (.ref m) y):P9 K M (gk K (c8 x) (c8 y) l m) (K2 xs c) T H:=by
 obtain⟨_,vs,e,g,j⟩:=S1 hx r;cases e;obtain⟨_,k,e,n,d⟩:=S1 hy C;cases e;have t:∀i z,(K2 xs c)[i]? =some z->∃a b,xs[i]? =some a/\c[i]? =some b/\z=PV.tup [a,b] :=λi z h=>by
  unfold K2 at h;rw[List.getElem?_zipWith] at h;cases f:xs[i]? with
  | none=>rw[f] at h;cases h
  | some a=>
    cases s:c[i]? with
    | none=>rw[f,s] at h;cases h
    | some b=>rw[f,s] at h;cases h;exact⟨a,b,by first | rfl|exact f,by first | rfl|exact s,rfl⟩
 refine⟨λi z h=> ?_,λi z v G h D=> ?_,λi h=>⟨vs,k,g,n, ?_⟩⟩
 .obtain ⟨a,b,ha,hb,_⟩:=t i z h;obtain⟨u,hu,_⟩:=j.get ha;obtain⟨w,hw,_⟩:=d.get hb;exact⟨vs,k,u,w,g,n,hu,hw⟩
 .obtain ⟨a,b,ha,hb,rfl⟩:=t i z h;obtain⟨p,u,w,rfl,E,rfl,hu,hw⟩:=D;obtain⟨I,A,ra⟩:=j.get' (hu vs g);obtain⟨J,B,F⟩:=d.get' (hw k n);rw[ha] at A;cases A;rw[hb] at B;cases B;have st:=CP.lay (o:= .tup [u,w]) va.tp E;exact⟨st, .tup (.inl Ad) (.cons (ra.stp st va) (.cons (F.stp st va) .nil))⟩
 .rw [j.length,d.length];have:(K2 xs c).length=min xs.length c.length:=by simp[K2]
  omega
def fk (r:AA):AI:=λτ Q=>r τ λc=>match c with | [x,y] =>Q3 x λxs=>Q3 y λd=>Q (K2 xs d)|_=>False
def fC {e f:zr}{r:AA}{p pos c:Pos}{es:zy zr}{i:Nat}(j:Gl X "zip")(n:X.mg "zip" =none)(ha:SA X [e,f] r)(hs:starEach [e,f] X.env= [(false,eval e X.env),(false,eval f X.env)] :=by rfl)(o:starEach [f] X.env= [(false,eval f X.env)] :=by rfl):SI X (.Tuple es i c) (.Call (.Name "zip" p) [e,f] [] pos) true (fk r):=by
 obtain⟨t,u,s⟩:=ha;refine⟨_,X5 j n u hs o,λB T v τ H R I w h k=>s B T v τ H _ _ w h λvs xs T1 H1 z A h1=> ?_⟩;split at h1 <;> first | exact h1.elim|skip
 rename_i x y;obtain⟨xs,hx,h2⟩:=KH h1;obtain⟨J,hy,h3⟩:=KH h2;cases A with
 | cons ra t=>
   cases t with
   | cons d t=> cases t;obtain⟨l,C,rfl,D,K⟩:=S1 hx ra;obtain⟨m,E,rfl,F,G⟩:=S1 hy d;exact⟨c8 x,c8 y,l,m,rfl,⟨C,D⟩,⟨E,F⟩,k _ _ T1 H1 z (λM2 L M g va _=>Vj va hx hy (ra.mv g) (d.mv g)) h3⟩
def Cd (g:AG)(b:AS)(D:GM):zy PV->A0->Prop
 | [],τ=>D.nx τ
 | x::r,τ=>g x τ λc=>b {D with nx:=Cd g b D r,ct:=Cd g b D r,bk:=D.nx} c
def Fa (c:AI)(g:AG)(b:AS):AS:=λD τ=>c τ λxs=>Cd g b D xs τ
def D2.mvv {K:AAB}{B:B9}{T d:zu->Prop}{H f:Hp}{c σ':L2.St}{τ τ':A0}(s:SR K B T H c τ)(p:D2 T H c τ d f σ' τ'):Mv K T (mt B c τ) H d (mt B σ' τ') f:=
 ⟨s.va,λb o t m e=>p.keep b o t (λz=>m (.inr z)) e,p.sub,λb n t=>(p.new b t).elim id λz=>absurd z n,λb n m=>m.elim .inl λz=>(p.own b z).elim .inr λz=>absurd z n⟩
def Ch {C iter:zr}{body:zy Stmt}{N:AI}{g:AG}(hp:PassesOwn (model X.prog X.w) X.A X.env X.xe)(hc:X.calm=true)(hi:SI X C iter true N)(U:SG X C g)(hb:TL X body b)(hs:∀x,foldedSetIterable iter X.env x=pure x:=by intro _;rfl):SS X (.For C iter body [] pos) (Fa N g b):=by
 obtain⟨wi,W,Y⟩:=hi;obtain⟨Z,pg,sg⟩:=U;obtain⟨tb,pb,sb⟩:=hb;refine⟨_,WG hp hc W pg pb hs,λB T y τ H D O P h E=>Y B T y τ H _ _ P h λJ xs T1 H1 F walk h1=> ?_⟩;have p:=P.stp F;refine⟨λi m d r=>m=xs.length-i/\∃f c,SR X.K B f r d c/\D2 T1 H1 y τ f r d c/\Cd g b O (xs.drop i) c,⟨_,rfl,T1,τ,p, .refl,h1⟩, ?_⟩;rintro i m d r ⟨rfl,f,c,k,l,h2⟩;have w:=walk _ f r (l.mvv p) k.va (.inl rfl);have G:=(E.shift F.prog).shift l;by_cases Q:i<xs.length
 .have R:xs[i]? =some xs[i] :=AAc Q;rw[AC7 Q] at h2;refine .inr ⟨w.go i _ R,λσ' s=>∃j τ',SR X.K B j s σ' τ'/\D2 T1 H1 y τ j s σ' τ'/\Cd g b O (xs.drop (i+1)) τ',λσ' s ⟨j,τ',q1,q2,q3⟩=>⟨_,by omega,rfl,j,τ',q1,q2,q3⟩,λv z yl=> ?_⟩;obtain⟨S,r3⟩:=w.yld i _ v z R yl;have I:=k.stp S;refine sg B f d c z v _ _ _ I r3 h2 λt u L o4 h4=> ?_;have n:D2 T1 H1 y τ f z t u:=(l.trans S.prog).trans (.less o4);have M:=(E.shift F.prog).shift n;exact sb B f t u z _ _ L h4 ⟨λj s σ' τ' q o h'=>⟨j,τ',o,n.trans q,h'⟩,M.nx,λj s σ' τ' q o h'=>⟨j,τ',o,n.trans q,h'⟩,E.rt⟩
 .rw [ADa (by omega)] at h2;exact .inl ⟨w.stop i (by omega),G.nx f r d c .refl k h2⟩
def TU:zt AV->zt AV|some (.val x)=>some (.val x)|_=>none
def LU (own:Nat)(ix:zy Nat)(τ:A0):A0:=List.replicate own none++ix.map λi=>TU (OI τ i)
def CQ (g:AG)(t:AT)(f:AE)(c:A0)(Q:zy PV->Prop):zy PV->zy PV->Prop
 | [],acc=>Q acc
 | x::r,acc=>g x c λd=>t d λok=>if ok=true then f d λy=>CQ g t f c Q r (acc ++ [y]) else CQ g t f c Q r acc
def DG (c:AI)(own:Nat)(ix:zy Nat)(g:AG)(t:AT)(d:AE):AA:=λτ Q=>c τ λxs=>xs.length<sizeLine/\CQ g t d (LU own ix τ) Q xs []
def VC {own:Nat}{ix:zy Nat}{τ:A0}{j:Nat}{x:PV}(h:(LU own ix τ)[j]? =some (some (.val x))):own<=j/\∃i,ix[j-own]? =some i/\τ[i]? =some (some (.val x)):=by
 unfold LU at h;by_cases hj:j<own
 .rw [AA8 (by simpa using hj),ABG,AAE hj] at h;cases h
 .rw [AAx (by simpa using hj),ABH,AAg] at h;cases e:ix[j-own]? with
  | none=>rw[e] at h;cases h
  | some i=>
    rw[e] at h;refine⟨by omega,i,rfl,KB ?_⟩;cases c:OI τ i with
    | none=>simp[c,TU] at h
    | some z=>cases z <;> simp[c,TU] at h;subst h;rfl
def Gc {own:Nat}{ix:zy Nat}{τ:A0}{j:Nat}{xs:zy PV}:(LU own ix τ)[j]? ≠some (some (.own xs)):=λh=>by
 unfold LU at h;by_cases hj:j<own
 .rw [AA8 (by simpa using hj),ABG,AAE hj] at h;cases h
 .rw [AAx (by simpa using hj),ABH,AAg] at h;cases e:ix[j-own]? with
  | none=>rw[e] at h;cases h
  | some i=>
    rw[e] at h;cases c:OI τ i with
    | none=>simp[c,TU] at h
    | some z=>cases z <;> simp[c,TU] at h
def B9.blk (B:B9)(c:L2.St)(τ:A0)(D:zu):B9:=⟨B.T,B.H,λa=>mt B c τ a\/a=D⟩
def SR.blk {K:AAB}{B:B9}{T d:zu->Prop}{H f:Hp}{c:L2.St}{τ:A0}{D:zu}{h:zy V}{own:Nat}{ix:zy Nat}(s:SR K B T H c τ)(q:CP T H d f)(l:H D=none)(hd:f D=some (.lst h))(u:¬d D):SR K (B.blk c τ D) d f (Bk own ix c) (LU own ix τ):=by
 have g:=s.stp q;have w:Mv K T (mt B c τ) H d (mt (B.blk c τ D) (Bk own ix c) (LU own ix τ)) f:=⟨s.va,λb o t _ e=>q.keep b o t e,q.sub,λb n t=>(q.new b t).elim id λz=>absurd z n,λb n z=>by
  rcases z with(z|z)|⟨_,_,z,_⟩
  .exact z
  .subst z;exact absurd l n
  .exact absurd z Gc⟩
 refine⟨by simp[Bk,LU],λj x e=> ?_,λj xs e=>absurd e Gc,λj k xs A p e=>absurd e Gc,g.tp,λa m=> ?_,λa m=> ?_,g.st⟩
 .obtain ⟨hj,i,hi,y⟩:=VC e;obtain⟨v,hv,r⟩:=s.val i x y;refine⟨v, ?_,r.mv w⟩;unfold Bk;rw[AAx (by simpa using hj),ABH,AAg,hi];simp[hv]
 .rcases m with m|m
  .exact g.va.mu a m
  .subst m;exact⟨_,hd,IS.lst⟩
 .rcases m with m|m
  .exact g.nt m
  .subst m;exact u
def cz (X:Cx)(c:zy zr)(t:AT):Prop:=∃d,Yq X c d/\QC X.K d t
def IX:AT:=λ_ Q=>Q true
def Eb:cz X [] IX:=⟨_,Sd,λB T d τ H Q f c h k=>k true T H (.refl c.tp) h⟩
def N5 {c:zr}{t:AT}(h:Ri X c t):cz X [c] t:=let ⟨_,p,s⟩:=h;⟨_,X6 p,s⟩
def Kk {K:AAB}{s:zq}{wi:TI}{ai:AI}{own:Nat}{ix:zy Nat}{g:TG}{ag:AG}{tt:TT}{C:AT}{te:TE}(hi:c4 K s wi ai)(hg:My K g ag)(ht:QC K tt C)(he:IU K te ta):XT K (Ws wi own ix g tt te) (DG ai own ix ag C ta):=by
 intro B T E τ H Q AQ sr h k;refine hi B T E τ H _ _ sr h λJ xs T1 H1 s1 walk h1 D F=> ?_;obtain⟨hl,h1⟩:=h1;have j:=sr.stp s1;have nt1:¬T1 D:=λz=>by obtain⟨o,e,_⟩:=(j.tp D z).mut;rw[F] at e;cases e
 have lay:=CP.lay (o:= .lst []) j.tp F;refine⟨λi m G=>m=xs.length-i/\∃p vs c,CP T1 H1 p G/\G D=some (.lst vs)/\¬p D/\Ar K p (λa=>mt B E τ a\/a=D) G vs c/\c.length<=i/\CQ ag C ta (LU own ix τ) AQ (xs.drop i) c,
  ⟨_,rfl,T1, [], [],lay,Ad,nt1, .nil,AAI _,h1⟩, ?_⟩
 rintro i m G ⟨rfl,p,vs,c,r,Z,f,r2,Zv,h2⟩;have I:=j.blk (own:=own) (ix:=ix) r F Z f;have L:Hj p (λa=>mt B E τ a\/a=D) G:=⟨I.tp,I.bm⟩;have w:=walk (λa=>mt B E τ a\/a=D) p G ⟨j.va,λb o t _ e=>r.keep b o t e,r.sub,λb n t=>(r.new b t).elim id λz=>absurd z n,λb n z=>z.elim id λz=>by subst z;exact absurd F n⟩ L (.inr r.keep);by_cases F0:i<xs.length
 .have Vb:xs[i]? =some xs[i] :=AAc F0;rw[AC7 F0] at h2;refine .inr ⟨w.go i _ Vb,λv H3 yl=> ?_⟩;obtain⟨P,r3⟩:=w.yld i _ v H3 Vb yl;have l:=I.stp P;refine hg _ p _ _ H3 v _ _ _ l (r3.mv (.anti ⟨l.tp,l.bm⟩ λa z=>z.elim id λ⟨_,_,z,_⟩=>absurd z Gc)) h2 λR S U o4 h4=> ?_;refine ht _ p R S H3 _ _ U h4 λok T5 H5 N h5=> ?_;have u:=U.stp N;have cQ:=P.keep D _ f Z;have gB:=N.keep D _ f cQ;have M:¬T5 D:=λz=>(N.new D z).elim f λn=>by rw[n] at cQ;cases cQ
  have r5:=(r2.stp P L).stp N ⟨l.tp,l.bm⟩;cases ok with
  | false=> rw[AAD AAO] at h5 ⊢;exact⟨_,by omega,rfl,T5,vs,c,(r.trans P).trans N,gB,M,r5,by omega,h5⟩
  | true=>
    rw[AAE rfl] at h5 ⊢;refine he _ T5 R S H5 _ _ u h5 λvy y O H6 W r6 h6=> ?_;have A:=u.stp W;have my:=W.keep D _ M gB;have Y:¬O D:=λz=>(W.new D z).elim M λn=>by rw[n] at gB;cases gB
    have va6:Hj O (λa=>mt B E τ a\/a=D) H6:=⟨A.tp,A.bm⟩;have r7:=r5.stp W ⟨u.tp,u.bm⟩;have s7:=((r.trans P).trans N).trans W;have tp8:∀a,O a->D3 (upd H6 D (.lst (vs ++ [vy]))) a:=λa t=>by obtain⟨d,x,e,z⟩:=A.tp a t;exact⟨d,x,by rw[AZ (λw=>by subst w;exact Y t)];exact e,z⟩
    have mv8:Mv K O (λa=>mt B E τ a\/a=D) H6 O (λa=>mt B E τ a\/a=D) (upd H6 D (.lst (vs ++ [vy]))):=⟨va6,λb o _ m e=>by rw[AZ (λw=>m (.inr w))];exact e,λ_ t=>t,λ_ _ t=>t,λ_ _ z=>z⟩;refine⟨vs,my,by rw[r2.length];omega,_,(by omega:xs.length-(i+1)<xs.length-i),rfl,O,vs ++ [vy],c ++ [y],⟨λb o t e=> ?_,s7.sub,s7.new,tp8⟩,Ad,Y,(r7.append (.cons (r6.mv (.anti A.va λa z=> .inl z)) .nil)).mv mv8,by simp;omega,h6⟩;rw[AZ (Ak e F)];exact s7.keep b o t e
 .rw [ADa (by omega)] at h2;refine .inl ⟨w.stop i (by omega), ?_⟩;exact k D vs c p G (s1.trans r) (j.add r F Z IS.lst f) (s1.none F) Z f (r2.mv (.anti L λa z=>by
   rcases z with(z|z)|z
   .exact .inl (.inl z)
   .exact .inr z
   .exact .inl (.inr z))) h2
structure Rf (X:Cx) (tg elt:Expr) (ifs:List Expr) (scope:Scope) (own:Nat) (ix:List Nat) (N:List Str) (g:AG) (t:AT) (te:AE):Prop where
 ex:∃g' t' te',EM X tg elt ifs scope own ix N g' t' te'/\My X.K g' g/\QC X.K t' t/\IU X.K te' te
def Gy {f c iter:zr}{d:zy zr}{scope:Scope}{own:Nat}{ix:zy Nat}{N:zy Str}{g:AG}{t:AT}{s:zq}{h:AI}(hc:X.calm=true)(hi:SI X f iter s h)(O:Rf X f c d scope own ix N g t ta)(hs:∀x,foldedSetIterable iter X.env x=pure x:=by intro _;rfl):SF X (.ListComp c [⟨f,iter,d,0⟩] scope pos) (DG h own ix g t ta):=by obtain⟨m,i,j⟩:=hi;obtain⟨g',t',k,O,sg,st,l⟩:=O.ex;exact⟨_,Xz hc i O hs,Kk j sg st l⟩
def Pm {i:Nat}{x:Str}{pos' c:Pos}{h d iter:zr}{f:zy zr}{scope:Scope}{own:Nat}{ix:zy Nat}{N:zy Str}{g:AG}{t:AT}{s:zq}{j:AI}(hc:X.calm=true)(hN:X.N.Nodup)(k:X.N[i]? =some x)(hx:Loc X.env.scope x)(hi:SI X h iter s j)(O:Rf X h d f scope own ix N g t ta)(l:swapsWith (.ListComp d [⟨h,iter,f,0⟩] scope pos) (some (.Name x pos')) c.line X.env=pure true:=by rfl)(hs:∀x,foldedSetIterable iter X.env x=pure x:=by intro _;rfl)(m:X.fn x=true\/X.env.scope.names.lookup x=some .local:=by first | exact .inl rfl|exact .inr rfl|assumption):SS X (.Assign [.Name x pos'] (.ListComp d [⟨h,iter,f,0⟩] scope pos) c) (LS (DG j own ix g t ta) i):=by obtain⟨u,n,o⟩:=hi;obtain⟨g',t',p,O,sg,st,r⟩:=O.ex;exact⟨_,Se hc hN k hx n O l hs m,Su (Kk o sg st r)⟩
def Ku {i:Nat}{x:Str}{pos' c:Pos}{h d iter:zr}{f:zy zr}{scope:Scope}{own:Nat}{ix:zy Nat}{N:zy Str}{g:AG}{t:AT}{s:zq}{j:AI}(hc:X.calm=true)(hN:X.N.Nodup)(k:X.N[i]? =some x)(hx:Loc X.env.scope x)(hi:SI X h iter s j)(O:Rf X h d f scope own ix N g t ta)(l:swapsWith (.ListComp d [⟨h,iter,f,0⟩] scope pos) (some (.Name x pos')) c.line X.env=pure true:=by rfl)(hs:∀x,foldedSetIterable iter X.env x=pure x:=by intro _;rfl)(m:X.fn x=true\/X.env.scope.names.lookup x=some .local:=by first | exact .inl rfl|exact .inr rfl|assumption):SS X (.Assign [.Name x pos'] (.ListComp d [⟨h,iter,f,0⟩] scope pos) c) (As (Mz (DG j own ix g t ta)) (Av i)):=by obtain⟨u,n,o⟩:=hi;obtain⟨g',t',p,O,sg,st,r⟩:=O.ex;exact⟨_,Se hc hN k hx n O l hs m,N7 (Wa (Kk o sg st r)) N8⟩
end
def HZ (N:Nat)(xs:zy PV):A0:=xs.map (λx=>some (.val x))++List.replicate (N-xs.length) none
def At (N:Nat)(b:AS):AF:=λxs Q=>b {nx:=λ_=>Q .non,rt:=Q,bk:=λ_=>False,ct:=λ_=>False} (HZ N xs)
def Po {K:AAB}{T M:zu->Prop}{H:Hp}{N:zy Str}{vs:zy V}{xs:zy PV}(va:Hj T M H)(c:∀a,M a->¬T a)(r:Ar K T M H vs xs):SR K ⟨T,H,M⟩ T H (start N vs) (HZ N.length xs):=by
 have d:∀(j:Nat) (b:zy PV),(HZ N.length xs)[j]? ≠some (some (.own b)):=λj b h=>by
  unfold HZ at h;by_cases hj:j<xs.length
  .rw [AA8 (by simpa using hj),AAg,AAc hj] at h;cases h
  .rw [AAx (by simpa using hj),ABG] at h;split at h <;> cases h
 refine⟨by simp[L2.start,HZ,r.length],λj x h=> ?_,λj b h=>absurd h (d j b),λj k b e p h=>absurd h (d j b),va.tp,va.mu,c, .refl va.tp⟩;unfold HZ at h;by_cases hj:j<xs.length
 .rw [AA8 (by simpa using hj),AAg,AAc hj] at h;cases h;obtain⟨v,hv,rv⟩:=r.get (AAc hj);refine⟨v, ?_,rv.mv (.anti va λa m=>m.elim id λ⟨_,_,z,_⟩=>absurd z (d _ _))⟩;unfold L2.start;rw[AA8 (by rw[AAL,r.length];exact hj),AAg,hv];rfl
 .rw [AAx (by simpa using hj),ABG] at h;split at h <;> cases h
section
variable {P:zp}{w:zm}{K:AAB}{mg:Str->zt zx}{base:zl}
def XX {x qual:Str}{st:Stmt}{f:zu}{g:FuncData}{N ps:zy Str}{k n:Nat}{b:AS}(F:Rh K x qual st f g)(S:Ca N ps (Ai st))(i:n=ps.length)(j:∀(a:zx) (A:zk) (outer:zy Env) (s:zw) (H:Hp) (E:XK),Room k (A.deeper (envOfC qual (Ai st) s.heap.objs.size f a))-> TL (LY JT P w K mg base N qual (Ai st) f a A outer s H E).nox (BW st) b):Co P w K mg base JT (k+1) f g ps (Ci K n (At N.length b)):=by
 refine F.ok S (λvs H Q E h=> ?_) (λa A outer s H vs Q E l h=> ?_)
 .obtain ⟨T,M,xs,m,_,_,r,hl,_⟩:=h;rw[r.length,hl,i]
 .obtain ⟨T,M,xs,m,va,c,r,hl,hF,hQ⟩:=h;obtain⟨t,p,o⟩:=j a A outer s H E l;refine⟨t,p,o ⟨T,H,M⟩ T _ _ H _ _ (Po va c r) hF ⟨λd e σ' τ' _ u q=> ?_,λ_ _ _ _ _ _ q=>q.elim,λ_ _ _ _ _ _ q=>q.elim,λv x d e y z q=>hQ v x d e y z q⟩⟩;exact hQ _ _ d e u.st .non q
end
section
variable {X:Cx}
def VG {prog:zp}{w:zm}{A:zk}{E:zx->zw->Prop}{s:zw}{t b:zu}{d:zy zx}{Q:zx->zw->Prop}(j:IsTup s.heap t #[])(hb:IsTup s.heap b d.toArray)(k:Q (.ref b) s):wpAny (model prog w) A (binaryOp .Add (.ref t) (.ref b)) Q E s:=by
 obtain⟨⟨cls,l,data,sl⟩,e,hc,n,hd⟩:=id j;obtain⟨⟨f,a,data2,c⟩,g,h,m,i⟩:=id hb;simp only at hc hd h i;subst hc hd h i;exact concat_meets ⟨_,e,rfl⟩ ⟨_,g,rfl⟩ AC0 seq_tuple_add AC1 AC2 (AC3 _ _)
  (tuple_addW0 t b #[] d.toArray n m l a sl c (by simp)) ⟨e,g,k⟩
def WK (K:AAB):R2:=λx y H Q=>∃a b c,x= .ref a/\y= .ref b/\K5 K H a [] /\K5 K H b c/\Q (.ref b) H
def Vy:DF X (binaryOp .Add) (WK X.K):=by intro k s l H x y v u Q I d e h;obtain⟨a,b,m,rfl,rfl,ha,hb,q⟩:=h;cases d;cases e;obtain⟨f,g,i,_⟩:=I.tuple ha;obtain⟨c,n,j,_⟩:=I.tuple hb;cases g;exact VG i j ⟨.ref b,H,I,rfl,q⟩
def ZA (K:AAB):R2:=λx y H Q=>((Np (λi j=>V.int (i+j)) x y H Q\/eF x y H Q)\/ZB K x y H Q)\/WK K x y H Q
def Cj:GY:=λx y Q=>match x,y with
 | .int i, .int j=>Q (.int (i+j))
 | .lst xs, .lst a=>xs.length+a.length<=sizeLine/\Q (.lst (xs++a))
 | .tup xs, .tup a=>xs.length+a.length<=sizeLine/\Q (.tup (xs++a))
 | _,_=>False
def CD:DF X (binaryOp .Add) (ZA X.K)/\Bj X.K (ZA X.K) Cj:=by
 refine⟨((F4.or aU).or Xv).or Vy,λT M H u v x y Q s va g rv h k=> ?_⟩;unfold Cj at h;split at h <;> first | exact h.elim|skip
 .exact .inl (.inl (.inl ⟨_,_,g.toI,rv.toI,k _ _ T H (.refl va.tp) (.int _) h⟩))
 .obtain ⟨a,vs,rfl,i,t,w,d⟩:=Dc g;obtain⟨b,f,rfl,j,l,m,c⟩:=Dc rv;refine .inl (.inl (.inr ⟨a,b,vs,f,rfl,rfl,i,j,by rw[d.length,c.length];exact h.1,λp hp=> ?_⟩));have st:=CP.lay (o:= .lst (vs++f)) va.tp hp;have n:¬T p:=λz=>by obtain⟨o,e,_⟩:=(va.tp p z).mut;rw[hp] at e;cases e
  have r:¬M p:=λz=>by obtain⟨o,e,_⟩:=va.mu p z;rw[hp] at e;cases e
  exact k _ _ T _ st (.lst Ad n r ((d.append c).stp st va)) h.2
 .obtain ⟨a,vs,rfl,i,d⟩:=FG g;obtain⟨b,f,rfl,j,c⟩:=FG rv;by_cases e:vs= []
  .subst e;cases d;exact .inr ⟨a,b,f,rfl,rfl,i,j,k _ _ T H (.refl va.tp) rv (by simpa using h.2)⟩
  .refine .inl (.inr ⟨a,b,vs,f,rfl,rfl,i,j,e,by rw[d.length,c.length];exact h.1,λz=> ?_,λz p hp=> ?_⟩)
   .subst z;cases c;exact k _ _ T H (.refl va.tp) g (by simpa using h.2)
   .have st:=CP.lay (o:= .tup (vs++f)) va.tp hp;exact k _ _ T _ st (.tup (.inl Ad) ((d.append c).stp st va)) h.2
def Fb {prog:zp}{w:zm}{A:zk}{E:zx->zw->Prop}{s:zw}{t sl:zu}{items:Array zx}{b c:zx}{lo hi:zt Int}{Q:zx->zw->Prop}(a:IsTup s.heap t items)(hs:s.heap.IsSliceOf sl b c .none)(d:IsPart b lo)(e:IsPart c hi)(hw:HT.sIx items.size 0 lo=0/\HT.sIx items.size items.size hi=items.size)(h:Q (.ref t) s):wpAny (model prog w) A (getItem (.ref t) (.ref sl)) Q E s:=by
 obtain⟨os,f,g,k⟩:=id hs;have i:s.TypeIs (.ref sl) "slice" :=⟨os,f,g⟩;obtain⟨l,m,n,o,p⟩:=id a;unfold getItem;try with_reducible refine AAW ?_
 first | refine AAA (AAC ?_)|skip
 refine AAA (wpAny_sequenceKey a.typeIs (by decide) ?_);refine AAA (ABf (name:=Str.ofString "__getitem__") a.typeIs ABg
  (AAt ABg a.typeIs entry_tuple_getitem ?_ (args_tuple_getitem _ _)))
 show wpAny _ _ (Builtin.Tuple.tupleItemsOf (.ref t) >>= _) _ _ s;refine AAA (tupleItemsOf_ a ?_);refine AAA (wpAny_typeOf i ?_);rw[AAE (by decide)];refine AAA (HT.sliceApplied_gen hs d e ?_);have j:((((HT.sIx items.size 0 lo:Nat):Int)==0&&(1:Int)==1&&(HT.sIx items.size items.size hi-HT.sIx items.size 0 lo)==items.size)=true):=by rw[hw.1,hw.2];simp
 show wpAny _ _ (if (((HT.sIx items.size 0 lo:Nat):Int)==0&&(1:Int)==1&&(HT.sIx items.size items.size hi-HT.sIx items.size 0 lo)==items.size)=true then _ else _) _ _ s;rw[AAE j];unfold Builtin.Tuple.tupleIsExact;simp only[bind_assoc,pure_bind];refine AAA (wpAny_typeOf a.typeIs ?_);rw[AAE (by decide)];exact AAA (ABO (AAC ⟨_,rfl,AAC h⟩))
def ig (K:AAB):V->zt Int->zt Int->Hp->VK->Prop:=λx lo hi H Q=>∃a xs,x= .ref a/\K5 K H a xs/\
 (HT.sIx xs.length 0 lo=0/\HT.sIx xs.length xs.length hi=xs.length)/\Q (.ref a) H
def YY:Yr X (ig X.K):=by
 intro i s j H x v k l lo hi sl Q I d hs e f h;obtain⟨a,xs,rfl,hx,hw,q⟩:=h;cases d;obtain⟨b,r,c,m⟩:=I.tuple hx;have g:b.toArray.size=xs.length:=by rw[AAR];exact r.length.symm
 refine⟨"tuple",_,ABg.lookup,c.typeIs, ?_⟩;exact Fb c hs e f (by rw[g];exact hw) ⟨.ref a,H,I,rfl,q⟩
def Fx (xs:zy PV)(lo hi:zt Int):zy PV:=(xs.drop (HT.sIx xs.length 0 lo)).take (HT.sIx xs.length xs.length hi-HT.sIx xs.length 0 lo)
def Rv {K:AAB}{T M:zu->Prop}{H:Hp}{vs:zy V}{xs:zy PV}(r:Ar K T M H vs xs)(lo hi:zt Int):Ar K T M H (LX vs lo hi) (Fx xs lo hi):=by unfold LX Fx;rw[r.length];exact(r.drop _).take _
abbrev AO:=A0->(zt Int->Prop)->Prop
def gu (K:AAB)(t:TO)(a:AO):Prop:=∀(B:B9) (T:zu->Prop) (b:L2.St) (τ:A0) (H:Hp) (Q:zt Int->Hp->Prop) (c:zt Int->Prop),SR K B T H b τ->a τ c->
 (∀o e d,CP T H e d->c o->Q o d)->t b H Q
def SO (X:Cx)(e:zt zr)(a:AO):Prop:=∃t,PO X e t/\gu X.K t a
def cM:AO:=λ_ Q=>Q none
def cN (a:AE):AO:=λτ Q=>a τ λx=>OJ x λi=>Q (some i)
def gO:SO X none cM:=⟨_,X7,λB T b τ H Q c a h k=>k _ T H (.refl a.tp) h⟩
def gP {e:zr}{a:AE}(h:SE X e a):SO X (some e) (cN a):=by obtain⟨t,p,s⟩:=h;refine⟨_,X8 p,λB T b τ H Q g c h k=>s B T b τ H _ _ c h λv x T1 H1 d f h1=> ?_⟩;obtain⟨i,rfl,q⟩:=E1 h1;exact⟨i,f.toI,k _ T1 H1 d q⟩
@[irreducible] def VJ (x:PV)(lo hi:zt Int)(Q:PV->Prop):Prop:=match x with | .tup xs=>Q (.tup (Fx xs lo hi)) | .lst xs=>Q (.lst (Fx xs lo hi))|_=>False
def Sz {xs:zy PV}{lo hi:zt Int}{Q:PV->Prop}(h:Q (.tup (Fx xs lo hi))):VJ (.tup xs) lo hi Q:=by unfold VJ;exact h
def Sy {xs:zy PV}{lo hi:zt Int}{Q:PV->Prop}(h:Q (.lst (Fx xs lo hi))):VJ (.lst xs) lo hi Q:=by unfold VJ;exact h
def cK (a:AE)(l h:AO):AE:=λτ Q=>a τ λx=>l τ λlo=>h τ λhi=>VJ x lo hi Q
def Sk {e:zr}{lo hi:zt zr}{D pos:Pos}{C:AE}{l h:AO}(he:SE X e C)(hl:SO X lo l)(E:SO X hi h):SE X (.Subscript e (.Slice lo hi none D) pos) (cK C l h):=by
 obtain⟨t,p,s⟩:=he;obtain⟨N,F,r⟩:=hl;obtain⟨O,u,w⟩:=E;refine⟨_,V8 ((YX.or bV).or YY) p F u,λB T m τ H Q P d h k=>s B T m τ H _ _ d h λv x T1 H1 f G h1=> ?_⟩;refine r B T1 m τ H1 _ _ (d.stp f) h1 λlo I J g h2=> ?_;refine w B I m τ J _ _ ((d.stp f).stp g) h2 λhi T3 K y h3=> ?_;have b:=((d.stp f).stp g).stp y;have A:=(G.stp g (d.stp f).va).stp y ((d.stp f).stp g).va;have c:=(f.trans g).trans y;unfold VJ at h3;split at h3 <;> first | exact h3.elim|skip
 .obtain ⟨a,vs,rfl,n,i⟩:=FG A;by_cases hw:HT.sIx vs.length 0 lo=0/\HT.sIx vs.length vs.length hi=vs.length
  .refine .inr ⟨a,vs,rfl,n,hw,k _ _ T3 K c A ?_⟩;rename_i xs;have:Fx xs lo hi=xs:=by unfold Fx;rw[<-i.length,hw.1,hw.2,i.length];simp
   rw[this] at h3;exact h3
  .refine .inl (.inr ⟨a,vs,rfl,n,hw,λq j=> ?_⟩);have st:=CP.lay (o:= .tup (LX vs lo hi)) b.tp j;exact k _ _ T3 _ (c.trans st) (.tup (.inl Ad) ((Rv i lo hi).stp st b.va)) h3
 .obtain ⟨a,vs,rfl,n,R,S,i⟩:=Dc A;refine .inl (.inl ⟨a,vs,rfl, .inl (.inl n),λq j=> ?_⟩);have st:=CP.lay (o:= .lst (LX vs lo hi)) b.tp j;have L:¬T3 q:=λz=>by obtain⟨o,e,_⟩:=(b.tp q z).mut;rw[j] at e;cases e
  have M:¬mt B m τ q:=λz=>by obtain⟨o,e,_⟩:=b.va.mu q z;rw[j] at e;cases e
  exact k _ _ T3 _ (c.trans st) (.lst Ad L M ((Rv i lo hi).stp st b.va)) h3
end
def BV:AF:=λxs Q=>match xs with | [.tape, .int m] =>(0<m/\m<4611686018427387904)/\∀r,0<=r->r<m->Q (.int r)|_=>False
def Jb:AF:=λxs Q=>match xs with | [.scr ns, .int k] =>(0<=k/\k<=1000)/\Q .tape|_=>False
def cu (g:TG):Prop:=∀v b H Q c,(∀a d,Q a d->c a d)->g v b H Q->g v b H c
def ZO (g:QE):Prop:=∀v b H Q c,(∀a d,Q a d->c a d)->g v b H Q->g v b H c
def SK (own:Nat)(X:Cx)(a:zr)(b:AG):Prop:=∃g,PG X a g/\My X.K g b/\Jc own g/\cu g
def fh (own:Nat)(X:Cx)(a:zy zr)(b:Px):Prop:=∃g,cH X a g/\Ly X.K g b/\Jd own g/\ZO g
section
variable {X:Cx}{pos:Pos}{own:Nat}
def YW {i:Nat}{x:Str}(hN:X.N.Nodup)(hi:X.N[i]? =some x)(hx:Loc X.env.scope x)(hk:i<own)(a:X.fn x=true\/X.env.scope.names.lookup x=some .local:=by first | exact .inl rfl|exact .inr rfl|assumption):SK own X (.Name x pos) (Av i):=
 ⟨_,FW hN hi hx a,N8,NE hk,Il⟩
def Sx:fh own X [] Cc:=⟨_,Iu,Pj,R8,NF⟩
def Gz {e:zr}{es:zy zr}{b:AG}{a:Px}(h1:SK own X e b)(h2:fh own X es a)(hs:(assignEach (e::es) X.env).map (·.2)=assign e X.env::(assignEach es X.env).map (·.2):=by rfl):fh own X (e::es) (Aj b a):=
 let ⟨_,p,s,k,m⟩:=h1;let ⟨_,d,f,g,c⟩:=h2;⟨_,EH p d hs,MV s f,Jt k m g c,Os m c⟩
end
def gA (K:AAB)(own:Nat)(d:AG):TG:=λv a H Q=>∃(B:B9) (T:zu->Prop) (τ:A0) (x:PV) (c:A0->Prop),SR K B T H a τ/\B5 K T (mt B a τ) H v x/\d x τ c/\
 ∀σ' τ',SR K B T H σ' τ'->(∀b,Bs σ' τ' b->Bs a τ b)->c τ'->(σ'.length=a.length/\∀j,own<=j->σ'[j]? =a[j]?)->Q σ' H
def i0 (K:AAB)(a:AT):TT:=λe H Q=>∃(B:B9) (T:zu->Prop) (τ:A0) (c:zq->Prop),SR K B T H e τ/\a τ c/\∀b f d,CP T H f d->c b->Q b d
def hJ (K:AAB)(a:AE):TE:=λc H Q=>∃(B:B9) (T:zu->Prop) (τ:A0) (d:PV->Prop),SR K B T H c τ/\a τ d/\∀v x e b,CP T H e b->B5 K e (mt B c τ) b v x->d x->Q v b
def YU {K:AAB}{own:Nat}{a:AG}:My K (gA K own a) a:=λB T d τ H v x Q b c r h k=>⟨B,T,τ,x,b,c,r,h,λσ' τ' s o q _=>k σ' τ' s o q⟩
def Vm {K:AAB}{own:Nat}{a:AG}:Jc own (gA K own a):=λv d H Q ⟨B,T,τ,x,b,c,r,h,k⟩=>⟨B,T,τ,x,b,c,r,h,λσ' τ' s o q z=>⟨k σ' τ' s o q z,z⟩⟩
def YV {K:AAB}{a:AT}:QC K (i0 K a) a:=λB T d τ H Q b c h k=>⟨B,T,τ,b,c,h,k⟩
def YT {K:AAB}{a:AE}:IU K (hJ K a) a:=λB T d τ H Q b c h k=>⟨B,T,τ,b,c,h,k⟩
section
variable {X:Cx}
def SK.of {own:Nat}{e:zr}{f:AG}(h:SK own X e f):PG X e (gA X.K own f):=by obtain⟨g,p,s,k,m⟩:=h;intro j l a H v u Q I r hw;obtain⟨B,T,τ,x,i,n,t,h,c⟩:=hw;have h1:g v a H λσ' w=>w=H/\∃τ',SR X.K B T H σ' τ'/\(∀b,Bs σ' τ' b->Bs a τ b)/\i τ':=s B T a τ H v x _ i n t h λσ' τ' s o q=>⟨rfl,τ',s,o,q⟩;have h2:=k v a H _ h1;refine p j l a H v u Q I r (m v a H _ _ (λd D q=> ?_) h2);obtain⟨⟨rfl,τ',y,A,C⟩,z⟩:=q;exact c d τ' y A C z
def cz.of {b:zy zr}{a:AT}(h:cz X b a):Yq X b (i0 X.K a):=by obtain⟨t,p,s⟩:=h;intro e f d H Q I hw;obtain⟨B,T,τ,g,i,h,c⟩:=hw;exact p e f d H Q I (s B T d τ H Q g i h c)
def SE.of {e:zr}{a:AE}(h:SE X e a):PE X e (hJ X.K a):=by obtain⟨t,p,s⟩:=h;intro d f b H Q I hw;obtain⟨B,T,τ,g,i,h,c⟩:=hw;exact p d f b H Q I (s B T b τ H Q g i h c)
def D4 {f a:zr}{b:zy zr}{scope:Scope}{own:Nat}{ix:zy Nat}{N:zy Str}{g:AG}{t:AT}{c:AE}(h1:scope.kind= .function)(h2:(scope.names.all λy=> !decide (y.2= .cell))=true)(h3:(scope.names.all λy=> !decide (y.2= .local)||decide (scope.names.lookup y.1=some .local))=true)(h:(scope.names.all λy=> !decide (y.2= .free)||decide (X.env.scope.names.lookup y.1=some .cell))=true)(i:N.length=own+ix.length)(j:QX X (relabel scope X.env) own ix N=true)(d:∀cl C s H ex pn,SK own (blk X (relabel scope X.env) N cl C s H ex pn) f g)(e:∀cl C s H ex pn,cz (blk X (relabel scope X.env) N cl C s H ex pn) b t)(val:∀cl C s H ex pn,SE (blk X (relabel scope X.env) N cl C s H ex pn) a c):Rf X f a b scope own ix N g t c:=
 ⟨gA X.K own g,i0 X.K t,hJ X.K c,Rt h1 h2 h3 h i j Vm (λcl C s H ex pn=>(d cl C s H ex pn).of) (λcl C s H ex pn=>(e cl C s H ex pn).of) (λcl C s H ex pn=>(val cl C s H ex pn).of),YU,YV,YT⟩
end
mutual
def pd:PV->PyData
 | .bl b=> .bool b
 | .int i=> .int i
 | .str x=> .str x
 | .tup xs=> .tuple (Nf xs)
 | .lst xs=> .list (Nf xs)
 | _=> .none
def Nf:zy PV->zy PyData
 | [] => []
 | x::xs=>pd x::Nf xs
end
mutual
def DO:Nat->PV->zq
 | _, .non=>true
 | _, .bl _=>true
 | _, .int _=>true
 | _, .str x=>PyData.strOk x
 | n+1, .tup xs=>HH n xs
 | n+1, .lst xs=>HH n xs
 | _,_=>false
def HH:Nat->zy PV->zq
 | _, [] =>true
 | n,x::xs=>DO n x&&HH n xs
end
mutual
theorem Gk:∀(n:Nat) (x:PV),DO n x=true->(pd x).canLay0=true/\(pd x).depth<=n/\(pd x).hasDict=false
 | n, .non,_=>⟨rfl,AAw _,rfl⟩
 | n, .bl _,_=>⟨rfl,AAw _,rfl⟩
 | n, .int _,_=>⟨rfl,AAw _,rfl⟩
 | n, .str x,h=>⟨by simpa[pd,PyData.canLay0,DO] using h,AAw _,rfl⟩
 | 0, .tup xs,h=>by simp[DO] at h
 | 0, .lst xs,h=>by simp[DO] at h
 | n+1, .tup xs,h=>by obtain⟨a,b,c⟩:=KF n xs (by simpa[DO] using h);exact⟨by simpa[pd,PyData.canLay0] using a,by simpa[pd,PyData.depth] using b,by simpa[pd,PyData.hasDict] using c⟩
 | n+1, .lst xs,h=>by obtain⟨a,b,c⟩:=KF n xs (by simpa[DO] using h);exact⟨by simpa[pd,PyData.canLay0] using a,by simpa[pd,PyData.depth] using b,by simpa[pd,PyData.hasDict] using c⟩
 | n, .tape,h=>by simp[DO] at h
 | n, .scr _,h=>by simp[DO] at h
 | n, .ty _,h=>by simp[DO] at h
 | n, .dct _,h=>by simp[DO] at h
 | n, .dk _,h=>by simp[DO] at h
theorem KF:∀(n:Nat) (xs:zy PV),HH n xs=true->PyData.canLayAll0 (Nf xs)=true/\PyData.depthAll (Nf xs)<=n/\PyData.hasDictAll (Nf xs)=false
 | n, [],_=>⟨rfl,AAw _,rfl⟩
 | n,x::xs,h=>by simp only[HH,AAz] at h;obtain⟨a,b,c⟩:=Gk n x h.1;obtain⟨d,f,e⟩:=KF n xs h.2;exact⟨by simp[Nf,PyData.canLayAll0,a,d],by simp only[Nf,PyData.depthAll];omega,by simp[Nf,PyData.hasDictAll,c,e]⟩
end
section
variable {X:Cx}{zj:zy (zu×Obj)}{σ:L2.St}{H:Hp}{s:zw}
mutual
theorem E5 (I:Inv X zj σ H s){T M:zu->Prop}:∀(n:Nat) {x:PV} {v:V} {u:zx},B5 X.K T M H v x->DO n x=true->RelV v u->∃as,Reads s.heap u (pd x) as
 | _,_,_,_, .non,_,r=>by cases r;exact⟨_, .none⟩
 | _,_,_,_, .bl b,_,r=>by cases r;exact⟨_, .bool b⟩
 | _,_,_,_, .int i,_,r=>by obtain⟨t,rfl⟩:=r;exact⟨_, .int i t⟩
 | _,_,_,_, .str x,_,r=>by obtain⟨t,rfl⟩:=r;exact⟨_, .str x t⟩
 | _,_,_,_, .ty n,h,r=>by simp[DO] at h
 | 0,_,_,_, .tup hq rs,h,r=>by simp[DO] at h
 | 0,_,_,_, .lst hq t m rs,h,r=>by simp[DO] at h
 | n+1,_,_,_, .tup hq rs,h,r=>by cases r;obtain⟨a,rv,⟨o,c,hc,k,hd⟩,_⟩:=I.tuple hq.sq;obtain⟨as,ra⟩:=E4 I n rs (by simpa[DO] using h) rv;exact⟨_, .tuple c hc hd (by simpa using ra)⟩
 | n+1,_,_,_, .lst hq t m rs,h,r=>by cases r;obtain⟨a,rv,⟨o,k,c,hc,_,hd⟩,_⟩:=I.list (EQ.of hq);obtain⟨as,ra⟩:=E4 I n rs (by simpa[DO] using h) rv;exact⟨_, .list c hc hd (by simpa using ra)⟩
 | _,_,_,_, .tape _,h,r=>by simp[DO] at h
 | _,_,_,_, .scr _,h,r=>by simp[DO] at h
 | _,_,_,_, .dct _ _ _,h,r=>by simp[DO] at h
 | _,_,_,_, .dk _ _,h,r=>by simp[DO] at h
theorem E4 (I:Inv X zj σ H s){T M:zu->Prop}:∀(n:Nat) {xs:zy PV} {vs:zy V} {a:zy zx},Ar X.K T M H vs xs->HH n xs=true->An vs a->∃as,ReadsAll s.heap a (Nf xs) as
 | _,_,_,_, .nil,_,r=>by cases r;exact⟨_, .nil⟩
 | n,_,_,_, .cons h t,hk,r=>by
   simp only[HH,AAz] at hk;cases r with
   | cons r b=> obtain⟨as,ra⟩:=E5 I n h hk.1 r;obtain⟨bs,c⟩:=E4 I n t hk.2 b;exact⟨_, .cons ra c⟩
end
end
section
variable {X:Cx}
def fz (x y:PV):zq:=PyData.eqv (pd x) (pd y)
def YI (K:AAB)(neg:zq):R2:=λu v H Q=>∃(T M:zu->Prop) (x y:PV),B5 K T M H u x/\B5 K T M H v y/\DO 30 x=true/\DO 30 y=true/\Q (.bl (if neg then !fz x y else fz x y)) H
def aW {k:Nat}(c:Room k X.A):DF X (compareOp .Eq) (YI X.K false):=by intro l s m H u v n o Q I d rv h;obtain⟨T,M,x,y,e,f,a,b,q⟩:=h;obtain⟨as,ra⟩:=E5 I 30 e a d;obtain⟨bs,g⟩:=E5 I 30 f b rv;obtain⟨i,p,_⟩:=Gk 30 x a;obtain⟨j,b2,_⟩:=Gk 30 y b;exact SeqAt.compareEq_reads ra g i j (by have:=c.un;omega) ⟨.bl _,H,I,rfl,q⟩
def aY {k:Nat}(c:Room k X.A):DF X (compareOp .NotEq) (YI X.K true):=by intro l s m H u v n o Q I d rv h;obtain⟨T,M,x,y,e,f,a,b,q⟩:=h;obtain⟨as,ra⟩:=E5 I 30 e a d;obtain⟨bs,g⟩:=E5 I 30 f b rv;obtain⟨i,p,_⟩:=Gk 30 x a;obtain⟨j,b2,_⟩:=Gk 30 y b;exact SeqAt.compareNe_reads ra g i j (by have:=c.un;omega) ⟨.bl _,H,I,rfl,q⟩
def Ui:GY:=λx y Q=>match WQ x y with | some b=>Q (.bl b)|none=>(DO 30 x=true/\DO 30 y=true)/\Q (.bl (fz x y))
def XW:GY:=λx y Q=>match WQ x y with | some b=>Q (.bl (!b))|none=>(DO 30 x=true/\DO 30 y=true)/\Q (.bl (!fz x y))
def eG (K:AAB):R2:=λx y H Q=>kJ x y H Q\/YI K false x y H Q
def eT (K:AAB):R2:=λx y H Q=>kK x y H Q\/YI K true x y H Q
def G0 {k:Nat}(c:Room k X.A):DF X (compareOp .Eq) (eG X.K)/\Bj X.K (eG X.K) Ui:=by
 refine⟨dz.or (aW c),λT M H u v x y Q d va a rv h k=> ?_⟩;unfold Ui at h;split at h
 .rename_i b e;obtain⟨h1,h2⟩:=Ph a rv e;refine .inl ⟨h1, ?_⟩;rw[h2];exact k _ _ T H (.refl va.tp) (.bl _) h
 .exact .inr ⟨T,M,x,y,a,rv,h.1.1,h.1.2,k _ _ T H (.refl va.tp) (.bl _) h.2⟩
def Pk {k:Nat}(c:Room k X.A):DF X (compareOp .NotEq) (eT X.K)/\Bj X.K (eT X.K) XW:=by
 refine⟨d5.or (aY c),λT M H u v x y Q d va a rv h k=> ?_⟩;unfold XW at h;split at h
 .rename_i b e;obtain⟨h1,h2⟩:=Ph a rv e;refine .inl ⟨h1, ?_⟩;rw[h2];exact k _ _ T H (.refl va.tp) (.bl _) h
 .exact .inr ⟨T,M,x,y,a,rv,h.1.1,h.1.2,k _ _ T H (.refl va.tp) (.bl _) h.2⟩
structure ZV (x:PV):Prop where
 ok:DO 30 x=true
 sh:(pd x).showable=true
 sz:(pd x).shown.length<=sizeLine
end
section
variable {prog:zp}{w:zm}{A:zk}{E:zx->zw->Prop}{s:zw}
def Hr {h:zl}{l:zu}{items:Array zx}(hl:h.IsList l items)(o:Obj):(h.push o).IsList l items:=by obtain⟨a,e,r⟩:=hl;exact⟨a,AAG _ e,r⟩
theorem L9 {it t:zu}{items:Array zx}(f:t≠it):∀(n i:Nat) (s:zw) (Q:zy zx->zw->Prop),s.heap.IsListIter it t i->s.heap.IsList t items->i+n<=items.size-> (∀h',h'.IsListIter it t (i+n)->Heap.SameBut it s.heap h'->Q ((items.toList.drop i).take n) {s with heap:=h'})->wpAny (model prog w) A (draw (.ref it) n) Q E s
 | 0,i,s,Q,hit,_,_,hQ=>by show wpAny _ _ (pure []) Q E s;exact AAC (by simpa using hQ s.heap hit (Heap.SameBut.refl ..))
 | n+1,i,s,Q,hit,ht,Ul,hQ=>by
   have g:i<items.size:=by omega
   show wpAny _ _ (pyNext (.ref it) >>= _) Q E s;refine AAA (wpAny_pyNext_list_item hit ht (x:=items[i]) (by simp[g]) λh b a=> ?_);refine AAA (AAW (L9 f n (i+1) _ _ b (ht.extBut a.extBut f) (by omega) λe c d=>AAC ?_));have hd:items.toList.drop i=items[i] :: items.toList.drop (i+1):=by simp[AC7,g]
   have:=hQ e (by rw[show i+(n+1)=i+1+n by omega];exact c) (a.trans d);rw[hd,List.take_succ_cons] at this;exact this
def Hd {t:zu}{items:Array zx}{Q:zy zx->zw->Prop}(k:A.handled=none)(g:s.heap.IsList t items)(hQ:∀h',Heap.ExtBut s.heap.objs.size s.heap h'->Q items.toList {s with heap:=h'}):wpAny (model prog w) A (unpackItems (.ref t) items.size none) Q E s:=by
 have j:t≠s.heap.objs.size:=by obtain⟨o,l,_⟩:=g;exact AAK (AAF l)
 unfold unpackItems;refine AAA ?_
 .unfold notIterableAtAll;refine AAA (ABN g.typeIs slot_list_iter.lookup ?_);refine AAC ?_;simp only[AAi,AAZ];refine AAA (AAW (AC6 g ?_));refine AAA (AAW (L9 j items.size 0 _ _ ⟨_,AAN _ rfl,rfl,rfl⟩ (Hr g _) (by omega) λh c a=> ?_));have m:List.take items.size (List.drop 0 items.toList)=items.toList:=by rw[List.drop_zero];exact ACV (by simp)
  rw[m];rw[AAD (by simp)];have d:h.IsList t items:=(Hr g _).extBut a.extBut j;refine AAA (AAW (wpAny_pyNext_list_end k c d (by simp) λi f=> ?_));simp only[Option.isSome_none,AAi,AAZ];refine AAC (hQ i λb o hb e=>f b o hb (a.extBut b o hb (AAG _ e)))
def Gb {env:Env}{elts:zy zr}{x1}{pos:Pos}{t:zu}{items:Array zx}{Q:Unit->zw->Prop}(a:A.handled=none)(b:s.heap.IsList t items)(c:(assignEach elts env).length=items.size)(d:(assignEach elts env).findIdx? (·.1)=none)(h:∀h',Heap.ExtBut s.heap.objs.size s.heap h'->wpAny (model prog w) A (assignInOrder ((assignEach elts env).map (·.2)) items.toList) Q E {s with heap:=h'}):wpAny (model prog w) A (assign (.Tuple elts x1 pos) env (.ref t)) Q E s:=by rw[assign_Tuple];refine AAA (ABF ?_);unfold unpack;rw[c,d];exact AAA (AAW (Hd a b h))
end
section
variable {X:Cx}{pos:Pos}
def Qa (K:AAB)(n:Nat)(t:QE):TG:=λv b H Q=>∃a xs,v= .ref a/\(K5 K H a xs\/EQ K H a xs)/\xs.length=n/\t xs b H Q
def Ng {es:zy zr}{k:Nat}{t:QE}{n:Nat}(hc:X.calm=true)(h:cH X es t)(l:(assignEach es X.env).length=n:=by rfl)(m:(assignEach es X.env).findIdx? (·.1)=none:=by rfl):PG X (.Tuple es k pos) (Qa X.K n t):=by
 intro d s f H v u Q I r hw;obtain⟨a,xs,p,c,hl,hw⟩:=hw;subst p;cases r;rcases c with c|c
 .obtain ⟨g,rv,i,w⟩:=I.tuple c;refine assign_Tuple_tuple (I.ok.hd hc) i (by simp[l,<-hl,rv.length]) m λh' hx=> ?_;have j:Inv X d f H {s with heap:=h'}:=I.kept (t':=s.toks) λb o e=>hx b o (AAK (AAF e)) e;exact h d _ f H xs _ Q j (by simpa using rv) hw
 .obtain ⟨g,rv,i,w⟩:=I.list c;refine Gb (I.ok.hd hc) i.isList (by simp[l,<-hl,rv.length]) m λh' hx=> ?_;have j:Inv X d f H {s with heap:=h'}:=I.kept (t':=s.toks) λb o e=>hx b o (AAK (AAF e)) e;exact h d _ f H xs _ Q j (by simpa using rv) hw
def M1 (n:Nat)(r:Px):AG:=λx τ Q=>Q3 x λxs=>xs.length=n/\r xs τ Q
def Wb {K:AAB}{n:Nat}{d:QE}{a:Px}(s:Ly K d a):My K (Qa K n d) (M1 n a):=λB T e τ H v x Q f g r h k=>by
 obtain⟨xs,hx,h⟩:=KH h;rcases hx with rfl|rfl
 .obtain ⟨p,vs,rfl,c,b⟩:=FG r;exact⟨p,vs,rfl, .inl c,by rw[b.length];exact h.1,s B T e τ H vs _ Q f g b h.2 k⟩
 .obtain ⟨p,vs,rfl,c,i,j,b⟩:=Dc r;exact⟨p,vs,rfl, .inr (.inl (.inl c)),by rw[b.length];exact h.1,s B T e τ H vs _ Q f g b h.2 k⟩
def Cs {es:zy zr}{k:Nat}{a:Px}{n:Nat}(hc:X.calm=true)(h:fg X es a)(b:(assignEach es X.env).length=n:=by rfl)(c:(assignEach es X.env).findIdx? (·.1)=none:=by rfl):SG X (.Tuple es k pos) (M1 n a):=
 let ⟨_,p,s⟩:=h;⟨_,Ng hc p b c,Wb s⟩
def VU {own:Nat}{K:AAB}{n:Nat}{t:QE}(h:Jd own t):Jc own (Qa K n t):=λv b H Q ⟨a,xs,e,h1,h2,h3⟩=>⟨a,xs,e,h1,h2,h xs b H Q h3⟩
def Wg {own:Nat}{es:zy zr}{k:Nat}{b:Px}{n:Nat}(hc:X.calm=true)(h:fh own X es b)(c:(assignEach es X.env).length=n:=by rfl)(d:(assignEach es X.env).findIdx? (·.1)=none:=by rfl):SK own X (.Tuple es k pos) (M1 n b):=
 let ⟨_,p,s,f,m⟩:=h;⟨_,Ng hc p c d,Wb s,VU f,λv g H Q i z ⟨a,xs,e,h1,h2,h3⟩=>⟨a,xs,e,h1,h2,m _ _ _ _ _ z h3⟩⟩
def aB:cI X .Mult (λx y H Q=>∃i j,x= .int i/\y= .int j/\MulOk i j/\Q (.int (i*j)) H):=by intro f s g H x y v u Q I a b h;obtain⟨i,j,d,e,c,q⟩:=h;subst d;subst e;obtain⟨t,rfl⟩:=a;obtain⟨t',rfl⟩:=b;exact AutoIntOps.imul_0 (show (Made.int (i*j)).post _ _ from⟨.int _,H,I.tok _,⟨_,rfl⟩,q⟩) (.of_le (FT c.l) (FT c.r) (by decide))
def bQ:cI X .Mult (λx y H Q=>∃i j,x= .int i/\y= .int j/\MulOk i j/\Q (.int (i*j)) H)/\Bj X.K (λx y H Q=>∃i j,x= .int i/\y= .int j/\MulOk i j/\Q (.int (i*j)) H) CG:=⟨aB,λT M H u v x y Q b va a rv h k=>by
 obtain⟨i,j,rfl,rfl,c,q⟩:=Nb h;exact⟨i,j,a.toI,rv.toI,c,k _ _ T H (.refl va.tp) (.int _) q⟩⟩
end
def Kr {i:Int}(a:0<=i)(b:i<2147483647): -(2^64)<i/\i<2^64:=⟨by omega,by omega⟩
def mR (b:zq):(0:Int)<=(if b=true then 1 else 0):=by cases b <;> decide
def jw (b:zq): -(2^64)<(if b=true then (1:Int) else 0)/\(if b=true then (1:Int) else 0)<2^64:=by cases b <;> decide
def Ww {T:zu->Prop}{H:Hp}{p:zu}{d x:Int}(tp:∀a,T a->D3 H a)(t:T p)(c:0<=d)(f:0<=x)(g:x<2147483647):CP T H T (upd H p (.lst [.int d, .int x])) where
 keep:=λb o n e=>by rw[AZ (λz=>n (by subst z;exact t))];exact e
 sub:=λ_ t=>t
 new:=λ_ t=> .inl t
 tp:=λa h=>by
  by_cases z:a=p
  .subst z;exact⟨d,x,Ad,c,f,g⟩
  .obtain ⟨d',i,e,q⟩:=tp a h;exact⟨d',i,by rw[AZ z];exact e,q⟩
def Wv {T:zu->Prop}{H:Hp}{p:zu}{d x:Int}(tp:∀a,T a->D3 H a)(hp:H p=none)(f:0<=d)(g:0<=x)(h:x<2147483647):CP T H (λb=>T b\/b=p) (upd H p (.lst [.int d, .int x])) where
 keep:=λb o n e=>by rw[AZ (Ak e hp)];exact e
 sub:=λ_ t=> .inl t
 new:=λb t=>t.elim .inl λz=> .inr (by subst z;exact hp)
 tp:=λa c=>by
  by_cases z:a=p
  .subst z;exact⟨d,x,Ad,f,g,h⟩
  .rcases c with c|c
   .obtain ⟨d',i,e,q⟩:=tp a c;exact⟨d',i,by rw[AZ z];exact e,q⟩
   .exact absurd c z
def law_sp {K:AAB}{H:Hp}{a:zu}{ns:zy Int}{F:AF}(b:EQ K H a (ns.map V.int))(h:F [.scr ns] λx=>x= .bl true):Ci K 1 F [.ref a] H (λv _=>v= .bl true) λ_ _ _=>False:=by
 refine⟨λ_=>False,λ_=>False, [.scr ns],_,⟨λ_ z=>z.elim,λ_ z=>z.elim⟩,λ_ z=>z.elim, .cons (.scr ?_) .nil,rfl,h,λv x c d _ r e=> ?_⟩
 .rcases b with h|h
  .exact .inl ⟨h,id,id⟩
  .exact .inr λH=> .inr h
 .subst e;cases r;rfl
theorem NA {g:AG}{b:AS}{D:GM}(a:zy PV->A0->Prop)(hd:∀τ,a [] τ->D.nx τ)(hs:∀x r τ (R:A0->Prop),(∀τ,a r τ->R τ)->a (x::r) τ->g x τ λc=>b {D with nx:=R,ct:=R,bk:=D.nx} c):∀xs τ,a xs τ->Cd g b D xs τ
 | [],τ,h=>hd τ h
 | x::r,τ,h=>hs x r τ _ (λd h2=>NA a hd hs r d h2) h
theorem Rr {g:AG}{t:AT}{f:AE}{b:A0}{Q:zy PV->Prop}(c:zy PV->zy PV->Prop)(hd:∀a,c [] a->Q a)(hs:∀x r a (R:zy PV->Prop),(∀a,c r a->R a)->c (x::r) a->g x b λd=>t d λok=>if ok=true then f d λy=>R (a ++ [y]) else R a):∀xs a,c xs a->CQ g t f b Q xs a
 | [],a,h=>hd a h
 | x::r,a,h=>hs x r a _ (λe h2=>Rr c hd hs r e h2) h
def Gr (lo:Int)(n:Nat):rng lo (n+1)= .int lo::rng (lo+1) n:=by
 unfold rng;rw[List.range_succ_eq_map,AAM,ABS];congr 1
 .simp
 .apply ABl;intro k _;simp only[Function.comp];congr 1;omega
def RA (lo:Int)(n:Nat):(rng lo n).length=n:=by simp[rng]
end PL
namespace PL
open PySem L2 PyProof.Rows
def fr (r:Rat):PV:= .tup [.int r.num, .int (r.den:Int)]
def O3 {b:zq}{A B:Prop}(h1:b=true->A)(h2:b=false->B):if b=true then A else B:=by
 cases b with
 | true=>rw[AAE rfl];exact h1 rfl
 | false=>rw[AAD AAO];exact h2 rfl
structure Bd (n:Nat) (r:Rat):Prop where
 top:r.num.natAbs<2^n
 bot:r.den<2^n
def Bd.botI {n:Nat}{r:Rat}(b:Bd n r):(r.den:Int).natAbs<2^n:=by simpa using b.bot
def KL {m n:Nat}(h:m<=n):2^m<=2^n:=ACW (by decide) h
def Bd.mono {m n:Nat}{r:Rat}(b:Bd m r)(h:m<=n):Bd n r:=⟨AAP b.top (KL h),AAP b.bot (KL h)⟩
def Qt {a b m n:Nat}(ha:a<2^m)(hb:b<2^n):a*b<2^(m+n):=by rw[AB4];exact Nat.mul_lt_mul_of_lt_of_le ha (ABx hb) (Nat.pos_of_ne_zero (by intro z;rw[z] at hb;omega)) |> λh=>h
def BM {a b:Int}{m n:Nat}(ha:a.natAbs<2^m)(hb:b.natAbs<2^n):(a*b).natAbs<2^(m+n):=by rw[ABm];exact Qt ha hb
def Rl {a b:Int}{n:Nat}(ha:a.natAbs<2^n)(hb:b.natAbs<2^n):(a+b).natAbs<2^(n+1):=by rw[AC8];omega
def Ye {a b:Int}{n:Nat}(ha:a.natAbs<2^n)(hb:b.natAbs<2^n):(a-b).natAbs<2^(n+1):=by rw[AC8];omega
def Ao {a m n:Nat}(h:a<2^m)(b:m<=n):a<2^n:=AAP h (KL b)
def MulOk.of {a b:Int}{m n:Nat}(ha:a.natAbs<2^m)(hb:b.natAbs<2^n)(c:m<=1000000:=by omega)(d:n<=1000000:=by omega):MulOk a b:=⟨Ao ha c,Ao hb d⟩
def QR (t b:Int):(Rat.divInt t b).num.natAbs<=t.natAbs:=by
 rw[ACX];by_cases h:b=0
 .subst h;simp
 .have e:(b.gcd t:Int) ∣ b.sign*t:=Int.dvd_trans (Int.gcd_dvd_right ..) (Int.dvd_mul_left ..);rw[Int.natAbs_ediv_of_dvd e,ABm];refine AAT (ABT _ _) ?_;rw[Int.natAbs_sign_of_ne_zero h];omega
def QQ (t b:Int)(h:b≠0):(Rat.divInt t b).den<=b.natAbs:=by rw[AC9,AAD h];exact ABT _ _
def Bd.divInt {n:Nat}{t b:Int}(h:b≠0)(a:t.natAbs<2^n)(hb:b.natAbs<2^n):Bd n (Rat.divInt t b):=
 ⟨AAn (QR t b) a,AAn (QQ t b h) hb⟩
def BE (a:Rat):(a.den:Int)≠0:=by have:=a.den_pos;omega
def Fs (a b:Rat):a+b=Rat.divInt (a.num*b.den+b.num*a.den) (a.den*b.den):=by have h:=Rat.divInt_add_divInt a.num b.num (BE a) (BE b);rw[AAq,AAq] at h;exact h
def Kx (a b:Rat):a-b=Rat.divInt (a.num*b.den-b.num*a.den) (a.den*b.den):=by have h:=Rat.divInt_sub_divInt a.num b.num (BE a) (BE b);rw[AAq,AAq] at h;exact h
def F1 (a b:Rat):a*b=Rat.divInt (a.num*b.num) (a.den*b.den):=by have h:=ADb a.num b.num (d₁:=a.den) (d₂:=b.den);rw[AAq,AAq] at h;exact h
def Fy (a b:Rat):a/b=Rat.divInt (a.num*b.den) (a.den*b.num):=by rw[Rat.div_def,Rat.inv_def];have h:=ADb a.num b.den (d₁:=a.den) (d₂:=b.num);rw[AAq] at h;exact h
def DA {a b:Int}(ha:a≠0)(hb:b≠0):a*b≠0:=Int.mul_ne_zero ha hb
def Qu {b:Rat}(h:b≠0):b.num≠0:=λz=>h (Rat.num_eq_zero.mp z)
def Bd.add {m n:Nat}{a b:Rat}(ha:Bd m a)(hb:Bd n b):Bd (m+n+1) (a+b):=by
 rw[Fs];refine .divInt (DA (BE a) (BE b)) (Rl (BM ha.top (by simpa using hb.bot)) ?_) ?_
 .rw [Nat.add_comm m n];exact BM hb.top (by simpa using ha.bot)
 .exact Ao (BM (by simpa using ha.bot) (by simpa using hb.bot)) (by omega)
def Bd.sub {m n:Nat}{a b:Rat}(ha:Bd m a)(hb:Bd n b):Bd (m+n+1) (a-b):=by
 rw[Kx];refine .divInt (DA (BE a) (BE b)) (Ye (BM ha.top (by simpa using hb.bot)) ?_) ?_
 .rw [Nat.add_comm m n];exact BM hb.top (by simpa using ha.bot)
 .exact Ao (BM (by simpa using ha.bot) (by simpa using hb.bot)) (by omega)
def Bd.mul {m n:Nat}{a b:Rat}(ha:Bd m a)(hb:Bd n b):Bd (m+n) (a*b):=by rw[F1];exact .divInt (DA (BE a) (BE b)) (BM ha.top hb.top) (BM (by simpa using ha.bot) (by simpa using hb.bot))
def Bd.div {m n:Nat}{a b:Rat}(h:b≠0)(ha:Bd m a)(hb:Bd n b):Bd (m+n) (a/b):=by rw[Fy];exact .divInt (DA (BE a) (Qu h)) (BM ha.top (by simpa using hb.bot)) (BM (by simpa using ha.bot) hb.top)
def Bd.neg {n:Nat}{a:Rat}(ha:Bd n a):Bd n (-a):=⟨by show (-a.num).natAbs<_;rw[ABU];exact ha.top,ha.bot⟩
def Zr (n:Int):fr (n:Rat)= .tup [.int n, .int 1] :=by simp[fr]
def Bd.int {n:Int}{k:Nat}(h:n.natAbs<2^k)(hk:1<=k):Bd k (n:Rat):=⟨by simpa using h,by simp;omega⟩
def Ut:AS:=
 (Ab (QF (BP (AX XW (aV 1) (aC (.int 0)))) (Oa 0 1 (AB (aV 1) (AB (AX Ti (aV 0) (aV 1)) AM))))
   (Ay (aV 0)))
def EC:AF:=At 2 Ut
def Er (x y:Nat)(Q:PV->Prop)(h:Q (.int (Nat.gcd x y:Nat))):EC [.int x, .int y] Q:=by
 have go:∀y x:Nat,∀D:GM,D.nx [some (.val (.int (Nat.gcd x y:Nat))),some (.val (.int 0))] ->∃n,Rc (BP (AX XW (aV 1) (aC (.int 0)))) (Oa 0 1 (AB (aV 1) (AB (AX Ti (aV 0) (aV 1)) AM))) D n [some (.val (.int x)),some (.val (.int y))] :=by
  intro y;induction y using Nat.strongRecOn with
  | _ y d=>
    intro x D c;by_cases hy:y=0
    .subst hy;refine⟨1, ?_⟩;rw[Nat.gcd_zero_right] at c;exact c
    .obtain ⟨n,a⟩:=d (x % y) (Nat.mod_lt _ (by omega)) y D (by rw[ABn y,<-Nat.gcd_rec,ABn y];exact c);refine⟨n+1, ?_⟩;refine O3 (b:= !decide ((y:Int)=0)) (λ_=> ?_) (λz=> ?_)
     .have e:(x:Int).fmod (y:Int)=((x % y:Nat):Int):=by rw[ACt _ (by omega)];simp
      refine⟨by omega, ?_⟩;rw[<-e] at a;exact a
     .have:(y:Int)=0:=by simpa using z
      omega
 obtain⟨n,a⟩:=go y x {nx:=λτ=>Ay (aV 0) {nx:=λ_=>Q .non,rt:=Q,bk:=λ_=>False,ct:=λ_=>False} τ,rt:=Q,bk:=λ_=>False,ct:=λ_=>False} h;exact⟨n,a⟩
def S8:AS:=
 (Ab (Dh (BP (AX Uj (aV 1) (aC (.int 0)))) (As (Uh IY (aV 2)) (Av 2)) B6)
   (Ay (Ap (AB (AX M9 (aV 0) (aV 2)) (AB (AX M9 (aV 1) (aV 2)) AM)))))
def ZK:AS:=
 (Ab (As (AN 2 EC (AB (K6 Tk (AB (aV 0) AM)) (AB (K6 Tk (AB (aV 1) AM)) AM))) (Av 2))
   S8)
def EN:AF:=At 3 ZK
def V3 (t b:Int)(hb:b≠0):∀s:Int,s=(if b<0 then -(Nat.gcd t.natAbs b.natAbs:Int) else (Nat.gcd t.natAbs b.natAbs:Int))->s≠0/\t.fdiv s=(Rat.divInt t b).num/\b.fdiv s=((Rat.divInt t b).den:Int):=by
 intro s hs;have g:0<Nat.gcd t.natAbs b.natAbs:=ABo _ (by omega);have f:b.gcd t=Nat.gcd t.natAbs b.natAbs:=by rw[ADc,ABn]
 have a:(Nat.gcd t.natAbs b.natAbs:Int) ∣ t:=by rw[<-Int.dvd_natAbs];exact Int.ofNat_dvd.mpr (ADA ..)
 have c:(Nat.gcd t.natAbs b.natAbs:Int) ∣ b:=by rw[<-Int.dvd_natAbs];exact Int.ofNat_dvd.mpr (ABp ..)
 have d:s ∣ t:=by rw[hs];split <;> first | exact Int.neg_dvd.mpr a|exact a
 have e:s ∣ b:=by rw[hs];split <;> first | exact Int.neg_dvd.mpr c|exact c
 refine⟨by rw[hs];split <;> omega, ?_, ?_⟩
 .rw [ADd d,ACX,f,hs];by_cases h:b<0
  .rw [AAE h,ADe h,Int.ediv_neg];have:(-1:Int)*t= -t:=by omega
   rw[this,Int.neg_ediv_of_dvd a]
  .rw [AAD h,ADB (by omega),Int.one_mul]
 .rw [ADd e,AC9,AAD hb,f,hs];by_cases h:b<0
  .rw [AAE h,Int.ediv_neg];have:(b.natAbs:Int)= -b:=by omega
   rw[ABV,this,Int.neg_ediv_of_dvd c]
  .rw [AAD h];have:(b.natAbs:Int)=b:=by omega
   rw[ABV,this]
def Cn (t b:Int)(hb:b≠0)(f:b.natAbs<2^8900)(Q:PV->Prop)(h:Q (fr (Rat.divInt t b))):EN [.int t, .int b] Q:=by
 have g:0<Nat.gcd t.natAbs b.natAbs:=ABo _ (by omega);have gl:Nat.gcd t.natAbs b.natAbs<2^8900:=AAn (ABq (by omega) (ABp ..)) f;obtain⟨a,c,d⟩:=V3 t b hb _ rfl;refine⟨rfl,Er _ _ _ ?_⟩;refine O3 (b:=decide (b<0)) (λz=> ?_) (λz=> ?_)
 .have e:b<0:=AA9 z;rw[AAE e] at a c d;refine⟨⟨a,by rw[ABU];exact gl⟩,⟨a,by rw[ABU];exact gl⟩,(show 2<=sizeLine by decide), ?_⟩;unfold fr at h;rw[<-c,<-d] at h;exact h
 .have e:¬b<0:=ADC z;rw[AAD e] at a c d;refine⟨⟨a,gl⟩,⟨a,gl⟩,(show 2<=sizeLine by decide), ?_⟩;unfold fr at h;rw[<-c,<-d] at h;exact h
def Bd.mt {n:Nat}{a b:Rat}(ha:Bd 4000 a)(hb:Bd 4000 b):MulOk a.num b.den/\MulOk b.num a.den/\MulOk a.den b.den/\MulOk a.num b.num/\MulOk a.den b.num:=
 ⟨.of ha.top (by simpa using hb.bot), .of hb.top (by simpa using ha.bot), .of (by simpa using ha.bot) (by simpa using hb.bot), .of ha.top hb.top, .of (by simpa using ha.bot) hb.top⟩
def Ol {a b:Rat}(ha:Bd 4000 a)(hb:Bd 4000 b):((a.den:Int)*(b.den:Int)).natAbs<2^8900:=Ao (BM (a:=(a.den:Int)) (by simpa using ha.bot) (by simpa using hb.bot)) (by omega)
def ZL:AS:=
 (Ay (AN 2 EN (AB (AX Cj (AX CG (AX Ah (aV 0) (aC (.int 0))) (AX Ah (aV 1) (aC (.int 1)))) (AX CG (AX Ah (aV 1) (aC (.int 0))) (AX Ah (aV 0) (aC (.int 1))))) (AB (AX CG (AX Ah (aV 0) (aC (.int 1))) (AX Ah (aV 1) (aC (.int 1)))) AM))))
def D1:AF:=At 2 ZL
def TK {a b:Rat}(ha:Bd 4000 a)(hb:Bd 4000 b){Q:PV->Prop}(h:Q (fr (a+b))):D1 [fr a,fr b] Q:=by obtain⟨m1,m2,m3,_⟩:=Bd.mt (n:=0) ha hb;refine⟨m1,m2,m3,rfl,Cn _ _ (DA (BE a) (BE b)) (Ol ha hb) _ ?_⟩;rw[Fs] at h;exact h
def XE:AS:=
 (Ay (AN 2 EN (AB (AX Jn (AX CG (AX Ah (aV 0) (aC (.int 0))) (AX Ah (aV 1) (aC (.int 1)))) (AX CG (AX Ah (aV 1) (aC (.int 0))) (AX Ah (aV 0) (aC (.int 1))))) (AB (AX CG (AX Ah (aV 0) (aC (.int 1))) (AX Ah (aV 1) (aC (.int 1)))) AM))))
def DH:AF:=At 2 XE
def P6 {a b:Rat}(ha:Bd 4000 a)(hb:Bd 4000 b){Q:PV->Prop}(h:Q (fr (a-b))):DH [fr a,fr b] Q:=by obtain⟨m1,m2,m3,_⟩:=Bd.mt (n:=0) ha hb;refine⟨m1,m2,m3,rfl,Cn _ _ (DA (BE a) (BE b)) (Ol ha hb) _ ?_⟩;rw[Kx] at h;exact h
def XF:AS:=
 (Ay (AN 2 EN (AB (AX CG (AX Ah (aV 0) (aC (.int 0))) (AX Ah (aV 1) (aC (.int 0)))) (AB (AX CG (AX Ah (aV 0) (aC (.int 1))) (AX Ah (aV 1) (aC (.int 1)))) AM))))
def GW:AF:=At 2 XF
def P7 {a b:Rat}(ha:Bd 4000 a)(hb:Bd 4000 b){Q:PV->Prop}(h:Q (fr (a*b))):GW [fr a,fr b] Q:=by obtain⟨_,_,m3,m4,_⟩:=Bd.mt (n:=0) ha hb;refine⟨m4,m3,rfl,Cn _ _ (DA (BE a) (BE b)) (Ol ha hb) _ ?_⟩;rw[F1] at h;exact h
def ZJ:AS:=
 (Ay (AN 2 EN (AB (AX CG (AX Ah (aV 0) (aC (.int 0))) (AX Ah (aV 1) (aC (.int 1)))) (AB (AX CG (AX Ah (aV 0) (aC (.int 1))) (AX Ah (aV 1) (aC (.int 0)))) AM))))
def Fp:AF:=At 2 ZJ
def TJ {a b:Rat}(c:b≠0)(ha:Bd 4000 a)(hb:Bd 4000 b){Q:PV->Prop}(h:Q (fr (a/b))):Fp [fr a,fr b] Q:=by obtain⟨m1,_,_,_,m5⟩:=Bd.mt (n:=0) ha hb;refine⟨m1,m5,rfl,Cn _ _ (DA (BE a) (Qu c)) (Ao (BM (a:=(a.den:Int)) (by simpa using ha.bot) hb.top) (by omega)) _ ?_⟩;rw[Fy] at h;exact h
def Iz:AS:=
 (Ab (As (AX Jn (aC (.int 1)) (AX CG (aC (.int 2)) (K6 QY (AB (AX Uj (aV 1) (aC (.int 0))) AM)))) (Av 2))
   (Ay (Ap (AB (AX M9 (AX CG (aV 2) (aV 0)) (aV 3)) (AB (AX M9 (AX CG (aV 2) (aV 1)) (aV 3)) AM)))))
def Iy:AS:=
 (Ab (QF (BP (AX Yw (aV 4) (aC (.int 0)))) (Oa 3 4 (AB (aV 4) (AB (AX Ti (aV 3) (aV 4)) AM))))
   Iz)
def OL:AS:=
 (Ab (Oa 3 4 (AB (K6 Tk (AB (aV 0) AM)) (AB (K6 Tk (AB (aV 1) AM)) AM)))
   Iy)
def A4:AF:=At 5 OL
def NP (t b:Int)(hb:b≠0):∀s:Int,s=(if b<0 then -1 else 1)->(s*t).fdiv (Nat.gcd t.natAbs b.natAbs:Int)=(Rat.divInt t b).num/\(s*b).fdiv (Nat.gcd t.natAbs b.natAbs:Int)=((Rat.divInt t b).den:Int):=by
 intro s hs;have c:0<Nat.gcd t.natAbs b.natAbs:=ABo _ (by omega);have a:b.gcd t=Nat.gcd t.natAbs b.natAbs:=by rw[ADc,ABn]
 have es:b.sign=s:=by
  rw[hs];split
  .rename_i h;exact ADe h
  .exact ADB (by omega)
 rw[ACX,AC9,AAD hb,a,es,ABI _ (by omega),ABI _ (by omega)];refine⟨rfl, ?_⟩;rw[ABV];congr 1;rw[hs];split <;> omega
def DQ (t b:Int)(hb:b≠0)(g:t.natAbs<2^900000)(d:b.natAbs<2^8900){Q:PV->Prop}(h:Q (fr (Rat.divInt t b))):A4 [.int t, .int b] Q:=by
 have k:0<Nat.gcd t.natAbs b.natAbs:=ABo _ (by omega);have gl:Nat.gcd t.natAbs b.natAbs<2^8900:=AAn (ABq (by omega) (ABp ..)) d;have sg:(1:Int)-2*(if decide (b<0)=true then 1 else 0)=(if b<0 then -1 else 1):=by by_cases z:b<0 <;> simp[z]
 obtain⟨i,a⟩:=NP t b hb _ sg;have go:∀y x:Nat,∀D:GM,∀u v w,D.nx [u,v,w,some (.val (.int (Nat.gcd x y:Nat))),some (.val (.int 0))] ->∃n,Rc (BP (AX Yw (aV 4) (aC (.int 0)))) (Oa 3 4 (AB (aV 4) (AB (AX Ti (aV 3) (aV 4)) AM))) D n [u,v,w,some (.val (.int x)),some (.val (.int y))] :=by
  intro y;induction y using Nat.strongRecOn with
  | _ y j=>
    intro x D u v w c;by_cases hy:y=0
    .subst hy;refine⟨1, ?_⟩;rw[Nat.gcd_zero_right] at c;exact c
    .obtain ⟨n,e⟩:=j (x % y) (Nat.mod_lt _ (by omega)) y D u v w (by rw[ABn y,<-Nat.gcd_rec,ABn y];exact c);refine⟨n+1, ?_⟩;refine O3 (b:=decide (0<(y:Int))) (λ_=> ?_) (λz=> ?_)
     .have a:(x:Int).fmod (y:Int)=((x % y:Nat):Int):=by rw[ACt _ (by omega)];simp
      refine⟨by omega, ?_⟩;rw[<-a] at e;exact e
     .have:¬(0:Int)<y:=ADC z;omega
 refine go b.natAbs t.natAbs _ (some (.val (.int t))) (some (.val (.int b))) none ?_;have one:(1:Int).natAbs<2^1:=by decide
 have f:((1:Int)-2*(if decide (b<0)=true then 1 else 0)).natAbs<2^1:=by rw[sg];split <;> decide
 refine⟨.of (m:=2) (n:=1) (by decide) (by split <;> decide), .of f g,⟨by omega,gl⟩, .of f d,⟨by omega,gl⟩,(show 2<=sizeLine by decide), ?_⟩;unfold fr at h;rw[<-i,<-a] at h;exact h
def Dn {m:Int}{Q:PV->Prop}(m0:0<m)(m1:m<4611686018427387904)(h:∀r,0<=r->r<m->Q (.int r)):BV [.tape, .int m] Q:=⟨⟨m0,m1⟩,h⟩
mutual
def ni:Nat->PV->zq
 | 0,_=>false
 | _+1, .non=>true
 | _+1, .bl _=>true
 | _+1, .int _=>true
 | n+1, .tup xs=>du n xs&&decide (xs.length<sizeLine)
 | _+1,_=>false
def du:Nat->zy PV->zq
 | _, [] =>true
 | n,x::xs=>ni n x&&du n xs
end
def fH {t:Int}{n:Nat}(h:t.natAbs<2^n)(a:n<=900000:=by omega):t.natAbs<2^900000:=Ao h a
section
variable {a b:Rat}{Q:PV->Prop}
theorem aJ (ha:Bd 4000 a)(hb:Bd 4000 b)(h:Q (fr (a+b))):A4 [.int (a.num*b.den+b.num*a.den), .int (a.den*b.den)] Q:=
 DQ _ _ (DA (BE a) (BE b)) (fH (Rl (n:=8000) (BM ha.top hb.botI) (BM hb.top ha.botI))) (Ol ha hb) (by rw[<-Fs];exact h)
theorem aK (ha:Bd 4000 a)(hb:Bd 4000 b)(h:Q (fr (a*b))):A4 [.int (a.num*b.num), .int (a.den*b.den)] Q:=
 DQ _ _ (DA (BE a) (BE b)) (fH (BM ha.top hb.top)) (Ol ha hb) (by rw[<-F1];exact h)
end
def OH {n:Int}{Q:PV->Prop}(h:Q (fr (n:Rat))):Q (.tup [.int n, .int 1]):=by rw[<-Zr];exact h
def Bd.part {t b:Int}{n:Nat}(h:b≠0)(a:t.natAbs<2^n)(hb:b.natAbs<2^n):Bd n (Rat.divInt t b):= .divInt h a hb
def lz {a b:Nat}(h:Nat.ble a b=true:=by rfl):a<=b:=ABA h
structure Sh (d n:Nat) (x:PV):Prop where
 ok:DO d x=true
 sh:(pd x).showable=true
 sz:(pd x).shown.length<=n
mutual
theorem KC:∀{d e:Nat} (x:PV),d<=e->DO d x=true->DO e x=true
 | _,_, .non,_,_=>by simp[DO]
 | _,_, .bl _,_,_=>by simp[DO]
 | _,_, .int _,_,_=>by simp[DO]
 | _,_, .str x,_,h=>by simpa[DO] using h
 | 0,_, .tup xs,_,h=>by simp[DO] at h
 | 0,_, .lst xs,_,h=>by simp[DO] at h
 | d+1,0, .tup xs,h,_=>by omega
 | d+1,0, .lst xs,h,_=>by omega
 | d+1,e+1, .tup xs,h,k=>by simp only[DO] at k ⊢;exact HI xs (by omega) k
 | d+1,e+1, .lst xs,h,k=>by simp only[DO] at k ⊢;exact HI xs (by omega) k
 | _,_, .tape,_,h=>by simp[DO] at h
 | _,_, .scr _,_,h=>by simp[DO] at h
 | _,_, .dct _,_,h=>by simp[DO] at h
 | _,_, .dk _,_,h=>by simp[DO] at h
 | _,_, .ty _,_,h=>by simp[DO] at h
theorem HI:∀{d e:Nat} (xs:zy PV),d<=e->HH d xs=true->HH e xs=true
 | _,_, [],_,_=>by simp[HH]
 | _,_,x::xs,h,k=>by simp only[HH,AAz] at k ⊢;exact⟨KC x h k.1,HI xs h k.2⟩
end
def Sh.mono {d n e m:Nat}{x:PV}(s:Sh d n x)(h1:d<=e)(h2:n<=m):Sh e m x:=⟨KC x h1 s.ok,s.sh,AAT s.sz h2⟩
def Sh.go {d n:Nat}{x:PV}(s:Sh d n x)(h1:d<=30:=by omega)(h2:n<=16777216:=by omega):ZV x:=⟨KC x h1 s.ok,s.sh,AAT s.sz h2⟩
def Sh.int {i:Int}(h:i.natAbs<2^1900):Sh 0 1902 (.int i):=by
 refine⟨rfl, ?_, ?_⟩
 .show decide (i.natAbs.log2<1920)=true;exact AAV (AB3 (Gj h (by decide)) (by decide))
 .show (Str.ofString (toString i)).length<=1902;rw[PySem.ofString_length];exact AAT (int_text_length_le (k:=1900) (by decide) (Gj h (by decide))) (by decide)
theorem KD {d:Nat}:∀{xs:zy PV},(∀x∈xs,DO d x=true)->HH d xs=true
 | [],_=>rfl
 | x::xs,h=>by simp only[HH,AAz];exact⟨h x (by simp),KD λy hy=>h y (by simp[hy])⟩
theorem RH:∀{xs:zy PV},(∀x∈xs,(pd x).showable=true)->PyData.showableAll (Nf xs)=true
 | [],_=>rfl
 | x::xs,h=>by simp only[Nf,PyData.showableAll,AAz];exact⟨h x (by simp),RH λy hy=>h y (by simp[hy])⟩
theorem OE {n:Nat}:∀{xs:zy PV},(∀x∈xs,(pd x).shown.length<=n)->((PyData.shownAll (Nf xs)).map (·.length)).sum<=xs.length*n
 | [],_=>by simp[Nf,PyData.shownAll]
 | x::xs,h=>by simp only[Nf,PyData.shownAll,AAM,AAh,AAk];have h1:=h x (by simp);have h2:=OE (n:=n) (xs:=xs) λy hy=>h y (by simp[hy]);rw[AB5];omega
theorem Ea:∀(xs:zy PV),(PyData.shownAll (Nf xs)).length=xs.length
 | [] =>rfl
 | x::xs=>by simp[Nf,PyData.shownAll,Ea xs]
def Sh.tup {d n:Nat}{xs:zy PV}(h:∀x∈xs,Sh d n x):Sh (d+1) (xs.length*(n+2)+3) (.tup xs):=by refine⟨by simp only[DO];exact KD λx hx=>(h x hx).ok,by simp only[pd,PyData.showable];exact RH λx hx=>(h x hx).sh, ?_⟩;have h1:=OE (n:=n) (xs:=xs) λx hx=>(h x hx).sz;have h2:=tupleText_len_le (PyData.shownAll (Nf xs));rw[Ea] at h2;simp only[pd,PyData.shown];rw[Nat.mul_add];omega
def Sh.lst {d n:Nat}{xs:zy PV}(h:∀x∈xs,Sh d n x):Sh (d+1) (xs.length*(n+2)+3) (.lst xs):=by refine⟨by simp only[DO];exact KD λx hx=>(h x hx).ok,by simp only[pd,PyData.showable];exact RH λx hx=>(h x hx).sh, ?_⟩;have h1:=OE (n:=n) (xs:=xs) λx hx=>(h x hx).sz;have h2:=listText_len_le (PyData.shownAll (Nf xs));rw[Ea] at h2;simp only[pd,PyData.shown];rw[Nat.mul_add];omega
def iW {c:Type}{P:c->Prop}{a b:c}(ha:P a)(hb:P b):∀x∈ [a,b],P x:=λx hx=>by
 simp only[AAH,AA0,ABB] at hx;rcases hx with rfl|rfl
 .exact ha
 .exact hb
def iX {d:Type}{P:d->Prop}{a b c:d}(ha:P a)(hb:P b)(hc:P c):∀x∈ [a,b,c],P x:=λx hx=>by
 simp only[AAH,AA0,ABB] at hx;rcases hx with rfl|rfl|rfl
 .exact ha
 .exact hb
 .exact hc
def dm {e:Type}{P:e->Prop}{a b c d:e}(ha:P a)(hb:P b)(hc:P c)(hd:P d):∀x∈ [a,b,c,d],P x:=λx hx=>by
 simp only[AAH,AA0,ABB] at hx;rcases hx with rfl|rfl|rfl|rfl
 .exact ha
 .exact hb
 .exact hc
 .exact hd
def Sh.fr {r:Rat}(h:Bd 1900 r):Sh 1 4000 (fr r):=(Sh.tup (iW (Sh.int h.top) (Sh.int h.botI))).mono (by omega) lz
def di {a b:Rat}:decide (a.num*(b.den:Int)<b.num*(a.den:Int))=decide (a<b):=by rw[AB6];exact(Rat.lt_iff a b).symm
def Us:AS:=
 (Ay (AX Uj (AX CG (AX Ah (aV 0) (aC (.int 0))) (AX Ah (aV 1) (aC (.int 1)))) (AX CG (AX Ah (aV 1) (aC (.int 0))) (AX Ah (aV 0) (aC (.int 1))))))
def CY:AF:=At 2 Us
section
variable {a b:Rat}{Q:PV->Prop}
def Py:AS:=
 (Ay (AN 2 A4 (AB (AX Cj (AX CG (AX Ah (aV 0) (aC (.int 0))) (AX Ah (aV 1) (aC (.int 1)))) (AX CG (AX Ah (aV 1) (aC (.int 0))) (AX Ah (aV 0) (aC (.int 1))))) (AB (AX CG (AX Ah (aV 0) (aC (.int 1))) (AX Ah (aV 1) (aC (.int 1)))) AM))))
def A9:AF:=At 2 Py
theorem LR (ha:Bd 4000 a)(hb:Bd 4000 b)(h:Q (fr (a+b))):A9 [fr a,fr b] Q:=by obtain⟨m1,m2,m3,_⟩:=Bd.mt (n:=0) ha hb;exact⟨m1,m2,m3,rfl,aJ ha hb h⟩
def I0:AS:=
 (Ay (AN 2 A4 (AB (AX CG (AX Ah (aV 0) (aC (.int 0))) (AX Ah (aV 1) (aC (.int 0)))) (AB (AX CG (AX Ah (aV 0) (aC (.int 1))) (AX Ah (aV 1) (aC (.int 1)))) AM))))
def Bm:AF:=At 2 I0
theorem GV (ha:Bd 4000 a)(hb:Bd 4000 b)(h:Q (fr (a*b))):Bm [fr a,fr b] Q:=by obtain⟨m1,m2,m3,m4,_⟩:=Bd.mt (n:=0) ha hb;exact⟨m4,m3,rfl,aK ha hb h⟩
end
def g9 {t b:Int}(a:0<t)(hb:0<b):0<Rat.divInt t b:=by
 rw[Rat.lt_iff];have h1:=ACX t b;show (0:Int)*_<_*1;rw[Int.zero_mul,ABc,h1,ADB hb,Int.one_mul];have g:0<(b.gcd t:Int):=by have:=Int.gcd_pos_of_ne_zero_left t (show b≠0 by omega);omega
 exact Int.ediv_pos_of_pos_of_dvd a (by omega) (Int.gcd_dvd_right ..)
def GI {t b:Int}{Q:PV->Prop}(k:Nat)(hb:b≠0)(a:t.natAbs<2^k)(c:b.natAbs<2^k)(hk:k<=2000)(h:Bd k (Rat.divInt t b)->Q (fr (Rat.divInt t b))):A4 [.int t, .int b] Q:=
 DQ t b hb (Ao a (by omega)) (Ao c (by omega)) (h (.part hb a c))
def Mul (D N:Nat)(a:Rat):Prop:=0<D/\∃k:Int,a=Rat.divInt k D/\k.natAbs<=N
def Mul.bd {D N n:Nat}{a:Rat}(h:Mul D N a)(h1:N<2^n)(h2:D<2^n):Bd n a:=by obtain⟨b,k,rfl,hk⟩:=h;exact .divInt (by omega) (by omega) (by simpa using h2)
def Mul.part {t b:Int}{c:Nat}(hb:0<b)(hc:0<c){N:Nat}(h:(t*c).natAbs<=N):Mul (b.toNat*c) N (Rat.divInt t b):=by
 refine⟨Nat.mul_pos (by omega) hc,t*c, ?_,h⟩;have e:((b.toNat*c:Nat):Int)=b*c:=by rw[ACY];congr 1;omega
 rw[e,(Rat.divInt_eq_divInt_iff (by omega) (DA (by omega) (by omega)))];rw[ADD b,Int.mul_assoc]
def Mul.int {n:Int}{D N:Nat}(a:0<D)(h:(n*D).natAbs<=N):Mul D N (n:Rat):=by
 have e:(n:Rat)=Rat.divInt n 1:=by rw[<-AAq (n:Rat)];simp
 rw[e];have:=Mul.part (t:=n) (b:=1) (c:=D) (by decide) a h;simpa using this
def JA:AS:=
 (Ab (Dh (BP (AX Uj (aV 1) (aC (.int 3)))) (Ay (Ap (AB (AX Cj (aC (.int 1)) (AN 2 BV (AB (aV 0) (AB (aC (.int 5)) AM)))) (AB (aC (.int 1)) AM)))) B6)
   (Ay (AN 2 A4 (AB (AX Cj (aC (.int 1)) (AN 2 BV (AB (aV 0) (AB (aC (.int 8)) AM)))) (AB (AX Jn (aV 1) (aC (.int 1))) AM)))))
def OM:AS:=
 (Ab (As (AN 2 BV (AB (aV 0) (AB (aC (.int 5)) AM))) (Av 1))
   JA)
def Bn:AF:=At 2 OM
def IR {Q:PV->Prop}(h:∀a,Bd 8 a->0<a->Mul 6 48 a->Q (fr a)):Bn [.tape] Q:=by
 refine⟨rfl,Dn (by decide) (by decide) λw g i=> ?_⟩;refine O3 (b:=decide (w<3)) (λ_=> ?_) (λz=> ?_)
 .refine ⟨rfl,Dn (by decide) (by decide) λr d f=>⟨lz, ?_⟩⟩;exact OH (h _ (.int (by omega) (by decide)) (by exact_mod_cast (by omega:(0:Int)<1+r)) (.int (by decide) (by omega)))
 .have j:¬w<3:=ADC z;have hw:w-1=2\/w-1=3:=by omega
  refine⟨rfl,Dn (by decide) (by decide) λr d f=>⟨rfl, ?_⟩⟩;refine GI 8 (by omega) (by omega) (by omega) (by decide) λb=>h _ b (g9 (by omega) (by omega)) ?_;rcases hw with e|e
  .rw [e];exact Mul.part (t:=1+r) (b:=2) (c:=3) (by decide) (by decide) (by omega)
  .rw [e];exact Mul.part (t:=1+r) (b:=3) (c:=2) (by decide) (by decide) (by omega)
def Ja {Q:PV->Prop}(h:∀a,Bd 8 a->0<a->Q (fr a)):Bn [.tape] Q:=IR λa b p _=>h a b p
def Hv:AS:=
 (Ab (Dh (BP (AX Ui (aV 1) (aC (.int 6)))) (Ay (AN 2 A4 (AB (AX Jn (AN 2 BV (AB (aV 0) (AB (aC (.int 25)) AM))) (aC (.int 6))) (AB (aC (.int 2)) AM)))) B6)
   (Ay (AN 2 A4 (AB (AX Jn (AN 2 BV (AB (aV 0) (AB (aC (.int 31)) AM))) (aC (.int 9))) (AB (aC (.int 3)) AM)))))
def Hu:AS:=
 (Ab (Dh (BP (AX Uj (aV 1) (aC (.int 6)))) (Ay (Ap (AB (AX Jn (AN 2 BV (AB (aV 0) (AB (aC (.int 10)) AM))) (aC (.int 3))) (AB (aC (.int 1)) AM)))) B6)
   Hv)
def Ma:AS:=
 (Ab (As (AN 2 BV (AB (aV 0) (AB (aC (.int 8)) AM))) (Av 1))
   Hu)
def BJ:AF:=At 2 Ma
def IQ {Q:PV->Prop}(h:∀a,Mul 6 60 a->Q (fr a)):BJ [.tape] Q:=by
 refine⟨rfl,Dn (by decide) (by decide) λw f g=> ?_⟩;refine O3 (b:=decide (w<6)) (λ_=> ?_) (λz=> ?_)
 .refine ⟨rfl,Dn (by decide) (by decide) λr d e=>⟨lz, ?_⟩⟩;exact OH (h _ (.int (by decide) (by omega)))
 refine O3 (b:=decide (w=6)) (λ_=> ?_) (λz=> ?_)
 .exact ⟨rfl,Dn (by decide) (by decide) λr d e=>⟨rfl,GI 8 (by omega) (by omega) (by omega) (by decide) λb=>h _ (Mul.part (t:=r-6) (b:=2) (c:=3) (by decide) (by decide) (by omega))⟩⟩
 .exact ⟨rfl,Dn (by decide) (by decide) λr d e=>⟨rfl,GI 8 (by omega) (by omega) (by omega) (by decide) λb=>h _ (Mul.part (t:=r-9) (b:=3) (c:=2) (by decide) (by decide) (by omega))⟩⟩
abbrev C4:=Rat×Rat×Rat×Rat
def cor (c:C4):PV:= .tup [fr c.1,fr c.2.1,fr c.2.2.1,fr c.2.2.2]
def corL (c:C4):PV:= .lst [fr c.1,fr c.2.1,fr c.2.2.1,fr c.2.2.2]
def WC (cs:zy C4):PV:= .tup (cs.map cor)
structure K3 (B:Nat) (c:C4):Prop where
 m:Bd B c.1
 x:Bd B c.2.1
 y:Bd B c.2.2.1
 z:Bd B c.2.2.2
def K3.mono {B a:Nat}{c:C4}(h:K3 B c)(k:B<=a):K3 a c:=⟨h.m.mono k,h.x.mono k,h.y.mono k,h.z.mono k⟩
def XS (cs:zy C4):Prop:=cs.Pairwise λa b=>a.1<b.1
structure U1 (n B:Nat) (cs:List C4):Prop where
 two:2<=cs.length
 few:cs.length<=n
 bd:∀c∈cs,K3 B c
 ris:XS cs
def Hi (cs:zy C4)(v:PV):Prop:=∃f:C4->PV,(f=cor\/f=corL)/\(v= .tup (cs.map f)\/v= .lst (cs.map f))
def Hi.self (cs:zy C4):Hi cs (WC cs):=⟨cor, .inl rfl, .inl rfl⟩
def Hi.lists (cs:zy C4):Hi cs (.lst (cs.map corL)):=⟨corL, .inr rfl, .inr rfl⟩
theorem M4 {i m:Type}{g:AG}{j:AE}{d:A0}{Q:zy PV->Prop}(f:i->PV)(k:m->PV)(e:i->m)(P:i->Prop)(hs:∀a,P a->∀R:PV->Prop,R (k (e a))->g (f a) d λl=>j l R):∀(xs:zy i) (c:zy PV),(∀a∈xs,P a)->Q (c++(xs.map e).map k)->CQ g IX j d Q (xs.map f) c
 | [],c,_,h=>(by simpa using h:Q c)
 | a::xs,c,hp,h=>by refine hs a (hp a (by simp)) (λy=>CQ g IX j d Q (xs.map f) (c ++ [y])) (M4 f k e P hs xs _ (λb hb=>hp b (by simp[hb])) ?_);simpa using h
def Sh.cor {c:C4}(h:K3 1900 c):Sh 2 17000 (cor c):=(Sh.tup (dm (Sh.fr h.m) (Sh.fr h.x) (Sh.fr h.y) (Sh.fr h.z))).mono (by decide) lz
def Sh.corL {c:C4}(h:K3 1900 c):Sh 2 17000 (corL c):=(Sh.lst (dm (Sh.fr h.m) (Sh.fr h.x) (Sh.fr h.y) (Sh.fr h.z))).mono (by decide) lz
abbrev T3:=Rat×Rat×Rat
def inter (a b:C4)(m:Rat):T3:=(a.2.1+(m-a.1)/(b.1-a.1)*(b.2.1-a.2.1),a.2.2.1+(m-a.1)/(b.1-a.1)*(b.2.2.1-a.2.2.1),a.2.2.2+(m-a.1)/(b.1-a.1)*(b.2.2.2-a.2.2.2))
def spotG:C4->zy C4->Rat->zt T3
 | _, [],_=>none
 | a,b::r,m=>if b.1<m then spotG b r m else some (inter a b m)
def spotC:zy C4->Rat->zt T3
 | [],_=>none
 | a::r,m=>if m<a.1 then none else spotG a r m
def ZF (t:T3):PV:= .tup [fr t.1,fr t.2.1,fr t.2.2]
structure Ga (B:Nat) (t:T3):Prop where
 x:Bd B t.1
 y:Bd B t.2.1
 z:Bd B t.2.2
def Ga.mono {B a:Nat}{t:T3}(h:Ga B t)(k:B<=a):Ga a t:=⟨h.x.mono k,h.y.mono k,h.z.mono k⟩
section
variable {B M:Nat}{a b:C4}{m:Rat}
theorem bh {x y:Rat}(h:x<y):y-x≠0:=by grind
theorem Bd.share (ha:K3 B a)(hb:K3 B b)(c:Bd M m)(h:a.1<b.1):Bd (M+B+1+(B+B+1)) ((m-a.1)/(b.1-a.1)):=(c.sub ha.m).div (bh h) (hb.m.sub ha.m)
theorem Ga.inter (ha:K3 B a)(hb:K3 B b)(c:Bd M m)(h:a.1<b.1):Ga (M+6*B+10) (inter a b m):=by have s:=Bd.share ha hb c h;exact⟨(ha.x.add (s.mul (hb.x.sub ha.x))).mono (by omega),(ha.y.add (s.mul (hb.y.sub ha.y))).mono (by omega),(ha.z.add (s.mul (hb.z.sub ha.z))).mono (by omega)⟩
end
theorem Ga.spotG {B M:Nat}{m:Rat}(d:Bd M m):∀{a:C4} {r:zy C4},XS (a::r)->(∀c∈a::r,K3 B c)->∀t,spotG a r m=some t->Ga (M+6*B+10) t
 | a, [],_,_,t,e=>by cases e
 | a,b::r,hr,hb,t,e=>by
   unfold PL.spotG at e;split at e
   .exact Ga.spotG d (AAf.mp hr).2 (λc hc=>hb c (by simp[hc])) t e
   .cases e;exact .inter (hb a (by simp)) (hb b (by simp)) d ((AAf.mp hr).1 b (by simp))
def Ga.spotC {B M:Nat}{m:Rat}{cs:zy C4}(b:Bd M m)(d:XS cs)(hb:∀c∈cs,K3 B c):∀t,spotC cs m=some t->Ga (M+6*B+10) t:=λt e=>by
 cases cs with
 | nil=>cases e
 | cons a r=>
   simp only[PL.spotC] at e;split at e
   .cases e
   .exact Ga.spotG b d hb t e
def R7 {f:C4->PV}{cs:zy C4}{i:Int}{k:Nat}{c:C4}{Q:PV->Prop}(hk:i=(k:Int))(e:cs[k]? =some c)(h:Q (f c)):dw (M3 (cs.map f) i) Q:=by have q:M3 (cs.map f) ((k:Nat):Int)=some (f c):=DI (by rw[AAg,e] <;> rfl);rw[hk,q];exact h
def YJ {cs:zy C4}(h:XS cs){k:Nat}{a b:C4}(c:cs[k]? =some a)(d:cs[k+1]? =some b):a.1<b.1:=by have h1:=(AAm.mp c);have h2:=(AAm.mp d);obtain⟨e,rfl⟩:=h1;obtain⟨f,rfl⟩:=h2;exact List.pairwise_iff_getElem.mp h k (k+1) e f (by omega)
def ZV.t3 {t:T3}(h:Ga 1900 t):ZV (ZF t):=(Sh.tup (iX (Sh.fr h.x) (Sh.fr h.y) (Sh.fr h.z))).go (by decide) lz
def sp (cs:zy C4)(m:Rat):C4:=(m,(spotC cs m).getD (0,0,0))
def c9 (f t:Rat)(c:C4):zq:=decide (f<c.1)&&decide (c.1<t)
def UA {a b l:C4}{r:zy C4}(e:(a::b::r).getLast?=some l):(b::r).getLast?=some l:=by simpa[List.getLast?_cons_cons] using e
def mx (b a:Rat):Rat:=if b<a then a else b
def mn (e l:Rat):Rat:=if e<l then e else l
theorem DU {i:Type}{g:AG}{j:AT}{l:AE}{d:A0}{Q:zy PV->Prop}(f k:i->PV)(p:i->zq)(P:i->Prop)(hs:∀a,P a->∀(R:PV->Prop) (N:Prop),(p a=true->R (k a))->(p a=false->N)->g (f a) d λe=>j e λok=>if ok=true then l e R else N):∀(xs:zy i) (c:zy PV),(∀a∈xs,P a)->Q (c++(xs.filter p).map k)->CQ g j l d Q (xs.map f) c
 | [],c,_,h=>(by simpa using h:Q c)
 | a::xs,c,hp,h=>by
   refine hs a (hp a (by simp)) (λy=>CQ g j l d Q (xs.map f) (c ++ [y])) _ (λz=> ?_) (λz=> ?_)
   .exact DU f k p P hs xs _ (λb hb=>hp b (by simp[hb])) (by simpa[ABW,z] using h)
   .exact DU f k p P hs xs _ (λb hb=>hp b (by simp[hb])) (by simpa[ABW,z] using h)
def both {f t:Rat}{c:C4}{b:(zq->Prop)->Prop}{A:Prop}{N:Prop}(h1:c9 f t c=true->A)(h2:c9 f t c=false->N):if decide (f<c.1)=true then (if decide (c.1<t)=true then A else N) else N:=by unfold c9 at h1 h2;refine O3 (λz=>O3 (λa=>h1 (by rw[z,a];rfl)) (λa=>h2 (by rw[z,a];rfl))) (λz=>h2 (by rw[z];rfl))
def Bd.mx {n:Nat}{a b:Rat}(ha:Bd n a)(hb:Bd n b):Bd n (mx a b):=by unfold PL.mx;split <;> assumption
def Bd.mn {n:Nat}{a b:Rat}(ha:Bd n a)(hb:Bd n b):Bd n (mn a b):=by unfold PL.mn;split <;> assumption
section
variable {a b:AS}{ta tb:AE}{tt tu:AT}{g:AG}{gs:Px}{nx bk ct:A0->Prop}{rt:PV->Prop}{τ:A0}{Q:PV->Prop}{QB:zq->Prop}{QL:zy PV->Prop}{QT:A0->Prop}{r:AA}{ai:AI}{F:AF}{n i j:Nat}{x y z:PV}{xs ys:zy PV}
def eZ {f:GY}(e:OI τ i=some (.val x))(h:ta τ λy=>f x y λz=>nx (τ.set i (some (.val z)))):TM i f ta ⟨nx,rt,bk,ct⟩ τ:=by unfold TM;rw[e];exact h
def en (e:OI τ i=some (.own xs))(h:QL xs):IW i τ QL:=by unfold IW;rw[e];exact h
def nk (e:OI τ i=some (.val x))(h:Q x):aV i τ Q:=by unfold aV;rw[e];exact h
def kD (x:PV)(i:Int):zt PV:=match x with | .tup xs=>M3 xs i | .lst xs=>M3 xs i|_=>none
def ij {i:Int}(e:kD x i=some z)(h:Q z):Ah x (.int i) Q:=by cases x <;> first | (cases e;done)|(show dw (M3 _ i) Q;rw[show M3 _ i=some z from e];exact h)
def eh {p:Prop}[Decidable p]{A B:Prop}(h1:p->A)(h2:¬p->B):if decide p=true then A else B:=by
 by_cases h:p
 .rw [AAE (AAV h)];exact h1 h
 .rw [AAD (by simp[h])];exact h2 h
def em {p:Prop}[Decidable p]{A B:Prop}(h1:¬p->A)(h2:p->B):if (!decide p)=true then A else B:=by
 by_cases h:p
 .rw [AAD (by simp[h])];exact h2 h
 .rw [AAE (by simp[h])];exact h1 h
end
def mS:Bd 1 (1:Rat):=⟨by decide,by decide⟩
section
variable {g:AG}{b:AS}{nx bk ct:A0->Prop}{rt:PV->Prop}
def R4 (P:Nat->A0->Prop){lo:Int}{n:Nat}(hd:∀τ,P n τ->nx τ)(hs:∀i,i<n->∀τ (R:A0->Prop),(∀τ,P (i+1) τ->R τ)->P i τ->g (.int (lo+i)) τ λc=>b ⟨R,rt,nx,R⟩ c){τ:A0}(f:P 0 τ):Cd g b ⟨nx,rt,bk,ct⟩ (rng lo n) τ:=by
 refine NA (λr τ=>∃i,i<=n/\r=rng (lo+i) (n-i)/\P i τ) ?_ ?_ _ _ ⟨0,AAw _,by simp,f⟩
 .rintro τ ⟨i,hi,a,hp⟩;have:n-i=0:=by
   cases e:n-i with
   | zero=>rfl
   | succ k=>rw[e,Gr] at a;cases a
  have:i=n:=by omega
  subst this;exact hd τ hp
 .rintro x r τ R h ⟨i,hi,a,hp⟩;cases e:n-i with
  | zero=>rw[e] at a;cases a
  | succ k=> rw[e,Gr] at a;cases a;exact hs i (by omega) τ R (λd h2=>h d ⟨i+1,by omega,by rw[show n-(i+1)=k by omega,show lo+((i+1:Nat):Int)=lo+i+1 by omega],h2⟩) hp
def CC {d:Type}(f:d->PV)(P:zy d->zy d->A0->Prop){cs:zy d}(hd:∀τ,P cs [] τ->nx τ)(hs:∀a c vs,a++c::vs=cs->∀τ (R:A0->Prop),(∀τ,P (a ++ [c]) vs τ->R τ)->P a (c::vs) τ->g (f c) τ λi=>b ⟨R,rt,nx,R⟩ i){τ:A0}(k:P [] cs τ):Cd g b ⟨nx,rt,bk,ct⟩ (cs.map f) τ:=by
 refine NA (λr τ=>∃a vs,a++vs=cs/\r=vs.map f/\P a vs τ) ?_ ?_ _ _ ⟨[],cs,rfl,rfl,k⟩
 .rintro τ ⟨a,vs,e,h,hp⟩;cases vs with
  | nil=>rw[ACv] at e;subst e;exact hd τ hp
  | cons v vs=>cases h
 .rintro x r τ R l ⟨a,vs,e,h,hp⟩;cases vs with
  | nil=>cases h
  | cons c vs=> cases h;exact hs a c vs e τ R (λj h2=>l j ⟨a ++ [c],vs,by simpa using e,rfl,h2⟩) hp
end
section
variable {g:AG}{tt:AT}{te:AE}{τ0:A0}{Q:zy PV->Prop}
def Rs (P:Nat->zy PV->Prop){lo:Int}{n:Nat}(hd:∀a,P n a->Q a)(hs:∀i,i<n->∀a (R:zy PV->Prop),(∀a,P (i+1) a->R a)->P i a->g (.int (lo+i)) τ0 λc=>tt c λok=>if ok=true then te c λy=>R (a ++ [y]) else R a)(f:P 0 []):CQ g tt te τ0 Q (rng lo n) [] :=by
 refine Rr (λr a=>∃i,i<=n/\r=rng (lo+i) (n-i)/\P i a) ?_ ?_ _ _ ⟨0,AAw _,by simp,f⟩
 .rintro a ⟨i,hi,b,hp⟩;have:n-i=0:=by
   cases e:n-i with
   | zero=>rfl
   | succ k=>rw[e,Gr] at b;cases b
  have:i=n:=by omega
  subst this;exact hd a hp
 .rintro x r a R h ⟨i,hi,b,hp⟩;cases e:n-i with
  | zero=>rw[e] at b;cases b
  | succ k=> rw[e,Gr] at b;cases b;exact hs i (by omega) a R (λd h2=>h d ⟨i+1,by omega,by rw[show n-(i+1)=k by omega,show lo+((i+1:Nat):Int)=lo+i+1 by omega],h2⟩) hp
end
end PL
namespace PL
section
variable {p:Prop}[Decidable p]{A B:Prop}
def bI (h:p)(a:A):if decide p=true then A else B:=by rw[AAE (AAV h)];exact a
def bH (h:¬p)(a:B):if decide p=true then A else B:=by rw[AAD (by simp[h])];exact a
end
end PL
namespace PL
open PySem PySem.Spec PyProof.Rows L2
def Kc (K:AAB)(mg:Str->zt zx)(x:Str)(v:PV):Prop:=∃(u:zx) (V:V),mg x=some u/\RelV V u/\∀T M H,B5 K T M H V v
section
variable {K:AAB}{T M:zu->Prop}{H:Hp}
def BG {i:Int}{t:Tok}:∃V,RelV V (.int i t)/\∀T M H,B5 K T M H V (.int i):=⟨.int i,⟨t,rfl⟩,λ_ _ _=> .int i⟩
inductive KR (K:AAB):List Value->List PV->Prop where
 | nil:KR K [] []
 | cons {u:Value} {x:PV} {us:List Value} {xs:List PV} (h:∃V,RelV V u/\∀T M H,B5 K T M H V x) (t:KR K us xs):KR K (u::us) (x::xs)
theorem KR.reps:∀{a:zy zx} {xs:zy PV},KR K a xs->∃vs,An vs a/\∀T M H,Ar K T M H vs xs
 | _,_, .nil=>⟨[], .nil,λ_ _ _=> .nil⟩
 | _,_, .cons ⟨V,r,h⟩ t=>by obtain⟨vs,b,h2⟩:=KR.reps t;exact⟨V::vs, .cons r b,λT M H=> .cons (h T M H) (h2 T M H)⟩
def KR.length:∀{a:zy zx} {xs:zy PV},KR K a xs->a.length=xs.length
 | _,_, .nil=>rfl
 | _,_, .cons _ t=>by simp[t.length]
def Iv {a:zu}{b:zy zx}{xs:zy PV}{n:Nat}{c:zt zu}{sl:Array (zt zx)}(hl:K.lookup a=some ⟨.type "tuple",c, .seq b.toArray n,sl⟩)(h:KR K b xs)(hs:xs.length<=sizeLine:=by decide):∃V,RelV V (.ref a)/\∀T M H,B5 K T M H V (.tup xs):=by obtain⟨vs,r,q⟩:=h.reps;refine⟨.ref a,rfl,λT M H=> .tup (vs:=vs) (.inr ⟨_,b.toArray,n,hl,rfl,rfl, ?_,by simpa using r⟩) (q T M H)⟩;rw[AAR,h.length];exact hs
end
def SU {K:AAB}{mg:Str->zt zx}{x:Str}{u:zx}{v:PV}(a:mg x=some u)(h:∃V,RelV V u/\∀T M H,B5 K T M H V v):Kc K mg x v:=let ⟨V,r,q⟩:=h;⟨u,V,a,r,q⟩
section
variable {X:Cx}
def A2 {x:Str}{v:PV}{pos:Pos}(c:Kc X.K X.mg x v)(a:Gl X x)(hd:(x==("__debug__" :Str))=false:=by decide):SE X (.Name x pos) (aC v):=by obtain⟨u,V,b,r,h⟩:=c;exact⟨_,X1 a b r hd,Pi h⟩
end
end PL
namespace PL
open PySem L2 PyProof.Rows
class Wp (P:Prop) (P':outParam Prop):Prop where
 go:P'->P
class Ug (P:Prop) (C P':outParam Prop):Prop where
 go:C->P'->P
class ju (P:Prop) (P':outParam Prop):Prop where
 go:P'->P
class gx (P:Prop) (A B:outParam Prop):Prop where
 go:A->B->P
class Yp (τ:A0) (i:Nat) (x:outParam AV):Prop where
 e:OI τ i=some x
instance{v:AV}{r:A0}:Yp (some v::r) 0 v:=⟨rfl⟩
instance{y:zt AV}{r:A0}{i:Nat}{v:AV}[h:Yp r i v] :Yp (y::r) (i+1) v:=⟨h.e⟩
class U3 (τ:A0) (i:Nat) (v:AV) (τ':outParam A0):Prop where
 e:τ.set i (some v)=τ'
instance{y:zt AV}{r:A0}{v:AV}:U3 (y::r) 0 v (some v::r):=⟨rfl⟩
instance{y:zt AV}{r a:A0}{i:Nat}{v:AV}[h:U3 r i v a] :U3 (y::r) (i+1) v (y::a):=⟨by rw[ACZ,h.e]⟩
class W5 (τ:A0) (τ':outParam A0):Prop where
 e:frz τ=τ'
instance:W5 [] [] :=⟨rfl⟩
instance (priority:=low){z:zt AV}{r a:A0}[h:W5 r a] :W5 (z::r) (Zs z::a):=⟨by rw[<-h.e];rfl⟩
instance{r a:A0}[h:W5 r a] :W5 (none::r) (none::a):=⟨by rw[<-h.e];rfl⟩
instance{x:PV}{r a:A0}[h:W5 r a] :W5 (some (.val x)::r) (some (.val x)::a):=⟨by rw[<-h.e];rfl⟩
instance{x:zy PV}{r a:A0}[h:W5 r a] :W5 (some (.own x)::r) (some (.val (.lst x))::a):=⟨by rw[<-h.e];rfl⟩
class fW (ix:List Nat) (τ:A0) (τ':outParam A0):Prop where
 e:(ix.map λi=>TU (OI τ i))=τ'
instance{τ:A0}:fW [] τ [] :=⟨rfl⟩
instance{τ r:A0}{i:Nat}{ix:zy Nat}{x:PV}[h:Yp τ i (.val x)][h2:fW ix τ r] :fW (i::ix) τ (some (.val x)::r):=⟨by rw[AAM,h.e,h2.e];rfl⟩
class fb (n:Nat) (τ:outParam A0):Prop where
 e:List.replicate n none=τ
instance:fb 0 [] :=⟨rfl⟩
instance{n:Nat}{τ:A0}[h:fb n τ] :fb (n+1) (none::τ):=⟨by rw[List.replicate_succ,h.e]⟩
class XH (xs ys:A0) (zs:outParam A0):Prop where
 e:xs++ys=zs
instance{a:A0}:XH [] a a:=⟨rfl⟩
instance{x:zt AV}{xs a b:A0}[h:XH xs a b] :XH (x::xs) a (x::b):=⟨by rw[ABC,h.e]⟩
class XI (xs ys:List PV) (zs:outParam (List PV)):Prop where
 e:xs++ys=zs
instance{a:zy PV}:XI [] a a:=⟨rfl⟩
instance{x:PV}{xs a b:zy PV}[h:XI xs a b] :XI (x::xs) a (x::b):=⟨by rw[ABC,h.e]⟩
class Ix (x:PV) (i:Int) (y:outParam PV):Prop where
 e:kD x i=some y
section
variable {a b:AS}{ta tb:AE}{tt tu:AT}{g:AG}{gs:Px}{nx bk ct:A0->Prop}{rt:PV->Prop}{τ τ' τ2:A0}{Q:PV->Prop}{QB:zq->Prop}{QL:zy PV->Prop}{QT:A0->Prop}{r:AA}{ai:AI}{F:AF}{n i j:Nat}{x y z:PV}{xs ys zs:zy PV}
instance{c:PV}{q:zy PV}:Ix (.tup (c::q)) 0 c:=⟨DI (j:=0) rfl⟩
instance{c:PV}{q:zy PV}:Ix (.lst (c::q)) 0 c:=⟨DI (j:=0) rfl⟩
instance{d c:PV}{q:zy PV}:Ix (.tup (d::c::q)) 1 c:=⟨DI (j:=1) rfl⟩
instance{d c:PV}{q:zy PV}:Ix (.lst (d::c::q)) 1 c:=⟨DI (j:=1) rfl⟩
instance{d e c:PV}{q:zy PV}:Ix (.tup (d::e::c::q)) 2 c:=⟨DI (j:=2) rfl⟩
instance{d e c:PV}{q:zy PV}:Ix (.lst (d::e::c::q)) 2 c:=⟨DI (j:=2) rfl⟩
instance{q:Rat}:Ix (fr q) 0 (.int q.num):=⟨rfl⟩
instance{q:Rat}:Ix (fr q) 1 (.int q.den):=⟨rfl⟩
instance{c:C4}:Ix (cor c) 0 (fr c.1):=⟨rfl⟩
instance{c:C4}:Ix (corL c) 0 (fr c.1):=⟨rfl⟩
instance:Wp (Ab a b ⟨nx,rt,bk,ct⟩ τ) (a ⟨b ⟨nx,rt,bk,ct⟩,rt,bk,ct⟩ τ):=⟨id⟩
instance:Wp (As ta g ⟨nx,rt,bk,ct⟩ τ) (ta τ λx=>g x τ nx):=⟨id⟩
instance[h:W5 τ τ'] :Wp (Ay ta ⟨nx,rt,bk,ct⟩ τ) (ta τ' rt):=⟨λk=>by unfold Ay;rw[h.e];exact k⟩
instance:Wp (B6 ⟨nx,rt,bk,ct⟩ τ) (nx τ):=⟨id⟩
instance:Wp (Dh tt a b ⟨nx,rt,bk,ct⟩ τ) (tt τ λk=>if k=true then a ⟨nx,rt,bk,ct⟩ τ else b ⟨nx,rt,bk,ct⟩ τ):=⟨id⟩
def Lj (τ:A0)(i:Nat)(v:AV)(QT:A0->Prop):Prop:=QT (τ.set i (some v))
instance{v:AV}[h:U3 τ i v τ'] :Wp (Lj τ i v QT) (QT τ'):=⟨λk=>by unfold Lj;rw[h.e];exact k⟩
instance:Wp (LS r i ⟨nx,rt,bk,ct⟩ τ) (r τ λxs=>Lj τ i (.own xs) nx):=⟨id⟩
instance[h:U3 τ i (.val x) τ'] :Wp (Av i x τ QT) (QT τ'):=⟨λk=>by unfold Av;rw[h.e];exact k⟩
instance{f:GY}[h:Yp τ i (.val x)] :Wp (TM i f ta ⟨nx,rt,bk,ct⟩ τ) (ta τ λy=>f x y λz=>Lj τ i (.val z) nx):=⟨λk=>eZ h.e k⟩
instance[h:Yp τ i (.own xs)] :Wp (IW i τ QL) (QL xs):=⟨λk=>en h.e k⟩
instance{f:cG}:Wp (Hk i f r ⟨nx,rt,bk,ct⟩ τ) (IW i τ λxs=>r τ λys=>f xs ys λzs=>Lj τ i (.own zs) nx):=⟨id⟩
instance:Wp (O5 xs [y] QL) (xs.length<sizeLine/\QL (xs ++ [y])):=⟨id⟩
instance:Wp (Fa ai g b ⟨nx,rt,bk,ct⟩ τ) (ai τ λxs=>Cd g b ⟨nx,rt,bk,ct⟩ xs τ):=⟨id⟩
instance:Wp (Cd g b ⟨nx,rt,bk,ct⟩ [] τ) (nx τ):=⟨id⟩
instance{q:zy PV}:ju (Cd g b ⟨nx,rt,bk,ct⟩ (x::q) τ) (g x τ λc=>b ⟨Cd g b ⟨nx,rt,bk,ct⟩ q,rt,nx,Cd g b ⟨nx,rt,bk,ct⟩ q⟩ c):=⟨id⟩
instance:Wp (Cc [] τ QT) (QT τ):=⟨id⟩
instance{t:zy PV}:Wp (Aj g gs (x::t) τ QT) (g x τ λτ'=>gs t τ' QT):=⟨id⟩
instance:Wp (M1 n gs x τ QT) (Q3 x λxs=>xs.length=n/\gs xs τ QT):=⟨id⟩
instance[h:Yp τ i (.val x)] :Wp (aV i τ Q) (Q x):=⟨λk=>nk h.e k⟩
instance:Wp (aC x τ Q) (Q x):=⟨id⟩
instance{f:GY}:Wp (AX f ta tb τ Q) (ta τ λx=>tb τ λy=>f x y Q):=⟨id⟩
instance{f:PV->(PV->Prop)->Prop}:Wp (Uh f ta τ Q) (ta τ λx=>f x Q):=⟨id⟩
instance:Wp (Zc ta tb τ Q) (ta τ λx=>Y6 x λc=>if c=true then tb τ Q else Q (.bl false)):=⟨id⟩
instance:Wp (gy ta tb τ Q) (ta τ λx=>Y6 x λc=>if c=true then Q (.bl true) else tb τ Q):=⟨id⟩
instance:Wp (BP ta τ QB) (ta τ λx=>Y6 x QB):=⟨id⟩
instance:Wp (Rk tt τ QB) (tt τ λc=>QB (!c)):=⟨id⟩
instance:Wp (Rj tt tu τ QB) (tt τ λc=>if c=true then tu τ QB else QB false):=⟨id⟩
instance:Wp (VA tt tu τ QB) (tt τ λc=>if c=true then QB true else tu τ QB):=⟨id⟩
instance:Wp (cJ tt ta tb τ Q) (tt τ λc=>if c=true then ta τ Q else tb τ Q):=⟨id⟩
instance:Wp (IX τ QB) (QB true):=⟨id⟩
instance:Wp (AM τ QL) (QL []):=⟨id⟩
instance:Wp (AB ta r τ QL) (ta τ λx=>r τ λxs=>QL (x::xs)):=⟨id⟩
def Uo (xs:zy PV)(Q:PV->Prop):Prop:=xs.length<=sizeLine/\Q (.tup xs)
instance:Wp (Ap r τ Q) (r τ λxs=>Uo xs Q):=⟨id⟩
instance:Wp (HB r τ QL) (r τ λxs=>xs.length<=sizeLine/\QL xs):=⟨id⟩
instance:Wp (Mz r τ Q) (r τ λxs=>Q (.lst xs)):=⟨id⟩
instance:Wp (AN n F r τ Q) (r τ λxs=>xs.length=n/\F xs Q):=⟨id⟩
instance:Wp (K6 F r τ Q) (r τ λxs=>F xs Q):=⟨id⟩
instance{own:Nat}{ix:zy Nat}{f:AE}{c d:A0}[h1:fb own c][h2:fW ix τ d][h3:XH c d τ'] :Wp (DG ai own ix g tt f τ QL) (ai τ λxs=>xs.length<sizeLine/\CQ g tt f τ' QL xs []):=⟨λk=>by unfold DG LU;rw[h1.e,h2.e,h3.e];exact k⟩
instance{d:AE}{c:zy PV}:Wp (CQ g tt d τ QL [] c) (QL c):=⟨id⟩
instance{e:AE}{c q:zy PV}:Wp (CQ g tt e τ QL (x::q) c) (g x τ λd=>tt d λok=>if ok=true then e d λy=>CQ g tt e τ QL q (c ++ [y]) else CQ g tt e τ QL q c):=⟨id⟩
instance:Wp (Ob ta τ QL) (ta τ λx=>Q3 x QL):=⟨id⟩
instance:Wp (TN (AB ta AM) τ QL) (ta τ λx=>OJ x λj=>(-(2^62)<=j/\j<2^62)/\QL (rng 0 j.toNat)):=⟨λh=>by have e:(λx=>OJ x λj=>(-(2^62)<=j/\j<2^62)/\QL (rng 0 j.toNat))=(λx=>match [x] with | [.int j] =>(-(2^62)<=j/\j<2^62)/\QL (rng 0 j.toNat)|_=>False):=(funext λx=>by cases x <;> rfl);rw[e] at h;exact h⟩
instance:Wp (fk (AB ta (AB tb AM)) τ QL) (ta τ λx=>tb τ λy=>Q3 x λxs=>Q3 y λys=>QL (K2 xs ys)):=⟨id⟩
instance:Wp (Oa i j (AB ta (AB tb AM)) ⟨nx,rt,bk,ct⟩ τ) (ta τ λx=>tb τ λy=>Lj τ i (.val x) λc=>Lj c j (.val y) nx):=⟨id⟩
instance{R:Int->Prop}{k:Int}:Wp (OJ (.int k) R) (R k):=⟨id⟩
instance{R:zq->Prop}{c:zq}:Wp (Y6 (.bl c) R) (R c):=⟨id⟩
instance:Wp (Q3 (.tup xs) QL) (QL xs):=⟨id⟩
instance:Wp (Q3 (.lst xs) QL) (QL xs):=⟨id⟩
instance{q:Rat}:Wp (Q3 (fr q) QL) (QL [.int q.num, .int q.den]):=⟨id⟩
instance{f:Int->Int->PV}{k l:Int}:Wp (fI f (.int k) (.int l) Q) (Q (f k l)):=⟨id⟩
instance{C:Int->Int->Prop}{f:Int->Int->PV}{k l:Int}:Wp (cO C f (.int k) (.int l) Q) (C k l/\Q (f k l)):=⟨id⟩
instance:Wp (Th .non .non Q) (Q (.bl true)):=⟨id⟩
instance:Wp (Jm .non .non Q) (Q (.bl false)):=⟨id⟩
instance:Wp (Jm (.tup xs) .non Q) (Q (.bl true)):=⟨id⟩
instance{k:Int}[h:Ix x k z] :Wp (Ah x (.int k) Q) (Q z):=⟨λq=>ij h.e q⟩
instance{k:Int}:Wp (IY (.int k) Q) (Q (.int (-k))):=⟨id⟩
instance{k l:Int}:Wp (Cj (.int k) (.int l) Q) (Q (.int (k+l))):=⟨id⟩
instance:Wp (Cj (.tup xs) (.tup ys) Q) (xs.length+ys.length<=sizeLine/\Q (.tup (xs++ys))):=⟨id⟩
instance{k l:Int}:Wp (Ui (.int k) (.int l) Q) (Q (.bl (decide (k=l)))):=⟨id⟩
instance{k l:Str}:Wp (XW (.str k) (.str l) Q) (Q (.bl (!decide (k=l)))):=⟨id⟩
instance{ns:zy Int}:Wp (QZ [.scr ns] Q) (Q (.int ns.length)):=⟨id⟩
instance (priority:=high){c:Type}{f:c->PV}{cs:zy c}:Wp (QZ [.tup (cs.map f)] Q) (Q (.int cs.length)):=⟨λh=>by show Q (.int (cs.map f).length);rw[AAL];exact h⟩
instance (priority:=high){c:Type}{f:c->PV}{cs:zy c}:Wp (QZ [.lst (cs.map f)] Q) (Q (.int cs.length)):=⟨λh=>by show Q (.int (cs.map f).length);rw[AAL];exact h⟩
instance{f:Int->Int->Int}{k l:Int}:Wp (Zt f [.int k, .int l] Q) (Q (.int (f k l))):=⟨id⟩
instance{c:zq}:Wp (QY [.bl c] Q) (Q (.int (if c then 1 else 0))):=⟨id⟩
instance:Wp (Ex [.lst xs] Q) (Q (.tup xs)):=⟨id⟩
instance{lo hi:zt Int}:Wp (VJ (.tup xs) lo hi Q) (Q (.tup (Fx xs lo hi))):=⟨Sz⟩
instance{l h:AO}:Wp (cK ta l h τ Q) (ta τ λx=>l τ λlo=>h τ λhi=>VJ x lo hi Q):=⟨id⟩
instance{R:zt Int->Prop}:Wp (cM τ R) (R none):=⟨id⟩
instance{R:zt Int->Prop}:Wp (cN ta τ R) (ta τ λx=>OJ x λi=>R (some i)):=⟨id⟩
instance{A B:Prop}:Wp (if true=true then A else B) (A):=⟨λh=>by rw[AAE rfl];exact h⟩
instance{A B:Prop}:Wp (if false=true then A else B) (B):=⟨λh=>by rw[AAD AAO];exact h⟩
instance{p A B:Prop}[Decidable p] :gx (if decide p=true then A else B) (p->A) (¬p->B):=⟨eh⟩
instance{p A B:Prop}[Decidable p] :gx (if (!decide p)=true then A else B) (¬p->A) (p->B):=⟨em⟩
instance{A:Prop}:Wp (([] :zy PV).length<=sizeLine/\A) (A):=⟨λh=>⟨lz,h⟩⟩
instance{A:Prop}:Wp (([] :zy PV).length<sizeLine/\A) (A):=⟨λh=>⟨lz,h⟩⟩
instance{c:PV}{A:Prop}:Wp ([c].length=1/\A) (A):=⟨λh=>⟨rfl,h⟩⟩
instance{c d:PV}{A:Prop}:Wp ([c,d].length=2/\A) (A):=⟨λh=>⟨rfl,h⟩⟩
instance{c d:PV}{A:Prop}:Wp ([c,d].length<=sizeLine/\A) (A):=⟨λh=>⟨lz,h⟩⟩
instance{c d e:PV}{A:Prop}:Wp ([c,d,e].length=3/\A) (A):=⟨λh=>⟨rfl,h⟩⟩
instance{c d e:PV}{A:Prop}:Wp ([c,d,e].length<sizeLine/\A) (A):=⟨λh=>⟨lz,h⟩⟩
instance{c d e f:PV}{A:Prop}:Wp ([c,d,e,f].length=4/\A) (A):=⟨λh=>⟨rfl,h⟩⟩
instance{c d e f k:PV}{A:Prop}:Wp ([c,d,e,f,k].length<=sizeLine/\A) (A):=⟨λh=>⟨lz,h⟩⟩
instance{c d e f k l:PV}{A:Prop}:Wp ([c,d,e,f,k,l].length<=sizeLine/\A) (A):=⟨λh=>⟨lz,h⟩⟩
instance{c:PV}:Wp (Uo [c] Q) (Q (.tup [c])):=⟨λh=>⟨lz,h⟩⟩
instance{c d:PV}:Wp (Uo [c,d] Q) (Q (.tup [c,d])):=⟨λh=>⟨lz,h⟩⟩
instance{c d e:PV}:Wp (Uo [c,d,e] Q) (Q (.tup [c,d,e])):=⟨λh=>⟨lz,h⟩⟩
instance{c d e f:PV}:Wp (Uo [c,d,e,f] Q) (Q (.tup [c,d,e,f])):=⟨λh=>⟨lz,h⟩⟩
instance{c d e f k l:PV}:Wp (Uo [c,d,e,f,k,l] Q) (Q (.tup [c,d,e,f,k,l])):=⟨λh=>⟨lz,h⟩⟩
instance (priority:=high+10):Wp (Uo [.int 0, .int 1] Q) (Q (fr 0)):=⟨λh=>⟨lz,h⟩⟩
instance (priority:=high+10):Wp (Uo [.int 1, .int 1] Q) (Q (fr 1)):=⟨λh=>⟨lz,h⟩⟩
instance (priority:=high){k:Int}:Wp (Uo [.int k, .int 1] Q) (Q (fr (k:Rat))):=⟨λh=>⟨lz,OH h⟩⟩
instance (priority:=high){k:Rat}{p q r:Rat}:Wp (Cj (.tup [fr k]) (.tup [fr p,fr q,fr r]) Q) (Q (cor (k,p,q,r))):=⟨λh=>⟨lz,h⟩⟩
def Zn:PV.tup [.int 1, .int 2] =fr (1/2):=by unfold fr;rw[show ((1:Rat)/2).num=1 by decide +kernel,show ((1:Rat)/2).den=2 by decide +kernel];rfl
instance (priority:=high):Wp (Uo [.int 1, .int 2] Q) (Q (fr (1/2))):=⟨λh=>⟨lz,by rw[Zn];exact h⟩⟩
def Zo:PV.tup [.int 1, .int 3] =fr (1/3):=by unfold fr;rw[show ((1:Rat)/3).num=1 by decide +kernel,show ((1:Rat)/3).den=3 by decide +kernel];rfl
instance (priority:=high):Wp (Uo [.int 1, .int 3] Q) (Q (fr (1/3))):=⟨λh=>⟨lz,by rw[Zo];exact h⟩⟩
def Zq:PV.tup [.int 3, .int 2] =fr (3/2):=by unfold fr;rw[show ((3:Rat)/2).num=3 by decide +kernel,show ((3:Rat)/2).den=2 by decide +kernel];rfl
instance (priority:=high):Wp (Uo [.int 3, .int 2] Q) (Q (fr (3/2))):=⟨λh=>⟨lz,by rw[Zq];exact h⟩⟩
class Zp (xs ys:List PV) (zs:outParam (List PV)):Prop where
 e:K2 xs ys=zs
instance:Zp [] [] [] :=⟨rfl⟩
instance[h:Zp xs ys zs] :Zp (x::xs) (y::ys) (.tup [x,y] :: zs):=⟨by rw[<-h.e];rfl⟩
instance[h:Zp xs ys zs] :Wp (Cd g b ⟨nx,rt,bk,ct⟩ (K2 xs ys) τ) (Cd g b ⟨nx,rt,bk,ct⟩ zs τ):=⟨λk=>by rw[h.e];exact k⟩
instance{d:AE}{c:zy PV}[h:Zp xs ys zs] :Wp (CQ g tt d τ QL (K2 xs ys) c) (CQ g tt d τ QL zs c):=⟨λk=>by rw[h.e];exact k⟩
instance{A:Prop}[h:Zp xs ys zs] :Wp ((K2 xs ys).length<sizeLine/\A) (zs.length<sizeLine/\A):=⟨λk=>by rw[h.e];exact k⟩
instance (priority:=high){d:AE}{c q zs:zy PV}[h:XI c [y] zs] :Wp (CQ g tt d τ QL q (c ++ [y])) (CQ g tt d τ QL q zs):=⟨λk=>by rw[h.e];exact k⟩
instance{m:Int}:Ug (BV [.tape, .int m] Q) (0<m/\m<4611686018427387904) (∀r,0<=r->r<m->Q (.int r)):=⟨λc h=>Dn c.1 c.2 h⟩
instance{ns:zy Int}{k:Int}:Ug (Jb [.scr ns, .int k] Q) (0<=k/\k<=1000) (Q .tape):=⟨λc h=>⟨c,h⟩⟩
instance{a b:Rat}:Ug (D1 [fr a,fr b] Q) (Bd 4000 a/\Bd 4000 b) (Q (fr (a+b))):=⟨λc h=>TK c.1 c.2 h⟩
instance{a b:Rat}:Ug (DH [fr a,fr b] Q) (Bd 4000 a/\Bd 4000 b) (Q (fr (a-b))):=⟨λc h=>P6 c.1 c.2 h⟩
instance{a b:Rat}:Ug (GW [fr a,fr b] Q) (Bd 4000 a/\Bd 4000 b) (Q (fr (a*b))):=⟨λc h=>P7 c.1 c.2 h⟩
instance{a b:Rat}:Ug (A9 [fr a,fr b] Q) (Bd 4000 a/\Bd 4000 b) (Q (fr (a+b))):=⟨λc h=>LR c.1 c.2 h⟩
instance{a b:Rat}:Ug (Bm [fr a,fr b] Q) (Bd 4000 a/\Bd 4000 b) (Q (fr (a*b))):=⟨λc h=>GV c.1 c.2 h⟩
instance{a b:Rat}:Ug (Fp [fr a,fr b] Q) (b≠0/\Bd 4000 a/\Bd 4000 b) (Q (fr (a/b))):=⟨λc h=>TJ c.1 c.2.1 c.2.2 h⟩
instance:Ug (Bn [.tape] Q) (True) (∀a,Bd 8 a->0<a->Q (fr a)):=⟨λ_ h=>Ja h⟩
instance:Ug (BJ [.tape] Q) (True) (∀a,Bd 8 a->Q (fr a)):=⟨λ_ h=>IQ λa m=>h a (m.bd (by decide) (by decide))⟩
instance{lo:Int}{A:Prop}:Wp ((rng lo n).length<sizeLine/\A) (n<16777216/\A):=⟨λk=>⟨by rw[RA];exact k.1,k.2⟩⟩
instance{c:Type}{f:c->PV}{cs:zy c}{A:Prop}:Wp ((cs.map f).length<sizeLine/\A) (cs.length<16777216/\A):=⟨λk=>⟨by rw[AAL];exact k.1,k.2⟩⟩
instance (priority:=high){c:Type}{k:c}[Decidable (k=k)]{A B:Prop}:Wp (if (!decide (k=k))=true then A else B) B:=⟨λh=>by rw[AAD (by simp)];exact h⟩
instance{c:C4}:Wp (VJ (cor c) (some 1) none Q) (Q (.tup [fr c.2.1,fr c.2.2.1,fr c.2.2.2])):=⟨λh=>Sz h⟩
end
end PL
namespace L2
open PySem PySem.Spec PyProof.Rows
abbrev y1 (b:zq)(h:zl)(l:zu):zl:=h.push (XB b l)
abbrev y2 (b c:zq)(h:zl)(l m:zu):zl:=(y1 b h l).push (XB c m)
abbrev y3 (b c d:zq)(h:zl)(l m n:zu):zl:=(y2 b c h l m).push (XB d n)
abbrev y4 (b c d:zq)(h:zl)(l m n:zu):zl:=(y3 b c d h l m n).push {cls:= .type "tuple",data:= .seq #[.ref h.objs.size, .ref (y1 b h l).objs.size, .ref (y2 b c h l m).objs.size] }
abbrev y5 (b c d:zq)(h:zl)(l m n:zu):zl:=(y4 b c d h l m n).push {cls:= .type "tuple",data:= .seq #[.none, .none, .none] }
end L2
namespace PL
open PySem L2 PyProof.Rows
class U2 (Ts:List String):Prop where
 q:Ts.any (Tx .tup)=true/\Ts.any (Tx .lst)=true/\Ts.any (Tx .int)=false/\Ts.any (Tx .bl)=false/\Ts.any (Tx .non)=false/\Ts.any (Tx .str)=false
instance:U2 ["tuple","list"] :=⟨by decide⟩
instance:U2 ["list","tuple"] :=⟨by decide⟩
end PL
namespace L2
open PySem PySem.Spec PyProof.Rows
section
variable {κ:Type}[DecidableEq κ]
def G4 (kvs:zy (κ×V))(k:κ):zt V:=(kvs.find? λa=>decide (a.1=k)).map (·.2)
def EI (kvs:zy (κ×V))(k:κ)(v:V):zy (κ×V):=
 if (kvs.any λa=>decide (a.1=k))=true then kvs.map (λa=>if a.1=k then (a.1,v) else a) else kvs ++ [(k,v)]
def FP {p:κ×V}{r:zy (κ×V)}{k:κ}(e:p.1=k):G4 (p::r) k=some p.2:=by simp[G4,ABX,e]
def FO {p:κ×V}{r:zy (κ×V)}{k:κ}(e:¬p.1=k):G4 (p::r) k=G4 r k:=by simp[G4,ABX,e]
theorem Ps (k:κ):∀kvs:zy (κ×V),(kvs.any λa=>decide (a.1=k))=(G4 kvs k).isSome
 | [] =>rfl
 | p::r=>by
   rw[ABJ];by_cases e:p.1=k
   .simp only[FP e,AAV e,ADE,Option.isSome_some]
   .rw [FO e,AAa e,Bool.false_or];exact Ps k r
def Dr (kvs:zy (κ×V))(k:κ)(v:V):(EI kvs k v).length<=kvs.length+1:=by
 unfold EI;split
 .rw [AAL];omega
 .rw [AAy,AAk,List.length_nil];omega
def IT.isSome_eq {o:zt V}{u:zt zx}(r:IT o u):o.isSome=u.isSome:=by
 cases o with
 | none=>cases u with
   | none=>rfl
   | some _=>exact(show False from r).elim
 | some _=>cases u with
   | none=>exact(show False from r).elim
   | some _=>rfl
def IT.getD {o:zt V}{u:zt zx}{d:V}{d':zx}(r:IT o u)(a:RelV d d'):RelV (o.getD d) (u.getD d'):=by
 cases o with
 | none=>cases u with
   | none=>exact a
   | some _=>exact(show False from r).elim
 | some _=>cases u with
   | none=>exact(show False from r).elim
   | some _=>exact r
def KV.val {kvs:zy (κ×V)}{vs:zy (κ×zx)}(r:KV kvs vs)(k:κ):IT (G4 kvs k) (valueAt vs k):=by
 unfold KV at r;induction r with
 | nil=>exact True.intro
 | @cons p q ps qs h t c=>
   obtain⟨h1,h2⟩:=h;by_cases e:p.1=k
   .have a:q.1=k:=h1.symm.trans e;have b:valueAt (q::qs) k=some q.2:=by simp[valueAt,ABX,a]
    rw[FP e,b];exact h2
   .have a:¬q.1=k:=λz=>e (h1.trans z);have b:valueAt (q::qs) k=valueAt qs k:=by simp[valueAt,ABX,a]
    rw[FO e,b];exact c
def KV.any {kvs:zy (κ×V)}{vs:zy (κ×zx)}(r:KV kvs vs)(k:κ):(kvs.any λa=>decide (a.1=k))=vs.any λa=>decide (a.1=k):=by
 unfold KV at r;induction r with
 | nil=>rfl
 | cons h t b=>rw[ABJ,ABJ,b,h.1]
def KV.repl {kvs:zy (κ×V)}{vs:zy (κ×zx)}(r:KV kvs vs)(k:κ){y:V}{u:zx}(b:RelV y u):KV (kvs.map λa=>if a.1=k then (a.1,y) else a) (vs.map λa=>if a.1=k then (a.1,u) else a):=by
 unfold KV at r ⊢;induction r with
 | nil=>exact .nil
 | @cons p q ps qs h t c=>
   rw[AAM,AAM];refine .cons ?_ c;obtain⟨h1,h2⟩:=h;by_cases e:p.1=k
   .rw [AAE e,AAE (h1.symm.trans e)];exact⟨h1,b⟩
   .rw [AAD e,AAD (λz=>e (h1.trans z))];exact⟨h1,h2⟩
def KV.put {kvs:zy (κ×V)}{vs:zy (κ×zx)}(r:KV kvs vs)(k:κ){y:V}{u:zx}(a:RelV y u):KV (EI kvs k y) (stored vs k u):=by
 unfold EI stored;rw[r.any k];by_cases e:(vs.any λb=>decide (b.1=k))=true
 .rw [AAE e,AAE e];exact r.repl k a
 .rw [AAD e,AAD e];exact Paired.snoc r ⟨rfl,a⟩
def KV.keys {kvs:zy (κ×V)}{vs:zy (κ×zx)}(r:KV kvs vs):kvs.map (·.1)=vs.map (·.1):=by
 unfold KV at r;induction r with
 | nil=>rfl
 | cons h t a=>rw[AAM,AAM,a,h.1]
def KV.length {kvs:zy (κ×V)}{vs:zy (κ×zx)}(r:KV kvs vs):kvs.length=vs.length:=Paired.length r
end
def MF {P:zp}{w:zm}{k:BU}{u:zx}(r:RelV (kV k) u):(Am P w).is k u=true:=by
 cases k with
 | inl i=>obtain⟨t,e⟩:=(show ∃t,u=Value.int i t from r);subst e;exact O7 P w i t
 | inr x=>obtain⟨t,e⟩:=(show ∃t,u=Value.str x t from r);subst e;exact O8 P w x t
theorem ME {P:zp}{w:zm}:∀{a:zy BU} {b:zy zx},An (a.map kV) b->ItemsAre (Am P w) a b
 | [],_,r=>by rw[AB2] at r;cases r;exact .nil
 | k::a,_,r=>by
   rw[AAM] at r;cases r with
   | cons h t=>exact .cons (MF h) (ME t)
abbrev KT (H:Hp):zy (zy BU×V)->zy (zy BU×zu×zx)->Prop:=Paired λp q=>p.1=q.1/\H q.2.1=some (.tup (p.1.map kV))/\RelV p.2 q.2.2
def KT.val {H:Hp}{kvs:zy (zy BU×V)}{xs:zy (zy BU×zu×zx)}(r:KT H kvs xs)(k:zy BU):IT (G4 kvs k) ((atKey xs k).map (·.2)):=by
 induction r with
 | nil=>exact True.intro
 | @cons p q ps qs h t c=>
   obtain⟨h1,_,h2⟩:=h;by_cases e:p.1=k
   .have a:q.1=k:=h1.symm.trans e;have b:atKey (q::qs) k=some q.2:=by simp[atKey,ABX,a]
    rw[FP e,b];exact h2
   .have a:¬q.1=k:=λz=>e (h1.trans z);have b:atKey (q::qs) k=atKey qs k:=by simp[atKey,ABX,a]
    rw[FO e,b];exact c
def KT.repl {H:Hp}{kvs:zy (zy BU×V)}{xs:zy (zy BU×zu×zx)}(r:KT H kvs xs)(k:zy BU){y:V}{u:zx}(b:RelV y u):KT H (kvs.map λa=>if a.1=k then (a.1,y) else a) (xs.map (putAt k u)):=by
 induction r with
 | nil=>exact .nil
 | @cons p q ps qs h t c=>
   rw[AAM,AAM];refine .cons ?_ c;obtain⟨h1,h2,h3⟩:=h;unfold putAt;by_cases e:p.1=k
   .rw [AAE e,AAE (h1.symm.trans e)];exact⟨h1,h2,b⟩
   .rw [AAD e,AAD (λz=>e (h1.trans z))];exact⟨h1,h2,h3⟩
def KT.put {H:Hp}{kvs:zy (zy BU×V)}{xs:zy (zy BU×zu×zx)}(r:KT H kvs xs)(k:zy BU){b:zu}{y:V}{u:zx}(hb:H b=some (.tup (k.map kV)))(a:RelV y u):KT H (EI kvs k y) (storedH xs k b u):=by
 have e:(kvs.any λc=>decide (c.1=k))=(atKey xs k).isSome:=by rw[Ps,(r.val k).isSome_eq,Option.isSome_map]
 unfold EI storedH;rw[e];by_cases q:(atKey xs k).isSome=true
 .rw [AAE q,AAE q];exact r.repl k a
 .rw [AAD q,AAD q];exact Paired.snoc r ⟨rfl,hb,a⟩
def KT.keeps {H a:Hp}{kvs:zy (zy BU×V)}{xs:zy (zy BU×zu×zx)}(r:KT H kvs xs)(d:∀b c,H b=some (.tup c)->a b=some (.tup c)):KT a kvs xs:=
 Paired.mapP r λ_ _ z=>⟨z.1,d _ _ z.2.1,z.2.2⟩
section
variable {P:zp}{w:zm}{H:Hp}{h:zl}{a:zu}
def ZC {u:HO}(ok:GX P w H h)(e:Rd H a u):Bi P w H h a u:=e.ok ok
def Oo {kvs:zy (BU×V)}(ok:GX P w H h)(e:Rd H a (.dK kvs)):kvs.length<=sizeLine/\(a==sysModules)=false/\∃vs,KV kvs vs/\h.DictOf (Am P w) a vs:=
 show Bi P w H h a (.dK kvs) from ZC ok e
def R1 {kvs:zy (BU×V)}(ok:GX P w H h)(e:H a=some (.dK kvs)):kvs.length<=sizeLine/\(a==sysModules)=false/\∃vs,KV kvs vs/\h.DictOf (Am P w) a vs:=Oo ok (.inl e)
def NO {b:zy BU}(ok:GX P w H h)(e:H a=some (.tup (b.map kV))):(tupleKind (Am P w)).is h b a:=by obtain⟨_,c,r,o,h1,h2,n,h3⟩:=(show Bi P w H h a (.tup (b.map kV)) from ok a _ e);exact⟨o,c.toArray,n,h1,h2,h3,by simpa using ME r⟩
def Op {kvs:zy (zy BU×V)}(ok:GX P w H h)(e:Rd H a (.dT kvs)):kvs.length<=sizeLine/\(a==sysModules)=false/\ ∃xs,KT H kvs xs/\h.DictOfH (tupleKind (Am P w)) a xs:=by
 obtain⟨z,y,xs,r,o,es,ep,h1,h2,h3,c,d⟩:=(show Bi P w H h a (.dT kvs) from ZC ok e);refine⟨z,y,xs,r,o,es,ep,h1,h2,h3,c,λx hx=> ?_,d⟩;have all:∀{l:zy (zy BU×V)} {m:zy (zy BU×zu×zx)},KT H l m->∀x∈m,(tupleKind (Am P w)).is h x.1 x.2.1:=by
  intro l m q;induction q with
  | nil=>intro x hx;exact nomatch hx
  | @cons p q ps qs b t f=>
    intro x hx;rcases AAH.mp hx with e|hx
    .subst e;exact NO ok (by rw[<-b.1];exact b.2.1)
    .exact f x hx
 exact all r x hx
def dB {kvs:zy (zy BU×V)}(ok:GX P w H h)(e:H a=some (.dT kvs)):kvs.length<=sizeLine/\(a==sysModules)=false/\ ∃xs,KT H kvs xs/\h.DictOfH (tupleKind (Am P w)) a xs:=Op ok (.inl e)
end
def LN (H:Hp)(a:zu)(y:V)(r:zt V):Prop:=
 (∃kvs k,Rd H a (.dK kvs)/\y=kV k/\r=G4 kvs k)\/∃kvs k b,Rd H a (.dT kvs)/\y= .ref b/\H b=some (.tup (k.map kV))/\r=G4 kvs k
def Pz (H:Hp)(a:zu)(y v:V)(c:Hp):Prop:=
 (∃kvs k,H a=some (.dK kvs)/\y=kV k/\kvs.length<sizeLine/\c=upd H a (.dK (EI kvs k v)))\/
 ∃kvs k b,H a=some (.dT kvs)/\y= .ref b/\H b=some (.tup (k.map kV))/\kvs.length<sizeLine/\c=upd H a (.dT (EI kvs k v))
def LN.k {H:Hp}{a:zu}{kvs:zy (BU×V)}{k:BU}(e:H a=some (.dK kvs)):LN H a (kV k) (G4 kvs k):= .inl ⟨kvs,k, .inl e,rfl,rfl⟩
def LN.t {H:Hp}{a b:zu}{kvs:zy (zy BU×V)}{k:zy BU}(e:H a=some (.dT kvs))(c:H b=some (.tup (k.map kV))):LN H a (.ref b) (G4 kvs k):= .inr ⟨kvs,k,b, .inl e,rfl,c,rfl⟩
def Pz.k {H:Hp}{a:zu}{kvs:zy (BU×V)}{k:BU}{v:V}(e:H a=some (.dK kvs))(hl:kvs.length<sizeLine):Pz H a (kV k) v (upd H a (.dK (EI kvs k v))):= .inl ⟨kvs,k,e,rfl,hl,rfl⟩
def Pz.t {H:Hp}{a b:zu}{kvs:zy (zy BU×V)}{k:zy BU}{v:V}(e:H a=some (.dT kvs))(c:H b=some (.tup (k.map kV)))(hl:kvs.length<sizeLine):Pz H a (.ref b) v (upd H a (.dT (EI kvs k v))):= .inr ⟨kvs,k,b,e,rfl,c,hl,rfl⟩
section
variable {X:Cx}{zj:zy (zu×Obj)}{σ:St}{H:Hp}{s:zw}{a:zu}{y v:V}{u r:zx}{o:zt V}{A:zk}{E:zx->zw->Prop}
def Inv.big (I:Inv X zj σ H s):sysModules<s.heap.objs.size:=by have h:mainGlobals<s.heap.objs.size:=(I.mod.glob.keeps I.bk).lt;exact AB3 (by decide) h
def Te {Q:zx->zw->Prop}(hu:A.units+1<cLine)(I:Inv X zj σ H s)(g:LN H a y (some v))(m:RelV y u)(h:∀f n,Inv X zj σ H n->RelV v f->Q f n):wpAny (model X.prog X.w) A (getItem (.ref a) u) Q E s:=by
 rcases g with⟨kvs,k,e,i,l⟩|⟨kvs,k,b,e,i,t,l⟩
 .subst i;obtain⟨z,hd,vs,c,j⟩:=Oo I.hok e;obtain⟨f,hw,d⟩:=IT.some_of (v:=v) (o:=valueAt vs k) (by rw[l];exact c.val k);exact wpAny_getItem_of (MF m) j.mapOf hw (h f _ (I.tok _) d)
 .subst i;cases (show u=Value.ref b from m);obtain⟨z,hd,xs,c,j⟩:=Op I.hok e;obtain⟨f,hw,d⟩:=IT.some_of (v:=v) (o:=(atKey xs k).map (·.2)) (by rw[l];exact c.val k);obtain⟨p,hp,x⟩:=AB7.mp hw;refine wpAny_getItem_heap (ADF hu) (NO I.hok t) j hp ?_;rw[x];exact h f _ (I.tok _) d
def Gg {h':zl}{t':Nat}{c:HO}(I:Inv X zj σ H s)(d:cx (H a))(hs:Heap.SameBut a s.heap h')(he:∃q,h'.get? a=some q)(new:Bi X.prog X.w (upd H a c) h' a c):Inv X zj σ (upd H a c) {s with heap:=h',toks:=t'}:=
 I.write (x:=a) (e:=a) d (.inl rfl) (λb q hb z=>(hs.2 b hb).trans z) he new
def M6 {P:zp}{w:zm}{c:Hp}{h':zl}{kvs:zy (BU×V)}{vs:zy (BU×zx)}(z:kvs.length<=sizeLine)(hd:(a==sysModules)=false)(b:KV kvs vs)(d:h'.DictOf (Am P w) a vs):Bi P w c h' a (.dK kvs):=⟨z,hd,vs,b,d⟩
def Tf {t:Hp}{Q:Unit->zw->Prop}(hu:A.units+1<cLine)(I:Inv X zj σ H s)(g:Pz H a y v t)(x:RelV y u)(rv:RelV v r)(h:∀B,Inv X zj σ t B->Q () B):wpAny (model X.prog X.w) A (setItem (.ref a) u r) Q E s:=by
 rcases g with⟨kvs,k,e,j,l,m⟩|⟨kvs,k,b,e,j,C,l,m⟩
 .subst j m;obtain⟨z,hd,vs,d,n⟩:=R1 I.hok e;have p:vs.length<=sizeLine:=by rw[<-d.length];exact z
  have hl:(EI kvs k v).length<=sizeLine:=by have:=Dr kvs k v;omega
  refine wpAny_setItem_pairs (hsz:=p) (MF x) n λh' f hs=>h _ ?_;have he:∃q,h'.get? a=some q:=let ⟨q,_,_,i,_⟩:=f;⟨q,i⟩;exact Gg I (by rw[e];exact True.intro) hs he (M6 hl hd (d.put k rv) f)
 .subst j m;cases (show u=Value.ref b from x);obtain⟨z,hd,xs,d,n⟩:=dB I.hok e;have p:xs.length<=sizeLine:=by rw[<-Paired.length d];exact z
  have hl:(EI kvs k v).length<=sizeLine:=by have:=Dr kvs k v;omega
  refine wpAny_setItem_heap (hsz:=p) (ADF hu) (NO I.hok C) n λh' f hs=>h _ ?_;obtain⟨q,es,ep,i,h2,h3,F,_,G⟩:=f;refine Gg I (by rw[e];exact True.intro) hs ⟨q,i⟩ ⟨hl,hd,_,(d.put k C rv).keeps λc J D=> ?_,q,es,ep,i,h2,h3,F,G⟩;rw[AZ (dt D e (λz=>nomatch z))];exact D
end
def ZQ (i:zr):Prop:=∀a b,subscripted i false a b=operate [a,b] (getItem a b)
def Yd {prog:zp}{w:zm}{A:zk}{E:zx->zw->Prop}{s:zw}{env:Env}{value slice:zr}{pos:Pos}{T id:String}{Q:zx->zw->Prop}(hl:typeLookup (.type T) "__getitem__" =pure (some (.builtin id)))(hs:ZQ slice)(h:wpAny (model prog w) A (eval value env) (λo c=>wpAny (model prog w) A (eval slice env) (λi a=>a.TypeIs o T/\wpAny (model prog w) A (getItem o i) Q E a) E c) E s):wpAny (model prog w) A (eval (.Subscript value slice pos) env) Q E s:=by
 refine Subscript_ (AA6 h (λo c f=>AA6 f (λi a b=> ?_) λ_ _ x=>x) λ_ _ x=>x);obtain⟨j,b⟩:=b;unfold subscriptTail;refine AAA ?_;rw[getitemInPython_of_ne j.not_modules];refine AAA (ABN j hl ?_);have e:wpAny (model prog w) A (subscripted slice false o i) (λr d=>wpAny (model prog w) A (letTemporaryGo value o r >>= λ_=>pure r) Q E d) E a:=by rw[hs o i];exact wpAny_operating (AA6 b (λr d g=>AAA (wpAny_letTemporaryGo (AAC g))) λ_ _ x=>x)
 first
  | exact AAC (AAA e)
  | exact AAA (AAC (AAA e))
  | exact AAA e
def Om {X:Cx}{d:zy (zu×Obj)}{f:St}{H:Hp}{s:zw}{a:zu}{y:V}{o:zt V}(I:Inv X d f H s)(g:LN H a y o):s.TypeIs (.ref a) "dict" :=by
 rcases g with⟨kvs,k,e,_,_⟩|⟨kvs,k,b,e,_,_,_⟩
 .obtain ⟨_,_,vs,_,c⟩:=Oo I.hok e;exact c.typeIs
 .obtain ⟨_,_,xs,_,c⟩:=Op I.hok e;exact c.typeIs
def fN (d e:TE):TE:=λb H Q=>d b H λx H1=>e b H1 λy c=>∃a v,x= .ref a/\LN c a y (some v)/\Q v c
def ZD (d e f:TE):TS:=λD b H=>f b H λv H1=>d b H1 λx g=>e b g λy h=>∃a c,x= .ref a/\Pz h a y v c/\D.nx b c
section
variable {X:Cx}{o i e value:zr}{pos pos' tpos:Pos}{td ty tv:TE}
def X0 (hu:X.A.units+1<cLine)(j:PE X o td)(hi:PE X i ty)(hs:ZQ i):PE X (.Subscript o i pos) (fN td ty):=by intro c s d H Q I h;refine Yd PySem.F.slot_dict_getitem.lookup hs (BC (j c s d H _ I h) λu k ⟨x,H1,l,m,n⟩=>BC (hi c k d H1 _ l n) λz B ⟨y,p,f,r,a,v,ex,g,t⟩=> ?_);subst ex;obtain rfl:u=Value.ref a:=m;exact⟨Om f g,Te hu f g r λC D w b=>⟨v,p,w,b,t⟩⟩
def YD (hu:X.A.units+1<cLine)(d:PE X o td)(hi:PE X i ty)(hv:PE X value tv)(hs:swapsWith value (some (.Subscript o i pos')) pos.line X.env=pure false):PS X (.Assign [.Subscript o i pos'] value pos) (ZD td ty tv):=by intro c s b H D I h;refine wpAny_Assign_Subscript (BC (hv c s b H _ I h) λr f ⟨v,H1,j,rv,k⟩=>BC (d c f b H1 _ j k) λu l ⟨x,m,n,p,t⟩=>BC (hi c l b m _ n t) λF G ⟨y,J,w,z,a,B,ex,g,C⟩=> ?_) hs;subst ex;obtain rfl:u=Value.ref a:=p;exact Tf hu w g z rv λK E=>⟨b,B,E,C⟩
end
def On {P:zp}{w:zm}{H:Hp}(h:zl)(hb:sysModules<h.objs.size):Bi P w H (h.push {cls:= .type "dict",data:= .dict #[] }) h.objs.size (.dK []):=
 ⟨AAw _,ACq.mpr (AAp (AAK hb)), [], .nil,Heap.DictOf.new h⟩
def RR:zy (TE×TE)->St->Hp->(zy (V×V)->Hp->Prop)->Prop
 | [],_,H,Q=>Q [] H
 | (tk,tv)::r,σ,H,Q=>tk σ H λx H1=>tv σ H1 λy a=>RR r σ a λps b=>Q ((x,y)::ps) b
abbrev VV:zy (V×V)->zy (zx×zx)->Prop:=Paired λp q=>RelV p.1 q.1/\RelV p.2 q.2
def fZ (X:Cx)(pos:Pos)(keys:zy (zt zr))(values:zy zr)(a:zy (TE×TE)):Prop:=
 ∀(c:zy (zu×Obj)) (s:zw) (b:St) (H:Hp) (Q:zy (V×V)->Hp->Prop),Inv X c b H s->RR a b H Q->
  wpAny (model X.prog X.w) X.A (evalPairs (pairTrees keys values X.env pos)) (λvs e=>∃ps d,Inv X c b d e/\VV ps vs/\Q ps d) X.xe s
def X9 {X:Cx}{pos:Pos}:fZ X pos [] [] [] :=λa s b H Q I h=>pairTrees_nil_walk ⟨[],H,I, .nil,h⟩
def WD {X:Cx}{pos:Pos}{k v:zr}{e:zy (zt zr)}{vs:zy zr}{f g:TE}{a:zy (TE×TE)}(hk:PE X k f)(hv:PE X v g)(i:fZ X pos e vs a):fZ X pos (some k::e) (v::vs) ((f,g)::a):=λb s c H Q I h=>
 pairTrees_cons_walk (BC (hk b s c H _ I h) λu j ⟨x,H1,l,m,n⟩=>BC (hv b j c H1 _ l n) λC o ⟨y,p,r,t,w⟩=>
  BC (i b o c p _ r w) λD E ⟨ps,z,A,d,B⟩=>⟨(x,y)::ps,z,A, .cons ⟨m,t⟩ d,B⟩)
def J8 (kvs more:zy (BU×V)):zy (BU×V):=more.foldl (λa b=>EI a b.1 b.2) kvs
def KV.merge:∀{more:zy (BU×V)} {a:zy (BU×zx)} {kvs:zy (BU×V)} {vs:zy (BU×zx)},KV more a->KV kvs vs->KV (J8 kvs more) (merged vs a):=by
 intro more a kvs vs r;unfold KV at r;induction r generalizing kvs vs with
 | nil=>intro q;exact q
 | @cons p q ps qs h t b=>
   intro c;have e:KV (EI kvs p.1 p.2) (stored vs q.1 q.2):=by have:=c.put p.1 h.2;rw[<-h.1];exact this
   exact b e
theorem Fh:∀(more kvs:zy (BU×V)),(J8 kvs more).length<=kvs.length+more.length
 | [],kvs=>by show kvs.length<=kvs.length+0;omega
 | p::r,kvs=>by have h1:=Fh r (EI kvs p.1 p.2);have h2:=Dr kvs p.1 p.2;show (J8 (EI kvs p.1 p.2) r).length<=_;rw[AAk];omega
theorem Jj {P:zp}{w:zm}:∀{kvs:zy (BU×V)} {e:zy (zx×zx)},VV (kvs.map λf=>(kV f.1,f.2)) e->∃d,Carries (Am P w) e d/\KV kvs d
 | [],_,r=>by rw[AB2] at r;cases r;exact⟨[],True.intro, .nil⟩
 | p::kvs,_,r=>by
   rw[AAM] at r;cases r with
   | @cons a b as bs h t=> obtain⟨d,c,q⟩:=Jj (P:=P) (w:=w) t;obtain⟨g,b2⟩:=b;exact⟨(p.1,b2)::d,⟨MF h.1,rfl,c⟩, .cons ⟨rfl,h.2⟩ q⟩
structure M2 (X:Cx) (o:Expr) (m:Str) (apos:Pos) (e f:Expr) (cpos:Pos):Prop where
 base:attributeBase o m X.env (eval o X.env)=eval o X.env
 few:((backTo cpos (starEach [e,f] X.env)).all (λx=> !x.1)&&(backToKw cpos (keywordEach [] X.env)).all (λx=>x.1.isSome)
  && decide (([e,f] :List Expr).length+([] :List Keyword).length+(if ([] :List Keyword).isEmpty then 0 else 1)<30))=true
 line:(apos.endLine==cpos.line)=true
 trees:backTo cpos (starEach [e,f] X.env)= [(false,eval e X.env),(false,eval f X.env)]
def jr (H:Hp)(a:zu):Prop:=(∃kvs,Rd H a (.dK kvs))\/∃kvs,Rd H a (.dT kvs)
def NN {X:Cx}{g:zy (zu×Obj)}{h:St}{H:Hp}{s:zw}{a:zu}(I:Inv X g h H s)(d:jr H a):s.TypeIs (.ref a) "dict" /\(∀b,Value.ref a= .ref b->∃c,s.heap.get? b=some c/\c.dict=none)/\(a==sysModules)=false:=by
 rcases d with⟨kvs,e⟩|⟨kvs,e⟩
 .obtain ⟨_,hd,vs,_,f⟩:=Oo I.hok e;refine⟨f.typeIs,λb q=> ?_,hd⟩;cases q;obtain⟨c,_,_,h1,h2,_⟩:=f;exact⟨c,h1,h2.2.1⟩
 .obtain ⟨_,hd,xs,_,f⟩:=Op I.hok e;refine⟨f.typeIs,λb q=> ?_,hd⟩;cases q;obtain⟨c,_,_,h1,h2,_⟩:=f;exact⟨c,h1,h2.2.1⟩
section
variable {X:Cx}{zj:zy (zu×Obj)}{σ:St}{H:Hp}{s:zw}{a:zu}{y d:V}{u r:zx}{o:zt V}{A:zk}{E:zx->zw->Prop}
def Zj {Q:zx->zw->Prop}(hu:A.units+1<cLine)(I:Inv X zj σ H s)(g:LN H a y o)(j:RelV y u)(m:RelV d r)(h:∀n p,Inv X zj σ H p->RelV (o.getD d) n->Q n p):wpAny (model X.prog X.w) A (call (.builtin "dict.get") [.ref a,u,r]) Q E s:=by
 rcases g with⟨kvs,k,e,i,l⟩|⟨kvs,k,b,e,i,t,l⟩
 .subst i;obtain⟨z,hd,vs,c,f⟩:=Oo I.hok e;refine ACa ADG f.typeIs ADf (ADg _ _ _) (meets_dict_get_default (Am X.prog X.w) a (MF j) hd r) ⟨_,f.mapOf,h _ _ (I.tok _) ?_⟩;rw[l];exact(c.val k).getD m
 .subst i;cases (show u=Value.ref b from j);obtain⟨z,hd,xs,c,f⟩:=Op I.hok e;refine ACa ADG f.typeIs ADf (ADg _ _ _) (meetsH_dict_get_default (tupleKind (Am X.prog X.w)) a b hd r) ⟨ADF hu,k,xs,NO I.hok t,f,h _ _ (I.tok _) ?_⟩;rw[l];exact(c.val k).getD m
end
def Wu (d e f:TE):TE:=λb H Q=>d b H λx H1=>∃a,x= .ref a/\jr H1 a/\e b H1 λy g=>f b g λz c=>∃o,LN c a y o/\Q (o.getD z) c
section
variable {X:Cx}{o e f:zr}{apos cpos:Pos}{td ty tx:TE}
def V4 (hu:X.A.units+1<cLine)(k:PE X o td)(he:PE X e ty)(l:PE X f tx)(m:M2 X o "get" apos e f cpos):PE X (.Call (.Attribute o "get" apos) [e,f] [] cpos) (Wu td ty tx):=by
 intro b s c H Q I h;refine ADH m.base m.few m.line ADI ADG PySem.F.type_dict_get (BC (k b s c H _ I h) λu n ⟨x,H1,j,p,a,ex,d,r⟩=> ?_);subst ex;obtain rfl:u=Value.ref a:=p;obtain⟨t,v,_⟩:=NN j d;refine⟨t,v, ?_⟩;rw[m.trees];refine ACN rfl (Calls.evalArgs_plain (ACu (BC (he b n c H1 _ j r) λN w ⟨y,B,C,D,E⟩=>
  ACu (BC (l b w c B _ C E) λO P ⟨z,G,J,K,R,g,L⟩=>Calls.spliced_nil ?_))))
 exact Zj hu J g D K λS T M i=>⟨_,G,M,i,L⟩
end
end L2
namespace PL
open PySem PySem.Spec PyProof.Rows L2
section
variable {K:AAB}{T M:zu->Prop}{H H':Hp}
def Hj.ext (va:Hj T M H)(ex:∀b o,H b=some o->H' b=some o):Mv K T M H T M H':=⟨va,λb o _ _ e=>ex b o e,λ_ t=>t,λ_ _ t=>t,λ_ _ m=>m⟩
def Yb (va:Hj T M H)(ex:∀b o,H b=some o->H' b=some o):CP T H T H' where
 keep:=λb u _ e=>ex b u e
 sub:=λ_ t=>t
 new:=λ_ t=> .inl t
 tp:=λa t=>let ⟨d,x,e,q⟩:=va.tp a t;⟨d,x,ex _ _ e,q⟩
end
end PL
namespace L2
open PySem PySem.Spec PyProof.Rows
def QO (own:Nat)(a:St):St:=List.replicate own none++a.drop own
def Td {own:Nat}{a:St}{j:Nat}{v:V}(h:(QO own a)[j]? =some (some v)):own<=j/\a[j]? =some (some v):=by
 unfold QO at h;by_cases hj:j<own
 .rw [AA8 (by simpa using hj),ABG,AAE hj] at h;cases h
 .have Ul:own<=j:=by omega
  rw[AAx (by simpa using Ul),ABH,ADJ] at h;rw[show own+(j-own)=j by omega] at h;exact⟨Ul,h⟩
end L2
namespace PL
open PySem PySem.Spec PyProof.Rows L2
def Tc (own:Nat)(τ:A0):A0:=List.replicate own none++τ.drop own
def SR.noOwn {K:AAB}{B:B9}{T:zu->Prop}{H:Hp}{a:L2.St}{τ:A0}(s:SR K B T H a τ)(c:∀b,¬Bs a τ b){i:Nat}{xs:zy PV}:τ[i]? ≠some (some (.own xs)):=λe=>by obtain⟨p,vs,d,_⟩:=s.own i xs e;exact c p ⟨i,xs,e,d⟩
def SR.swap {K:AAB}{B:B9}{l f:zu->Prop}{m g:Hp}{a σ0:L2.St}{τ k:A0}(c:SR K B l m a τ)(n:∀b,¬Bs a τ b)(d:SR K B f g σ0 k)(o:Mv K l (mt B a τ) m f (mt B a τ) g):SR K B f g a τ:=
 ⟨c.len,λi x e=>let ⟨v,h,r⟩:=c.val i x e;⟨v,h,r.mv o⟩,λi xs e=>absurd e (c.noOwn n),λi j xs s p e=>absurd e (c.noOwn n),d.tp,d.bm,d.bt,d.st⟩
def Gf {own:Nat}{τ:A0}{j:Nat}{x:AV}(h:(Tc own τ)[j]? =some (some x)):own<=j/\τ[j]? =some (some x):=by
 unfold Tc at h;by_cases hj:j<own
 .rw [AA8 (by simpa using hj),ABG,AAE hj] at h;cases h
 .have Ul:own<=j:=by omega
  rw[AAx (by simpa using Ul),ABH,ADJ] at h;rw[show own+(j-own)=j by omega] at h;exact⟨Ul,h⟩
def SR.cut {K:AAB}{B:B9}{T:zu->Prop}{H:Hp}{c:L2.St}{τ:A0}{own:Nat}(s:SR K B T H c τ)(d:∀b,¬Bs c τ b):SR K B T H (QO own c) (Tc own τ)/\∀b,¬Bs (QO own c) (Tc own τ) b:=by have g:∀b,¬Bs (QO own c) (Tc own τ) b:=λb ⟨i,xs,h,f⟩=>d b ⟨i,xs,(Gf h).2,(Td f).2⟩;refine⟨⟨by simp[QO,Tc,s.len],λi x e=> ?_,λi xs e=>absurd (Gf e).2 (s.noOwn d),λi j xs k p e=>absurd (Gf e).2 (s.noOwn d),s.tp,s.bm,s.bt,s.st⟩,g⟩;obtain⟨Ul,f⟩:=Gf e;obtain⟨v,hv,r⟩:=s.val i x f;refine⟨v, ?_,r.mv (.anti s.va λa z=>z.elim .inl λz=>absurd z (g a))⟩;unfold QO;rw[AAx (by simpa using Ul),ABH,ADJ,show own+(i-own)=i by omega];exact hv
structure c5 (D:Addr) (T:Addr->Prop) (H:Hp) (T':Addr->Prop) (H':Hp):Prop where
 keep:∀b o,¬T b->b≠D->H b=some o->H' b=some o
 sub:∀b,T b->T' b
 new:∀b,T' b->T b\/H b=none
 tp:∀b,H b≠none->H' b≠none
def c5.upd {D:zu}{T:zu->Prop}{H:Hp}{o:HO}:c5 D T H T (upd H D o):=⟨λb a _ n e=>by rw[AZ n];exact e,λ_ e=>e,λ_ e=> .inl e,λb e=>by
 by_cases h:b=D
 .subst h;rw[Ad];exact λz=>nomatch z
 .rw [AZ h];exact e⟩
end PL
namespace PL
open PySem L2 PyProof.Rows
section
variable {ai ai2:AI}{g g2:AG}{tt t2:AT}{te:AE}{τ τ':A0}{QL:zy PV->Prop}{own own2:Nat}{ix:zy Nat}
instance{i:Nat}{a b:AE}{nx bk ct:A0->Prop}{rt:PV->Prop}:Wp (Zd i a b ⟨nx,rt,bk,ct⟩ τ) (b τ λy=>IW i τ λxs=>a τ λk=>OJ k λk=>gN (T4 xs.length k) λj=>Lj τ i (.own (xs.set j y)) nx):=⟨id⟩
end
end PL
namespace L2
open PySem PySem.Spec PyProof.Rows
def mV {P:zp}{w:zm}{h:zl}{d:zu}{o:Obj}{es:Array DictEntry}{ep:Nat}{vs:zy (BU×zx)}(g:h.get? d=some o)(e:o.data= .dict es ep)(x:h.DictOf (Am P w) d vs):h.DictAt (Am P w) d vs ep:=by obtain⟨i,b,f,g',c,a,r⟩:=x;rw[g] at g';cases g';rw[e] at a;cases a;exact⟨o,es,g,c,e,r⟩
def K4 (H:Hp)(d:zu)(n ep:Nat)(kvs:zy (BU×V)):Prop:=∃o es,H d=some (.frz o (.dK kvs))/\o.data= .dict es ep/\kvs.length=n
def Itm (d:zu)(n ep:Nat):It:=
 ⟨λi H=>∃kvs k x,K4 H d n ep kvs/\kvs[i]? =some (k,x),
  λi H v a=>∃T k x,v= .ref T/\H T=none/\a=upd H T (.tup [kV k,x])/\∀kvs,K4 H d n ep kvs->kvs[i]? =some (k,x),
  λi H=>∃kvs,K4 H d n ep kvs/\kvs.length<=i⟩
def K4.one {H:Hp}{d:zu}{n ep:Nat}{a b:zy (BU×V)}(x:K4 H d n ep a)(y:K4 H d n ep b):a=b:=by obtain⟨o,es,e,_⟩:=x;obtain⟨g,f,c,_⟩:=y;rw[e] at c;cases c;rfl
def K4.at {X:Cx}{b:zy (zu×Obj)}{c:St}{H:Hp}{s:zw}{d:zu}{n ep:Nat}{kvs:zy (BU×V)}(I:Inv X b c H s)(x:K4 H d n ep kvs):∃vs,KV kvs vs/\s.heap.DictAt (Am X.prog X.w) d vs ep:=by obtain⟨o,es,e,f,_⟩:=x;obtain⟨g,z,hd,vs,a,h⟩:=(show Bi X.prog X.w H s.heap d (.frz o (.dK kvs)) from I.hok d _ e);exact⟨vs,a,mV g f h⟩
def Vl {P:zp}{w:zm}{k:BU}{u:zx}(h:(Am P w).is k u=true):RelV (kV k) u:=by
 rcases A6 h with⟨i,t,rfl,rfl⟩|⟨x,t,rfl,rfl⟩
 .exact ⟨_,rfl⟩
 .exact ⟨_,rfl⟩
def Vn {kvs:zy (BU×V)}{vs:zy (BU×zx)}(r:KV kvs vs):∀{i:Nat} {k:BU} {x:V},kvs[i]? =some (k,x)->∃u,vs[i]? =some (k,u)/\RelV x u:=by
 unfold KV at r;induction r with
 | nil=>intro i k x h;simp at h
 | @cons p q ps qs h t a=>
   intro i k x e;cases i with
   | zero=> simp at e;subst e;obtain⟨d,b⟩:=q;obtain⟨h1,h2⟩:=h;exact⟨b,by simp at h1;simp[h1],h2⟩
   | succ i=> obtain⟨u,hu,c⟩:=a (i:=i) (k:=k) (x:=x) (by simpa using e);exact⟨u,by simpa using hu,c⟩
def LZ:entryFor table "dict_itemiterator.__iter__" =some Builtin.«dict_keyiterator.__iter__»:=
 entryFor_alias (id':="dict_keyiterator.__iter__") (by kernel_rfl) (by first | rfl|decide +kernel|(unfold String.splitOn;simp +decide [String.splitOnAux])) (by decide +kernel) (by kernel_rfl)
def Lb {prog:zp}{w:zm}{A:zk}{E:zx->zw->Prop}{s:zw}{it d:zu}{k n ep:Nat}{ok b:zx}{Q:zx->zw->Prop}(he:IsItemIter s.heap it d k n ep ok b)(h:Q (.ref it) s):wpAny (model prog w) A (pyIter (.ref it)) Q E s:=by have a:s.TypeIs (.ref it) "dict_itemiterator" :=⟨_,he,rfl⟩;refine wpAny_pyIter_slot a ADh (AAt ADh a LZ ?_ (F.args_dict_itemiterator_iter_1 _));show wpAny _ _ (ret (.ref it)) _ _ s;exact AAC ⟨_,rfl,"dict_itemiterator",_,a,F.slot_dict_itemiterator_next.lookup,h⟩
def RZ {P:zp}{w:zm}{K:AAB}{es:zy zr}{G:Nat}{pos:Pos}{it d:zu}{n ep:Nat}:IV P w K (.Tuple es G pos) (Itm d n ep) [it] it (λk h=>∃ok c,IsItemIter h it d k n ep ok c) where
 mem:=by simp
 obj:=λk h st p hp=>by
  obtain⟨ok,c,he⟩:=st;have b:p=it:=by simpa using hp
  subst b;exact⟨_,he,λv z=>nomatch z⟩
 keep:=λk h h' st l=>by obtain⟨ok,c,he⟩:=st;exact⟨ok,c,l it (by simp) _ he⟩
 item:=by
  intro X m hw r hc k B s C H E I j st t;subst m hw r;obtain⟨ok,c,he⟩:=st;obtain⟨kvs,y,x,f,hx⟩:=t;obtain⟨vs,a,A⟩:=f.at I;have hl:vs.length=n:=by obtain⟨_,_,_,_,e⟩:=f;rw[<-e];exact a.length.symm
  subst hl;obtain⟨u,hu,J⟩:=Vn a hx;have g:it<s.heap.objs.size:=AAF he;refine wpAny_pyNext_items_item he A hu λkey h1 L M N U O=> ?_;refine⟨_,rfl,wpAny_letOwnedTupleGo_items (s:={s with heap:=h1}) M λh2 Q R=> ?_⟩;have i:∀p o,p≠it->h1.get? p=some o->h2.get? p=some o:=λp o q z=>R.extBut _ _ q z;have D:∀p∈ [it],p<s.heap.objs.size:=λp hp=>by
   have b:p=it:=by simpa using hp
   rw[b];exact g
  have l:∀p o,p ∉ [it] ->s.heap.get? p=some o->h2.get? p=some o:=λp o hp z=>by
   have b:p≠it:=by simpa using hp
   exact i p o b (O p o b z)
  have S:Inv X B C (upd H s.heap.objs.size (.tup [kV y,x])) {s with heap:=h2,toks:=s.toks}:=I.turnedN j D l (AAI _)
   ⟨(by show 2<=sizeLine;decide), [key,u], .cons (Vl L) (.cons J .nil),⟨_,i _ _ (AAj g) N,rfl,_,rfl⟩⟩
  refine⟨.ref s.heap.objs.size,upd H s.heap.objs.size (.tup [kV y,x]),S,rfl,⟨_,y,x,rfl,I.fresh,rfl,λF h'=> ?_⟩,⟨key,u,Q⟩,λp hp=> ?_⟩
  .rw [h'.one f];exact hx
  .rw [AZ (AAK (D p hp))];exact(j p hp).1
 done:=by
  intro X m hw r hc k B s C H E I j st t;subst m hw r;obtain⟨ok,c,he⟩:=st;obtain⟨kvs,f,hx⟩:=t;obtain⟨vs,a,A⟩:=f.at I;have hl:vs.length=n:=by obtain⟨_,_,_,_,e⟩:=f;rw[<-e];exact a.length.symm
  have W:=a.length;subst hl;refine wpAny_pyNext_items_end (I.ok.hd hc) he A (by rw[ADi];omega) λh' T=>⟨rfl, ?_⟩;exact I.turnedL (t':=s.toks) j λp o hp z=>by
   have b:p≠it:=by simpa using hp
   exact T p o b z
 self:=λ_ _ _ _ _ st h=>by obtain⟨ok,c,he⟩:=st;exact Lb he h
section
variable {X:Cx}
def PR {e:zr}{z:TE}{apos f j:Pos}{es:zy zr}{C:Nat}(he:PE X e z)(hb:attributeBase e "items" X.env (eval e X.env)=eval e X.env)(D:((backTo f (starEach [] X.env)).all (λx=> !x.1)&&(backToKw f (keywordEach [] X.env)).all (λx=>x.1.isSome)&&decide (([] :zy zr).length+([] :zy Keyword).length+(if ([] :zy Keyword).isEmpty then 0 else 1)<30))=true)(hl:(apos.endLine==f.line)=true)(E:backTo f (starEach [] X.env)= []):PI X (.Tuple es C j) (.Call (.Attribute e "items" apos) [] [] f) (λm H R=>z m H λv H1=>∃d n ep kvs,v= .ref d/\K4 H1 d n ep kvs/\R (Itm d n ep) H1):=by
 intro G s m H R I h;refine ADH hb D hl ADI ADj PySem.F.type_dict_items (BC (he G s m H _ I h) λu i ⟨x,H1,k,J,d,n,ep,kvs,ex,t,K⟩=> ?_);subst ex;obtain rfl:u=Value.ref d:=J;obtain⟨vs,y,A⟩:=t.at k;have L:vs.length=n:=by obtain⟨_,_,_,_,e⟩:=t;rw[<-e];exact y.length.symm
 obtain⟨o,M,N,U,_⟩:=id t;obtain⟨O,P,Q⟩:=NN k (.inl ⟨kvs, .inr ⟨o,N⟩⟩);have B:i.heap.DictOf (Am X.prog X.w) d vs:=let ⟨o,es,a,b,c,r⟩:=A;⟨o,es,ep,a,b,c,r⟩;refine⟨O,P, ?_⟩;rw[E];refine ACN rfl (PySem.evalArgs_none ?_);refine ACa ADj B.typeIs PySem.F.entry_dict_items (PySem.F.args_dict_items_1 _) (meets_dict_items (Am X.prog X.w) d Q) ⟨⟨vs,B⟩, ?_⟩;have S:(i.heap.push {cls:= .type "dict_items",data:= .fields #[.ref d] }).DictAt (Am X.prog X.w) d vs ep:=by obtain⟨o,es,g,r⟩:=A;exact⟨o,es,AAG _ g,r⟩
 refine wpAny_pyIter_items (s:={i with heap:=i.heap.push {cls:= .type "dict_items",data:= .fields #[.ref d] }}) (knd:=Am X.prog X.w) (d:=d) ?_ S ?_
 .exact ⟨_,AAN _ rfl,rfl,rfl⟩
 subst L;have l:(i.heap.push {cls:= .type "dict_items",data:= .fields #[.ref d] }).objs.size=i.heap.objs.size+1:=AA7 ..;refine⟨_, [i.heap.objs.size+1],_,_,H1,congrArg Value.ref l,k.kept (t':=i.toks) λb W q=>AAG _ (AAG _ q),RZ,⟨.none, .none, ?_⟩,λp hp=> ?_,K⟩
 .have:=AAN (i.heap.push {cls:= .type "dict_items",data:= .fields #[.ref d] }) (o:={cls:= .type "dict_itemiterator",data:= .fields #[Value.none,Value.bool false,Value.ref d,Value.int 0 0,Value.int (vs.length:Int) 0,Value.int (ep:Int) 0,Value.none,Value.none] }) rfl;rw[l] at this;exact this
 .have T:p=i.heap.objs.size+1:=by simpa using hp
  subst T;exact k.fpOk (ACb _ _) (k.hok.fresh (ACb _ _))
end
end L2
namespace PL
open PySem PySem.Spec PyProof.Rows L2
section
variable {X:Cx}
def bi (a:zy (TE×TE)):TE:=λd H Q=>∀p,H p=none->RR a d (upd H p (.dK [])) λps b=>b p=some (.dK [])/\∃kvs:zy (BU×V),ps=kvs.map (λc=>(kV c.1,c.2))/\kvs.length<=15/\∀o es ep,o.data= .dict es ep->Q (.ref p) (upd b p (.frz o (.dK (J8 [] kvs))))
def V5 {pos:Pos}{keys:zy (zt zr)}{values:zy zr}{b:zy (TE×TE)}(h:fZ X pos keys values b)(j:keys.all (·.isSome)=true)(hl:keys.length=values.length)(k:keys≠ [])(l:keys.length<=15):PE X (.Dict keys values pos) (bi b):=by
 intro m s n H Q I q;have p:=I.hok.fresh (AAI s.heap.objs.size);have r:=I.laid (a:=s.heap.objs.size) (o:= .dK []) (h':=s.heap.push {cls:= .type "dict",data:= .dict #[] }) (t':=s.toks) (λ_ _ q=>AAG _ q) (AAI _) (On s.heap I.big);refine wpAny_Dict_walk (knd:=Am X.prog X.w) j hl k l (BC (h m _ n _ _ r (q _ p)) λD E ⟨ps,F,g,f,e,kvs,ep,G,t⟩=> ?_);subst ep;obtain⟨u,c,v⟩:=Jj (P:=X.prog) (w:=X.w) f;obtain⟨z,hd,x,y,A⟩:=R1 g.hok e;cases y;have B:(J8 [] kvs).length<=sizeLine:=by have h1:=Fh kvs [];rw[List.length_nil] at h1;rw[ABy];omega
 refine⟨u,c,A,λh' d hs=> ?_⟩;obtain⟨o,es,ep,i,C⟩:=id d;refine⟨.ref s.heap.objs.size,_, ?_,rfl,t o es ep C.2.1⟩;exact Gg g (by rw[e];exact True.intro) hs ⟨o,i⟩ ⟨i,M6 B hd (v.merge .nil) d⟩
def Yc {T c:zu->Prop}{H f:Hp}{d:zu}{o:HO}(s:CP T H c f)(hd:H d=none)(g:¬c d):CP T H c (upd f d o) where
 keep b q t e:=by
  have n:b≠d:=λz=>by subst z;rw[hd] at e;cases e
  rw[AZ n];exact s.keep b q t e
 sub:=s.sub
 new:=s.new
 tp a t:=by
  have n:a≠d:=λz=>by subst z;exact g t
  obtain⟨x,y,e,r⟩:=s.tp a t;exact⟨x,y,by rw[AZ n];exact e,r⟩
def U8 (a b:AE):AE:=λτ Q=>a τ λx=>b τ λy=>match x,y with | .int i, .int j=>Q (.dk [(i,j)])|_,_=>False
def bN {a b:zr}{u w:AE}{p:Pos}(ha:SE X a u)(hb:SE X b w):SE X (.Dict [some a] [b] p) (U8 u w):=by
 obtain⟨t,E,s⟩:=ha;obtain⟨t',h,F⟩:=hb;refine⟨_,V5 (WD E h X9) rfl rfl (List.cons_ne_nil _ _) (ABA rfl),λB T y τ H Q N k q G=> ?_⟩;intro d hd;have c:CP T H T (upd H d (.dK [])):=CP.lay k.tp hd;have f:=k.stp c;have A:¬T d:=λz=>by obtain⟨o,e,_⟩:=(k.tp d z).mut;rw[hd] at e;cases e
 refine s B T y τ _ _ _ f q λv x T1 H1 l I J=>F B T1 y τ _ _ _ (f.stp l) J λO P C K D L m=> ?_;split at m <;> first | exact m.elim|skip
 rename_i i j;cases I;cases L;have n:K d=some (.dK []):=(l.trans D).keep _ _ A Ad;have g:=l.trans D;have r:¬C d:=λz=>by
  rcases g.new d z with z|z
  .exact A z
  .rw [Ad] at z;cases z
 refine⟨n, [(.inl i, .int j)],rfl,ABA rfl,λo es ep M=> ?_⟩;exact G _ _ C _ (Yc (c.trans g) hd r) (.dk (kvs:= [(i,j)]) Ad M) m
end
end PL
namespace L2
open PySem PySem.Spec PyProof.Rows
def M5 (J:It)(D:zu)(σ0:St)(g:TG)(f:TT)(h j:TE)(Q:Hp->Prop)(W:Nat->Nat->Hp->Prop):Prop:=
 ∀i m H,W i m H->(J.stop i H/\Q H)\/(J.go i H/\∀x c,J.yld i H x c->g x σ0 c λa l=>f a l λok d=>
  if ok=true then h a d λy n=>j a n λz e=>∃k kvs,y=kV k/\e D=some (.dK kvs)/\kvs.length<sizeLine/\∃b,b<m/\W (i+1) b (upd e D (.dK (EI kvs k z))) else ∃b,b<m/\W (i+1) b d)
def Wt (b:TI)(own:Nat)(ix:zy Nat)(g:TG)(c:TT)(d e:TE):TE:=λa H Q=>b a H λJ H1=>∀D,H1 D=none->
 ∃W:Nat->Nat->Hp->Prop,(∃m,W 0 m (upd H1 D (.dK [])))/\M5 J D (Bk own ix a) g c d e (Q (.ref D)) W
section
variable {X:Cx}{tg kx vx iter:zr}{ifs:zy zr}{scope:Scope}{pos:Pos}{wi:TI}{own:Nat}{ix:zy Nat}{N:zy Str}{g:TG}{tt:TT}{tk tv:TE}
def QP {G:zy (zu×Obj)}{U:St}{H:Hp}{s:zw}{l:zy zu}{cl:zy (Str×zu)}{it:zu}{tn:Nat->zl->Prop}{J:It}{D:zu}{R:Result->zw->Prop}{Qh:Hp->Prop}{W:Nat->Nat->Hp->Prop}(hc:X.calm=true)(O:EM X tg kx ifs scope own ix N g tt tk)(OV:∀cl C s H ex pn,PE (blk X (relabel scope X.env) N cl C s H ex pn) vx tv)(T:IV X.prog X.w X.K tg J l it tn)(I:Inv X G U H s)(hf:∀b∈l,EO X G H b)(F0:∀b∈l,b<s.heap.objs.size)(hW:M5 J D (Bk own ix U) g tt tk tv Qh W)(hR:∀σ' a Z,Inv (blk X (relabel scope X.env) N cl s.heap.objs.size s H l (X.pn++G)) [] σ' a Z->Qh a->R (.ok .next) Z)(n:Nat)(s0:zw)(h0:∃i a,Inv (blk X (relabel scope X.env) N cl s.heap.objs.size s H l (X.pn++G)) [] (Bk own ix U) a s0/\tn i s0.heap/\(∀b∈l,a b=none)/\W i n a):codeAny (model X.prog X.w) X.A (.compLoop (.DictComp kx vx [⟨tg,iter,ifs,0⟩] scope pos) 0 (.ref it) (.ref D) (Fu X.env (relabel scope X.env) cl s.heap.objs.size)) R s0:=by
 refine codeAny_loop rfl (λn Z=>∃i a,Inv (blk X (relabel scope X.env) N cl s.heap.objs.size s H l (X.pn++G)) [] (Bk own ix U) a Z/\tn i Z.heap/\(∀b∈l,a b=none)/\W i n a) (λn s1 h1=> ?_) n h0;obtain⟨i,H1,B1,st1,fr1,w1⟩:=h1;generalize f:blk X (relabel scope X.env) N cl s.heap.objs.size s H l (X.pn++G)=Y at *;have eA:Y.A=X.A:=by rw[<-f];rfl
 have eP:Y.prog=X.prog:=by rw[<-f];rfl
 have eW:Y.w=X.w:=by rw[<-f];rfl
 have eK:Y.K=X.K:=by rw[<-f];rfl
 have eE:Fu X.env (relabel scope X.env) cl s.heap.objs.size=Y.env:=by rw[<-f];rfl
 have eX:Y.xe=λ_ _=>False:=by rw[<-f];rfl
 have eC:Y.calm=true:=by rw[<-f];exact hc
 have hg:PG Y tg g:=by rw[<-f];exact O.tgt _ _ _ _ _ _
 have ht:Yq Y ifs tt:=by rw[<-f];exact O.tst _ _ _ _ _ _
 have hk:PE Y kx tk:=by rw[<-f];exact O.val _ _ _ _ _ _
 have hv:PE Y vx tv:=by rw[<-f];exact OV _ _ _ _ _ _
 have B:∀{a:Hp},(∀b∈l,a b=none)->∀b∈l,EO Y [] a b:=λ{a} hn b hb=>by
  obtain⟨_,a1,a2,a3,a4,a5⟩:=hf b hb;refine⟨hn b hb, ?_, ?_, ?_, ?_, ?_⟩
  .rw [<-f];exact AAK (F0 b hb)
  .rw [<-f];exact I.notStk a1 a2
  .rw [<-f];exact .inl hb
  .intro x c e;exact(B1.ok.exf b (by rw[<-f];exact hb)).2 x c e
  .intro p hp;have:p∈X.pn++G:=by rw[<-f] at hp;simpa[blk] using hp
   exact a5 p this
 rw[eE,<-eA,<-eP,<-eW];show wpAny _ _ ((compTurn (.DictComp kx vx [⟨tg,iter,ifs,0⟩] scope pos) 0 (.ref it) (.ref D) Y.env).onRaise (λx=>do noteFrame x Y.env;theTreesLotGoes x)) _ _ s1;refine wpAny_noted ?_;rw[compTurn_dict];have ff:∀{α:Type} {t:Sem α} {Q:α->zw->Prop} {E:zx->zw->Prop} {s:zw},wpAny (model Y.prog Y.w) Y.A t Q Y.xe s->wpAny (model Y.prog Y.w) Y.A t Q E s:=λh=>AA6 h (λ_ _ q=>q) λ_ _ z=>by rw[eX] at z;exact z.elim
 refine AAA (ABF (AAA ?_));rcases hW i n H1 w1 with⟨stop,qn⟩|⟨go,step⟩
 .have zd:=λE=>T.done Y eP eW eK eC i [] s1 _ H1 E B1 (B fr1) st1 stop;rw[<-eP,<-eW] at zd;refine BC (zd _) λr s4 ⟨hr,I4⟩=> ?_;subst hr;exact AAC (hR _ _ _ I4 qn)
 .have zi:=λE=>T.item Y eP eW eK eC i [] s1 _ H1 E B1 (B fr1) st1 go;rw[<-eP,<-eW] at zi;refine BC (zi _) λr s4 ⟨u,hr,h4⟩=> ?_;subst hr;refine AAA (BC h4 λ_ s5 ⟨x,H5,I5,r5,y5,L,fr5⟩=> ?_);have I5':=I5.pinned (B fr5) (T.obj _ _ L);refine AAA (BC (ff (hg _ s5 _ H5 x u _ I5' r5 (O.keep _ _ _ _ (step x H5 y5)))) λ_ s6 ⟨F,H6,I6,q6,l6,k6⟩=> ?_);refine AAA (BC (ff (ht _ s6 F H6 _ I6 q6)) λok s7 ⟨H7,I7,q7⟩=> ?_);have back:∀{M:Hp} {P:zw} {S:Nat},Inv Y ([] ++ HL l s5.heap) F M P->S<n->W (i+1) S M->
   ∃m,m<n/\∃i a,Inv Y [] (Bk own ix U) a P/\tn i P.heap/\(∀b∈l,a b=none)/\W i m a:=λ{M P S} I8 hm w8=>by
   refine⟨S,hm,i+1,M,I8.unpinned.weak l6.symm (λj v hj=> ?_),T.keep _ _ _ L λb hb o e=>(I8.pin (b,o) (AAb _ (AAb _ (Cr hb e)))).1,λb hb=> ?_,w8⟩
   .rw [k6 j (Fv hj).1];exact hj
   .obtain ⟨o,e,d⟩:=T.obj _ _ L b hb;exact(I8.pin (b,o) (AAb _ (AAb _ (Cr hb e)))).2.1
  cases ok with
  | false=> obtain⟨S,hm,w8⟩:=q7;exact AAC ⟨rfl,back I7 hm w8⟩
  | true=>
    refine AAA (AAA (BC (ff (hk _ s7 F H7 _ I7 q7)) λkv P ⟨y,M,I8,r8,q8⟩=> ?_));refine AAA (AAW (BC (ff (hv _ P F M _ I8 q8)) λvv s9 ⟨z,H9,I9,r9,k,kvs,ey,hD,hz,S,hm,w9⟩=> ?_));subst ey;refine AAA (ABF (AAW ?_));obtain⟨z1,m8,vs,rel,dd⟩:=R1 I9.hok hD;have nZ:vs.length<=sizeLine:=by rw[<-rel.length];exact z1
    have hl:(EI kvs k z).length<=sizeLine:=by have:=Dr kvs k z;omega
    refine wpAny_dictSet_pairs (hsz:=nZ) (MF r8) dd λh' dd' hs=> ?_;have he:∃q,h'.get? D=some q:=let ⟨q,_,_,hq,_⟩:=dd';⟨q,hq⟩;have I10:=Gg (t':=s9.toks+1) I9 (by rw[hD];exact True.intro) hs he (M6 hl m8 (rel.put k r9) dd');exact AAC ⟨rfl,back I10 hm w9⟩
def Tg {h:zy (zu×Obj)}{E:St}{H:Hp}{s:zw}{use:zt (zx->Sem Unit)}{Q:zx->zw->Prop}{it:zu}{l:zy zu}{cl:zy (Str×zu)}{tn:Nat->zl->Prop}{J:It}{Qd:zu->Hp->Prop}(hc:X.calm=true)(O:EM X tg kx ifs scope own ix N g tt tk)(S:∀cl C s H ex pn,PE (blk X (relabel scope X.env) N cl C s H ex pn) vx tv)(T:IV X.prog X.w X.K tg J l it tn)(I:Inv X h E H s)(U:∀b∈l,EO X h H b)(st:tn 0 s.heap)(h1:∀y c,cl.lookup y=some c->X.env.cells.lookup y=some c)(h2:∀y,(y,NameKind.free)∈scope.names->∃c,cl.lookup y=some c)(Y:∀D,H D=none->∃W:Nat->Nat->Hp->Prop,(∃m,W 0 m (upd H D (.dK [])))/\M5 J D (Bk own ix E) g tt tk tv (Qd D) W)(Z:∀D C k n,(∃m,n.heap.Ns C m)->Inv X h E k n->(∀i F,Inv X h i k F->∀h',Heap.SameBut C F.heap h'->Inv X h i k {F with heap:=h'})->C≠X.env.locals->(∀x c,X.env.cells.lookup x=some c->C≠c)->Qd D k-> compPost (model X.prog X.w) X.A X.xe use Q (.ref D) C (.ok .next) n):wpAny (model X.prog X.w) X.A (newDict #[]) (λp r=>wpAny (model X.prog X.w) X.A (newFunctionEnv scope X.env.globals cl [] X.env.qual none .none (some X.env)) (λf t=> codeAny (model X.prog X.w) X.A (.compStart (.DictComp kx vx [⟨tg,iter,ifs,0⟩] scope pos) 0 (.ref it) p {f with scope:=relabel scope X.env}) (compPost (model X.prog X.w) X.A X.xe use Q p f.locals) t) X.xe r) X.xe s:=by
 refine AAv ?_ (by simp[sizeOk]);have j:Inv X h E (upd H s.heap.objs.size (.dK [])) {s with heap:=s.heap.push {cls:= .type "dict",data:= .dict #[] }}:=I.laid (a:=s.heap.objs.size) (o:= .dK []) (t':=s.toks) (λ_ _ q=>AAG _ q) (AAI _) (On s.heap I.big);have Tt:=I.fresh;obtain⟨W,⟨m0,w0⟩,hW⟩:=Y _ Tt;have Z4:∀b∈l,b<s.heap.objs.size:=λb hb=>by obtain⟨o,e,_⟩:=T.obj _ _ st b hb;exact AAF e
 have G:∀b∈l,EO X h (upd H s.heap.objs.size (.dK [])) b:=λb hb=>by obtain⟨a0,ar⟩:=U b hb;exact⟨by rw[AZ (AAK (Z4 b hb))];exact a0,ar⟩
 generalize iI:({s with heap:=s.heap.push {cls:= .type "dict",data:= .dict #[] }}:zw)=s3 at j;have u:tn 0 s3.heap:=T.keep _ _ _ st λb hb o e=>by rw[<-iI];exact AAG _ e
 have L:∀b∈l,b<s3.heap.objs.size:=λb hb=>by obtain⟨o,e,_⟩:=T.obj _ _ u b hb;exact AAF e
 refine wpAny_newFunctionEnv O.nocell (by intro y hy;simp at hy) (λd cS iJ=> ?_) O.kind;have R:∀b o,s3.heap.get? b=some o->d.get? b=some o:=λb o e=>iJ.extBut b o (AAK (AAF e)) (AAG _ e);have Y2:∀y,((relabel scope X.env).names.lookup y=some .cell\/(relabel scope X.env).names.lookup y=some .free)->∃c,cl.lookup y=some c:=λy hy=>by
  rcases hy with z|z
  .exact h2 y (Ds O.nocell (HE z) (.inl rfl))
  .exact h2 y (Ds O.nocell (HE z) (.inr rfl))
 have B:=VD (N:=N) (t':=s3.toks+([] :zy (Str×zx)).length) j G L (sc:=relabel scope X.env) O.kind h1 Y2 O.ins cS R;have v:tn 0 d:=T.keep _ _ _ u λb hb o e=>R b o e;have loop:∀M:zw,M={s3 with heap:=d,toks:=s3.toks+([] :zy (Str×zx)).length}->
  codeAny (model X.prog X.w) X.A (.compLoop (.DictComp kx vx [⟨tg,iter,ifs,0⟩] scope pos) 0 (.ref it) (.ref s.heap.objs.size) (Fu X.env (relabel scope X.env) cl s3.heap.objs.size)) (compPost (model X.prog X.w) X.A X.xe use Q (.ref s.heap.objs.size) s3.heap.objs.size) M:=by rintro M rfl;refine QP (cl:=cl) (Qh:=Qd s.heap.objs.size) hc O S T j G L hW (λσ' k n P q'=> ?_) m0 _ ⟨0,_,B,v,λb hb=>(G b hb).1,w0⟩;refine Z _ _ k n (let ⟨m,hm,_⟩:=P.loc;⟨m,hm⟩) (Rp (own:=own) (ix:=ix) j G L P) (λi F I2 h' hs=>Oc j rfl I2 P.free hs) (AAj j.lt) (λx c e=>AAj (j.szLt e)) q'
 exact codeAny_compStart_dict (loop _ rfl) (T.self _ 0 _ _ _ v (loop _ rfl))
def WF {i:Nat}{x:Str}{pos' b:Pos}(hc:X.calm=true)(hN:X.N.Nodup)(n:X.N[i]? =some x)(hx:Loc X.env.scope x)(hi:PI X tg iter wi)(O:EM X tg kx ifs scope own ix N g tt tk)(o:∀cl C s H ex pn,PE (blk X (relabel scope X.env) N cl C s H ex pn) vx tv)(p:swapsWith (.DictComp kx vx [⟨tg,iter,ifs,0⟩] scope pos) (some (.Name x pos')) b.line X.env=pure true:=by rfl)(hs:∀x,foldedSetIterable iter X.env x=pure x:=by intro _;rfl)(r:X.fn x=true\/X.env.scope.names.lookup x=some .local:=by first | exact .inl rfl|exact .inr rfl|assumption):PS X (.Assign [.Name x pos'] (.DictComp kx vx [⟨tg,iter,ifs,0⟩] scope pos) b) (RQ (Wt wi own ix g tt tk tv) (CA i)):=by
 intro k s l H D I h;obtain⟨cl,t,h1,h2⟩:=Fw (env:=X.env) (scope:=scope) λy hy e=>I.ok.has y.1 (.inl (O.frees y hy e));rw[exec_Assign_Name_used _ _ _ _ p];refine AAA (ABF (AAA ?_));show wpAny _ _ (do let _ <-comprehension (.DictComp kx vx [⟨tg,iter,ifs,0⟩] scope pos) scope X.env _ (newDict #[]) false (eval iter X.env) (some (assign (.Name x pos') X.env))) _ _ s;refine AAA (BC (AC4 (use:=some (assign (.Name x pos') X.env)) (Q:=λ_ c=>SP X k D .next c) rfl hs t O.kind O.names (BC (hi k s l H _ I h) λv Y hv=>BC hv λu Z w=> ?_)) λ_ c A=>AAC (AAC A));obtain⟨it,fp,tn,J,H2,rfl,B,T,f,E,q⟩:=w;refine Tg (Qd:=λd j=>CA i (.ref d) l j D.nx) hc O o T B E f h1 h2 q λd C j c F G gone K L M=> ?_;obtain⟨m,P⟩:=F;show wpAny _ _ (assign (.Name x pos') X.env (.ref d)) _ _ c;refine ACs (Hc (v:= .ref d) G hN n hx rfl (λR S ⟨a,U,ha⟩=> ?_) r);have W:C≠a:=by
  rcases ha with z|z
  .rw [z];exact K
  .exact L x a z
 exact⟨m,P.sameBut U W,λh' hs=>⟨_,j,gone _ R S h' hs,M⟩⟩
end
section
variable {X:Cx}
def bj (i:Nat)(t:TS):TS:=λD b H=>∃a kvs,b[i]? =some (some (.ref a))/\H a=some (.dK kvs)/\∀o es ep,o.data= .dict es ep->t D b (upd H a (.frz o (.dK kvs)))
def YF {rest:zy Stmt}{t:TS}{i:Nat}(h:OX X rest t):OX X rest (bj i t):=by intro c s d H D I q;obtain⟨a,kvs,_,e,q⟩:=q;obtain⟨z,hd,vs,b,f⟩:=R1 I.hok e;obtain⟨o,es,ep,g,j⟩:=id f;have k:Inv X c d (upd H a (.frz o (.dK kvs))) {s with heap:=s.heap,toks:=s.toks}:=Gg (h':=s.heap) I (by rw[e];exact True.intro) ⟨rfl,λ_ _=>rfl⟩ ⟨o,g⟩ ⟨g,M6 z hd b f⟩;exact h c s d _ D k (q o es ep j.2.1)
end
end L2
namespace PL
open PySem PySem.Spec PyProof.Rows L2
def BL (m:zy (Int×Int))(k v:Int):zy (Int×Int):=if (m.any λp=>decide (p.1=k))=true then m.map (λp=>if p.1=k then (p.1,v) else p) else m ++ [(k,v)]
def BQ (m:zy (Int×Int))(k:Int):Int:=((m.find? λp=>decide (p.1=k)).map (·.2)).getD 0
def Xh (m:zy (Int×Int))(k:Int):((EG m).any λb=>decide (b.1=(.inl k:BU)))=m.any λp=>decide (p.1=k):=by
 induction m with
 | nil=>rfl
 | cons p r a=> unfold EG at a ⊢;rw[AAM,ABJ,ABJ,a];congr 1;simp
def SL (m:zy (Int×Int))(k v:Int):EG (BL m k v)=EI (EG m) (.inl k) (.int v):=by
 unfold BL EI;rw[Xh];split
 .unfold EG;rw[ABS,ABS];apply ABl;intro p _;simp only[Function.comp];by_cases h:p.1=k
  .simp [h]
  .simp [h]
 .unfold EG;rw[AB8];rfl
def Xi (m:zy (Int×Int))(k:Int):(G4 (EG m) (.inl k)).getD (.int 0)= .int (BQ m k):=by
 induction m with
 | nil=>rfl
 | cons p r a=>
   unfold EG at a ⊢;rw[AAM];by_cases h:p.1=k
   .rw [FP (by simp[h])];simp[BQ,h]
   .rw [FO (by simp[h]),a];simp[BQ,h]
def Gq (m:zy (Int×Int))(k v:Int):(BL m k v).length<=m.length+1:=by
 unfold BL;split
 .rw [AAL];omega
 .simp
def BB (many:Int)(m:zy (Int×Int)):zy (Int×Int):=m.foldl (λa p=>BL a p.1 (many*p.2)) []
def NM {m:zy (Int×Int)}{i:Nat}(h:i<m.length):(EG m)[i]? =some (.inl m[i].1, .int m[i].2):=by unfold EG;rw[AAg,AAc h];rfl
def FZ {c a:Type}{f:a->c->a}{b:a}{m:zy c}{i:Nat}(h:i<m.length):(m.take (i+1)).foldl f b=f ((m.take i).foldl f b) m[i] :=by rw[List.take_succ_eq_append_getElem h,AB9];rfl
def XV {K:AAB}{H:Hp}{r:L2.St}{s:Nat}{many:Int}{d n ep:Nat}{m:zy (Int×Int)}{Q:V->Hp->Prop}(y:K4 H d n ep (EG m))(A:r[s]? =some (some (.int many)))(hl:m.length<sizeLine)(ok:∀p∈m,MulOk many p.2)(q:∀D c,H D=none->(∀b o,H b=some o->c b=some o)->c D=some (.dK (EG (BB many m)))->Q (.ref D) c):∀D,H D=none->∃W:Nat->Nat->Hp->Prop,(∃k,W 0 k (upd H D (.dK [])))/\M5 (Itm d n ep) D (Bk 2 [s] r) (Qa K 2 (EF (CA 0) (EF (CA 1) NC))) Yi (GK 0) (Yh (rI MulOk λi j=> .int (i*j)) (GK 2) (GK 1)) (Q (.ref D)) W:=by
 intro D u;have B:Bk 2 [s] r= [none,none,some (.int many)] :=by unfold Bk;simp[A]
 rw[B];let W:Nat->Nat->Hp->Prop:=λi k c=>i+k=m.length/\(∀b o,H b=some o->c b=some o)/\c D=some (.dK (EG (BB many (m.take i))))/\(BB many (m.take i)).length<=i;refine⟨W,⟨m.length,ADK _,λb o e=>by rw[AZ (Ak e u)];exact e,Ad,AAI _⟩, ?_⟩;rintro i k c ⟨hi,ex,l,C⟩;have f:K4 c d n ep (EG m):=let ⟨o,es,a,b⟩:=y;⟨o,es,ex _ _ a,b⟩;cases k with
 | zero=> left;refine⟨⟨_,f,by unfold EG;rw[AAL];omega⟩,q D c u ex ?_⟩;rw[ACV (by omega)] at l;exact l
 | succ k=>
   right;have g:i<m.length:=by omega
   refine⟨⟨_,_,_,f,NM g⟩,λx F E=> ?_⟩;obtain⟨t,G,I,rfl,v,rfl,hu⟩:=E;have hx:=hu _ f;rw[NM g] at hx;cases hx;have J:D≠t:=λz=>by subst z;rw[l] at v;cases v
   have h:∀b o,c b=some o->upd c t (.tup [kV (.inl m[i].1), .int m[i].2]) b=some o:=λb o e=>by rw[AZ (Ak e v)];exact e
   refine⟨t,_,rfl, .inl (.inl (.inl Ad)),rfl,_,_,rfl,_,_,rfl,rfl, ?_⟩;dsimp only[Yi];rw[AAE rfl];refine⟨_,rfl,_,rfl,_,rfl,many,m[i].2,rfl,rfl,ok _ (ADL g), ?_⟩;refine⟨.inl m[i].1,_,rfl,h _ _ l,by unfold EG;rw[AAL];omega,k,by omega,by omega,λb o e=> ?_, ?_, ?_⟩
   .rw [AZ (Ak e u)];exact h _ _ (ex _ _ e)
   .rw [Ad];unfold BB;rw[FZ g,SL]
   .unfold BB at C ⊢;rw[FZ g];have:=Gq ((m.take i).foldl (λw p=>BL w p.1 (many*p.2)) []) m[i].1 (many*m[i].2);omega
def BA (more:Int)(a m:zy (Int×Int)):zy (Int×Int):=m.foldl (λa p=>BL a p.1 (BQ a p.1+more*p.2)) a
def Vq (d a b c:Nat):TS:=ZD (GK d) (GK a) (Yh (Np λi j=> .int (i+j)) (Wu (GK d) (GK a) (tC (.int 0))) (Yh (rI MulOk λi j=> .int (i*j)) (GK c) (GK b)))
def Xm {K:AAB}{H H1:Hp}{σ0:L2.St}{D:Ms}{B c f s:Nat}{more:Int}{d n ep a:Nat}{m acc0:zy (Int×Int)}(U:B≠c)(X:B≠f)(Y:s≠c)(Z:s≠f)(n5:c≠f)(l1:c<σ0.length)(l2:f<σ0.length)(fd:K4 H d n ep (EG m))(ha:H a=none)(J:∀b o,H b=some o->H1 b=some o)(h1:H1 a=some (.dK (EG acc0)))(hw:σ0[B]? =some (some (.ref a)))(hm:σ0[s]? =some (some (.int more)))(ok:∀p∈m,MulOk more p.2)(hl:acc0.length+m.length<sizeLine)(L:∀σ' g,σ'.length=σ0.length->(∀j,j≠c->j≠f->σ'[j]? =σ0[j]?)->(∀b o,H b=some o->g b=some o)->g a=some (.dK (EG (BA more acc0 m)))->D.nx σ' g):∃W:Nat->Nat->L2.St->Hp->Prop,(∃k,W 0 k σ0 H1)/\∀i k v g,W i k v g-> ((Itm d n ep).stop i g/\D.nx v g)\/((Itm d n ep).go i g/\∃N:L2.St->Hp->Prop,(∀σ' w,N σ' w->∃Q,Q<k/\W (i+1) Q σ' w)/\∀x w,(Itm d n ep).yld i g x w->Qa K 2 (EF (CA c) (EF (CA f) NC)) x v w λl R=>Vq B c f s {D with nx:=N,ct:=N,bk:=D.nx} l R):=by
 let W:Nat->Nat->L2.St->Hp->Prop:=λi k v g=>i+k=m.length/\(v.length=σ0.length/\∀j,j≠c->j≠f->v[j]? =σ0[j]?)/\(∀b o,H b=some o->g b=some o)/\g a=some (.dK (EG (BA more acc0 (m.take i))))/\(BA more acc0 (m.take i)).length<=acc0.length+i;refine⟨W,⟨m.length,ADK _,⟨rfl,λ_ _ _=>rfl⟩,J,h1,AAI _⟩, ?_⟩;rintro i k v g ⟨hi,⟨S,T⟩,ex,M,nI⟩;have y:K4 g d n ep (EG m):=let ⟨o,es,a,b⟩:=fd;⟨o,es,ex _ _ a,b⟩;cases k with
 | zero=> left;refine⟨⟨_,y,by unfold EG;rw[AAL];omega⟩,L v g S T ex ?_⟩;rw[ACV (by omega)] at M;exact M
 | succ k=>
   right;have C:i<m.length:=by omega
   refine⟨⟨_,_,_,y,NM C⟩,λσ' w=>W (i+1) k σ' w,λσ' w h=>⟨k,by omega,h⟩,λx w yl=> ?_⟩;obtain⟨t,kk,xx,rfl,hn,rfl,hu⟩:=yl;have hx:=hu _ y;rw[NM C] at hx;cases hx;have z:∀b o,g b=some o->upd g t (.tup [kV (.inl m[i].1), .int m[i].2]) b=some o:=λb o e=>by rw[AZ (Ak e hn)];exact e
   refine⟨t,_,rfl, .inl (.inl (.inl Ad)),rfl,_,_,rfl,_,_,rfl,rfl, ?_⟩;generalize G:(v.set c (some (kV (.inl m[i].1)))).set f (some (V.int m[i].2))=l;have A:l.length=σ0.length:=by rw[<-G];simp[S]
   have r:∀j,j≠c->j≠f->l[j]? =σ0[j]? :=λj h h'=>by rw[<-G,AAU (AAp h'),AAU (AAp h)];exact T j h h'
   have E:l[c]? =some (some (.int m[i].1)):=by rw[<-G,AAU (AAp n5),ABb (by omega)];rfl
   have O:l[f]? =some (some (.int m[i].2)):=by rw[<-G,ABb (by simp;omega)]
   have F:l[B]? =some (some (.ref a)):=by rw[r B U X];exact hw
   have P:l[s]? =some (some (.int more)):=by rw[r s Y Z];exact hm
   have I:=z _ _ M;generalize hH:upd g t (.tup [kV (.inl m[i].1), .int m[i].2])=R at z I;refine⟨_,F,a,rfl, .inl ⟨_, .inl I⟩,_,E,_,LN.k (k:= .inl m[i].1) I,_,P,_,O,more,m[i].2,rfl,rfl,ok _ (ADL C), ?_⟩;rw[Xi];refine⟨_,_,rfl,rfl,_,F,_,E,a,_,rfl,Pz.k (k:= .inl m[i].1) I (by unfold EG;rw[AAL];omega),by omega,⟨A,r⟩,λb o e=> ?_, ?_, ?_⟩
   .rw [AZ (Ak e ha)];exact z _ _ (ex _ _ e)
   .rw [Ad];unfold BA;rw[FZ C,SL]
   .unfold BA at nI ⊢;rw[FZ C];have:=Gq ((m.take i).foldl (λu p=>BL u p.1 (BQ u p.1+more*p.2)) acc0) m[i].1 (BQ ((m.take i).foldl (λu p=>BL u p.1 (BQ u p.1+more*p.2)) acc0) m[i].1+more*m[i].2);omega
def kC (a:TE):TI:=λb H R=>a b H λv H1=>∃d n ep kvs,v= .ref d/\K4 H1 d n ep kvs/\R (Itm d n ep) H1
def mW (K:AAB)(a:TE)(b c:Nat):TS:=RQ (Wt (kC a) 2 [c] (Qa K 2 (EF (CA 0) (EF (CA 1) NC))) Yi (GK 0) (Yh (rI MulOk λi j=> .int (i*j)) (GK 2) (GK 1))) (CA b)
def kI (K:AAB)(d:TE)(e a b c:Nat):TS:=fP (kC d) (Qa K 2 (EF (CA a) (EF (CA b) NC))) (Vq e a b c)
section
variable {K:AAB}{B:B9}{T:zu->Prop}{H:Hp}{σ σ':L2.St}{τ τ':A0}
def SR.loose (s:SR K B T H σ τ)(hl:σ'.length=τ'.length)(h:∀(j:Nat) (a:AV),τ'[j]? =some (some a)->τ[j]? =some (some a)/\σ'[j]? =σ[j]?):SR K B T H σ' τ'/\∀b,Bs σ' τ' b->Bs σ τ b:=by
 have i:∀b,Bs σ' τ' b->Bs σ τ b:=λb ⟨j,xs,h1,h2⟩=>let ⟨c,d⟩:=h j _ h1;⟨j,xs,c,by rw[<-d];exact h2⟩;have l:Mv K T (mt B σ τ) H T (mt B σ' τ') H:= .anti s.va λa m=>m.elim .inl λz=> .inr (i a z);refine⟨⟨hl,λj y e=> ?_,λj f e=> ?_,λj k f r p t u n o=> ?_,s.tp,s.bm,s.bt,s.st⟩,i⟩
 .obtain ⟨c,d⟩:=h j _ e;obtain⟨w,hw,g⟩:=s.val j y c;exact⟨w,by rw[d];exact hw,g.mv l⟩
 .obtain ⟨c,d⟩:=h j _ e;obtain⟨p,vs,h1,h2,h3,v⟩:=s.own j f c;exact⟨p,vs,by rw[d];exact h1,h2,h3.mv l,v⟩
 .obtain ⟨c,d⟩:=h j _ t;obtain⟨x,b2⟩:=h k _ u;rw[d] at n;rw[b2] at o;exact s.dist j k f r p c x n o
end
def Xs (x:PV)(R:zy (Int×Int)->Prop):Prop:=match x with | .dk m=>R m|_=>False
def SY {x:PV}{R:zy (Int×Int)->Prop}(h:Xs x R):∃m,x= .dk m/\R m:=by cases x <;> first | exact⟨_,rfl,h⟩|exact h.elim
def U9 (c a b e d:Nat)(f g:AE):AS:=λD τ=>(c<τ.length/\a<τ.length/\b<τ.length)/\f τ λx=>Xs x λm1=>∃many,τ[e]? =some (some (.val (.int many)))/\m1.length<sizeLine/\(∀p∈m1,MulOk many p.2)/\
 g (τ.set c none) λy=>Xs y λm2=>∃more,τ[d]? =some (some (.val (.int more)))/\(BB many m1).length+m2.length<sizeLine/\(∀p∈m2,MulOk more p.2)/\
 D.nx (((τ.set c (some (.val (.dk (BA more (BB many m1) m2))))).set a none).set b none)
def jB {k:Nat}{A:zk}(a:Room k A):A.units+1<cLine:=by have:=a.un;omega
section
variable {X:Cx}
def Wj {e1 e2:zr}{ta tb:AE}{m p:Stmt}{rest:zy Stmt}{b:AS}{f g k im s:Nat}(n1:f≠g)(n2:f≠k)(n3:s≠g)(n4:s≠k)(n5:g≠k)(n6:s≠f)(h1:SE X e1 ta)(h2:SE X e2 tb)(p1:∀I,PE X e1 I->PS X m (mW X.K I f im))(p2:∀I,PE X e2 I->PS X p (kI X.K I f g k s))(h3:TL X rest b):TL X (m::p::rest) (Ab (U9 f g k im s ta tb) b):=by
 obtain⟨t1,q1,s1⟩:=h1;obtain⟨t2,q2,s2⟩:=h2;obtain⟨t3,q3,s3⟩:=h3;refine⟨_,Bu (p1 t1 q1) (Bu (p2 t2 q2) (YF (i:=f) q3)),λB T J τ H D AD A h er=> ?_⟩;obtain⟨⟨l0,l1,l2⟩,h⟩:=h;refine s1 B T J τ H _ _ A h λv x T1 H1 m r1 h1=> ?_;obtain⟨m1,rfl,many,dL,Y,Z,h1⟩:=SY h1;have u:=A.stp m;obtain⟨vm,nX,rvm⟩:=u.val _ _ dL;cases rvm;cases r1 with
 | dk hh eo=>
 rename_i d o es ep;have L:K4 H1 d m1.length ep (EG m1):=⟨o,es,hh,eo,by unfold EG;rw[AAL]⟩;refine⟨_,_,_,_,rfl,L, ?_⟩;refine XV (K:=X.K) (Q:=λx H1=>CA f x J H1 (fS (kI X.K t2 f g k s) (bj f t3) D)) L nX Y Z λa H2 ha ex hD=> ?_;have M:¬T1 a:=λz=>by obtain⟨o,e,_⟩:=(u.tp a z).mut;rw[ha] at e;cases e
 have N:CP T1 H1 T1 H2:=Yb u.va ex;have sr2:=u.stp N;obtain⟨O,_⟩:=sr2.loose (σ':=J.set f (some (.ref a))) (τ':=τ.set f none) (by simp[A.len]) λj c e=>by
  rcases A1 e with⟨_,C,_⟩|⟨n,C⟩
  .cases C
  .exact ⟨C,AAU (λz=>n z.symm)⟩
 refine s2 B T1 _ _ H2 _ _ O h1 λv2 y U G p r2 h2=> ?_;obtain⟨m2,rfl,more,dO,hsz,ok2,h2⟩:=SY h2;obtain⟨vr,nY,rvr⟩:=A.val _ _ dO;cases rvr;have cQ:G a=some (.dK (EG (BB many m1))):=p.keep _ _ M hD;have na2:¬U a:=λz=>by
  rcases p.new a z with z|z
  .exact M z
  .rw [hD] at z;cases z
 cases r2 with
 | dk W P=>
 rename_i d2 o2 R ep2;have da:d2≠a:=λz=>by subst z;rw[cQ] at W;cases W
 have fd2:K4 G d2 m2.length ep2 (EG m2):=⟨o2,R,W,P,by unfold EG;rw[AAL]⟩;refine⟨_,_,_,_,rfl,fd2, ?_⟩;let H0:Hp:=λb=>if b=a then none else G b
 have E:(J.set f (some (V.ref a))).length=τ.length:=by simp[A.len]
 refine Xm (K:=X.K) (H:=H0) (H1:=G) (σ0:=J.set f (some (V.ref a))) (D:={D with nx:=bj f t3 D}) (acc0:=BB many m1) (a:=a) (more:=more) n1 n2 n3 n4 n5 (by rw[E];exact l1) (by rw[E];exact l2) ⟨o2,R,(AAD da).trans W,P,by unfold EG;rw[AAL]⟩ (AAE rfl) (λb o e=> ?_) cQ ?_ ?_ ok2 hsz λσ' H4 sl so S mw=> ?_
 .by_cases z:b=a
  .rw [show H0 b=none from AAE z] at e;cases e
  .rw [show H0 b=G b from AAD z] at e;exact e
 .rw [ABb (by rw[A.len];exact l0)]
 .rw [AAU (λz=>n6 z.symm)];exact nY
 refine⟨a,_, ?_,mw,λo es ep eo=> ?_⟩
 .rw [so f n1 n2,ABb (by rw[A.len];exact l0)]
 have l:CP T H U G:=(m.trans N).trans p;have St:CP T H U (upd H4 a (.frz o (.dK (EG (BA more (BB many m1) m2))))):=by
  refine⟨λb q nt e=> ?_,l.sub,l.new,λx t=> ?_⟩
  .have z:b≠a:=λz=>by subst z;have:=m.keep _ _ nt e;rw[ha] at this;cases this
   rw[AZ z];exact S b q ((AAD z).trans (l.keep b q nt e))
  .have z:x≠a:=λz=>by subst z;exact na2 t
   obtain⟨d,w,e,r⟩:=l.tp x t;exact⟨d,w,by rw[AZ z];exact S _ _ ((AAD z).trans e),r⟩
 have sr5:=A.stp St;have sr6:=sr5.set (i:=f) (v:= .ref a) (x:= .dk (BA more (BB many m1) m2)) (.dk Ad eo);obtain⟨sr7,ow⟩:=sr6.loose (σ':=σ') (τ':=((τ.set f (some (.val (.dk (BA more (BB many m1) m2))))).set g none).set k none) (by rw[sl,E];simp) λj c e=>by
  rcases A1 e with⟨_,C,_⟩|⟨k2,C⟩
  .cases C
  .rcases A1 C with⟨_,F,_⟩|⟨k1,F⟩
   .cases F
   .exact ⟨F,so j k1 k2⟩
 exact s3 B U σ' _ _ D AD sr7 h2 (er.shift (St.prog.trans (.less λb z=>Bt (ow b z))))
end
end PL
namespace L2
open PySem PySem.Spec PyProof.Rows
def gg (K:AAB)(l:zu):It:=
 ⟨λi H=>∃xs x,EQ K H l xs/\xs[i]? =some x,
  λi H v a=>∃T x,v= .ref T/\H T=none/\a=upd H T (.tup [.int i,x])/\∀xs,EQ K H l xs->xs[i]? =some x,
  λi H=>∃xs,EQ K H l xs/\xs.length<=i⟩
def UZ {P:zp}{w:zm}{K:AAB}{es:zy zr}{J:Nat}{pos:Pos}{e it l:zu}(C:e≠it):IV P w K (.Tuple es J pos) (gg K l) [e,it] e (λk h=>(∃b,IsEnum h e it (k:Nat) b)/\h.IsListIter it l k) where
 mem:=by simp
 obj:=λk h st p hp=>by
  obtain⟨⟨b,he⟩,hi⟩:=st;have f:p=e\/p=it:=by simpa using hp
  rcases f with q|q
  .subst q;exact⟨_,he,λv z=>nomatch z⟩
  .subst q;obtain⟨o,a,c,d⟩:=hi;exact⟨o,a,λv z=>by rw[d] at z;cases z⟩
 keep:=λk h h' st j=>by obtain⟨⟨b,he⟩,hi⟩:=st;exact⟨⟨b,j e (by simp) _ he⟩,hi.at λo a=>j it (by simp) o a⟩
 item:=by
  intro X r hw t hc k D s F H E I m st y;subst r hw t;obtain⟨⟨b,he⟩,hi⟩:=st;obtain⟨xs,x,n,hx⟩:=y;obtain⟨A,rv,p,L⟩:=I.list n;obtain⟨u,hu,M⟩:=rv.get hx;have i:e<s.heap.objs.size:=AAF he;have B:it<s.heap.objs.size:=by obtain⟨o,a,_⟩:=id hi;exact AAF a
  refine wpAny_pyNext_enum_item he hi p.isList (x:=u) (by simpa using hu) C λh1 N O Q a4 R=> ?_;refine⟨_,rfl,wpAny_letOwnedTupleGo_enum (s:={s with heap:=h1,toks:=s.toks+1}) N λh2 S T=> ?_⟩;have g:∀p o,p≠e->h1.get? p=some o->h2.get? p=some o:=λp o q z=>T.extBut _ _ q z;have G:∀p∈ [e,it],p<s.heap.objs.size:=λp hp=>by
   have f:p=e\/p=it:=by simpa using hp
   rcases f with q|q
   .rw [q];exact i
   .rw [q];exact B
  have j:∀p o,p ∉ [e,it] ->s.heap.get? p=some o->h2.get? p=some o:=λp o hp z=>by
   have f:p≠e/\p≠it:=by simpa using hp
   exact g p o f.1 (R p o f.1 f.2 z)
  have U:Inv X D F (upd H s.heap.objs.size (.tup [.int k,x])) {s with heap:=h2,toks:=s.toks+1}:=I.turnedN m G j (AAI _)
   ⟨(by show 2<=sizeLine;decide), [.int k s.toks,u], .cons ⟨_,rfl⟩ (.cons M .nil),⟨_,g _ _ (AAj i) Q,rfl,_,rfl⟩⟩
  have W:H s.heap.objs.size=none:=I.fresh;refine⟨.ref s.heap.objs.size,upd H s.heap.objs.size (.tup [.int k,x]),U,rfl,⟨_,x,rfl,W,rfl,λY h'=> ?_⟩,⟨⟨u, ?_⟩, ?_⟩,λp hp=> ?_⟩
  .rw [I.list_inj h' n];exact hx
  .have:((k+1:Nat):Int)=(k:Int)+1:=by push_cast;rfl
   rw[this];exact S
  .exact O.at λo z=>g it o C.symm z
  .rw [AZ (AAK (G p hp))];exact(m p hp).1
 done:=by
  intro X r hw t hc k D s F H E I m st y;subst r hw t;obtain⟨⟨b,he⟩,hi⟩:=st;obtain⟨xs,n,hx⟩:=y;obtain⟨A,rv,p,L⟩:=I.list n;have hl:=rv.length;refine wpAny_pyNext_enum_end (I.ok.hd hc) he hi p.isList (by simp;omega) λh' Z=>⟨rfl, ?_⟩;exact I.turnedL (t':=s.toks) m λp o hp z=>by
   have f:p≠e/\p≠it:=by simpa using hp
   exact Z p o f.2 z
 self:=λ_ _ _ _ _ st h=>by obtain⟨⟨b,he⟩,_⟩:=st;exact wpAny_pyIter_enum he h
section
variable {X:Cx}
def dW (K:AAB)(a:TA):TI:=λb H R=>a b H λvs H1=>∃l,vs= [.ref l] /\(∃xs,EQ K H1 l xs)/\R (gg K l) H1
def X3 {e:zr}{d:TA}{p pos b:Pos}{es:zy zr}{i:Nat}(j:Gl X "enumerate")(k:X.mg "enumerate" =none)(ha:PA X [e] d)(hs:starEach [e] X.env= [(false,eval e X.env)] :=by rfl):PI X (.Tuple es i b) (.Call (.Name "enumerate" p) [e] [] pos) (dW X.K d):=by
 intro m s n H R I h;refine Call_ (J4 I j k boot_enumerate (ACK (BC (ha pos m s n H _ I h) λx a ⟨vs,H1,c,o,t⟩=> ?_) (by rw[hs];rfl) rfl));obtain⟨l,rfl,⟨xs,hl⟩,q⟩:=t;cases o with
 | cons r u=>
 cases u;cases r;obtain⟨v,rv,p,y⟩:=c.list hl;refine call_enumerate_list p.isList λh' f b2 z w=> ?_;refine wpAny_pyIter_enum f ?_;have g:∀p∈ [a.heap.objs.size+1,a.heap.objs.size],a.heap.objs.size<=p:=λp hp=>by
  have A:p=a.heap.objs.size+1\/p=a.heap.objs.size:=by simpa using hp
  omega
 exact⟨_,_,_,_,H1,rfl,c.kept (t':=a.toks) w,UZ (Nat.succ_ne_self _),⟨⟨.none,f⟩,b2⟩,λp hp=>c.fpOk (g p hp) (c.hok.fresh (g p hp)),q⟩
end
end L2
namespace PL
open PySem PySem.Spec PyProof.Rows L2
def DV (k:Nat):zy PV->zy PV
 | [] => []
 | x::r=> .tup [.int k,x] :: DV (k+1) r
theorem MB:∀(xs:zy PV) (k:Nat),(DV k xs).length=xs.length
 | [],_=>rfl
 | _::r,k=>by rw[DV,AAk,MB r,AAk]
theorem HC:∀(xs:zy PV) (k i:Nat) (z:PV),(DV k xs)[i]? =some z->∃x,xs[i]? =some x/\z= .tup [.int ((k+i:Nat):Int),x]
 | [],_,_,_,h=>by simp[DV] at h
 | x::r,k,0,z,h=>⟨x,rfl,by simp[DV] at h;rw[<-h];rfl⟩
 | x::r,k,i+1,z,h=>by obtain⟨y,h1,h2⟩:=HC r (k+1) i z (by simpa[DV] using h);refine⟨y,by simpa using h1, ?_⟩;rw[h2,show k+1+i=k+(i+1) by omega]
def Tz {K:AAB}{T M:zu->Prop}{H:Hp}{l:zu}{xs:zy PV}(va:Hj T M H)(r:B5 K T M H (.ref l) (.lst xs)):P9 K M (gg K l) (DV 0 xs) T H:=by
 obtain⟨a,vs,e,f,m,n,b⟩:=Dc r;cases e;have c:EQ K H l vs:= .inl (.inl f);refine⟨λi z h=> ?_,λi z v s h g=> ?_,λi h=>⟨vs,c, ?_⟩⟩
 .obtain ⟨x,hx,_⟩:=HC xs 0 i z h;obtain⟨u,hu,_⟩:=b.get hx;exact⟨vs,u,c,hu⟩
 .obtain ⟨x,hx,rfl⟩:=HC xs 0 i z h;obtain⟨p,u,rfl,j,rfl,hu⟩:=g;obtain⟨t,d,k⟩:=b.get' (hu vs c);rw[hx] at d;cases d;have st:=CP.lay (o:= .tup [.int (i:Nat),u]) va.tp j;rw[ADK];exact⟨st, .tup (.inl Ad) (.cons (.int _) (.cons (k.stp st va) .nil))⟩
 .rw [b.length];rw[MB] at h;exact h
section
variable {X:Cx}
def fj (r:AA):AI:=λτ Q=>r τ λa=>match a with | [.lst xs] =>Q (DV 0 xs)|_=>False
def fB {e:zr}{r:AA}{p pos b:Pos}{es:zy zr}{c:Nat}(d:Gl X "enumerate")(f:X.mg "enumerate" =none)(ha:SA X [e] r)(hs:starEach [e] X.env= [(false,eval e X.env)] :=by rfl):SI X (.Tuple es c b) (.Call (.Name "enumerate" p) [e] [] pos) true (fj r):=by
 obtain⟨t,g,s⟩:=ha;refine⟨_,X3 d f g hs,λB T i τ H R v j h k=>s B T i τ H _ _ j h λvs xs T1 H1 l m h1=> ?_⟩;split at h1 <;> first | exact h1.elim|skip
 cases m with
 | cons ra t=> cases t;obtain⟨a,n,rfl,o,_,_,w⟩:=Dc ra;exact⟨a,rfl,⟨n, .inl (.inl o)⟩,k _ _ T1 H1 l (λM2 x y u va _=>Tz va (ra.mv u)) h1⟩
end
end PL
namespace L2
open PySem PySem.Spec PyProof.Rows
section
variable {prog:zp}{w:zm}{A:zk}{E:zx->zw->Prop}{s:zw}
def WX {d:zx}{Q:zx->zw->Prop}(h:∀(g:zq),wpAny (model prog w) A.in1.in1 (Builtin.«set.__init__» {pos:= [.ref s.heap.objs.size,d] }) (λj b=> match j with
     | Fin.done f=>wants (λr i=>r=Value.none/\Q (.ref s.heap.objs.size) i) E (Except.ok f) b
     | Fin.again l=>l.quiet=true/\codeAny (model prog w) A.in1 l (wants (λr i=>r=Value.none/\Q (.ref s.heap.objs.size) i) E) b)
   (λe b=>wants (λr i=>r=Value.none/\Q (.ref s.heap.objs.size) i) E (Except.error e) b) {s with heap:=s.heap.push {cls:= .type "set",data:= .set #[] 0 (SetTable.fresh 0 0 g)}}):
 wpAny (model prog w) A (call (.type "set") [d]) Q E s:=by
 obtain⟨c,y,p⟩:=ACA.mro;refine ABz (codeAny_of_tree ?_)
 wp_walk
 refine⟨by kernel_rfl,ADM F.entry_type_call ?_⟩;rw[Around.under_plain (weight_type_call_type ..) rfl];show wpAny (model prog w) A.in1 (Builtin.«type.__call__» {pos:= [.type "set",d] }) _ _ s;unfold Builtin.«type.__call__»;simp only[ACA.notType,ACA.canCreate,F.typeCall_set_1,p,ACA.made,pure_bind,List.isEmpty_cons,AAi,AAZ];refine AAA (AAW (ABz (ABe (code_set_new_1 (Q₁:=λobj o=>∃g,obj= .ref s.heap.objs.size/\o={s with heap:=s.heap.push {cls:= .type "set",data:= .set #[] 0 (SetTable.fresh 0 0 g)}}) (E:=E) d λg=>⟨g,rfl,rfl⟩) λr o k=> ?_)));match r,k with
 | .error e,k=>exact k
 | .ok (.ret obj),k=>
   obtain⟨g,rfl,rfl⟩:=k;have t:(s.heap.push {cls:= .type "set",data:= .set #[] 0 (SetTable.fresh 0 0 g)}).get? s.heap.objs.size=some {cls:= .type "set",data:= .set #[] 0 (SetTable.fresh 0 0 g)}:=AAN _ rfl;have n:Shared.TypeIs {s with heap:=s.heap.push {cls:= .type "set",data:= .set #[] 0 (SetTable.fresh 0 0 g)}} (.ref s.heap.objs.size) "set" :=⟨_,t,rfl⟩;refine AAA (ABv n ACA.sub ?_);simp only[AA3,AAi,AAZ];refine AAA (AAW ?_);unfold callSpecial?;refine AAA (ABN n ADN.lookup ?_);refine AAW (AAA (ABj (ADN.bind _) ?_));refine AAA (ABz (codeAny_call_builtin ADN.plain F.entry_set_init (check_set_init_1 n ?_)));have back:∀(v:zx) (b:zw),(v=Value.none/\Q (.ref s.heap.objs.size) b)->wpAny (model prog w) A.in1 (pure (some v)) (λa b=>wpAny (model prog w) A.in1 (match a with
    | none=>ret (Value.ref s.heap.objs.size)
    | some r=>if (r != Value.none)=true then do
              rule "type.call.init-returned-value"
              let __do_lift <-typeNameOf r
              raiseErrorMade "TypeError" (toString "__init__() should return None, not '" ++ toString __do_lift++toString "'")
              ret (Value.ref s.heap.objs.size)
             else ret (Value.ref s.heap.objs.size)) (λj b=>
             match j with
             | Fin.done f=>
               match Except.ok f with
               | Except.ok (Flow.ret v)=>Q v b
               | Except.ok a=>False
               | Except.error e=>E e b
             | Fin.again l=>l.quiet=true/\codeAny (model prog w) A l (λr b=>
                    match r with
                    | Except.ok (Flow.ret v)=>Q v b
                    | Except.ok a=>False
                    | Except.error e=>E e b) b) (λe b=>E e b) b) (λe b=>E e b) b:=by rintro v b ⟨rfl,u⟩;refine AAC ?_;exact AAC u
   refine BC (h g) λj b m=> ?_;match j,m with
   | .done (.ret v),m=>exact back v b m
   | .again l,m=>
     refine⟨m.1,ABe m.2 λr x k=> ?_⟩;match r,k with
     | .error e,k=>exact k
     | .ok (.ret v),k=>exact back v x k
def UL {M:Model}{f:Nat->PUnit->Sem (ForInStep PUnit)}{Q:PUnit->zw->Prop}{n:Nat}(b:n=1)(h:wpAny M A (f 0 PUnit.unit) (λr a=>r=ForInStep.yield PUnit.unit/\Q PUnit.unit a) E s):wpAny M A (forIn [:n] PUnit.unit f) Q E s:=by subst b;rw[Std.Legacy.Range.forIn_eq_forIn_range'];show wpAny M A (forIn [0] PUnit.unit f) Q E s;rw[ABh];refine AAA (BC h ?_);rintro r a ⟨rfl,c⟩;show wpAny M A (forIn [] PUnit.unit f) Q E a;rw[ACQ];exact AAC c
def WR (k:Int)(a:Tok):byScan (.int k a) #[] =true:=by unfold byScan;simp[Value.scannable,scanBound]
def QW (h:Int)(a:zq):∃j,(SetTable.fresh 0 0 a).freeSlot h=some (j,false):=⟨_,rfl⟩
def UB (h:Int)(x:zx)(a:zq):∃t:SetTable,layNew (SetTable.fresh 0 0 a) #[] h x=(#[(h,x)],t,false,false)/\t.mask=7/\t.dummies= #[] /\t.place.size=1/\t.plain=true:=by obtain⟨j,e⟩:=QW h a;unfold layNew;rw[e];exact⟨_,rfl,rfl,rfl,rfl,rfl⟩
def Oe {d:zu}{o:Obj}{ep:Nat}{k:Int}{c:Tok}{v:zx}{Q:zx->zw->Prop}(hd:s.heap.get? d=some o)(hc:o.cls= .type "dict")(he:o.data= .dict #[⟨hashInt k, .int k c,v⟩] ep)(hs:(d==sysModules)=false)(q:∀(h':zl) (t:SetTable) (n:Nat),t.mask=7->t.dummies= #[] ->t.place.size=1->h'.get? s.heap.objs.size=some ⟨.type "set",none, .set #[(hashInt k, .int k c)] n t, #[]⟩->(∀b o,b<s.heap.objs.size->s.heap.get? b=some o->h'.get? b=some o)->h'.objs.size=s.heap.objs.size+1->Q (.ref s.heap.objs.size) {s with heap:=h'}):wpAny (model prog w) A (call (.type "set") [.ref d]) Q E s:=by
 obtain⟨cls,u,data,sl⟩:=o;simp only at hc he;subst hc he;refine WX λa=> ?_;have h:(s.heap.push {cls:= .type "set",data:= .set #[] 0 (SetTable.fresh 0 0 a)}).get? s.heap.objs.size=some {cls:= .type "set",data:= .set #[] 0 (SetTable.fresh 0 0 a)}:=AAN _ rfl;have i:=AAG {cls:= .type "set",data:= .set #[] 0 (SetTable.fresh 0 0 a)} hd;unfold Builtin.«set.__init__»
 wp_walk using ABj F.sub_dict_set,ABj F.sub_dict_frozenset
 refine UL rfl ?_;obtain⟨t,j,f,g,e,l⟩:=UB (hashInt k) (.int k c) a;have x:t.tooFull=false:=by unfold SetTable.tooFull SetTable.fill;rw[f,g,e];rfl
 wp_walk
 rw[AAE (show byScan #[({hash:=hashInt k,key:=Value.int k c,val:=v}:DictEntry)][0].key #[] =true from WR k c)];show wpAny (model prog w) A.in1.in1 (do
  let __do_lift <-setAddByScan s.heap.objs.size (.int k c) (hashInt k) #[] (SetTable.fresh 0 0 a);match __do_lift with
   | some added=>pure added
   | none=>setAddHashedIn s.heap.objs.size (.int k c) (hashInt k) 99999) _ _ _
 unfold setAddByScan;simp only[j]
 wp_walk
 rw[AAE rfl];have m:d<s.heap.objs.size:=AAF hd;have p:=(ACc (s.heap.push {cls:= .type "set",data:= .set #[] 0 (SetTable.fresh 0 0 a)}) d s.heap.objs.size (Obj.putSet #[(hashInt k, .int k c)] t) (AAK m)).trans i
 wp_walk using wpAny_loadPart' p
 refine⟨rfl,AAC (AAC ⟨rfl, ?_⟩)⟩;refine q _ t 1 f g e ?_ (λb o hb r=> ?_) ?_
 .exact ACL (Obj.putSet #[(hashInt k, .int k c)] t) h rfl
 .rw [ACc _ _ _ _ (AAK hb)];exact AAG _ r
 .rw [Heap.size_update,AA7]
end
def M8:entryFor table "set.__or__" =some Builtin.«frozenset.__or__»:=
 entryFor_alias (id':="frozenset.__or__") (by kernel_rfl) (by first | rfl|decide +kernel|(unfold String.splitOn;simp +decide [String.splitOnAux])) (by decide +kernel) (by kernel_rfl)
abbrev Ll (h:Int)(x:zx)(n:Nat)(t:SetTable):Obj:=⟨.type "set",none, .set #[(h,x)] n t, #[]⟩
structure T1 (t:SetTable):Prop where
 m:t.mask=7
 d:t.dummies= #[]
 p:t.place.size=1
def T1.fits {t:SetTable}(h:T1 t):t.fits 1=true:=by unfold SetTable.fits SetTable.fill;rw[h.m,h.d,h.p];rfl
def T1.room {t:SetTable}(h:T1 t):t.roomFor 1=none:=by unfold SetTable.roomFor SetTable.fill;rw[h.m,h.d,h.p];rfl
section
variable {prog:zp}{w:zm}{A:zk}{E:zx->zw->Prop}{s:zw}
def O6 {S a:zu}{h:Int}{x:zx}{n:Nat}{t:SetTable}{b:zq}{Q:Unit->zw->Prop}(e:s.heap.get? S=some ⟨.type "set",none, .set #[] 0 (SetTable.fresh 0 0 b), #[]⟩)(ha:s.heap.get? a=some (Ll h x n t))(ne:(S==a)=false)(c:T1 t)(q:∀g:SetTable,T1 g->Q () {s with heap:=s.heap.update S (Obj.putSet #[(h,x)] g)}):wpAny (model prog w) A (setMerge S a) Q E s:=by
 unfold setMerge;rw[AAD (by rw[ne];decide)];refine AAA (ABD ha rfl c.fits ?_);show wpAny (model prog w) A (do
  setRoomFor S 1
  let __x <-setState S;match __x with
   | (fst,f,j)=>_) Q E s
 refine AAA ?_;unfold setRoomFor;refine AAA (ABD e rfl rfl ?_);show wpAny _ _ (pure ()) _ _ _;refine AAC (AAA (ABD e rfl rfl ?_));have i:(SetTable.fresh 0 0 b).road t=SetTable.Road.slotForSlot:=by unfold SetTable.road;rw[AAD (by cases b <;> decide),c.m,c.d];rfl
 dsimp only;rw[i];exact wpAny_storeSet_of e rfl (q _ ⟨c.m,c.d,c.p⟩)
def eB {a:Type}(f:Nat->Nat)(x:a):pickOrder f #[x] = #[x] :=by show pickOrder.go f 1 0 [x] #[] = #[x];simp[pickOrder.go,Nat.mod_one]
def walk1 {b:zu}{h:Int}{x:zx}{n:Nat}{t:SetTable}{os:zy zu}{c:zt zu}{Q:Array (Int×zx)->zw->Prop}(hb:s.heap.get? b=some (Ll h x n t))(a:T1 t)(q:Q #[(h,x)] s):wpAny (model prog w) A (setWalkUnseen b os c) Q E s:=by
 unfold setWalkUnseen;refine AAA (ABD hb rfl a.fits ?_);unfold setsByText;refine AAA (AAA (ACd (AAC ?_)));dsimp only;rw[AAE (by simp)];unfold setWalk;refine AAA (ABD hb rfl a.fits ?_);unfold setsByText;refine AAA (AAA (ACd (AAC ?_)));dsimp only;split
 .refine AAA (ACd (AAC ?_));dsimp only;rw[eB];exact q
 .split
  .rename_i d;exact absurd d (by show ¬(!t.plain&&decide (#[(h,x)].size>1))=true;simp)
  .refine AAA ?_;show wpAny _ _ (if (!t.led&&decide (#[(h,x)].size>1))=true then unsupported "set:maker-not-led" else pure ()) _ _ _;rw[AAD (by simp)];exact AAC (AAC q)
def UK {M:Model}{b:Type}{x:b}{f:b->PUnit->Sem (ForInStep PUnit)}{Q:PUnit->zw->Prop}(h:wpAny M A (f x PUnit.unit) (λr a=>r=ForInStep.yield PUnit.unit/\Q PUnit.unit a) E s):wpAny M A (forIn #[x] PUnit.unit f) Q E s:=by rw[<-ACG];show wpAny M A (forIn [x] PUnit.unit f) Q E s;rw[ABh];refine AAA (BC h ?_);rintro r a ⟨rfl,c⟩;show wpAny M A (forIn [] PUnit.unit f) Q E a;rw[ACQ];exact AAC c
def isInt_self (j:Int)(a:Tok):Value.isInt j (.int j a)=true:=by simp[Value.isInt]
def YM {h:zl}{S:zu}{i:Int}{a:Tok}{n:Nat}{t:SetTable}(b:h.get? S=some (Ll (hashInt i) (.int i a) n t))(c:T1 t):h.SetOf (intKind prog w) S (λk=>decide (k=i)) 1:=by
 refine⟨_,_,_,_,b, ?_,rfl, ?_, ?_, ?_,c.fits,rfl⟩
 .first | exact⟨rfl,rfl⟩|exact⟨rfl,rfl,rfl⟩|exact Or.inl rfl
 .intro e he;simp only[AAd] at he;subst he;exact⟨⟨i,isInt_self i a,rfl⟩,rfl⟩
 .intro k;simp[intKind,Value.isInt];exact eq_comm
 .simp [scanBound]
def UC {S b:zu}{i j:Int}{o c:Tok}{n m:Nat}{t u:SetTable}{id:String}{Q:Unit->zw->Prop}(f:s.heap.get? S=some (Ll (hashInt i) (.int i o) n t))(hb:s.heap.get? b=some (Ll (hashInt j) (.int j c) m u))(ne:(S==b)=false)(a:T1 t)(hu:T1 u)(q:∀h',Heap.SameBut S s.heap h'->h'.SetOf (intKind prog w) S (λk=>decide (k=i)||decide (k=j)) (if i=j then 1 else 2)->Q () {s with heap:=h'}):wpAny (model prog w) A (setMerge S b (Builtin.Frozenset.unchanged id b m)) Q E s:=by
 unfold setMerge;rw[AAD (by rw[ne];decide)];refine AAA (ABD hb rfl hu.fits ?_);show wpAny (model prog w) A (do
  setRoomFor S 1
  let __x <-setState S;match __x with
   | (fst,g,x)=>_) Q E s
 refine AAA ?_;unfold setRoomFor;refine AAA (ABD f rfl a.fits ?_);dsimp only;rw[a.room];refine AAC (AAA (ABD f rfl a.fits ?_));have r:t.road u=SetTable.Road.oneByOne:=by unfold SetTable.road SetTable.fill;rw[a.d,a.p];rfl
 dsimp only;rw[r];refine AAA (walk1 hb hu ?_);refine AAA (UK ?_);dsimp only;refine AAA (AAW (wpAny_setAddHashed_of (knd:=intKind prog w) (k:=j) (isInt_self j c) rfl (YM f a) (by simp[scanBound]) λh' h v=> ?_));have l:h'.get? b=some (Ll (hashInt j) (.int j c) m u):=by rw[h.2 b (λz=>by rw[z] at ne;simp at ne)];exact hb
 unfold Builtin.Frozenset.unchanged;refine AAA (AAA (wpAny_setEpoch_of l rfl hu.fits ?_));rw[AAD (by simp)];refine AAC (AAA (ABD l rfl hu.fits ?_));rw[AAD (by simp)];refine AAC ⟨rfl,AAC (q h' h ?_)⟩;have e:(if decide (j=i)=true then 1 else 1+1)=if i=j then 1 else 2:=by
  by_cases z:i=j
  .rw [AAE z,AAE (by simp[z])]
  .rw [AAD z,AAD (by simp;exact λy=>z y.symm)]
 rw[<-e];exact v
def Xy {a b:zu}{i j:Int}{e v:Tok}{n m:Nat}{t u:SetTable}{Q:zx->zw->Prop}(ha:s.heap.get? a=some (Ll (hashInt i) (.int i e) n t))(hb:s.heap.get? b=some (Ll (hashInt j) (.int j v) m u))(B:a≠b)(C:T1 t)(hu:T1 u)(q:∀(h':zl),h'.SetOf (intKind prog w) s.heap.objs.size (λk=>decide (k=i)||decide (k=j)) (if i=j then 1 else 2)->(∀c o,c<s.heap.objs.size->s.heap.get? c=some o->h'.get? c=some o)->Q (.ref s.heap.objs.size) {s with heap:=h'}):wpAny (model prog w) A (binaryOp .BitOr (.ref a) (.ref b)) Q E s:=by
 have D:=AAF ha;have x:=AAF hb;refine wpAny_binaryOp_same (T:="set") ⟨_,ha,rfl⟩ ⟨_,hb,rfl⟩ F.fills_set_or F.slot_set_or ?_;refine ABz (codeAny_call_builtin F.slot_set_or.plain M8 ?_);refine F.slot_set_or.check (model prog w) A.in1 _ s (.ref a) [.ref b] [] _ ⟨_,ha,rfl⟩ (F.args_set_or_2 _ _) ?_;unfold Builtin.«frozenset.__or__»
 wp_walk using ABj F.sub_set_set,ACd
 have y:∀{c:Nat},c<s.heap.objs.size->(s.heap.objs.size==c)=false:=λ{c} h=>by simp only[ACq,ne_eq];exact λz=>absurd h (by rw[z];exact ABE _)
 show wpAny _ _ (setMerge s.heap.objs.size a) _ _ _;refine O6 (AAN _ rfl) (AAG _ ha) (y D) C λf G=> ?_;have H:=AAG {cls:= .type "set",data:= .set #[] 0 (SetTable.fresh 0 0 !((model prog w).w.params.followText "set-order"))} hb;have I:((s.heap.push {cls:= .type "set",data:= .set #[] 0 (SetTable.fresh 0 0 !((model prog w).w.params.followText "set-order"))}).update s.heap.objs.size (Obj.putSet #[(hashInt i, .int i e)] f)).get? s.heap.objs.size=some (Ll (hashInt i) (.int i e) 1 f):=ACL (Obj.putSet #[(hashInt i, .int i e)] f) (AAN _ rfl) rfl;have J:=(ACc _ b s.heap.objs.size (Obj.putSet #[(hashInt i, .int i e)] f) (AAK x)).trans H;have g:∀c o,c<s.heap.objs.size->s.heap.get? c=some o->((s.heap.push {cls:= .type "set",data:= .set #[] 0 (SetTable.fresh 0 0 !((model prog w).w.params.followText "set-order"))}).update s.heap.objs.size (Obj.putSet #[(hashInt i, .int i e)] f)).get? c=some o:=λc o hc l=>by rw[ACc _ _ _ _ (AAK hc)];exact AAG _ l
 refine AAC ?_;show wpAny (model prog w) A.in1 (if (Value.ref b != Value.ref a)=true then do
  let r <-holding [Value.ref s.heap.objs.size] (Builtin.Frozenset.updateFrom (toString "frozenset." ++ toString "__or__") s.heap.objs.size (Value.ref b))
  pure (Value.ref s.heap.objs.size)
  else pure (Value.ref s.heap.objs.size)) _ _ {s with heap:=(s.heap.push {cls:= .type "set",data:= .set #[] 0 (SetTable.fresh 0 0 !((model prog w).w.params.followText "set-order"))}).update s.heap.objs.size (Obj.putSet #[(hashInt i, .int i e)] f)}
 generalize (s.heap.push {cls:= .type "set",data:= .set #[] 0 (SetTable.fresh 0 0 !((model prog w).w.params.followText "set-order"))}).update s.heap.objs.size (Obj.putSet #[(hashInt i, .int i e)] f)=H1 at *;rw[AAE (by simp;exact λz=>B z.symm)];refine AAA (AAW ?_);unfold Builtin.Frozenset.updateFrom Builtin.Frozenset.isAnySet
 wp_walk using ABj F.sub_set_set
 have K:(u.place.size != #[(hashInt j,Value.int j v)].size||decide (u.fill>u.mask))=false:=by unfold SetTable.fill;rw[hu.m,hu.d,hu.p];rfl
 rw[AAD (by rw[K];decide)];refine AAC (AAC (UC I J (y x) G hu λh' L M=> ?_));refine AAC (AAC ⟨(λz=>nomatch z),q h' M λc o hc l=> ?_⟩);rw[L.2 c (AAK hc)];exact g c o hc l
end
def O2 (p:zu)(k:Int)(h:zl):Prop:=∃a n t,h.get? p=some (Ll (hashInt k) (.int k a) n t)/\T1 t
def Xj {P:zp}{w:zm}{H:Hp}{h:zl}{p:zu}{k:Int}(x:O2 p k h):Bi P w H h p (.ext (O2 p k)):=by obtain⟨a,n,t,e,y⟩:=id x;refine⟨x,⟨_,e⟩,λh1 h2 z q=> ?_⟩;obtain⟨a,n,t,e,y⟩:=z;exact⟨a,n,t,q _ e,y⟩
def eU:zy V->Hp->VK->Prop:=λxs H Q=>∃a o k v,xs= [.ref a] /\H a=some (.frz o (.dK [(.inl k,v)]))/\∀p,H p=none->Q (.ref p) (upd H p (.ext (O2 p k)))
def ib:R2:=λx y H Q=>∃a b i j,x= .ref a/\y= .ref b/\a≠b/\H a=some (.ext (O2 a i))/\H b=some (.ext (O2 b j))/\∀p,H p=none->Q (.ref p) (upd H p (.set (λk=>decide (k=i)||decide (k=j)) (if i=j then 1 else 2)))
def eS:zy V->Hp->VK->Prop:=λxs H Q=>∃a S n,xs= [.ref a] /\H a=some (.set S n)/\Q (.int n) H
section
variable {X:Cx}
def dA {P:zp}{w:zm}{H:Hp}{h:zl}{a:zu}{o:Obj}{k:Int}{v:V}(x:Bi P w H h a (.frz o (.dK [(.inl k,v)]))):h.get? a=some o/\o.cls= .type "dict" /\(a==sysModules)=false/\∃n u ep,o.data= .dict #[⟨hashInt k, .int k n,u⟩] ep:=by
 obtain⟨g,z,hs,vs,d,D,es,ep,j,ex,hd,r,ps,E⟩:=x;rw[g] at j;cases j;refine⟨g,ex.1,hs, ?_⟩;cases d with
 | cons q d=>
   rename_i p vs;cases d;obtain⟨c,u⟩:=p;have s:Sum.inl k=c:=q.1;subst s;generalize l:es.toList=L at ps;cases ps with
   | cons h1 h2 h3=>
     rename_i b _;cases h3;have y:b∈es:=by rw[<-Array.mem_toList_iff,l];simp
     obtain⟨A,B,m⟩:=r b y;have C:Sum.inl k=A:=(Am P w).inj _ _ _ h1 B;subst C;rcases A6 (k:=Sum.inl k) (v:=b.key) h1 with⟨i,t,e,f⟩|⟨x,t,e,f⟩
     .cases e;refine⟨t,b.val,ep, ?_⟩;rw[hd];have:es= #[b] :=by apply Array.toList_inj.mp;rw[l]
      rw[this];obtain⟨F,G,I⟩:=b;simp only at f m;rw[f,m];rfl
     .cases e
def L7:CL X (.type "set") eU:=by intro m s p H xs w Q I r h;obtain⟨a,o,k,v,rfl,e,q⟩:=h;obtain⟨u,rfl,d⟩:=vals1 r;cases d;obtain⟨f,hc,hs,g,u,ep,hd⟩:=dA (I.hok a _ e);refine Oe f hc hd hs λh' t n i j tp l c sz=> ?_;have keep:∀b o,s.heap.get? b=some o->h'.get? b=some o:=λb o e=>c b o (AAF e) e;exact⟨.ref _,_,I.laid (a:=s.heap.objs.size) (t':=s.toks) keep (AAI _) (Xj ⟨g,n,t,l,⟨i,j,tp⟩⟩),rfl,q _ (I.hok.fresh (AAI _))⟩
def aZ:DF X (binaryOp .BitOr) ib:=by intro n s p H x y v u Q I d f h;obtain⟨a,b,i,j,rfl,rfl,ne,ha,hb,q⟩:=h;cases d;cases f;obtain⟨⟨r,t,w,g,y1⟩,_,_⟩:=I.hok a _ ha;obtain⟨⟨z,A,B,l,y2⟩,_,_⟩:=I.hok b _ hb;refine Xy g l ne y1 y2 λh' m c=> ?_;have keep:∀b o,s.heap.get? b=some o->h'.get? b=some o:=λb o e=>c b o (AAF e) e;exact⟨.ref _,_,I.laid (a:=s.heap.objs.size) (o:= .set (λk=>decide (k=i)||decide (k=j)) (if i=j then 1 else 2)) (t':=s.toks) keep (AAI _) m,rfl,q _ (I.hok.fresh (AAI _))⟩
def TV:CL X (.builtin "len") eS:=by intro i s j H xs k Q I r h;obtain⟨a,S,n,rfl,e,q⟩:=h;obtain⟨u,rfl,b⟩:=vals1 r;cases b;obtain⟨o,es,ep,t,c,hx,hd,_,_,d,f,g⟩:=I.hok a _ e;refine call_len_set c hx hd f (by rw[show scanBound=4096 from rfl] at d;omega) ?_;rw[g];exact⟨.int n,H,I.tok _,⟨_,rfl⟩,q⟩
end
end L2
namespace PL
open PySem PySem.Spec PyProof.Rows L2
def gR (i j:Int):Nat:=if i=j then 1 else 2
def Ze (a b:AE):AE:=λτ Q=>a τ λx=>match x with | .dk [(i,_)] =>b τ λy=>(match y with | .dk [(j,_)] =>Q (.int (gR i j))|_=>False)|_=>False
section
variable {X:Cx}
def bO {a b:zr}{D E:AE}{p r s c d u pos:Pos}(L:Gl X "len")(M:X.mg "len" =none)(F:Gl X "set")(G:X.mg "set" =none)(ha:SE X a D)(hb:SE X b E)(I:starEach [.BinOp (.Call (.Name "set" r) [a] [] c) .BitOr (.Call (.Name "set" s) [b] [] d) u] X.env=(false,eval (.BinOp (.Call (.Name "set" r) [a] [] c) .BitOr (.Call (.Name "set" s) [b] [] d) u) X.env)::starEach [] X.env:=by rfl)(h1:starEach [a] X.env=(false,eval a X.env)::starEach [] X.env:=by rfl)(h2:starEach [b] X.env=(false,eval b X.env)::starEach [] X.env:=by rfl):SE X (.Call (.Name "len" p) [.BinOp (.Call (.Name "set" r) [a] [] c) .BitOr (.Call (.Name "set" s) [b] [] d) u] [] pos) (Ze D E):=by
 obtain⟨t,N,O⟩:=ha;obtain⟨t',w,P⟩:=hb;refine⟨_,E2 TV L M ACe (Cw (BR aZ (FV L7 F G ADk (Cw N EU h1) (he:=h1)) (FV L7 F G ADk (Cw w EU h2) (he:=h2))) EU I) (he:=I),λB T J τ H Q AQ f h k=> ?_⟩;refine O B T J τ H _ _ f h λv x T1 H1 g R c=> ?_;split at c <;> first | exact c.elim|skip
 rename_i i _;cases R;rename_i S o1 U W d1 Y;refine⟨S,_,i,_,rfl,Y,λp hp=> ?_⟩;have m:=CP.lay (o:= .ext (O2 p i)) (f.stp g).tp hp;have Z:¬T1 p:=λz=>by obtain⟨o,e,_⟩:=((f.stp g).tp p z).mut;rw[hp] at e;cases e
 refine P B T1 J τ _ _ _ ((f.stp g).stp m) c λv2 y T2 H2 n r2 d=> ?_;split at d <;> first | exact d.elim|skip
 rename_i j _;cases r2;rename_i a2 o2 es2 ep2 d2 e2;refine⟨a2,_,j,_,rfl,e2,λA C=> ?_⟩;have l:H2 p=some (.ext (O2 p i)):=n.keep _ _ Z Ad;have ne:p≠A:=λz=>by subst z;rw[l] at C;cases C
 have K:=CP.lay (o:= .ext (O2 A j)) (((f.stp g).stp m).stp n).tp C;refine⟨p,A,i,j,rfl,rfl,ne,by rw[AZ ne];exact l,Ad,λp3 nQ=> ?_⟩;have l3:=CP.lay (o:= .set (λk=>decide (k=i)||decide (k=j)) (if i=j then 1 else 2)) ((((f.stp g).stp m).stp n).stp K).tp nQ;refine⟨p3,_,_,rfl,Ad, ?_⟩;exact k _ _ T2 _ ((((g.trans m).trans n).trans K).trans l3) (.int _) d
end
end PL
namespace L2
open PySem PySem.Spec PyProof.Rows
structure Mt (K:AAB) (x qual:Str) (st:Stmt) (f:Addr) (fd:FuncData) (d:Int):Prop where
 ex:∃(oc:Value) (od:Option Addr) (kV doc pm:Value) (an:Option Addr) (cdv ct:Value) (osl:Array (Option Value)) (t:Addr),
  fd=PySem.W.fnOf x qual (Cv st) (BW st) (Ai st) (.ref t) kV doc pm an cdv ct/\K.lookup f=some ⟨oc,od, .func fd,osl⟩/\PySem.W.codeIn K cdv qual=true/\∃o tk n,K.lookup t=some o/\o.data= .seq #[.int d tk] n
 kp:PySem.W.keepIn K (.ref f)=true
structure P8 (P:Program) (w:World) (K:AAB) (mg:Str->Option Value) (base:Heap) (k:Nat) (x:Str) (ps:List Str) (d:Int) (sp:Sp):Prop where
 ex:∃f fd tk,mg x=some (.ref f)/\PySem.W.keepIn K (.ref f)=true/\Binds K fd ps [.int d tk] /\Co P w K mg base JT k f fd ps sp
def P8.mono {P:zp}{w:zm}{K:AAB}{mg:Str->zt zx}{base:zl}{j k:Nat}{x:Str}{ps:zy Str}{d:Int}{sp:Sp}(h:P8 P w K mg base j x ps d sp)(hk:j<=k):P8 P w K mg base k x ps d sp:=by obtain⟨f,e,g,a,b,c,d⟩:=h.ex;exact⟨f,e,g,a,b,c,d.mono hk⟩
section
variable {P:zp}{w:zm}{K:AAB}{mg:Str->zt zx}{base:zl}
def Mt.ok {x qual:Str}{st:Stmt}{f:zu}{b:FuncData}{d:Int}{N ps:zy Str}{k:Nat}{sp:Sp}(F:Mt K x qual st f b d)(S:Ca N ps (Ai st))(len:∀vs H Q E,sp vs H Q E->vs.length=ps.length)(c:∀(a:zx) (A:zk) (outer:zy Env) (s:zw) (H:Hp) (vs:zy V) (Q:VK) (E:XK),Room k (A.deeper (envOfC qual (Ai st) s.heap.objs.size f a))->sp vs H Q E-> ∃t,OX (LY JT P w K mg base N qual (Ai st) f a A outer s H E).nox (BW st) t/\t {nx:=λ_ e=>Q .non e,rt:=Q} (start N vs) H):Co P w K mg base JT (k+1) f b ps sp:=by obtain⟨o,p,kV,g,r,u,a,ct,i,t,rfl,j,l,_⟩:=F.ex;refine Yx j l S len λA outer s H vs Q E m n=> ?_;obtain⟨t,h,q⟩:=c a A outer s H vs Q E m n;exact⟨t,h.nox,q⟩
def Mt.binds3 {x qual:Str}{st:Stmt}{f:zu}{m:FuncData}{d:Int}{a b c:Str}(F:Mt K x qual st f m d)(h:∀(t:zu) (kV e i:zx) (j:zt zu) (g ct:zx) (u v:zx),∃k:zt (Array zx)->Sem (zy (Str×zx)),bindArgs (PySem.W.fnOf x qual (Cv st) (BW st) (Ai st) (.ref t) kV e i j g ct) ⟨[u,v], []⟩=seqItems? (.ref t) >>= k/\∀z,k (some #[z])=pure [(a,u),(b,v),(c,z)]):∃l,Binds K m [a,b,c] [.int d l] :=by
 obtain⟨B,C,kV,e,i,j,g,ct,r,t,rfl,D,E,o,l,n,y,A⟩:=F.ex;refine⟨l,λs p X hl=> ?_⟩;have hl:p.length=2:=by simpa using hl
 match p,hl with
 | [u,v],_=> obtain⟨k,h1,h2⟩:=h t kV e i j g ct u v;exact BindsTo.of_defaults (T:=t) rfl (X _ _ y) A h1 (h2 _)
end
section
variable {X:Cx}{x:Str}{p pos:Pos}{e:zr}{es:zy zr}{t:TA}{k:Nat}{ps:zy Str}{d:Int}{sp:Sp}
def X2 (D:P8 X.prog X.w X.K X.mg X.base k x ps d sp)(a:Room k X.A)(b:Gl X x)(ha:PA X (e::es) t)(hs:starEach (e::es) X.env=(false,eval e X.env)::starEach es X.env:=by rfl)(hpl:(backTo pos (starEach es X.env)).any (·.1)=false:=by rfl)(hd:(x==("__debug__" :Str))=false:=by decide):PE X (.Call (.Name x p) (e::es) [] pos) (Wr sp [.int d] E0 t):=by obtain⟨f,j,c,g,h,i,G⟩:=D.ex;exact Sa G a b g h i (.cons ⟨c,rfl⟩ .nil) Y9 ha (hdb:=hd) (he:=hs) (hpl:=hpl)
end
end L2
namespace PL
open PySem PySem.Spec PyProof.Rows L2
def U7 (n:Nat)(F:AF)(d:Int)(r:AA):AE:=λτ Q=>r τ λxs=>(xs ++ [PV.int d]).length=n/\F (xs ++ [.int d]) Q
section
variable {X:Cx}
theorem Ar.snoc {K:AAB}{T M:zu->Prop}{H:Hp}:∀{vs:zy V} {xs:zy PV} {v:V} {x:PV},Ar K T M H vs xs->B5 K T M H v x->Ar K T M H (vs ++ [v]) (xs ++ [x])
 | [], [],_,_,_,r=> .cons r .nil
 | _::_,_::_,_,_, .cons h t,r=> .cons h (Ar.snoc t r)
def WV {x:Str}{p pos:Pos}{e:zr}{es:zy zr}{k n:Nat}{ps:zy Str}{d:Int}{F:AF}{r:AA}(D:P8 X.prog X.w X.K X.mg X.base k x ps d (Ci X.K n F))(f:Room k X.A)(g:Gl X x)(ha:SA X (e::es) r)(hs:starEach (e::es) X.env=(false,eval e X.env)::starEach es X.env:=by rfl)(hpl:(backTo pos (starEach es X.env)).any (·.1)=false:=by rfl)(hd:(x==("__debug__" :Str))=false:=by decide):SE X (.Call (.Name x p) (e::es) [] pos) (U7 n F d r):=by obtain⟨t,i,s⟩:=ha;refine⟨_,X2 D f g i hs hpl hd,λB T j τ H Q l b h k=>s B T j τ H _ _ b h λvs xs T1 H1 c o h1=> ?_⟩;exact⟨T1,_,_,l,(b.stp c).va,λa m=>(b.stp c).nt m,o.snoc (.int d),h1.1,h1.2,λv x u y z C q=>k v x u y (c.trans z) C q⟩
end
section
variable {P:zp}{w:zm}{K:AAB}{mg:Str->zt zx}{base:zl}
def VO {x qual:Str}{st:Stmt}{f:zu}{i:FuncData}{d:Int}{N ps:zy Str}{k n:Nat}{b:AS}(F:Mt K x qual st f i d)(S:Ca N ps (Ai st))(j:n=ps.length)(l:∀(a:zx) (A:zk) (outer:zy Env) (s:zw) (H:Hp) (E:XK),Room k (A.deeper (envOfC qual (Ai st) s.heap.objs.size f a))-> TL (LY JT P w K mg base N qual (Ai st) f a A outer s H E).nox (BW st) b):Co P w K mg base JT (k+1) f i ps (Ci K n (At N.length b)):=by
 refine F.ok S (λvs H Q E h=> ?_) (λa A outer s H vs Q E m h=> ?_)
 .obtain ⟨T,M,xs,o,_,_,r,hl,_⟩:=h;rw[r.length,hl,j]
 .obtain ⟨T,M,xs,o,va,c,r,hl,hF,hQ⟩:=h;obtain⟨t,p,u⟩:=l a A outer s H E m;refine⟨t,p,u ⟨T,H,M⟩ T _ _ H _ _ (Po va c r) hF ⟨λe g σ' τ' _ y q=> ?_,λ_ _ _ _ _ _ q=>q.elim,λ_ _ _ _ _ _ q=>q.elim,λv x e g z B q=>hQ v x e g z B q⟩⟩;exact hQ _ _ e g y.st .non q
end
end PL
namespace L2
open PySem PySem.Spec PyProof.Rows PySem.W
theorem ints_of {P:zp}{w:zm}:∀{vs:zy (BU×zx)} {m:zy (Int×Int)} {a:zy zx},KV (m.map λp=>((.inl p.1:BU),V.int p.2)) vs->a.length=vs.length->(∀(j:Nat) v,a[j]? =some v->∃k x,vs[j]? =some (k,x)/\(Am P w).is k v=true)->IntsAre a (m.map (·.1))
 | [], [], [],_,_,_=> .nil
 | [], [],u::a,_,hl,_=>by simp at hl
 | v::vs,m::ms, [],_,hl,_=>by simp at hl
 | v::vs,m::ms,u::a,r,hl,h=>by
   cases r with
   | cons c d=> obtain⟨k,x,f,g⟩:=h 0 u rfl;cases f;obtain⟨b,_⟩:=c;dsimp only at b;subst b;have q:RelV (kV (.inl m.1)) u:=Vl g;obtain⟨t,rfl⟩:=q;exact .cons _ t (ints_of d (by simpa using hl) λj v e=>by simpa using h (j+1) v (by simpa using e))
def Q9:zy V->Hp->VK->Prop:=λxs H Q=>∃a o es ep,∃m:zy (Int×Int),xs= [.ref a] /\H a=some (.frz o (.dK (m.map λp:Int×Int=>((.inl p.1:BU),V.int p.2))))/\o.data= .dict es ep/\m.length<64/\∀(p:zu) (ns:zy Int),H p=none->ns.Perm (m.map (·.1))->ns.Pairwise (· <= ·)->Q (.ref p) (upd H p (.lst (ns.map V.int)))
section
variable {X:Cx}
def LW {P:zp}{w:zm}{A:zk}{E:zx->zw->Prop}{s:zw}{T:String}{r d:zu}{n:Nat}{j:Nat->zx->Prop}{u:zl->Prop}{R:zy zx->zw->Prop}(K:KdlSrc P w T r d n j u)(z:A.handled=none)(hok:u s.heap)(B:n<=sizeLine)(h:∀(h':zl) (g:Nat) (a:Array zx),s.heap.objs.size<=h'.objs.size->(∀b o,s.heap.get? b=some o->h'.get? b=some o)->ItemsOf j a n->R a.toList {s with heap:=h',toks:=g}):wpAny (model P w) A (collect (.ref r)) R E s:=by
 obtain⟨C,D⟩:=K.there _ hok;unfold collect;refine AAA (wpAny_runValue (ADM entry_proto_collect' ?_));rw[Around.under_plainId PySem.F.plain_proto_collect _];refine AAA (m:=newList []) (AAv ?_);refine AAC ⟨plainId_quiet ADl _,ADM entry_list_iadd' ?_⟩;rw[Around.under_plainId ADl _];have k:(s.heap.push {cls:= .type "list",data:= .seq ([] :zy zx).toArray}).get? s.heap.objs.size=some {cls:= .type "list",data:= .seq #[] }:=AAN _ rfl;have l:∀(h':zl) (g:Nat) (a:Array zx) (c:Nat),(∀b o,b≠s.heap.objs.size->(s.heap.push {cls:= .type "list",data:= .seq ([] :zy zx).toArray}).get? b=some o->h'.get? b=some o)->h'.get? s.heap.objs.size=some {cls:= .type "list",dict:=none,data:= .seq a c,slots:= #[] }->ItemsOf j a n->
  wpAny (model P w) A (load s.heap.objs.size >>= λo=>match o.data with | .seq xs _=>pure xs.toList|_=>unsupported "internal:collect") R E {s with heap:=h',toks:=g}:=λh' g a c p i it=>
  AAA (wpAny_load i (AAC (h h' g a (ABx (AAF i)) (λb o e=>p b o (AAK (AAF e)) (AAG _ e)) it)))
 refine AA6 (kdl_extend (A:=A) (s:={s with heap:=s.heap.push {cls:= .type "list",data:= .seq ([] :zy zx).toArray}}) (R:=λq t=>match q with | .ok (.ret v)=>v= .ref s.heap.objs.size/\wpAny (model P w) A (load s.heap.objs.size >>= λo=>match o.data with | .seq xs _=>pure xs.toList|_=>unsupported "internal:collect") R E t|_=>False)
  K z (K.keep _ _ hok λb _ o e=>AAG _ e) s.heap.objs.size (AAj C) (AAj D) (.ref s.heap.objs.size) 0 k (λh' g a c p i it=>⟨rfl,l h' g a c p i it⟩) B) (λf t x=> ?_) λe t x=>x.elim
 cases f with
 | done f=>
   cases f with
   | ret v=> obtain⟨rfl,y⟩:=x;exact y
   | _=>exact x.elim
 | again c=>
   refine⟨x.1,ABe x.2 λq G y=> ?_⟩;cases q with
   | error e=>exact y.elim
   | ok f=>
     cases f with
     | ret v=> obtain⟨rfl,y⟩:=y;exact y
     | _=>exact y.elim
def QJ (hc:X.calm=true):CL X (.builtin "sorted") Q9:=by
 intro O s R H xs g Q I r h;obtain⟨a,o,es,ep,m,rfl,e,hd,S,q⟩:=h;obtain⟨u,rfl,C⟩:=vals1 r;cases C;have D:K4 H a m.length ep (m.map λp:Int×Int=>((.inl p.1:BU),V.int p.2)):=⟨o,es,e,hd,by rw[AAL]⟩;obtain⟨vs,d,E⟩:=D.at I;have T:vs.length=m.length:=by have:=d.length;rw[AAL] at this;exact this.symm
 obtain⟨U,W,F⟩:=NN I (.inl ⟨_, .inr ⟨o,e⟩⟩);refine Calls.call_function_entry kind_sorted plain_sorted entry_sorted (args_sorted1 _) ?_;unfold Builtin.«sorted»;refine AAA (m:=checkCount "sorted" 1 1 _) (AAC ?_);refine AAA (LW (A:=X.A.in1) (kdl_dict (knd:=Am X.prog X.w) (kvs:=vs) (ep:=ep) F) (I.ok.hd hc) E (by rw[ABy];omega) λh' G c l hk x=> ?_);have hl:c.toList.length=vs.length:=by rw[ABa];exact x.1
 have J:IntsAre c.toList (m.map (·.1)):=ints_of (P:=X.prog) (w:=X.w) d hl λj v z=>x.2 j v (by rw[<-Array.getElem?_toList];exact z);refine AAA (wpAny_newList ?_ (by rw[hl,ABy];omega));have f:(h'.push (seqObj "list" c.toList.toArray 0)).get? h'.objs.size=some (seqObj "list" c.toList.toArray 0):=AAN _ rfl;refine AAA (AAW (AAt slot_list_sort ⟨_,f,rfl⟩ entry_list_sort (list_sort_tree f J (by omega) λout i K y L=>⟨_,rfl, ?_⟩) (args_list_sort _)));refine AAC ⟨_,rfl, ?_⟩;obtain⟨ne,M⟩:=sortedHeap_at (out:=out) f;have hsz:h'.objs.size<(h'.push (seqObj "list" c.toList.toArray 0)).objs.size:=AAF f;have keep:∀b k,s.heap.get? b=some k->(sortedHeap (h'.push (seqObj "list" c.toList.toArray 0)) h'.objs.size c.toList out).get? b=some k:=λb k z=>by have B:=AAF (hk _ _ z);rw[sortedHeap_old (AAK B) (AB3 B hsz),AAG _ (hk _ _ z)]
 have vals:∀{g:zy zx} {ns:zy Int},IntsAre g ns->An (ns.map V.int) g:=λh=>by
  induction h with
  | nil=>exact .nil
  | cons n t h N=>exact .cons ⟨t,rfl⟩ N
 refine⟨.ref _,_,I.laid (a:=h'.objs.size) (o:= .lst (i.map V.int)) (t':=G) keep l ⟨?_,out.toList,ne,vals K,by rw[M]⟩,rfl,q _ _ (I.hok.fresh l) y L⟩;rw[AAL,y.length_eq,AAL,ABy];omega
end
end L2
namespace PL
open PySem PySem.Spec PyProof.Rows L2
def VR:AF:=λxs Q=>match xs with | [.dk m] =>m.length<64/\∀ns:zy Int,ns.Perm (m.map (·.1))->ns.Pairwise (· <= ·)->Q (.lst (ns.map PV.int))|_=>False
theorem MR {K:AAB}{T M:zu->Prop}{H:Hp}:∀ns:zy Int,Ar K T M H (ns.map V.int) (ns.map PV.int)
 | [] => .nil
 | n::ns=> .cons (.int n) (MR ns)
def WP {X:Cx}(hc:X.calm=true):CL X (.builtin "sorted") Q9/\Eu X.K Q9 VR:=by
 refine⟨QJ hc,λT M H vs xs Q g va r h k=> ?_⟩;match xs,r,h with
 | [.dk m], .cons (.dk (a:=a) (o:=o) (es:=es) (ep:=ep) hh e) .nil,h=>
   refine⟨a,o,es,ep,m,rfl,hh,e,h.1,λp ns hp b c=> ?_⟩;have l:=CP.lay (o:= .lst (ns.map V.int)) va.tp hp;have d:¬T p:=λz=>by obtain⟨o,e,_⟩:=(va.tp p z).mut;rw[hp] at e;cases e
   have f:¬M p:=λz=>by obtain⟨o,e,_⟩:=va.mu p z;rw[hp] at e;cases e
   exact k _ _ T _ l (.lst Ad d f (MR ns)) (h.2 ns b c)
end PL
namespace L2
open PySem PySem.Spec PyProof.Rows
def gm (d:zu)(n ep:Nat):It:=
 ⟨λi H=>∃kvs k x,K4 H d n ep kvs/\kvs[i]? =some (k,x),
  λi H v a=>a=H/\∀kvs,K4 H d n ep kvs->∃k,kvs[i]? =some (k,v),
  λi H=>∃kvs,K4 H d n ep kvs/\kvs.length<=i⟩
def Ub {P:zp}{w:zm}{K:AAB}{B:zr}{it d:zu}{n ep:Nat}:IV P w K B (gm d n ep) [it] it (λk h=>h.IsValIter it d k n ep) where
 mem:=by simp
 obj:=λk h st p hp=>by
  obtain⟨o,i,hc,hd⟩:=st;have c:p=it:=by simpa using hp
  subst c;exact⟨o,i,λv z=>by rw[hd] at z;cases z⟩
 keep:=λk h h' st C=>st.at λo e=>C it (by simp) o e
 item:=by
  intro X j hw l hc k t s y H E I g st m;subst j hw l;obtain⟨kvs,D,x,b,hx⟩:=m;obtain⟨vs,a,r⟩:=b.at I;have hl:vs.length=n:=by obtain⟨_,_,_,_,e⟩:=b;rw[<-e];exact a.length.symm
  subst hl;obtain⟨u,hu,F⟩:=Vn a hx;refine wpAny_pyNext_values_item st r hu λh1 f G=> ?_;refine⟨_,rfl, ?_⟩;obtain⟨o,i,J,hd⟩:=id f;refine R9 (s:={s with heap:=h1}) i J hd (by decide) ?_;have L:Inv X t y H {s with heap:=h1,toks:=s.toks}:=I.turnedL (t':=s.toks) g λp o hp z=>by
   have c:p≠it:=by simpa using hp
   exact G.extBut p o c z
  exact⟨x,H,L,F,⟨rfl,λA h'=>⟨D,by rw[h'.one b];exact hx⟩⟩,f,λp hp=>(g p hp).1⟩
 done:=by
  intro X j hw l hc k t s y H E I g st m;subst j hw l;obtain⟨kvs,b,hx⟩:=m;obtain⟨vs,a,r⟩:=b.at I;have hl:vs.length=n:=by obtain⟨_,_,_,_,e⟩:=b;rw[<-e];exact a.length.symm
  have N:=a.length;subst hl;refine wpAny_pyNext_values_end (I.ok.hd hc) st r (by rw[ADi];omega) λh' M=>⟨rfl, ?_⟩;exact I.turnedL (t':=s.toks) g λp o hp z=>by
   have c:p≠it:=by simpa using hp
   exact M p o c z
 self:=λ_ _ _ _ _ st h=>wpAny_pyIter_valiter st h
section
variable {X:Cx}
def X4 {A e:zr}{t:TE}{apos f:Pos}(he:PE X e t)(hb:attributeBase e "values" X.env (eval e X.env)=eval e X.env)(B:((backTo f (starEach [] X.env)).all (λx=> !x.1)&&(backToKw f (keywordEach [] X.env)).all (λx=>x.1.isSome)&&decide (([] :zy zr).length+([] :zy Keyword).length+(if ([] :zy Keyword).isEmpty then 0 else 1)<30))=true)(hl:(apos.endLine==f.line)=true)(C:backTo f (starEach [] X.env)= []):PI X A (.Call (.Attribute e "values" apos) [] [] f) (λk H R=>t k H λv H1=>∃d n ep kvs,v= .ref d/\K4 H1 d n ep kvs/\R (gm d n ep) H1):=by
 intro D s k H R I h;refine ADH hb B hl ADI ADm PySem.F.type_dict_values (BC (he D s k H _ I h) λu g ⟨x,H1,i,E,d,n,ep,kvs,ex,l,G⟩=> ?_);subst ex;obtain rfl:u=Value.ref d:=E;obtain⟨vs,m,y⟩:=l.at i;have J:vs.length=n:=by obtain⟨_,_,_,_,e⟩:=l;rw[<-e];exact m.length.symm
 obtain⟨o,K,L,S,_⟩:=id l;obtain⟨M,N,O⟩:=NN i (.inl ⟨kvs, .inr ⟨o,L⟩⟩);have z:g.heap.DictOf (Am X.prog X.w) d vs:=let ⟨o,es,a,b,c,r⟩:=y;⟨o,es,ep,a,b,c,r⟩;refine⟨M,N, ?_⟩;rw[C];refine ACN rfl (PySem.evalArgs_none ?_);refine ACa ADm z.typeIs PySem.F.entry_dict_values (PySem.F.args_dict_values_1 _) (meets_dict_values (Am X.prog X.w) d O) ⟨⟨vs,z⟩, ?_⟩;have P:(g.heap.push {cls:= .type "dict_values",data:= .fields #[.ref d] }).DictAt (Am X.prog X.w) d vs ep:=y.push _;refine wpAny_pyIter_values (s:={g with heap:=g.heap.push {cls:= .type "dict_values",data:= .fields #[.ref d] }}) (knd:=Am X.prog X.w) (d:=d) ⟨_,AAN _ rfl,rfl,rfl⟩ P ?_;subst J;have j:(g.heap.push {cls:= .type "dict_values",data:= .fields #[.ref d] }).objs.size=g.heap.objs.size+1:=AA7 ..;refine⟨_, [g.heap.objs.size+1],_,_,H1,congrArg Value.ref j,i.kept (t':=g.toks) λb T q=>AAG _ (AAG _ q),Ub, ?_,λp hp=> ?_,G⟩
 .have:=AAN (g.heap.push {cls:= .type "dict_values",data:= .fields #[.ref d] }) (o:={cls:= .type "dict_valueiterator",data:= .fields #[Value.ref d,Value.int 0 0,Value.int (vs.length:Int) 0,Value.int (ep:Int) 0] }) rfl;rw[j] at this;exact⟨_,this,rfl,rfl⟩
 .have Q:p=g.heap.objs.size+1:=by simpa using hp
  subst Q;exact i.fpOk (ACb _ _) (i.hok.fresh (ACb _ _))
end
end L2
namespace PL
open PySem PySem.Spec PyProof.Rows L2
def T0 {K:AAB}{T M:zu->Prop}{H:Hp}{d:zu}{o:Obj}{es:Array DictEntry}{ep:Nat}{m:zy (Int×Int)}(va:Hj T M H)(h:H d=some (.frz o (.dK (EG m))))(e:o.data= .dict es ep):P9 K M (gm d m.length ep) (m.map λp=> .int p.2) T H:=by
 have b:K4 H d m.length ep (EG m):=⟨o,es,h,e,by unfold EG;rw[AAL]⟩;have a:∀{i:Nat} {y:PV},(m.map λp=>PV.int p.2)[i]? =some y->∃p:Int×Int,y= .int p.2/\(EG m)[i]? =some (.inl p.1, .int p.2):=λ{i y} hy=>by rw[AAg] at hy;obtain⟨p,hp,rfl⟩:=AB7.mp hy;refine⟨p,rfl, ?_⟩;unfold EG;rw[AAg,hp];rfl
 refine⟨λi y hy=> ?_,λi y v f hy c=> ?_,λi hi=>⟨_,b,by unfold EG;simpa using hi⟩⟩
 .obtain ⟨p,_,hp⟩:=a hy;exact⟨_,_,_,b,hp⟩
 .obtain ⟨p,rfl,hp⟩:=a hy;obtain⟨rfl,hu⟩:=c;obtain⟨k,hx⟩:=hu _ b;rw[hp] at hx;cases hx;exact⟨CP.refl va.tp, .int _⟩
section
variable {X:Cx}
def c7 (a:AE):AI:=λτ Q=>a τ λx=>match x with | .dk m=>Q (m.map λp=> .int p.2)|_=>False
def YO {f e:zr}{c:AE}{apos a:Pos}(he:SE X e c)(hb:attributeBase e "values" X.env (eval e X.env)=eval e X.env:=by rfl)(g:((backTo a (starEach [] X.env)).all (λx=> !x.1)&&(backToKw a (keywordEach [] X.env)).all (λx=>x.1.isSome)&&decide (([] :zy zr).length+([] :zy Keyword).length+(if ([] :zy Keyword).isEmpty then 0 else 1)<30))=true:=by rfl)(hl:(apos.endLine==a.line)=true:=by rfl)(i:backTo a (starEach [] X.env)= [] :=by rfl):SI X f (.Call (.Attribute e "values" apos) [] [] a) true (c7 c):=by
 obtain⟨t,j,s⟩:=he;refine⟨_,X4 j hb g hl i,λB T l τ H R r n h k=>s B T l τ H _ _ n h λv x T1 H1 o p h1=> ?_⟩;split at h1 <;> first | exact h1.elim|skip
 rename_i m;cases p with
 | dk b e=> exact⟨_,_,_,_,rfl,⟨_,_,b,e,by unfold EG;rw[AAL]⟩,k _ _ T1 H1 o (λM2 w y d va _=>T0 va (by obtain⟨t,u⟩:=d.va.noFrz b;exact d.keep _ _ t u b) e) h1⟩
end
end PL
namespace L2
open PySem PySem.Spec PyProof.Rows
def eI:V->V->Hp->VK->Prop:=λx y H Q=>∃p xs i v,x= .ref p/\y= .int i/\0<=i/\H p=some (.lst xs)/\xs[i.toNat]? =some v/\Q v H
section
variable {X:Cx}
def VT:cy X eI:=by intro g s j H x y k l Q I b c h;obtain⟨p,xs,i,v,rfl,rfl,d,hp,hx,q⟩:=h;cases b;obtain⟨t,rfl⟩:=c;obtain⟨e,n,r,f,m⟩:=I.lst hp;obtain⟨w,ew,a⟩:=r.get hx;have hl:=r.length;have o:=J5;have u:i.toNat<xs.length:=(AAm.mp hx).1;exact wpAny_getItem_list (x:=w) ⟨_,f,rfl,n,rfl⟩ d (by omega) (by simpa using ew) ⟨v,H,I,a,q⟩
end
end L2
namespace PL
open PySem PySem.Spec PyProof.Rows L2
section
variable {X:Cx}{e:zr}{ta:AE}{pos:Pos}
def Yv (i:Nat)(c ta:AE):AS:=λD τ=>IW i τ λxs=>c τ λk=>OJ k λk=>0<=k/\k<xs.length/\OJ (xs.getD k.toNat .non) λa=>ta τ λy=>OJ y λb=>D.nx (τ.set i (some (.own (xs.set k.toNat (.int (a+b))))))
def YZ {i:Nat}{x:Str}{ix:zr}{C:AE}{p d:Pos}(hi:SE X ix C)(he:SE X e ta)(hN:X.N[i]? =some x:=by rfl)(hv:Yt X.env.scope x:=by first | exact Or.inl rfl|exact Or.inr (Or.inl rfl)|exact Or.inr (Or.inr rfl))(hd:(x==("__debug__" :Str))=false:=by decide)(P:(x==("__classdict__" :Str))=false:=by decide)(ha:∀g j new,augStore ix g j new=(do holding [new,g,j] (setItem g j new);release [new,g,j] [];pure .next):=by intros;rfl):SS X (.AugAssign (.Subscript (.Name x p) ix d) .Add e pos) (Yv i C ta):=by
 obtain⟨t,Q,s⟩:=hi;obtain⟨t',n,R⟩:=he;refine⟨_,YC (KI hN hv hd P) Q VT n aA Gx ha,λB T E τ H D AD l h S=> ?_⟩;obtain⟨xs,e,h⟩:=M0 h;obtain⟨q,vs,F,hp,G,b0,I,nb⟩:=l.own i xs e;refine⟨.ref q,F,s B T E τ H _ _ l h λw k T1 H1 f U h1=> ?_⟩;obtain⟨k,rfl,h1⟩:=E1 h1;obtain⟨J,k1,h1⟩:=h1;obtain⟨a,K,h1⟩:=E1 h1;cases U.toI;have c:=l.stp f;have L:=f.keep _ _ I hp;have M:=G.stp f l.va;have o:k.toNat<xs.length:=by omega
 have W:k.toNat<vs.length:=by rw[G.length];exact o
 have Y:xs[k.toNat]? =some (.int a):=by rw[List.getD_eq_getElem?_getD,AAc o,ACf] at K;rw[AAc o,K]
 obtain⟨u,Z,ru⟩:=M.get Y;cases ru.toI;refine⟨q,vs,k,_,rfl,rfl,J,L,Z,R B T1 E τ H1 _ _ c h1 λw2 y T2 H2 m r4 h2=> ?_⟩;obtain⟨b,rfl,h2⟩:=E1 h2;cases r4.toI;have O:=m.keep _ _ (λz=>by
  rcases f.new q z with z|z
  .exact I z
  .rw [hp] at z;cases z) L
 have r:=c.stp m;obtain⟨v,A⟩:=r.write (i:=i) (xs:=xs) e F O (Ar.set (.int (a+b)) k.toNat (M.stp m c.va));refine⟨a,b,rfl,rfl,q,vs,k,k.toNat,rfl,rfl,O, ?_,S.nx T2 _ _ _ ((f.trans m).prog.trans A) v h2⟩;unfold T4;rw[AAE J,AAE (by omega)]
end
def jv (a b:AE):AE:=λτ Q=>a τ λx=>Xs x λm=>b τ λy=>OJ y λk=>∃v,m.lookup k=some v/\Q (.int v)
theorem Pt {k v:Int}:∀{m:zy (Int×Int)},m.lookup k=some v->G4 (EG m) (.inl k:BU)=some (.int v)
 | [],h=>by cases h
 | p::m,h=>by
   by_cases e:p.1=k
   .subst e;simp[List.lookup] at h;subst h;exact FP (p:=((Sum.inl p.1:BU),V.int p.2)) rfl
   .have a:(k==p.1)=false:=by simpa using λz=>e z.symm
    obtain⟨b,c⟩:=p;simp only[List.lookup,a] at h;refine(FO (p:=((Sum.inl b:BU),V.int c)) (r:=EG m) (k:=(Sum.inl k:BU)) λz=>e ?_).trans (Pt h);cases z;rfl
section
variable {X:Cx}
def e6 {o i:zr}{e f:AE}{pos:Pos}{k:Nat}(n:Room k X.A)(p:SE X o e)(hi:SE X i f)(hs:ZQ i):SE X (.Subscript o i pos) (jv e f):=by
 obtain⟨t,r,s⟩:=p;obtain⟨t',b,u⟩:=hi;refine⟨_,X0 (jB n) r b hs,λB T g τ H Q G c h k=>s B T g τ H _ _ c h λv x T1 H1 d w h1=> ?_⟩;cases x <;> first | exact h1.elim|skip
 rename_i m;cases w;rename_i a z es ep I j;refine u B T1 g τ H1 _ _ (c.stp d) h1 λJ y C D l E h2=> ?_;obtain⟨i,rfl,v,hv,h2⟩:=E1 h2;cases E.toI;obtain⟨F,_⟩:=(c.stp d).va.noFrz j;exact⟨a, .int v,rfl, .inl ⟨EG m, .inl i, .inr ⟨z,l.keep _ _ F j⟩,rfl,(Pt hv).symm⟩,k _ _ C D (d.trans l) (.int v) h2⟩
end
section
variable {X:Cx}{a b c d e:zr}{ta tb tc td:AE}{pos:Pos}
def Cy (ha:SE X a ta)(h:starEach [a] X.env=(false,eval a X.env)::starEach [] X.env:=by rfl):SA X [a] (AB ta AM):=BY ha Ka h
def Aw (ha:SE X a ta)(hb:SE X b tb)(h:starEach [a,b] X.env=(false,eval a X.env)::starEach [b] X.env:=by rfl)(h2:starEach [b] X.env=(false,eval b X.env)::starEach [] X.env:=by rfl):SA X [a,b] (AB ta (AB tb AM)):=BY ha (Cy hb h2) h
def Dg (ha:SE X a ta)(hb:SE X b tb)(hc:SE X c tc)(h:starEach [a,b,c] X.env=(false,eval a X.env)::starEach [b,c] X.env:=by rfl)(h2:starEach [b,c] X.env=(false,eval b X.env)::starEach [c] X.env:=by rfl)(h3:starEach [c] X.env=(false,eval c X.env)::starEach [] X.env:=by rfl):SA X [a,b,c] (AB ta (AB tb (AB tc AM))):=BY ha (Aw hb hc h2 h3) h
def AW (ha:SE X a ta)(hb:SE X b tb)(hs:Mu b:=by exact λ_ _=>rfl):SE X (.Subscript a b pos) (AX Ah ta tb):=e8 fE ha hb hs
def Ha {op:CmpOp}{r:R2}{f:GY}(g:DF X (compareOp op) r/\Bj X.K r f)(ha:SE X a ta)(hb:SE X b tb)(h:behindInMarks op b=false:=by exact CI _):Ri X (.Compare a [op] [b] pos) (BP (AX f ta tb)):=bZ g ha hb h
def C8 (i:Nat){x:Str}{pos':Pos}(hN:X.N.Nodup)(he:SE X e ta)(hi:X.N[i]? =some x:=by rfl)(hx:Loc X.env.scope x:=by exact Or.inl rfl)(hs:swapsWith e (some (.Name x pos')) pos.line X.env=pure false:=by rfl)(f:X.fn x=true\/X.env.scope.names.lookup x=some .local:=by first | exact .inl rfl|exact .inr rfl|assumption):SS X (.Assign [.Name x pos'] e pos) (As ta (Av i)):=Kv hN hi hx he hs f
def D9 (i:Nat){x:Str}(hN:X.N.Nodup)(hi:X.N[i]? =some x:=by rfl)(hx:Loc X.env.scope x:=by exact Or.inl rfl)(f:X.fn x=true\/X.env.scope.names.lookup x=some .local:=by first | exact .inl rfl|exact .inr rfl|assumption):SG X (.Name x pos) (Av i):=Sm hN hi hx f
def Up (i:Nat){own:Nat}{x:Str}(hN:X.N.Nodup)(hi:X.N[i]? =some x:=by rfl)(hx:Loc X.env.scope x:=by exact Or.inl rfl)(hk:i<own:=by decide)(f:X.fn x=true\/X.env.scope.names.lookup x=some .local:=by first | exact .inl rfl|exact .inr rfl|assumption):SK own X (.Name x pos) (Av i):=YW hN hi hx hk f
end
def map_pair {a b c:Type}{o:zt a}{f:a->b}{g:a->c}{x:b}{y:c}(h1:o.map f=some x)(h2:o.map g=some y):o.map (λs=>(f s,g s))=some (x,y):=by
 cases o with
 | none=>cases h1
 | some s=>cases h1;cases h2;rfl
def map5 {a A B C D E:Type}{o:zt a}{F:a->A×B×C×D×E}{X:A×B×C×D×E}(h1:o.map (λs=>(F s).1)=some X.1)(h2:o.map (λs=>(F s).2.1)=some X.2.1)(h3:o.map (λs=>(F s).2.2.1)=some X.2.2.1)(b:o.map (λs=>(F s).2.2.2.1)=some X.2.2.2.1)(c:o.map (λs=>(F s).2.2.2.2)=some X.2.2.2.2):o.map F=some X:=by
 cases o with
 | none=>cases h1
 | some s=>exact congrArg some (AB1 (AAX h1) (AB1 (AAX h2) (AB1 (AAX h3) (AB1 (AAX b) (AAX c)))))
def B7 {P:zp}{w:zm}{K:AAB}{mg:Str->zt zx}{base:zl}{k a:Nat}{x:Str}{ps:zy Str}{sp:Sp}(H:Has P w K mg base k x ps sp)(h:k<=a:=by decide):Has P w K mg base a x ps sp:=H.mono h
end PL
open PySem L2 PL PyProof.Rows
local macro_rules | `(tactic| decreasing_trivial_pre_omega)=> `(tactic| first | assumption|omega|((apply Bd.mono);(focus (repeat' (first | assumption|exact K3.m (by assumption)|exact K3.x (by assumption)|exact K3.y (by assumption)|exact K3.z (by assumption)|exact bd0|exact mS|with_reducible apply Bd.add|with_reducible apply Bd.sub|with_reducible apply Bd.mul|with_reducible apply Bd.neg|with_reducible apply Bd.mx|with_reducible apply Bd.mn)));first | omega|decide)|decide|(simp only [List.length_map,List.length_append,List.length_cons,List.length_nil,List.length_take,List.length_drop,List.length_zip,List.length_reverse];omega)|(show _<=16777216;simp only [List.length_map,List.length_append,List.length_cons,List.length_nil,List.length_take,List.length_drop,List.length_zip,List.length_reverse];omega)|(show _<16777216;simp only [List.length_map,List.length_append,List.length_cons,List.length_nil,List.length_take,List.length_drop,List.length_zip,List.length_reverse];omega)|(refine And.intro ?_ ?_ <;> decreasing_trivial_pre_omega)|exact rfl)
local macro_rules | `(tactic| array_mem_dec)=> `(tactic| first
 | refine Wp.go ?_
 | ((refine Ug.go ?_ ?_);focus (first | exact True.intro|decreasing_trivial_pre_omega))
 | ((with_reducible apply And.intro);focus decreasing_trivial_pre_omega)
 | ((with_reducible apply bI);focus decide)
 | ((with_reducible apply bH);focus decide)
 | ((with_reducible apply s_ifnT);focus decide)
 | ((with_reducible apply s_ifnF);focus decide)
 | refine gx.go (λ_=> ?_) (λ_=> ?_)
 | ((with_reducible apply s_ixPl);focus assumption)
 | ((with_reducible apply s_all);focus exact rfl)
 | ((with_reducible apply s_isi);(focus (first | exact .inl rfl|exact .inr (.inl rfl)|exact .inr (.inr (.inl rfl))|exact .inr (.inr (.inr rfl))));(focus exact rfl))
 | ((with_reducible apply s_ifT);focus exact rfl)
 | ((with_reducible apply s_ifF);focus exact rfl)
 | intro _
 | with_reducible rfl)
local macro_rules | `(tactic| array_get_dec)=> `(tactic| first | array_mem_dec|refine ju.go ?_|fail)
local macro_rules | `(tactic| ac_rfl)=> `(tactic| repeat' array_mem_dec)
namespace PL
open PySem L2 PyProof.Rows
abbrev Re:AS:=
 (Ay (Ap (AB (aV 0) (AB (aC (.int 1)) AM))))
def FS:AF:=At 1 Re
def UR {a:PV}{Q:PV->Prop}(h:Re ⟨λ_=>Q .non,Q,λ_=>False,λ_=>False⟩ [some (.val a)]):FS [a] Q:=h
instance{k:Int}{Q:PV->Prop}:Wp (FS [.int k] Q) (Q (fr (k:Rat))):=⟨λh=>by
 apply UR;repeat' array_get_dec
 exact h⟩
def U1.open {n B:Nat}{cs:zy C4}(p:U1 n B cs):∃a r l,cs=a::r/\r≠ [] /\(a::r).getLast?=some l/\a.1<l.1:=by
 obtain⟨c,d,e,b⟩:=p;match cs,c,b with
 | a::b0::r,_,b=>exact⟨a,b0::r,_,rfl,by simp,ADn (by simp),(AAf.mp b).1 _ (List.mem_of_getLast? (UA (ADn (by simp))))⟩
abbrev JD:AS:=
 (Ay (Ap (AB (Uh IY (AX Ah (aV 0) (aC (.int 0)))) (AB (AX Ah (aV 0) (aC (.int 1))) AM))))
def Bo:AF:=At 1 JD
def Nu {a:PV}{Q:PV->Prop}(h:JD ⟨λ_=>Q .non,Q,λ_=>False,λ_=>False⟩ [some (.val a)]):Bo [a] Q:=h
abbrev Ls:AS:=
 (Ay (cJ (BP (AX Ui (aV 1) (aC (.int 2)))) (AX Ah (aV 0) (aC (.int 1))) (AX Ah (aV 0) (aC (.int 0)))))
def Bz:AF:=At 2 Ls
def Pe {a b:PV}{Q:PV->Prop}(h:Ls ⟨λ_=>Q .non,Q,λ_=>False,λ_=>False⟩ [some (.val a),some (.val b)]):Bz [a,b] Q:=h
abbrev LK:AS:=
 (Ab (As (AN 2 D1 (AB (AN 2 Bz (AB (AX Ah (aV 0) (aC (.int 1))) (AB (aV 4) AM))) (AB (AN 2 Bz (AB (AX Ah (aV 1) (aC (.int 1))) (AB (aV 4) AM))) AM))) (Av 5))
   (Hk 3 O5 (AB (AN 2 D1 (AB (AN 2 Bz (AB (aV 2) (AB (aV 4) AM))) (AB (aV 5) AM))) AM)))
abbrev LL:AS:=
 (Ab (Fa (TN (AB (aC (.int 3)) AM)) (Av 4) LK)
   (Ay (aV 3)))
abbrev JL:AS:=
 (Ab (LS (HB AM) 3)
   LL)
def DT:AF:=At 6 JL
def Nx {a b c:PV}{Q:PV->Prop}(h:JL ⟨λ_=>Q .non,Q,λ_=>False,λ_=>False⟩ [some (.val a),some (.val b),some (.val c),none,none,none]):DT [a,b,c] Q:=h
def S9 (b:T3)(v:PV):Prop:=v=ZF b\/v= .lst [fr b.1,fr b.2.1,fr b.2.2]
def OW (cs:zy C4)(b:T3)(v:PV):Prop:=∃p w,Hi cs p/\S9 b w/\(v= .tup [p,w] \/v= .lst [p,w])
def ZI (d:Rat×Rat)(v:PV):Prop:=v= .tup [fr d.1,fr d.2] \/v= .lst [fr d.1,fr d.2]
def aM (r:Rat):PV.tup [.int (-r.num), .int r.den] =fr (-r):=by unfold fr;rw[Rat.neg_num,Rat.neg_den]
def Ez {r:Rat}{Q:PV->Prop}(q:Q (fr (-r))):Bo [fr r] Q:=by
 apply Nu;repeat' array_get_dec
 rw[aM];exact q
def c0 {x:PV}{c:C4}{R:PV->Prop}(hx:x=cor c\/x=corL c)(h:R (fr c.1)):Ah x (.int 0) R:=by rcases hx with rfl|rfl <;> exact h
def f0 {cs:zy C4}{b:T3}{v:PV}{R:PV->Prop}(hv:OW cs b v)(h:∀p,Hi cs p->R p):Ah v (.int 0) R:=by obtain⟨p,w,hp,hw,hv⟩:=hv;rcases hv with rfl|rfl <;> exact h p hp
def f1 {cs:zy C4}{b:T3}{v:PV}{R:PV->Prop}(hv:OW cs b v)(h:∀w,S9 b w->R w):Ah v (.int 1) R:=by obtain⟨p,w,hp,hw,hv⟩:=hv;rcases hv with rfl|rfl <;> exact h w hw
def b2 {b:T3}{w:PV}{R:PV->Prop}(hw:S9 b w)(h:R (fr b.2.2)):Ah w (.int 2) R:=by rcases hw with rfl|rfl <;> exact h
def MJ {k n:Nat}(h:k<=n)(a:n<1000000):k<sizeLine:=AAn h (AAP a (ABA rfl))
def szs (b e:T3)(d:Rat×Rat):T3:=(d.1+(b.1+e.1),d.1+(b.1+e.1),d.2+(b.2.1+e.2.1))
def Sw {w:PV}{x y:Rat}{k:Int}(a:∀{R:PV->Prop},R (fr x)->Ah w (.int 0) R)(h1:∀{R:PV->Prop},R (fr y)->Ah w (.int 1) R){Q:PV->Prop}(q:Q (fr (if k=2 then y else x))):Bz [w, .int k] Q:=by
 apply Pe;ac_rfl
 .rename_i h;rw[AAE h] at q;exact h1 q
 .rename_i h;rw[AAD h] at q;exact a q
def Od {b:T3}{w:PV}{k:Int}(hw:S9 b w){Q:PV->Prop}(q:Q (fr (if k=2 then b.2.1 else b.1))):Bz [w, .int k] Q:=
 Sw (λh=>by rcases hw with rfl|rfl <;> exact h) (λh=>by rcases hw with rfl|rfl <;> exact h) q
def VB {d:Rat×Rat}{w:PV}{k:Int}(hw:ZI d w){Q:PV->Prop}(q:Q (fr (if k=2 then d.2 else d.1))):Bz [w, .int k] Q:=
 Sw (λh=>by rcases hw with rfl|rfl <;> exact h) (λh=>by rcases hw with rfl|rfl <;> exact h) q
def We {cs s:zy C4}{b e:T3}{d:Rat×Rat}{v w u:PV}(hv:OW cs b v)(hw:OW s e w)(hu:ZI d u)(l:Ga 100 b)(m:Ga 100 e)(G:Bd 100 d.1)(b2:Bd 100 d.2){Q:PV->Prop}(q:Q (.lst [fr (szs b e d).1,fr (szs b e d).2.1,fr (szs b e d).2.2])):DT [v,w,u] Q:=by
 have z:=l.x;have f:=l.y;have ex:=m.x;have A:=m.y;have H:=z.add ex;have I:=f.add A;apply Nx;ac_rfl;have bk:∀k:Int,Bd 100 (if k=2 then b.2.1 else b.1):=λk=>by split <;> assumption
 have B:∀k:Int,Bd 100 (if k=2 then e.2.1 else e.1):=λk=>by split <;> assumption
 have C:∀k:Int,Bd 100 (if k=2 then d.2 else d.1):=λk=>by split <;> assumption
 refine R4 (λi τ=>∃a c,τ= [some (.val v),some (.val w),some (.val u),some (.own ((List.range i).map λk:Nat=>fr ((if (k:Int)=2 then d.2 else d.1)+((if (k:Int)=2 then b.2.1 else b.1)+(if (k:Int)=2 then e.2.1 else e.1))))),a,c]) ?_ ?_ ⟨_,_,rfl⟩
 .rintro τ ⟨a,c,rfl⟩;ac_rfl;exact q
 .rintro i hi τ R o ⟨a,c,rfl⟩;have J:i<3:=hi;have g:∀a c,R [some (.val v),some (.val w),some (.val u),some (.own (((List.range i).map λk:Nat=>fr ((if (k:Int)=2 then d.2 else d.1)+((if (k:Int)=2 then b.2.1 else b.1)+(if (k:Int)=2 then e.2.1 else e.1)))) ++ [fr ((if (i:Int)=2 then d.2 else d.1)+((if (i:Int)=2 then b.2.1 else b.1)+(if (i:Int)=2 then e.2.1 else e.1)))])),a,c] :=λa c=>o _ ⟨a,c,by rw[List.range_succ,AB8];rfl⟩;clear o;have h:=bk i;have j:=B i;have D:=C i;have K:=h.add j;have E:((List.range i).map λk:Nat=>fr ((if (k:Int)=2 then d.2 else d.1)+((if (k:Int)=2 then b.2.1 else b.1)+(if (k:Int)=2 then e.2.1 else e.1)))).length<=3:=by rw[AAL,List.length_range];omega
  generalize ((List.range i).map λk:Nat=>fr ((if (k:Int)=2 then d.2 else d.1)+((if (k:Int)=2 then b.2.1 else b.1)+(if (k:Int)=2 then e.2.1 else e.1))))=L at *;have F:(0:Int)+i=i:=by omega
  rw[F];ac_rfl;refine f1 hv λx hx=> ?_;ac_rfl;refine Od hx ?_;ac_rfl;refine f1 hw λx hx=> ?_;ac_rfl;refine Od hx ?_;generalize (if (i:Int)=2 then b.2.1 else b.1)=p at *;generalize (if (i:Int)=2 then e.2.1 else e.1)=r at *;ac_rfl;refine VB hu ?_;generalize (if (i:Int)=2 then d.2 else d.1)=t at *;ac_rfl;refine⟨MJ (n:=3) E (by decide), ?_⟩;ac_rfl;exact g _ _
abbrev VL (cs:zy C4)(b:T3):PV:= .tup [WC cs, .tup [fr b.1,fr b.2.1,fr b.2.2]]
abbrev GN:AS:=
 (Ab (As (Mz (HB (AB (Ap (AB (aC (.int 1)) (AB (aC (.int 1)) AM))) (AB (Ap (AB (aC (.int 2)) (AB (aC (.int 1)) AM))) (AB (Ap (AB (aC (.int 3)) (AB (aC (.int 2)) AM))) (AB (Ap (AB (aC (.int 1)) (AB (aC (.int 3)) AM))) (AB (Ap (AB (aC (.int 5)) (AB (aC (.int 1)) AM))) AM))))))) (Av 1))
   (Ay (Ap (AB (AX Ah (aV 1) (AN 2 BV (AB (aV 0) (AB (aC (.int 5)) AM)))) (AB (AX Ah (aV 1) (AN 2 BV (AB (aV 0) (AB (aC (.int 5)) AM)))) AM)))))
def CW:AF:=At 2 GN
def KP {a:PV}{Q:PV->Prop}(h:GN ⟨λ_=>Q .non,Q,λ_=>False,λ_=>False⟩ [some (.val a),none]):CW [a] Q:=h
def Xk {xs:zy PV}{k:Int}{R:PV->Prop}(a:0<=k)(h1:k<xs.length)(h:∀x∈xs,R x):Ah (.lst xs) (.int k) R:=by show dw (M3 xs k) R;have hk:xs[k.toNat]? =some (xs[k.toNat]'(by omega)):=AAc (by omega);have e:=DI hk;rw[show ((k.toNat:Nat):Int)=k by omega] at e;rw[e];exact h _ (ADL _)
def J2 {xs:zy Rat}{k:Int}{R:PV->Prop}(a:0<=k)(h1:k<xs.length)(h:∀x∈xs,R (fr x)):Ah (.lst (xs.map fr)) (.int k) R:=by refine Xk a (by simpa using h1) λx hx=> ?_;obtain⟨y,hy,rfl⟩:=AAJ.mp hx;exact h y hy
def fD {r:Rat}(h:r.num.natAbs<2^8:=by decide +kernel)(h2:r.den<2^8:=by decide +kernel):Bd 8 r:=⟨h,h2⟩
def apart_ok {Q:PV->Prop}(q:∀d:Rat×Rat,Bd 8 d.1->Bd 8 d.2->1/3<=d.1->1/3<=d.2->Q (.tup [fr d.1,fr d.2])):CW [.tape] Q:=by
 apply KP;have all:∀x∈ [(1:Rat),2,3/2,1/3,5],Bd 8 x/\1/3<=x:=by intro x hx;simp only[AAH,AA0,ABB] at hx;rcases hx with rfl|rfl|rfl|rfl|rfl <;> exact⟨fD,by decide +kernel⟩
 ac_rfl;refine J2 (xs:= [(1:Rat),2,3/2,1/3,5]) (by omega) (by show _<(5:Int);omega) λx hx=> ?_;ac_rfl;refine J2 (xs:= [(1:Rat),2,3/2,1/3,5]) (by omega) (by show _<(5:Int);omega) λy hy=> ?_;ac_rfl;exact q (x,y) (all x hx).1 (all y hy).1 (all x hx).2 (all y hy).2
section
variable {τ:A0}
instance{i:Nat}{xs:zy PV}{P:zy PV->Prop}[h:Yp τ i (.own xs)] :Wp (IW i τ P) (P xs):=⟨λk=>by unfold IW;rw[h.e];exact k⟩
end
def kO:PV.tup [.int (-1), .int 3] =fr (-1/3):=by unfold fr;rw[show (-1/3:Rat).num= -1 by decide +kernel,show (-1/3:Rat).den=3 by decide +kernel];rfl
def absR (r:Rat):Rat:=if r<0 then -r else r
def Bd.absR {n:Nat}{r:Rat}(h:Bd n r):Bd n (absR r):=by unfold PL.absR;split;exact h.neg;exact h
def iY (p q:T3)(d:Rat×Rat):T3:=((p.1-q.1)/d.1,(p.2.1-q.2.1)/d.1,(p.2.2-q.2.2)/d.2)
def hV (o:T3):Rat:=mx (mx (mx 0 (absR o.1)) (absR o.2.1)) (absR o.2.2)
def Wx (a l b c:C4)(m:Rat):Prop:=(¬m<a.1/\¬m<b.1)/\m<l.1/\m<c.1
instance {a l b c:C4}{m:Rat}:Decidable (Wx a l b c m):=by unfold Wx;infer_instance
def ins:zy Rat->Rat->zy Rat
 | [],x=> [x]
 | q::r,x=>if q<x then q::ins r x else if q=x then q::r else x::q::r
abbrev Ys (qs:zy Rat):Prop:=qs.Pairwise (· < ·)
theorem NR {x y:Rat}:∀{qs:zy Rat},y∈ins qs x↔y=x\/y∈qs
 | [] =>by simp[ins]
 | q::r=>by
   unfold ins;split
   .rw [AAH,NR,AAH];grind
   .split
    .rename_i h;subst h;simp
    .simp
theorem S3 {x:Rat}:∀{qs:zy Rat},Ys qs->Ys (ins qs x)
 | [],_=>by simp[ins]
 | q::r,h=>by
   obtain⟨h1,h2⟩:=AAf.mp h;unfold ins;split
   .rename_i a;refine AAf.mpr ⟨λy hy=> ?_,S3 h2⟩;rcases NR.mp hy with rfl|hy
    .exact a
    .exact h1 y hy
   .split
    .exact h
    .refine AAf.mpr ⟨λy hy=> ?_,h⟩;rcases AAH.mp hy with rfl|hy
     .grind
     .have:=h1 y hy;grind
theorem SM {x:Rat}:∀{qs:zy Rat},(ins qs x).length<=qs.length+1
 | [] =>by simp[ins]
 | q::r=>by
   have:=SM (x:=x) (qs:=r);unfold ins;split
   .simp;omega
   .split <;> simp
theorem S2:∀{a b:zy Rat},Ys a->Ys b->(∀x,x∈a↔x∈b)->a=b
 | [], [],_,_,_=>rfl
 | [],y::b,_,_,h=>by have:=(h y).mpr (by simp);simp at this
 | x::a, [],_,_,h=>by have:=(h x).mp (by simp);simp at this
 | x::a,y::b,ha,hb,h=>by
   obtain⟨g,j⟩:=AAf.mp ha;obtain⟨i,b2⟩:=AAf.mp hb;have d:x=y:=by
    rcases AAH.mp ((h x).mp (by simp)) with e|e
    .exact e
    .rcases AAH.mp ((h y).mpr (by simp)) with f|f
     .exact f.symm
     .have:=i x e;have:=g y f;grind
   subst d;congr 1;refine S2 j b2 λz=>⟨λc=> ?_,λc=> ?_⟩
   .rcases AAH.mp ((h z).mp (by simp[c])) with e|e
    .subst e;have:=g z c;grind
    .exact e
   .rcases AAH.mp ((h z).mpr (by simp[c])) with e|e
    .subst e;have:=i z c;grind
    .exact e
def Lf (xs:zy Rat):zy Rat:=xs.foldl ins []
theorem Iw:∀(xs qs:zy Rat),Ys qs->Ys (xs.foldl ins qs)/\(∀y,y∈xs.foldl ins qs↔y∈xs\/y∈qs)/\(xs.foldl ins qs).length<=qs.length+xs.length
 | [],qs,h=>⟨h,by simp,by simp⟩
 | x::xs,qs,h=>by
   obtain⟨h1,h2,h3⟩:=Iw xs (ins qs x) (S3 h);refine⟨h1,λy=> ?_, ?_⟩
   .rw [AA1,h2,NR,AAH];grind
   .have:=SM (x:=x) (qs:=qs);rw[AA1,AAk];omega
def EJ {xs:zy Rat}:Ys (Lf xs):=(Iw xs [] .nil).1
def C7 {xs:zy Rat}{y:Rat}:y∈Lf xs↔y∈xs:=by rw[Lf,(Iw xs [] .nil).2.1];simp
def WN {xs:zy Rat}:(Lf xs).length<=xs.length:=by have:=(Iw xs [] .nil).2.2;unfold Lf;simpa using this
abbrev Pl:=Rat×Int
abbrev B8:=Rat×Int×zt Rat
def bp (s:B8):Pl:=(s.1,1-s.2.1)
def ep (s:B8):zt Pl:=s.2.2.map λe=>(e,0)
def PP (s:B8)(p:Pl):Int:=(if bp s=p then 1 else 0)-(if ep s=some p then 1 else 0)
def cnt (ss:zy B8)(p:Pl):Int:=(ss.map λs=>PP s p).sum
def db (ss:zy B8)(p:Pl):Prop:=∃s∈ss,bp s=p\/ep s=some p
def K9 (x p:Pl):zq:=decide (x.1<p.1)||(decide (x.1=p.1)&&decide (x.2<=p.2))
def B0 (s:B8)(p:Pl):zq:=(decide (s.1<p.1)||(decide (s.1=p.1)&&decide (0<s.2.1+p.2)))&&(match s.2.2 with | none=>true|some e=>decide (p.1<e))
structure Ek (B:Nat) (s:B8):Prop where
 b:Bd B s.1
 h:s.2.1=0\/s.2.1=1
 e:∀e,s.2.2=some e->s.1<e/\Bd B e
def tm (s:B8)(p:Pl):Int:=(if K9 (bp s) p=true then 1 else 0)-(if (ep s).any (K9 · p)=true then 1 else 0)
def fT {B:Nat}{s:B8}{p:Pl}(ok:Ek B s)(hp:0<=p.2):tm s p=if B0 s p=true then 1 else 0:=by
 obtain⟨b,h,e⟩:=s;obtain⟨q,i⟩:=p;have g:h=0\/h=1:=ok.h;have hp:0<=i:=hp;have d:K9 (bp (b,h,e)) (q,i)=(decide (b<q)||(decide (b=q)&&decide (0<h+i))):=by unfold K9 bp;congr 2;exact AB6.mpr (by show 1-h<=i↔0<h+i;omega)
 cases e with
 | none=> unfold tm B0;rw[d];simp[ep]
 | some e=>
   have j:b<e:=(ok.e e rfl).1;have f:(ep (b,h,some e)).any (K9 · (q,i))= !decide (q<e):=by
    show K9 (e,0) (q,i)=_;unfold K9;by_cases z:q<e
    .have a:¬e<q:=by grind
     have c:¬e=q:=by grind
     simp[z,a,c]
    .by_cases a:e<q
     .simp [z,a]
     .have c:e=q:=by grind
      simp[c,hp]
   unfold tm B0;rw[d,f];by_cases z:q<e
   .simp [z]
   .have a:b<q:=by grind
    simp[z,a]
def Hn (ss:zy B8)(p:Pl):Nat:=(ss.filter (B0 · p)).length
theorem Qj {B:Nat}{p:Pl}(hp:0<=p.2):∀{ss:zy B8},(∀s∈ss,Ek B s)->(Hn ss p:Int)=(ss.map λs=>tm s p).sum
 | [],_=>rfl
 | s::ss,h=>by
   have a:=Qj hp (ss:=ss) λx hx=>h x (by simp[hx]);have e:=fT (p:=p) (h s (by simp)) hp;rw[AAM,AAh,<-a,e];unfold Hn;rw[ABW];split
   .simp;omega
   .simp
def Ip (x p:Pl):Prop:=x.1<p.1\/(x.1=p.1/\x.2<p.2)
def HF {a b c:Pl}(h:Ip a b)(h2:Ip b c):Ip a c:=by
 unfold Ip at *;rcases h with h|⟨h,h'⟩ <;> rcases h2 with h2|⟨h2,d⟩
 .left;grind
 .left;grind
 .left;grind
 .right;exact⟨by grind,by omega⟩
def Ey {x p:Pl}:K9 x p=true↔Ip x p\/x=p:=by
 obtain⟨a,i⟩:=x;obtain⟨b,j⟩:=p;unfold K9 Ip;simp only[Bool.or_eq_true,AAz,ACg,Prod.mk.injEq];constructor
 .rintro (h|⟨h,h2⟩)
  .exact .inl (.inl h)
  .by_cases e:i=j
   .exact .inr ⟨h,e⟩
   .exact .inl (.inr ⟨h,by omega⟩)
 .rintro ((h|⟨h,h2⟩)|⟨h,h2⟩)
  .exact .inl h
  .exact .inr ⟨h,by omega⟩
  .exact .inr ⟨h,by omega⟩
def Iq {p:Pl}:¬Ip p p:=by
 unfold Ip;rintro(h|⟨_,h⟩)
 .grind
 .omega
def O4 (x:Pl):zt Pl->zq|none=>false|some p=>K9 x p
def Yk (s:B8)(o:zt Pl):Int:=(if O4 (bp s) o=true then 1 else 0)-(if (ep s).any (O4 · o)=true then 1 else 0)
def iV:zt Pl->Pl->Prop|none,_=>True|some q,p=>Ip q p
def G2 {x p:Pl}{o:zt Pl}(hx:O4 x o=true\/x=p\/Ip p x)(a:iV o p):K9 x p=(O4 x o||decide (x=p))/\¬(O4 x o=true/\x=p):=by
 have h1:O4 x o=true->Ip x p:=λh=>by
  cases o with
  | none=>cases h
  | some q=>rcases Ey.mp h with h|h
            .exact HF h a
            .rw [h];exact a
 refine⟨?_,λh=>by rw[h.2] at h1;exact Iq (h1 (h.2 ▸ h.1))⟩;rw[ABd,Bool.or_eq_true,ACg,Ey];constructor
 .rintro (h|h)
  .rcases hx with z|z|z
   .exact .inl z
   .exact .inr z
   .exact absurd (HF h z) Iq
  .exact .inr h
 .rintro (h|h)
  .exact .inl (h1 h)
  .exact .inr h
def Vf {A:zq}{E:Prop}[Decidable E](h:¬(A=true/\E)):(if (A||decide E)=true then (1:Int) else 0)=(if A=true then 1 else 0)+if E then 1 else 0:=by cases A <;> by_cases e:E <;> simp_all
def Yl {s:B8}{p:Pl}{o:zt Pl}(hb:O4 (bp s) o=true\/bp s=p\/Ip p (bp s))(he:∀x,ep s=some x->O4 x o=true\/x=p\/Ip p x)(a:iV o p):tm s p=Yk s o+PP s p:=by
 obtain⟨b,b2⟩:=G2 hb a;unfold tm Yk PP;rw[b,Vf b2];cases e:ep s with
 | none=>simp
 | some x=>
   obtain⟨c,d⟩:=G2 (he x e) a;have h1:(if (some x).any (K9 · p)=true then (1:Int) else 0)=(if O4 x o=true then 1 else 0)+if x=p then 1 else 0:=by show (if K9 x p=true then (1:Int) else 0)=_;rw[c,Vf d]
   rw[h1];show _=(_-(if O4 x o=true then (1:Int) else 0))+(_-(if some x=some p then (1:Int) else 0));have h2:(if some x=some p then (1:Int) else 0)=if x=p then 1 else 0:=by by_cases z:x=p <;> simp[z]
   rw[h2];omega
def Uz (X:zy Pl):Prop:=X.Pairwise Ip
def G7 (ss:zy B8):Int->zy Pl->Prop
 | _, [] =>True
 | c,p::r=>(Hn ss p:Int)=c+cnt ss p/\G7 ss (Hn ss p) r
theorem S4 {a:Type}(f g:a->Int):∀xs:zy a,(xs.map λx=>f x+g x).sum=(xs.map f).sum+(xs.map g).sum
 | [] =>rfl
 | x::xs=>by simp only[AAM,AAh,S4 f g xs];omega
theorem Jk {B:Nat}{ss:zy B8}(ok:∀s∈ss,Ek B s):∀(X:zy Pl) (o:zt Pl),Uz X->(∀p∈X,iV o p/\0<=p.2)->(∀s∈ss,(O4 (bp s) o=true\/bp s∈X)/\∀x,ep s=some x->O4 x o=true\/x∈X)->G7 ss ((ss.map λs=>Yk s o).sum) X
 | [],_,_,_,_=>True.intro
 | p::r,o,hs,ho,hk=>by
   obtain⟨h1,h2⟩:=AAf.mp hs;obtain⟨op,a⟩:=ho p (by simp);have cls:∀x,(O4 x o=true\/x∈p::r)->O4 x o=true\/x=p\/Ip p x:=λx h=>by
    rcases h with h|h
    .exact .inl h
    .rcases AAH.mp h with h|h
     .exact .inr (.inl h)
     .exact .inr (.inr (h1 x h))
   have e:(Hn ss p:Int)=(ss.map λs=>Yk s o).sum+cnt ss p:=by rw[Qj a ok];unfold cnt;rw[<-S4];congr 1;apply ABl;intro s hs;exact Yl (cls _ (hk s hs).1) (λx ex=>cls x ((hk s hs).2 x ex)) op
   refine⟨e, ?_⟩;have:=Jk ok r (some p) h2 (λq b=>⟨h1 q b,(ho q (by simp[b])).2⟩) (λs hs=>⟨?_,λx ex=> ?_⟩)
   .rw [show (ss.map λs=>Yk s (some p)).sum=(Hn ss p:Int) from(Qj a ok).symm] at this;exact this
   .rcases cls _ (hk s hs).1 with z|z|z
    .exact .inl (by rw[show O4 (bp s) (some p)=K9 (bp s) p from rfl,(G2 (.inl z) op).1,z];rfl)
    .exact .inl (Ey.mpr (.inr z))
    .rcases (hk s hs).1 with y|y
     .exact .inl (by rw[show O4 (bp s) (some p)=K9 (bp s) p from rfl,(G2 (.inl y) op).1,y];rfl)
     .rcases AAH.mp y with y|y
      .exact .inl (Ey.mpr (.inr y))
      .exact .inr y
   .rcases (hk s hs).2 x ex with y|y
    .exact .inl (by rw[show O4 x (some p)=K9 x p from rfl,(G2 (.inl y) op).1,y];rfl)
    .rcases AAH.mp y with y|y
     .exact .inl (Ey.mpr (.inr y))
     .exact .inr y
def places (qs:zy Rat):zy Pl:=qs.flatMap λq=> [(q,0),(q,1)]
def BF {qs:zy Rat}{p:Pl}:p∈places qs↔p.1∈qs/\(p.2=0\/p.2=1):=by
 obtain⟨a,i⟩:=p;unfold places;simp only[AA2,AAH,AA0,ABB,Prod.mk.injEq];constructor
 .rintro ⟨q,b,⟨rfl,rfl⟩|⟨rfl,rfl⟩⟩
  .exact ⟨b, .inl rfl⟩
  .exact ⟨b, .inr rfl⟩
 .rintro ⟨h,h2⟩;exact⟨a,h,h2.elim (λz=> .inl ⟨rfl,z⟩) (λz=> .inr ⟨rfl,z⟩)⟩
theorem Dd:∀{qs:zy Rat},Ys qs->Uz (places qs)
 | [],_=>List.Pairwise.nil
 | q::r,h=>by
   obtain⟨h1,h2⟩:=AAf.mp h;have b:=Dd h2;have a:∀(i:Int),∀p∈places r,Ip (q,i) p:=λi p hp=> .inl (h1 _ (BF.mp hp).1);show Uz ((q,0)::(q,1)::places r);refine AAf.mpr ⟨λp hp=> ?_,AAf.mpr ⟨a 1,b⟩⟩;rcases AAH.mp hp with rfl|hp
   .exact .inr ⟨rfl,by show (0:Int)<1;decide⟩
   .exact a 0 p hp
def C6 (ss:zy B8):zy Rat:=ss.flatMap λs=>s.1::s.2.2.toList
def Dw (ss:zy B8):zy Pl:=places (Lf (C6 ss))
def J3 {B:Nat}{ss:zy B8}(ok:∀s∈ss,Ek B s){s:B8}(hs:s∈ss):bp s∈Dw ss/\∀x,ep s=some x->x∈Dw ss:=by
 refine⟨BF.mpr ⟨C7.mpr (AA2.mpr ⟨s,hs,by simp[bp]⟩), ?_⟩,λx ex=> ?_⟩
 .have:=(ok s hs).h;unfold bp;simp only;omega
 .obtain ⟨e,he,rfl⟩:=AB7.mp ex;exact BF.mpr ⟨C7.mpr (AA2.mpr ⟨s,hs,by simp[he]⟩), .inl rfl⟩
def Oh {B:Nat}{ss:zy B8}(ok:∀s∈ss,Ek B s):G7 ss 0 (Dw ss):=by
 have h:=Jk ok (Dw ss) none (Dd EJ) (λp hp=>⟨True.intro,by rcases (BF.mp hp).2 with z|z <;> omega⟩) (λs hs=>⟨.inr (J3 ok hs).1,λx ex=> .inr ((J3 ok hs).2 x ex)⟩);have:(ss.map λs=>Yk s none).sum=0:=by
  clear h ok;induction ss with
  | nil=>rfl
  | cons s ss a=> rw[AAM,AAh,a];unfold Yk;cases ep s <;> rfl
 rw[this] at h;exact h
def un (k:FK):Rat:=mkRat k.1.1 k.1.2.toNat
def stepI (st:zy B8×zt Pl)(x:Pl×zq):zy B8×zt Pl:=
 match st.2,x.2 with
 | none,true=>(st.1,some x.1)
 | some b,false=>(st.1 ++ [(b.1,1-b.2,some x.1.1)],none)
 | _,_=>st
def Oq (st:zy B8×zt Pl):zy B8:=match st.2 with | none=>st.1|some b=>st.1 ++ [(b.1,1-b.2,none)]
def MS (X:zy (Pl×zq)):zy B8:=Oq (X.foldl stepI ([],none))
theorem MK:∀{ss:zy B8},(C6 ss).length<=2*ss.length
 | [] =>by simp[C6]
 | s::ss=>by
   have a:=MK (ss:=ss);unfold C6 at *;rw[List.flatMap_cons,AAy,AAk,AAk];have:s.2.2.toList.length<=1:=by cases s.2.2 <;> simp
   omega
theorem KJ:∀{qs:zy Rat},(places qs).length=2*qs.length
 | [] =>rfl
 | q::qs=>by have a:=KJ (qs:=qs);unfold places at *;rw[List.flatMap_cons,AAy,a,AAk];simp;omega
def QD (In key:Pl->zq):zq->zy Pl->Prop
 | _, [] =>True
 | c,p::r=>(key p=false->In p=c)/\QD In key (In p) r
def RO {st:zy B8×zt Pl}{p:Pl}{i:zq}:(stepI st (p,i)).2.isSome=i:=by obtain⟨L,b⟩:=st;cases b <;> cases i <;> rfl
def RN {st:zy B8×zt Pl}{p:Pl}{i:zq}(h:i=st.2.isSome):stepI st (p,i)=st:=by obtain⟨L,b⟩:=st;cases b <;> cases i <;> first | rfl|cases h
theorem HM {In key:Pl->zq}:∀(X:zy Pl) (st:zy B8×zt Pl),QD In key st.2.isSome X->(X.map λp=>(p,In p)).foldl stepI st=((X.filter key).map λp=>(p,In p)).foldl stepI st
 | [],st,_=>rfl
 | p::r,st,h=>by
   rw[AAM,AA1,ABW];cases k:key p with
   | true=> rw[AAE rfl,AAM,AA1];exact HM r _ (by rw[RO];exact h.2)
   | false=> have e:=h.1 k;rw[AAD (by decide),RN e];exact HM r st (by have:=h.2;rw[e] at this;exact this)
theorem Ko {ss:zy B8}{key:Pl->zq}{n:Int}(hk:∀p,key p=false->cnt ss p=0):∀(X:zy Pl) (c:Int),G7 ss c X->QD (λp=>decide (n<=(Hn ss p:Int))) key (decide (n<=c)) X
 | [],_,_=>True.intro
 | p::r,c,h=>⟨λk=>(by show decide (n<=(Hn ss p:Int))=_;rw[h.1,hk p k,Int.add_zero]),Ko hk r _ h.2⟩
def canon (n:Int)(ss:zy B8):zy B8:=MS ((Dw ss).map λp=>(p,decide (n<=(Hn ss p:Int))))
def VH {ss:zy B8}{p:Pl}(h:¬db ss p):cnt ss p=0:=by
 have key:∀ss:zy B8,(∀s∈ss,¬(bp s=p\/ep s=some p))->cnt ss p=0:=by
  intro ss;induction ss with
  | nil=>intro _;rfl
  | cons s ss a=>
    intro h;have h1:=h s (by simp);have e:cnt (s::ss) p=PP s p+cnt ss p:=by simp[cnt]
    rw[e,a λx hx=>h x (by simp[hx])];unfold PP;rw[AAD λz=>h1 (.inl z),AAD λz=>h1 (.inr z)];rfl
 exact key ss λs hs z=>h ⟨s,hs,z⟩
def NL {ss:zy B8}{p:Pl}:decide ((1:Int)<=(Hn ss p:Int))=ss.any (B0 · p):=by
 rw[ABd,ACg,List.any_eq_true];unfold Hn;constructor
 .intro h;obtain⟨s,hs⟩:=List.exists_mem_of_length_pos (l:=ss.filter (B0 · p)) (by omega);have:=AAS.mp hs;exact⟨s,this.1,this.2⟩
 .rintro ⟨s,hs,h⟩;have:=List.length_pos_of_mem (AAS.mpr ⟨hs,h⟩:s∈ss.filter (B0 · p));omega
def DC (In:Pl->zq):zy Pl->zt Pl->zy B8
 | [],none=> []
 | [],some b=> [(b.1,1-b.2,none)]
 | p::r,none=>if In p=true then DC In r (some p) else DC In r none
 | p::r,some b=>if In p=true then DC In r (some b) else (b.1,1-b.2,some p.1)::DC In r none
theorem KO {In:Pl->zq}:∀(X:zy Pl) (a:zy B8) (b:zt Pl),Oq ((X.map λp=>(p,In p)).foldl stepI (a,b))=a++DC In X b
 | [],a,none=>by simp[Oq,DC]
 | [],a,some b=>by simp[Oq,DC]
 | p::r,a,none=>by
   rw[AAM,AA1];unfold DC;cases e:In p with
   | true=>exact KO r a (some p)
   | false=>exact KO r a none
 | p::r,a,some b=>by
   rw[AAM,AA1];unfold DC;cases e:In p with
   | true=>exact KO r a (some b)
   | false=> show Oq ((r.map λp=>(p,In p)).foldl stepI (a ++ [(b.1,1-b.2,some p.1)],none))=a++((b.1,1-b.2,some p.1)::DC In r none);rw[KO r _ none];simp
def MT {In:Pl->zq}{X:zy Pl}:MS (X.map λp=>(p,In p))=DC In X none:=by unfold MS;rw[KO];rfl
def Im {q p:Pl}{e:zt Rat}(a:q.2=0\/q.2=1)(hp:0<=p.2):B0 (q.1,1-q.2,e) p=(K9 q p&&(match e with | none=>true|some e=>decide (p.1<e))):=by unfold B0 K9;congr 2;congr 1;exact AB6.mpr (by show 0<1-q.2+p.2↔q.2<=p.2;omega)
def G9 (In:Pl->zq):zq->zy Pl->Prop
 | _, [] =>True
 | c,p::r=>(c=true->In p=false->p.2=0)/\G9 In (In p) r
theorem Si {In:Pl->zq}:∀(X:zy Pl),Uz X->(∀x∈X,x.2=0\/x.2=1)-> (G9 In false X->(∀p:Pl,0<=p.2->(∀x∈X,Ip p x)->(DC In X none).any (B0 · p)=false)/\∀p∈X,(DC In X none).any (B0 · p)=In p)/\ (G9 In true X->∀q:Pl,(q.2=0\/q.2=1)->(∀x∈X,Ip q x)->(∀p:Pl,0<=p.2->(∀x∈X,Ip p x)->(DC In X (some q)).any (B0 · p)=K9 q p)/\∀p∈X,(DC In X (some q)).any (B0 · p)=In p)
 | [],_,_=>⟨λ_=>⟨λp _ _=>rfl,λp hp=>by cases hp⟩,λ_ q f _=>⟨λp hp _=>by show (B0 (q.1,1-q.2,none) p||false)=_;rw[Im f hp];simp,λp hp=>by cases hp⟩⟩
 | x::r,hs,SB=>by
   obtain⟨h1,h2⟩:=AAf.mp hs;have k:=Si (In:=In) r h2 λy hy=>SB y (by simp[hy]);have l:=SB x (by simp);have g:0<=x.2:=by omega
   have i:∀p:Pl,(∀y∈x::r,Ip p y)->∀y∈r,Ip p y:=λp h y hy=>h y (by simp[hy]);have n:∀p:Pl,Ip p x->K9 x p=false:=λp h=>by
    rw[<-Bool.not_eq_true,Ey];rintro(z|z)
    .exact Iq (HF z h)
    .rw [z] at h;exact Iq h
   have o:K9 x x=true:=Ey.mpr (.inr rfl);refine⟨λhd=> ?_,λhd q f m=> ?_⟩
   .unfold DC;cases e:In x with
    | true=>
      have a:=hd.2;rw[e] at a;obtain⟨b,d⟩:=k.2 a x l h1;rw[AAE rfl];refine⟨λp c hp=> ?_,λp hp=> ?_⟩
      .rw [b p c (i p hp),n p (hp x (by simp))]
      .rcases AAH.mp hp with rfl|hp
       .rw [b p g h1,o,e]
       .exact d p hp
    | false=>
      have a:=hd.2;rw[e] at a;obtain⟨b,d⟩:=k.1 a;rw[AAD (by decide)];refine⟨λp c hp=>b p c (i p hp),λp hp=> ?_⟩;rcases AAH.mp hp with rfl|hp
      .rw [b p g h1,e]
      .exact d p hp
   .unfold DC;have s:K9 q x=true:=Ey.mpr (.inl (m x (by simp)));cases e:In x with
    | true=>
      have a:=hd.2;rw[e] at a;obtain⟨b,d⟩:=k.2 a q f (i q m);rw[AAE rfl];refine⟨λp c hp=>b p c (i p hp),λp hp=> ?_⟩;rcases AAH.mp hp with rfl|hp
      .rw [b p g h1,s,e]
      .exact d p hp
    | false=>
      have a:=hd.2;rw[e] at a;obtain⟨b,d⟩:=k.1 a;have u:=hd.1 rfl e;rw[AAD (by decide)];have j:∀p:Pl,(p=x\/Ip x p)->¬p.1<x.1:=λp h=>by rcases h with h|h|⟨h,_⟩ <;> grind
      refine⟨λp c hp=> ?_,λp hp=> ?_⟩
      .have t:p.1<x.1:=by
        rcases hp x (by simp) with z|⟨_,z⟩
        .exact z
        .omega
       show (B0 (q.1,1-q.2,some x.1) p||(DC In r none).any (B0 · p))=_;rw[Im f c,b p c (i p hp)];simp[t]
      .show (B0 (q.1,1-q.2,some x.1) p||(DC In r none).any (B0 · p))=_;rcases AAH.mp hp with rfl|hp
       .rw [Im f g,b p g h1,e];simp[j p (.inl rfl)]
       .rw [Im f (by have:=SB p (by simp[hp]);omega),d p hp];simp[j p (.inr (h1 p hp))]
theorem PX {In:Pl->zq}(P:Rat->Prop):∀(X:zy Pl) (b:zt Pl),Uz X->(∀x∈X,(x.2=0\/x.2=1)/\P x.1)->G9 In b.isSome X->(∀q,b=some q->(q.2=0\/q.2=1)/\P q.1/\∀x∈X,Ip q x)-> ∀s∈DC In X b,P s.1/\(s.2.1=0\/s.2.1=1)/\∀e,s.2.2=some e->s.1<e/\P e
 | [],none,_,_,_,_=>λs hs=>by cases hs
 | [],some q,_,_,_,hb=>λs hs=>by obtain⟨h1,h2,_⟩:=hb q rfl;simp only[DC,AAd] at hs;subst hs;exact⟨h2,by show 1-q.2=0\/1-q.2=1;omega,λe he=>by cases he⟩
 | x::r,b,hs,SB,hd,hb=>by
   obtain⟨h1,h2⟩:=AAf.mp hs;have f:=λb d hb=>PX (In:=In) P r b h2 (λy hy=>SB y (by simp[hy])) d hb;have a:=hd.2;cases b with
   | none=>
     unfold DC;cases e:In x with
     | true=> rw[AAE rfl];rw[e] at a;exact f (some x) a λq c=>by cases c;exact⟨(SB x (by simp)).1,(SB x (by simp)).2,h1⟩
     | false=> rw[AAD (by decide)];rw[e] at a;exact f none a λq c=>by cases c
   | some q=>
     obtain⟨i,g,h⟩:=hb q rfl;unfold DC;cases e:In x with
     | true=> rw[AAE rfl];rw[e] at a;exact f (some q) a λj c=>by cases c;exact⟨i,g,λy hy=>h y (by simp[hy])⟩
     | false=>
       rw[AAD (by decide)];rw[e] at a;have k:=hd.1 rfl e;intro s hs;rcases AAH.mp hs with rfl|hs
       .refine ⟨g,by show 1-q.2=0\/1-q.2=1;omega,λl he=> ?_⟩;cases he;refine⟨?_,(SB x (by simp)).2⟩;rcases h x (by simp) with z|⟨_,z⟩
        .exact z
        .omega
       .exact f none a (λq c=>by cases c) s hs
theorem Fz {ss:zy B8}:∀(X:zy Pl) (c:Int),(∀x∈X,x.2=0\/x.2=1)->G7 ss c X->G9 (λp=>ss.any (B0 · p)) (decide (1<=c)) X
 | [],_,_,_=>True.intro
 | p::r,c,SB,h=>by
   have a:=Fz r (Hn ss p) (λx hx=>SB x (by simp[hx])) h.2;rw[NL] at a;refine⟨λhc hi=> ?_,a⟩;rcases SB p (by simp) with z|z
   .exact z
   .have hc:1<=c:=by simpa using hc
    have hi:ss.any (B0 · p)=false:=hi;rw[<-NL] at hi;have hi:¬(1:Int)<=Hn ss p:=by simpa using hi
    have c0:0<=cnt ss p:=by
     have go:∀ss:zy B8,0<=cnt ss p:=by
      intro ss;induction ss with
      | nil=>exact ACh _
      | cons s ss a=>
        have e:cnt (s::ss) p=PP s p+cnt ss p:=by simp[cnt]
        have o:0<=PP s p:=by
         unfold PP;have:¬ep s=some p:=λy=>by obtain⟨d,_,b⟩:=AB7.mp y;have:(0:Int)=p.2:=congrArg Prod.snd b;omega
         rw[AAD this];split <;> decide
        omega
     exact go ss
    have:=h.1;omega
def S0 {ss:zy B8}:∀x∈Dw ss,x.2=0\/x.2=1:=λx hx=>(BF.mp hx).2
def TZ {ss:zy B8}:canon 1 ss=DC (λp=>ss.any (B0 · p)) (Dw ss) none:=by unfold canon;rw[<-MT];congr 1;apply ABl;intro p _;rw[NL]
def RM {ss:zy B8}{B:Nat}(ok:∀s∈ss,Ek B s):G9 (λp=>ss.any (B0 · p)) false (Dw ss):=Fz (Dw ss) 0 S0 (Oh ok)
def QN {ss:zy B8}{B:Nat}(ok:∀s∈ss,Ek B s):∀s∈canon 1 ss,s.1∈C6 ss/\(s.2.1=0\/s.2.1=1)/\∀e,s.2.2=some e->s.1<e/\e∈C6 ss:=by rw[TZ];exact PX (· ∈C6 ss) (Dw ss) none (Dd EJ) (λx hx=>⟨S0 x hx,C7.mp (BF.mp hx).1⟩) (RM ok) λq a=>by cases a
def SX {ss:zy B8}{B:Nat}(ok:∀s∈ss,Ek B s):∀x∈C6 ss,Bd B x:=λx h=>by
 obtain⟨s,hs,hx⟩:=AA2.mp h;rcases AAH.mp hx with rfl|hx
 .exact (ok s hs).b
 .exact ((ok s hs).e x (by simpa using hx)).2
def VF {ss:zy B8}{B:Nat}(ok:∀s∈ss,Ek B s):∀s∈canon 1 ss,Ek B s:=λs hs=>by obtain⟨h1,h2,h3⟩:=QN ok s hs;exact⟨SX ok _ h1,h2,λe he=>⟨(h3 e he).1,SX ok _ (h3 e he).2⟩⟩
theorem Fi (f:Rat->zq):∀qs:zy Rat,(places qs).filter (λp=>f p.1)=places (qs.filter f)
 | [] =>rfl
 | q::qs=>by show ((q,0)::(q,1)::places qs).filter (λp=>f p.1)=_;rw[ABW,ABW,ABW,Fi f qs];cases f q <;> rfl
def CK (ms:zy Rat)(ss:zy B8):zy Pl:=places (Lf (ms++C6 ss))
def Ge {B:Nat}{ms:zy Rat}{ss:zy B8}(ok:∀s∈ss,Ek B s):G7 ss 0 (CK ms ss):=by
 have c:∀s∈ss,bp s∈CK ms ss/\∀x,ep s=some x->x∈CK ms ss:=λs hs=>by
  obtain⟨h1,h2⟩:=J3 ok hs;have d:∀x∈Dw ss,x∈CK ms ss:=λx hx=>by obtain⟨a,b⟩:=BF.mp hx;exact BF.mpr ⟨C7.mpr (AAb _ (C7.mp a)),b⟩
  exact⟨d _ h1,λx ex=>d _ (h2 x ex)⟩
 have h:=Jk ok (CK ms ss) none (Dd EJ) (λp hp=>⟨True.intro,by rcases (BF.mp hp).2 with z|z <;> omega⟩) (λs hs=>⟨.inr (c s hs).1,λx ex=> .inr ((c s hs).2 x ex)⟩);have z:(ss.map λs=>Yk s none).sum=0:=by
  clear h c ok;induction ss with
  | nil=>rfl
  | cons s ss e=> rw[AAM,AAh,e];unfold Yk;cases ep s <;> rfl
 rw[z] at h;exact h
def QM {B:Nat}{ms:zy Rat}{ss:zy B8}{n:Int}(ok:∀s∈ss,Ek B s)(c:0<n):MS ((CK ms ss).map λp=>(p,decide (n<=(Hn ss p:Int))))=canon n ss:=by
 have hk:∀p:Pl,decide (p.1∈C6 ss)=false->cnt ss p=0:=λp hp=>VH λ⟨s,hs,z⟩=>by
  have hp:¬p.1∈C6 ss:=by simpa using hp
  refine hp (AA2.mpr ⟨s,hs, ?_⟩);rcases z with z|z
  .rw [<-z];simp[bp]
  .obtain ⟨d,he,rfl⟩:=AB7.mp z;simp[he]
 have a:=Ko (n:=n) (ss:=ss) (key:=λp=>decide (p.1∈C6 ss)) hk (CK ms ss) 0 (Ge ok);rw[AAa (by omega)] at a;have h:=HM (CK ms ss) ([],none) a;have b:(CK ms ss).filter (λp=>decide (p.1∈C6 ss))=Dw ss:=by unfold CK Dw;rw[Fi (λx=>decide (x∈C6 ss))];congr 1;refine S2 (EJ.filter _) EJ λx=> ?_;rw[AAS,C7,C7,ACg];exact⟨λh=>h.2,λh=>⟨AAb _ h,h⟩⟩
 rw[b] at h;show Oq _=Oq _;rw[h]
def Of {B:Nat}{ss:zy B8}(ok:∀s∈ss,Ek B s){p:Pl}(hp:p.2=0\/p.2=1):(canon 1 ss).any (B0 · p)=ss.any (B0 · p):=by
 have b:p∈CK [p.1] ss:=BF.mpr ⟨C7.mpr (by simp),hp⟩;have a:∀x∈CK [p.1] ss,x.2=0\/x.2=1:=λx hx=>(BF.mp hx).2;have c:=Fz (CK [p.1] ss) 0 a (Ge ok);have e:canon 1 ss=DC (λp=>ss.any (B0 · p)) (CK [p.1] ss) none:=by rw[<-QM (ms:= [p.1]) ok (by decide),<-MT];congr 1;apply ABl;intro q _;rw[NL]
 rw[e];exact((Si (CK [p.1] ss) (Dd EJ) a).1 c).2 p b
def hN (L:zy B8)(p:Pl):Nat:=(L.filter (B0 · p)).length
theorem Jo:∀(X:zy (Pl×zq)) (st:zy B8×zt Pl),2*(X.foldl stepI st).1.length+(if (X.foldl stepI st).2.isSome then 1 else 0)<=2*st.1.length+(if st.2.isSome then 1 else 0)+X.length
 | [],st=>AAI _
 | x::X,st=>by
   have h1:=Jo X (stepI st x);have h2:2*(stepI st x).1.length+(if (stepI st x).2.isSome then 1 else 0)<=2*st.1.length+(if st.2.isSome then 1 else 0)+1:=by obtain⟨L,b⟩:=st;obtain⟨p,c⟩:=x;cases b <;> cases c <;> simp[stepI] <;> omega
   rw[AA1,AAk];omega
def UQ (X:zy (Pl×zq)):2*(MS X).length<=X.length+1:=by have h:=Jo X ([],none);unfold MS;generalize X.foldl stepI ([],none)=st at *;obtain⟨L,b⟩:=st;cases b <;> simp[Oq] at * <;> omega
def QK {n:Int}{ss:zy B8}:(canon n ss).length<=2*ss.length:=by unfold canon Dw;have h:=UQ ((places (Lf (C6 ss))).map λp=>(p,decide (n<=(Hn ss p:Int))));have a:=WN (xs:=C6 ss);have b:=MK (ss:=ss);have c:=KJ (qs:=Lf (C6 ss));rw[AAL] at h;omega
def lt_size {k n:Nat}(h:k<=n)(a:n<1000000):k<sizeLine:=AAn h (AAP a (ABA rfl))
abbrev Fo:AS:=
 (Ab (Fa (Ob (aV 0)) (M1 2 (Aj (Av 2) (Aj (Av 3) Cc))) (TM 1 CG (AX M9 (aV 3) (AN 2 EC (AB (aV 1) (AB (aV 3) AM))))))
   (Ay (aV 1)))
abbrev Ee:AS:=
 (Ab (As (aC (.int 1)) (Av 1))
   Fo)
def Ba:AF:=At 4 Ee
def Gu {a:PV}{Q:PV->Prop}(h:Ee ⟨λ_=>Q .non,Q,λ_=>False,λ_=>False⟩ [some (.val a),none,none,none]):Ba [a] Q:=h
def EZ (xs:zy Rat):Nat:=xs.foldl (λN r=>N*(r.den/Nat.gcd N r.den)) 1
def Sn (xs:zy Rat)(r:Rat):EZ (xs ++ [r])=EZ xs*(r.den/Nat.gcd (EZ xs) r.den):=by unfold EZ;rw[AB9];rfl
def YN {N d:Nat}(hN:0<N)(hd:0<d):0<N*(d/Nat.gcd N d)/\N ∣ N*(d/Nat.gcd N d)/\d ∣ N*(d/Nat.gcd N d)/\N*(d/Nat.gcd N d)<=N*d:=by have g:Nat.gcd N d ∣ d:=ABp ..;have a:0<Nat.gcd N d:=ABo _ hd;refine⟨Nat.mul_pos hN (Nat.div_pos (ABq hd g) a),Nat.dvd_mul_right .., ?_,Nat.mul_le_mul_left _ (ABT ..)⟩;rw[<-Nat.mul_div_assoc _ g];exact Nat.dvd_lcm_right ..
theorem GG {W:Nat}:∀(n:Nat) (xs:zy Rat),xs.length=n->(∀x∈xs,Bd W x)->0<EZ xs/\(∀x∈xs,x.den ∣ EZ xs)/\EZ xs<2^(n*W+1)
 | 0,xs,e,_=>by have:xs= [] :=ADo.mp e;subst this;exact⟨by decide,by simp,by simp[EZ]⟩
 | n+1,xs,e,h=>by
   obtain⟨a,r,rfl⟩:∃a r,xs=a ++ [r] :=⟨xs.dropLast,xs.getLast (by intro z;subst z;cases e),(ADp _).symm⟩;have b:a.length=n:=by simpa using e
   obtain⟨h1,h2,h3⟩:=GG n a b λx hx=>h x (by simp[hx]);have c:=(h r (by simp)).bot;rw[Sn];obtain⟨d,f,g,i⟩:=YN h1 r.den_pos;refine⟨d,λx hx=> ?_, ?_⟩
   .rcases AAQ.mp hx with hx|hx
    .exact ADO (h2 x hx) f
    .simp at hx;subst hx;exact g
   .refine AAn i ?_;have:=Qt h3 c;rw[show n*W+1+W=(n+1)*W+1 by rw[AB5];omega] at this;exact this
def WS (N:Nat)(r:Rat):Int:=r.num*((N:Int).fdiv (r.den:Int))
def FE {N:Nat}{r:Rat}(h:r.den ∣ N):(WS N r:Rat)=r*N:=by
 obtain⟨k,rfl⟩:=h;have hd:=r.den_pos;unfold WS;rw[ACY,Int.mul_fdiv_cancel_left _ (by omega),AAl];have b:((r.den:Int):Rat)≠0:=λz=>by have:(r.den:Int)=0:=ACi.mp z;omega
 have e:r=(r.num:Rat)/((r.den:Int):Rat):=by rw[<-ACj,AAq]
 have a:r*((r.den:Int):Rat)=r.num:=by
  conv=>lhs;arg 1;rw[e]
  grind
 rw[<-a,show ((r.den*k:Nat):Rat)=((r.den:Int):Rat)*((k:Int):Rat) by rw[<-AAl,<-ACY,ACk]];grind
structure Pc where
 b:Rat
 e:Rat
 o0:T3
 o1:T3
def Pc.six (p:Pc):zy Rat:= [p.o0.1,p.o0.2.1,p.o0.2.2,p.o1.1,p.o1.2.1,p.o1.2.2]
def Pc.N (p:Pc):Nat:=EZ p.six
def bq (cs a:zy C4)(b e:Rat):zy Rat:=Lf ([b,e] ++ ((cs.filter (c9 b e)++a.filter (c9 b e)).map (·.1)))
def iZ (cs a:zy C4)(d:Rat×Rat)(m:Rat):T3:=iY ((spotC cs m).getD (0,0,0)) ((spotC a m).getD (0,0,0)) d
def ia (cs a:zy C4)(d:Rat×Rat)(b:zy Rat):zy Pc:=(b.zip b.tail).map λp=>⟨p.1,p.2,iZ cs a d p.1,iZ cs a d p.2⟩
def dC (cs:zy C4):Rat:=(cs.head?.getD (0,0,0,0)).1
def lstM (cs:zy C4):Rat:=(cs.getLast?.getD (0,0,0,0)).1
def Zg (cs a:zy C4):Rat:=mx (dC cs) (dC a)
def Zl (cs a:zy C4):Rat:=mn (lstM cs) (lstM a)
def oA (cs a:zy C4):zy Rat:=bq cs a (Zg cs a) (Zl cs a)
def nj (cs a:zy C4)(d:Rat×Rat):zy Pc:=if Zg cs a<Zl cs a then ia cs a d (oA cs a) else []
abbrev LD:AS:=
 (Ab (As (K6 Ex (AB (Mz (DG (Ob (aV 0)) 2 [3] (M1 2 (Aj (Av 0) (Aj (Av 1) Cc))) IX (AX CG (aV 0) (AX M9 (aV 2) (aV 1))))) AM)) (Av 4))
   (Ay (Ap (AB (aV 4) (AB (aV 1) (AB (U8 (aV 2) (aV 3)) AM))))))
abbrev JE:AS:=
 (Ab (As (AN 1 Ba (AB (aV 0) AM)) (Av 3))
   LD)
def DR:AF:=At 5 JE
def Nv {a b c:PV}{Q:PV->Prop}(h:JE ⟨λ_=>Q .non,Q,λ_=>False,λ_=>False⟩ [some (.val a),some (.val b),some (.val c),none,none]):DR [a,b,c] Q:=h
abbrev OS:AS:=
 (Ab (U9 5 6 7 1 3 (AX Ah (aV 0) (aC (.int 2))) (AX Ah (aV 2) (aC (.int 2))))
   (Ay (Ap (AB (aV 4) (AB (K6 (Zt max) (AB (AX Ah (aV 0) (aC (.int 1))) (AB (AX Ah (aV 2) (aC (.int 1))) AM))) (AB (aV 5) AM))))))
abbrev OR:AS:=
 (Ab (As (K6 Ex (AB (Mz (DG (fk (AB (AX Ah (aV 0) (aC (.int 0))) (AB (AX Ah (aV 2) (aC (.int 0))) AM))) 2 [1,3] (M1 2 (Aj (Av 0) (Aj (Av 1) Cc))) IX (AX Cj (AX CG (aV 2) (aV 0)) (AX CG (aV 3) (aV 1))))) AM)) (Av 4))
   OS)
def Es:AF:=At 8 OR
def RB {a b c d:PV}{Q:PV->Prop}(h:OR ⟨λ_=>Q .non,Q,λ_=>False,λ_=>False⟩ [some (.val a),some (.val b),some (.val c),some (.val d),none,none,none,none]):Es [a,b,c,d] Q:=h
abbrev Ln:AS:=
 (Ay (AN 4 Es (AB (aV 0) (AB (Uh IY (AX Ah (AX Ah (aV 1) (aC (.int 0))) (aV 2))) (AB (aV 1) (AB (AX Ah (AX Ah (aV 0) (aC (.int 0))) (aV 2)) AM))))))
def DL:AF:=At 3 Ln
def PY {a b c:PV}{Q:PV->Prop}(h:Ln ⟨λ_=>Q .non,Q,λ_=>False,λ_=>False⟩ [some (.val a),some (.val b),some (.val c)]):DL [a,b,c] Q:=h
abbrev JC:AS:=
 (Ab (As (AX Ah (AX Ah (aV 0) (aC (.int 0))) (aC (.int 0))) (Av 1))
   (Ay (gy (AX Uj (aV 1) (aC (.int 0))) (Zc (AX Ui (aV 1) (aC (.int 0))) (AX Ui (AX Ah (aV 0) (aC (.int 1))) (aC (.int 1)))))))
def Cm:AF:=At 2 JC
def Nt {a:PV}{Q:PV->Prop}(h:JC ⟨λ_=>Q .non,Q,λ_=>False,λ_=>False⟩ [some (.val a),none]):Cm [a] Q:=h
abbrev Mo:AS:=
 (Ab (As (AX Ah (AX Ah (aV 0) (aC (.int 0))) (aV 1)) (Av 3))
   (Ay (cJ (BP (AX Yw (aV 3) (aC (.int 0)))) (Ap (AB (Uh IY (aV 2)) (AB (aV 3) AM))) (Ap (AB (aV 2) (AB (Uh IY (aV 3)) AM))))))
abbrev Lu:AS:=
 (Ab (As (AX Ah (AX Ah (aV 0) (aC (.int 0))) (aC (.int 0))) (Av 2))
   Mo)
def CN:AF:=At 4 Lu
def Pf {a b:PV}{Q:PV->Prop}(h:Lu ⟨λ_=>Q .non,Q,λ_=>False,λ_=>False⟩ [some (.val a),some (.val b),none,none]):CN [a,b] Q:=h
abbrev Hy:AS:=
 (Ab (Dh (BP (AN 2 CY (AB (aV 4) (AB (aV 3) AM)))) (Ay (AX Yw (AX Ah (AX Ah (aV 0) (aC (.int 0))) (aV 2)) (aC (.int 0)))) B6)
   (Ay (AX Yw (AX Ah (aV 0) (aC (.int 1))) (AX Ah (aV 1) (aC (.int 1))))))
abbrev Hx:AS:=
 (Ab (Dh (BP (AN 2 CY (AB (aV 3) (AB (aV 4) AM)))) (Ay (AX Uj (AX Ah (AX Ah (aV 0) (aC (.int 0))) (aV 2)) (aC (.int 0)))) B6)
   Hy)
abbrev Hw:AS:=
 (Ab (As (AN 2 CN (AB (aV 1) (AB (aV 2) AM))) (Av 4))
   Hx)
abbrev GO:AS:=
 (Ab (As (AN 2 CN (AB (aV 0) (AB (aV 2) AM))) (Av 3))
   Hw)
def CZ:AF:=At 5 GO
def KQ {a b c:PV}{Q:PV->Prop}(h:GO ⟨λ_=>Q .non,Q,λ_=>False,λ_=>False⟩ [some (.val a),some (.val b),some (.val c),none,none]):CZ [a,b,c] Q:=h
abbrev LM:AS:=
 (Ab (Fa (Ob (aV 0)) (Av 4) (Dh (Rj (BP (AX Yw (AX CG (AX Ah (AX Ah (aV 4) (aC (.int 0))) (aV 1)) (aV 2)) (aC (.int 0)))) (VA (BP (AX Th (aV 3) (aC .non))) (BP (AN 3 CZ (AB (aV 4) (AB (aV 3) (AB (aV 1) AM))))))) (As (aV 4) (Av 3)) B6))
   (Ay (aV 3)))
abbrev JM:AS:=
 (Ab (As (aC .non) (Av 3))
   LM)
def Bp:AF:=At 5 JM
def Ny {a b c:PV}{Q:PV->Prop}(h:JM ⟨λ_=>Q .non,Q,λ_=>False,λ_=>False⟩ [some (.val a),some (.val b),some (.val c),none,none]):Bp [a,b,c] Q:=h
abbrev LC:AS:=
 (Ab (As (AN 3 DL (AB (AN 3 Bp (AB (aV 0) (AB (aV 1) (AB (aC (.int 1)) AM)))) (AB (aV 3) (AB (aV 1) AM)))) (Av 4))
   (Ay (cJ (BP (AN 1 Cm (AB (aV 4) AM))) (aV 4) (aC .non))))
abbrev LB:AS:=
 (Ab (Dh (BP (AX Th (aV 3) (aC .non))) (Ay (aC .non)) B6)
   LC)
abbrev LA:AS:=
 (Ab (As (AN 3 Bp (AB (aV 0) (AB (aV 1) (AB (Uh IY (aC (.int 1))) AM)))) (Av 3))
   LB)
abbrev JB:AS:=
 (Ab (Fa (Ob (aV 0)) (Av 2) (Dh (Rj (BP (AX Ui (AX Ah (AX Ah (aV 2) (aC (.int 0))) (aV 1)) (aC (.int 0)))) (BP (AN 1 Cm (AB (aV 2) AM)))) (Ay (aV 2)) B6))
   LA)
def Ck:AF:=At 5 JB
def Nr {a b:PV}{Q:PV->Prop}(h:JB ⟨λ_=>Q .non,Q,λ_=>False,λ_=>False⟩ [some (.val a),some (.val b),none,none,none]):Ck [a,b] Q:=h
abbrev LJ:AS:=
 (Ab (As (AN 2 CN (AB (aV 4) (AB (aV 1) AM))) (Av 5))
   (Ay (Ap (AB (aV 3) (AB (AX Jn (aC (.int 1)) (AX Ah (aV 2) (aC (.int 1)))) (AB (AN 2 EN (AB (AX Ah (aV 5) (aC (.int 0))) (AB (AX Ah (aV 5) (aC (.int 1))) AM))) AM))))))
abbrev LI:AS:=
 (Ab (Dh (BP (AX Th (aV 4) (aC .non))) (Ay (Ap (AB (aV 3) (AB (AX Jn (aC (.int 1)) (AX Ah (aV 2) (aC (.int 1)))) (AB (aC .non) AM))))) B6)
   LJ)
abbrev LH:AS:=
 (Ab (As (AN 3 Bp (AB (aV 0) (AB (aV 1) (AB (Uh IY (aC (.int 1))) AM)))) (Av 4))
   LI)
abbrev LG:AS:=
 (Ab (As (AN 2 EN (AB (AX Ah (aV 3) (aC (.int 0))) (AB (AX Ah (aV 3) (aC (.int 1))) AM))) (Av 3))
   LH)
abbrev LF:AS:=
 (Ab (As (AN 2 CN (AB (aV 2) (AB (aV 1) AM))) (Av 3))
   LG)
abbrev JF:AS:=
 (Ab (As (AN 3 Bp (AB (aV 0) (AB (aV 1) (AB (aC (.int 1)) AM)))) (Av 2))
   LF)
def DS:AF:=At 6 JF
def Nw {a b:PV}{Q:PV->Prop}(h:JF ⟨λ_=>Q .non,Q,λ_=>False,λ_=>False⟩ [some (.val a),some (.val b),none,none,none,none]):DS [a,b] Q:=h
structure Dm where
 c0:Int
 c1:Int
 s:Int
 w:List (Int×Int)
structure XR (N:Nat) (p:Dm):Prop where
 a:p.c0.natAbs<2^N
 b:p.c1.natAbs<2^N
 w:∀e∈p.w,e.2.natAbs<2^N
 l:p.w.length<=12
 s:p.s=0\/p.s=1
def Zk {a b:AE}{τ:A0}{Q:PV->Prop}:U8 a b τ Q=a τ λx=>b τ λy=>OJ x λi=>OJ y λj=>Q (.dk [(i,j)]):=by
 unfold U8;congr 1
 funext x
 congr 1
 funext y
 cases x <;> cases y <;> rfl
instance{a b:AE}{τ:A0}{Q:PV->Prop}:Wp (U8 a b τ Q) (a τ λx=>b τ λy=>OJ x λi=>OJ y λj=>Q (.dk [(i,j)])):=⟨λh=>by rw[Zk];exact h⟩
def KN (p:Dm)(t:Rat):Rat:=p.c0+p.c1*t
def RG {S:Nat}{r:Rat}{W N:Nat}(b:Bd W r)(h:S<2^N):(WS S r).natAbs<2^(W+N):=by unfold WS;rw[ABm];refine Qt b.top ?_;rw[ABI _ (by omega),<-ABV,ABK];exact AAn (ABT ..) h
def Kh {many:Int}{m:zy (Int×Int)}:(BB many m).length<=m.length:=by
 have key:∀(m a:zy (Int×Int)),(m.foldl (λa p=>BL a p.1 (many*p.2)) a).length<=a.length+m.length:=by
  intro m;induction m with
  | nil=>intro a;simp
  | cons x r b=> intro a;rw[AA1,AAk];have:=b (BL a x.1 (many*x.2));have:=Gq a x.1 (many*x.2);omega
 have:=key m [];simpa[BB] using this
def Fc (p:Dm):zq:=decide (p.c0<0\/(p.c0=0/\p.s=1))
def BH (p:Dm):Int×Int:=if 0<p.c1 then (-p.c0,p.c1) else (p.c0, -p.c1)
def CU (p:Dm):Rat:= -(p.c0:Rat)/p.c1
def Ky (p r:Dm):zq:=if (BH p).1*(BH r).2<(BH r).1*(BH p).2 then decide (p.c1<0) else if (BH r).1*(BH p).2<(BH p).1*(BH r).2 then decide (0<p.c1) else decide (r.s<p.s)
def FN {p:Dm}{N:Nat}(h:XR N p):(BH p).1.natAbs<2^N/\(BH p).2.natAbs<2^N:=by
 unfold BH;have:=h.a;have:=h.b;split
 .rw [ABU];exact⟨h.a,h.b⟩
 .rw [ABU];exact⟨h.a,h.b⟩
def Jg {a b c d:Int}{N:Nat}(h1:a.natAbs<2^N)(h2:b.natAbs<2^N)(h3:c.natAbs<2^N)(e:d.natAbs<2^N)(hN:N<=10000){Q:PV->Prop}(q:Q (.bl (decide (a*d<c*b)))):CY [.tup [.int a, .int b], .tup [.int c, .int d]] Q:=by refine⟨.of h1 e, .of h3 h2,q⟩
def holds (p:Dm)(t:Rat):Prop:=0<KN p t\/(KN p t=0/\p.s=0)
def CB {p:Dm}(h:p.c1≠0):0<(BH p).2/\((BH p).1:Rat)=CU p*((BH p).2:Rat)/\(p.c0:Rat)= - (CU p*p.c1):=by
 have hc:(p.c1:Rat)≠0:=by exact_mod_cast h
 have e:CU p*(p.c1:Rat)= -(p.c0:Rat):=by unfold CU;exact Rat.div_mul_cancel hc
 unfold BH;split
 .rename_i h1;refine⟨h1, ?_, ?_⟩
  .rw [e];push_cast;rfl
  .rw [e];grind
 .rename_i h1;refine⟨by show 0 < -p.c1;omega, ?_, ?_⟩
  .push_cast;grind
  .rw [e];grind
def S6 {p r:Dm}(hp:p.c1≠0)(a:r.c1≠0):(BH p).1*(BH r).2<(BH r).1*(BH p).2↔CU p<CU r:=by
 obtain⟨b,c,_⟩:=CB hp;obtain⟨d,b2,_⟩:=CB a;have e:(0:Rat)<((BH p).2:Rat):=by exact_mod_cast b
 have f:(0:Rat)<((BH r).2:Rat):=by exact_mod_cast d
 rw[<-ABr,AAl,AAl,c,b2];generalize ((BH p).2:Rat)=x at *;generalize ((BH r).2:Rat)=y at *;have g:0<x*y:=ABs e f;rw[show CU p*x*y=CU p*(x*y) by grind,show CU r*y*x=CU r*(x*y) by grind];exact Rat.mul_lt_mul_right g
def Sf {p:Dm}(h:p.c1≠0)(t:Rat):KN p t=p.c1*(t-CU p):=by obtain⟨_,_,e⟩:=CB h;unfold KN;rw[e];grind
def Cq {p:Dm}(h:0<p.c1)(t:Rat):holds p t↔(CU p<t\/(CU p=t/\p.s=0)):=by
 have hc:(0:Rat)<p.c1:=by exact_mod_cast h
 unfold holds;rw[Sf (by omega)];have a:0<(p.c1:Rat)*(t-CU p)↔CU p<t:=by rw[ABt hc];grind
 have b:(p.c1:Rat)*(t-CU p)=0↔CU p=t:=by rw[ABY];grind
 rw[a,b]
def CH {p:Dm}(h:p.c1<0)(t:Rat):holds p t↔(t<CU p\/(CU p=t/\p.s=0)):=by
 have hc:(0:Rat) < -(p.c1:Rat):=by
  have:(p.c1:Rat)<0:=by exact_mod_cast h
  grind
 unfold holds;rw[Sf (by omega)];have a:0<(p.c1:Rat)*(t-CU p)↔t<CU p:=by rw[show (p.c1:Rat)*(t-CU p)= -(p.c1:Rat)*(CU p-t) by grind,ABt hc];grind
 have b:(p.c1:Rat)*(t-CU p)=0↔CU p=t:=by rw[ABY];grind
 rw[a,b]
def Kz (sg:Int)(o:zt Dm)(p:Dm):zt Dm:=if 0<p.c1*sg then (match o with | none=>some p|some r=>if Ky p r=true then some p else some r) else o
def tight (sg:Int)(ps:zy Dm):zt Dm:=ps.foldl (Kz sg) none
def Wy {p r:Dm}{sg:Int}(h:sg=1\/sg= -1)(hp:0<p.c1*sg)(a:0<r.c1*sg)(sp:p.s=0\/p.s=1)(d:r.s=0\/r.s=1)(t:Rat):(Ky p r=true->holds p t->holds r t)/\(Ky p r=false->holds r t->holds p t):=by
 have b:p.c1≠0:=by intro z;rw[z] at hp;simp at hp
 have c:r.c1≠0:=by intro z;rw[z] at a;simp at a
 unfold Ky;simp only[S6 b c,S6 c b];rcases h with rfl|rfl
 .have hp:0<p.c1:=by omega
  have a:0<r.c1:=by omega
  rw[Cq hp,Cq a];split
  .simp [show ¬p.c1<0 by omega];grind
  .split
   .simp [hp];grind
   .simp;grind
 .have hp:p.c1<0:=by omega
  have a:r.c1<0:=by omega
  rw[CH hp,CH a];split
  .simp [hp];grind
  .split
   .simp [show ¬0<p.c1 by omega];grind
   .simp;grind
structure ZY (sg:Int) (ps:List Dm) (o:Option Dm):Prop where
 no:o=none->∀p∈ps,¬0<p.c1*sg
 so:∀r,o=some r->r∈ps/\0<r.c1*sg/\∀p∈ps,0<p.c1*sg->∀t,holds r t->holds p t
def UW {sg:Int}(h:sg=1\/sg= -1){ps:zy Dm}{o:zt Dm}{p:Dm}(hs:∀p∈ps,p.s=0\/p.s=1)(hp:p.s=0\/p.s=1)(i:ZY sg ps o):ZY sg (ps ++ [p]) (Kz sg o p):=by
 unfold Kz;split
 .rename_i h1;cases o with
  | none=>
    refine⟨λz=>(by cases z),λr e=> ?_⟩;cases e;refine⟨by simp,h1,λx hx h2 t a=> ?_⟩;rcases AAQ.mp hx with hx|hx
    .exact absurd h2 (i.no rfl x hx)
    .rw [AAd.mp hx];exact a
  | some r=>
    obtain⟨m,b,c⟩:=i.so r rfl;have d:=Wy h h1 b hp (hs r m);dsimp only;split
    .rename_i h2;refine⟨λz=>(by cases z),λf e=> ?_⟩;cases e;refine⟨by simp,h1,λx hx h3 t a=> ?_⟩;rcases AAQ.mp hx with hx|hx
     .exact c x hx h3 t ((d t).1 h2 a)
     .rw [AAd.mp hx];exact a
    .rename_i h2;refine⟨λz=>(by cases z),λf e=> ?_⟩;cases e;refine⟨by simp[m],b,λx hx h3 t a=> ?_⟩;rcases AAQ.mp hx with hx|hx
     .exact c x hx h3 t a
     .rw [AAd.mp hx];exact(d t).2 (by simpa using h2) a
 .rename_i h1;refine⟨λz x hx=> ?_,λr e=> ?_⟩
  .rcases AAQ.mp hx with hx|hx
   .exact i.no z x hx
   .rw [AAd.mp hx];exact h1
  .obtain ⟨m,b,c⟩:=i.so r e;refine⟨by simp[m],b,λx hx h3 t a=> ?_⟩;rcases AAQ.mp hx with hx|hx
   .exact c x hx h3 t a
   .rw [AAd.mp hx] at h3;exact absurd h3 h1
def UV (sg:Int)(a:zy Dm)(p:Dm):tight sg (a ++ [p])=Kz sg (tight sg a) p:=by unfold tight;rw[AB9];rfl
theorem CT {sg:Int}(h:sg=1\/sg= -1):∀(n:Nat) (ps:zy Dm),ps.length=n->(∀p∈ps,p.s=0\/p.s=1)->ZY sg ps (tight sg ps)
 | 0,ps,e,_=>by have:ps= [] :=ADo.mp e;subst this;exact⟨λ_=>by simp,λr e=>by cases e⟩
 | n+1,ps,e,hs=>by obtain⟨a,r,rfl⟩:∃a r,ps=a ++ [r] :=⟨ps.dropLast,ps.getLast (by intro z;subst z;cases e),(ADp _).symm⟩;rw[UV];exact UW h (λp hp=>hs p (by simp[hp])) (hs r (by simp)) (CT h n a (by simpa using e) λp hp=>hs p (by simp[hp]))
def RX {p:Dm}(h:p.c1≠0):Rat.divInt (BH p).1 (BH p).2=CU p:=by
 obtain⟨a,b,_⟩:=CB h;have c:((BH p).2:Rat)≠0:=by
  have:(0:Rat)<((BH p).2:Rat):=by exact_mod_cast a
  grind
 rw[ACj,b];exact Rat.mul_div_cancel c
abbrev Fj:AS:=
 (Ab (As (AN 2 Fp (AB (AN 2 DH (AB (aV 5) (AB (aV 4) AM))) (AB (aV 2) AM))) (Av 6))
   (Hk 3 O5 (AB (Ap (AB (AN 2 DH (AB (aV 4) (AB (AN 2 GW (AB (aV 6) (AB (AX Ah (aV 0) (aC (.int 0))) AM))) AM))) (AB (aV 6) AM))) AM)))
abbrev Fn:AS:=
 (Ab (Fa (fk (AB (cK (aV 0) (cN (aC (.int 1))) cM) (AB (cK (aV 1) (cN (aC (.int 1))) cM) AM))) (M1 2 (Aj (Av 4) (Aj (Av 5) Cc))) Fj)
   (Ay (Ap (AB (AX Ah (aV 0) (aC (.int 0))) (AB (AX Ah (aV 1) (aC (.int 0))) (AB (aV 3) AM))))))
abbrev Fk:AS:=
 (Ab (LS (HB AM) 3)
   Fn)
abbrev Ed:AS:=
 (Ab (As (AN 2 DH (AB (AX Ah (aV 1) (aC (.int 0))) (AB (AX Ah (aV 0) (aC (.int 0))) AM))) (Av 2))
   Fk)
def BI:AF:=At 7 Ed
def Gs {a b:PV}{Q:PV->Prop}(h:Ed ⟨λ_=>Q .non,Q,λ_=>False,λ_=>False⟩ [some (.val a),some (.val b),none,none,none,none,none]):BI [a,b] Q:=h
abbrev He:AS:=
 (Ay (Mz (DG (TN (AB (AX Jn (K6 QZ (AB (aV 0) AM)) (aC (.int 1))) AM)) 1 [0] (Av 0) IX (AN 2 BI (AB (AX Ah (aV 1) (aV 0)) (AB (AX Ah (aV 1) (AX Cj (aV 0) (aC (.int 1)))) AM))))))
def CM:AF:=At 1 He
def Lg {a:PV}{Q:PV->Prop}(h:He ⟨λ_=>Q .non,Q,λ_=>False,λ_=>False⟩ [some (.val a)]):CM [a] Q:=h
def Uq (b e:C4)(x y:Rat):Rat:=(y-x)/(e.1-b.1)
def W6 (b e:C4)(x y:Rat):Rat:=x-Uq b e x y*b.1
def aI (b e:C4)(x y:Rat):PV:= .tup [fr (W6 b e x y),fr (Uq b e x y)]
def Bg (b e:C4):PV:= .tup [fr b.1,fr e.1, .lst [aI b e b.2.1 e.2.1,aI b e b.2.2.1 e.2.2.1,aI b e b.2.2.2 e.2.2.2]]
def RJ {b e:C4}{x y:Rat}{B:Nat}(hb:Bd B b.1)(he:Bd B e.1)(hx:Bd B x)(hy:Bd B y)(h:b.1<e.1):Bd (4*B+2) (Uq b e x y)/\Bd (6*B+3) (W6 b e x y):=by have s:Bd (4*B+2) (Uq b e x y):=(Bd.div (by grind) (hy.sub hx) (he.sub hb)).mono (by omega);exact⟨s,(hx.sub (s.mul hb)).mono (by omega)⟩
def WB {f:C4->PV}(a:f=cor\/f=corL){b e:C4}{B:Nat}(hb:K3 B b)(he:K3 B e)(h:b.1<e.1)(l:6*B+3<=3900){Q:PV->Prop}(q:Q (Bg b e)):BI [f b,f e] Q:=by
 obtain⟨c,d⟩:=RJ hb.m he.m hb.x he.x h;obtain⟨g,i⟩:=RJ hb.m he.m hb.y he.y h;obtain⟨j,k⟩:=RJ hb.m he.m hb.z he.z h;have n:e.1-b.1≠0:=by grind
 have bs:=he.m.sub hb.m;apply Gs;rcases a with rfl|rfl
 .repeat' array_get_dec
  exact q
 .repeat' array_get_dec
  show VJ (.lst [fr b.1,fr b.2.1,fr b.2.2.1,fr b.2.2.2]) (some 1) none _;refine Sy ?_;repeat' array_get_dec
  show VJ (.lst [fr e.1,fr e.2.1,fr e.2.2.1,fr e.2.2.2]) (some 1) none _;refine Sy ?_;show Q3 (.lst [fr b.2.1,fr b.2.2.1,fr b.2.2.2]) λxs=>Q3 (.lst [fr e.2.1,fr e.2.2.1,fr e.2.2.2]) λo=>_;repeat' array_get_dec
  exact q
def KM (cs:zy C4):zy (C4×C4):=cs.zip cs.tail
def YA {cs:zy C4}{i:Nat}(h:i+1<cs.length):∃b e,cs[i]? =some b/\cs[i+1]? =some e/\(KM cs)[i]? =some (b,e):=by refine⟨cs[i],cs[i+1],AAc _,AAc _, ?_⟩;unfold KM;rw[List.getElem?_zip_eq_some];refine⟨AAc _, ?_⟩;rw[List.getElem?_tail];exact AAc _
def WE {cs:zy C4}{v:PV}{B:Nat}(hv:Hi cs v)(hc:∀c∈cs,K3 B c)(o:XS cs)(h2:2<=cs.length)(hl:cs.length<=1000)(r:6*B+3<=3900){Q:PV->Prop}(q:Q (.lst ((KM cs).map λp=>Bg p.1 p.2))):CM [v] Q:=by
 obtain⟨f,s,hv⟩:=hv;apply Lg;have t:(KM cs).length=cs.length-1:=by unfold KM;simp
 have go:∀w:PV,(∀(k:Int) (j:Nat) (c:C4) {R:PV->Prop},k=(j:Int)->cs[j]? =some c->R (f c)->Ah w (.int k) R)->CQ (Av 0) IX (AN 2 BI (AB (AX Ah (aV 1) (aV 0)) (AB (AX Ah (aV 1) (AX Cj (aV 0) (aC (PV.int 1)))) AM))) [none,some (AV.val w)] (λxs=>Q (PV.lst xs)) (rng 0 ((cs.length:Int)-1).toNat) [] :=λw ix=>by
  refine Rs (λi a=>a=((KM cs).map λp=>Bg p.1 p.2).take i) (λa e=> ?_) (λi hi a R n e=> ?_) rfl
  .rw [e,ACV (by rw[AAL,t];omega)];exact q
  .obtain ⟨b,d,g,l,ep⟩:=YA (cs:=cs) (i:=i) (by omega);have m:=n (a ++ [Bg b d]) (by rw[e,List.take_add_one,AAg,ep];rfl);clear n;ac_rfl;refine ix _ i b (by omega) g ?_;ac_rfl;refine ix _ (i+1) d (by omega) l ?_;ac_rfl;refine WB s (hc b (ACz g)) (hc d (ACz l)) (YJ o g l) r ?_;exact m
 rcases hv with rfl|rfl
 .ac_rfl;exact go _ λk j c R hk e h=>R7 hk e h
 .ac_rfl;exact go _ λk j c R hk e h=>R7 hk e h
def VE {b:T3}{w:PV}(hw:S9 b w){R:PV->Prop}:(R (fr b.1)->Ah w (.int 0) R)/\(R (fr b.2.1)->Ah w (.int 1) R)/\(R (fr b.2.2)->Ah w (.int 2) R):=by rcases hw with rfl|rfl <;> exact⟨id,id,id⟩
abbrev Fm:=Rat×Rat×Int
def hF (f:Fm)(t:Rat):Prop:=0<f.1+f.2.1*t\/(f.1+f.2.1*t=0/\f.2.2=0)
structure ZU (N:Nat) (f:Fm) (p:Dm):Prop where
 ok:XR N p
 s:p.s=f.2.2
 ex:∃S:Rat,0<S/\(p.c0:Rat)=f.1*S/\(p.c1:Rat)=f.2.1*S
inductive U0 (N:Nat):List Fm->List Dm->Prop where
 | nil:U0 N [] []
 | cons {f:Fm} {p:Dm} {fs:List Fm} {ps:List Dm} (h:ZU N f p) (t:U0 N fs ps):U0 N (f::fs) (p::ps)
def ZU.sign {N:Nat}{f:Fm}{p:Dm}(h:ZU N f p):(0<p.c1↔0<f.2.1)/\(p.c1<0↔f.2.1<0):=by
 obtain⟨S,c,e,d⟩:=h.ex;have a:0<p.c1↔(0:Rat)<(p.c1:Rat):=by rw[<-ABZ,ABr]
 have b:p.c1<0↔(p.c1:Rat)<0:=by rw[<-ABZ,ABr]
 rw[a,b,d];refine⟨?_, ?_⟩
 .rw [Rat.mul_comm,ABt c]
 .constructor
  .intro k;have:0<S*(-f.2.1):=by grind
   rw[ABt c] at this;grind
  .intro k;have:0<S*(-f.2.1):=ABs c (by grind);grind
def ZU.turn {N:Nat}{f:Fm}{p:Dm}(h:ZU N f p)(e:f.2.1≠0):f.1+f.2.1*CU p=0:=by
 obtain⟨S,g,b,a⟩:=h.ex;have hs:S≠0:=by grind
 have c:(p.c1:Rat)≠0:=by rw[a];intro z;rcases ABY.mp z with z|z <;> contradiction
 have d:p.c1≠0:=by intro z;rw[z] at c;exact c rfl
 have:=(CB d).2.2;rw[b,a] at this;have:S*(f.1+f.2.1*CU p)=0:=by grind
 rcases ABY.mp this with z|z
 .contradiction
 .exact z
def U0.mem {N:Nat}:∀{e:zy Fm} {ps:zy Dm},U0 N e ps->(∀p∈ps,∃f∈e,ZU N f p)/\(∀f∈e,∃p∈ps,ZU N f p)/\ps.length=e.length
 | _,_, .nil=>⟨by simp,by simp,rfl⟩
 | _,_, .cons h t=>by
   obtain⟨a,b,c⟩:=t.mem;refine⟨λp hp=> ?_,λf d=> ?_,by simp[c]⟩
   .rcases AAH.mp hp with rfl|hp
    .exact ⟨_,by simp,h⟩
    .obtain ⟨f,d,k⟩:=a p hp;exact⟨f,by simp[d],k⟩
   .rcases AAH.mp d with rfl|d
    .exact ⟨_,by simp,h⟩
    .obtain ⟨p,hp,k⟩:=b f d;exact⟨p,by simp[hp],k⟩
def gf (lo hi p:T3):Prop:=(lo.1<p.1/\p.1<hi.1)/\(lo.2.1<p.2.1/\p.2.1<hi.2.1)/\(lo.2.2<p.2.2/\p.2.2<hi.2.2)
instance (lo hi p:T3):Decidable (gf lo hi p):=by unfold gf;infer_instance
def Z9 (lo hi:T3)(p:C4×C4)(t:Rat):Prop:=p.1.1<=t/\t<p.2.1/\gf lo hi (inter p.1 p.2 t)
def js (lo hi:T3)(p:C4×C4)(m:Rat):Prop:=m=p.1.1\/m=p.2.1\/(p.1.1<m/\m<p.2.1/\((p.1.2.1≠p.2.2.1/\((inter p.1 p.2 m).1=lo.1\/(inter p.1 p.2 m).1=hi.1))\/(p.1.2.2.1≠p.2.2.2.1/\((inter p.1 p.2 m).2.1=lo.2.1\/(inter p.1 p.2 m).2.1=hi.2.1))\/(p.1.2.2.2≠p.2.2.2.2/\((inter p.1 p.2 m).2.2=lo.2.2\/(inter p.1 p.2 m).2.2=hi.2.2))))
def OG {p:Dm}{N:Nat}(h:XR N p)(c:p.c1≠0):Bd N (CU p):=by obtain⟨a,b⟩:=FN h;rw[<-RX c];exact .divInt (by have:=(CB c).1;omega) a b
structure U5 (N:Nat) (lo hi:T3) (p:C4×C4) (s:B8):Prop where
 ok:Ek N s
 fin:∃x,s.2.2=some x/\js lo hi p x
 bmk:js lo hi p s.1
 sem:∀t,B0 s (t,0)=true↔Z9 lo hi p t
structure GZ (N:Nat) (lo hi:T3) (us:List (C4×C4)) (ss:List B8):Prop where
 ok:∀s∈ss,∃p∈us,U5 N lo hi p s
 all:∀p∈us,∀t,Z9 lo hi p t->∃s∈ss,B0 s (t,0)=true
 len:ss.length<=us.length
def GZ.more {N:Nat}{lo hi:T3}{c:zy (C4×C4)}{ss:zy B8}{p:C4×C4}{s:B8}(h:GZ N lo hi c ss)(k:U5 N lo hi p s):GZ N lo hi (c ++ [p]) (ss ++ [s]):=by
 refine⟨λx hx=> ?_,λq a t b=> ?_,by have:=h.len;simp;omega⟩
 .rcases AAQ.mp hx with hx|hx
  .obtain ⟨q,a,r⟩:=h.ok x hx;exact⟨q,by simp[a],r⟩
  .rw [AAd.mp hx];exact⟨p,by simp,k⟩
 .rcases AAQ.mp a with a|a
  .obtain ⟨x,hx,r⟩:=h.all q a t b;exact⟨x,by simp[hx],r⟩
  .rw [AAd.mp a] at b;exact⟨s,by simp,(k.sem t).mpr b⟩
def GZ.st {N:Nat}{lo hi:T3}{a:zy (C4×C4)}{ss:zy B8}(h:GZ N lo hi a ss):∀s∈ss,Ek N s:=λs hs=>let ⟨_,_,k⟩:=h.ok s hs;k.ok
instance{r:AA}{τ:A0}{a:zy PV->Prop}:Wp (fj r τ a) (r τ λb=>match b with | [.lst xs] =>a (DV 0 xs)|_=>False):=⟨id⟩
def e5 (k:Int)(c:C4):Rat:=if k % 3=0 then c.2.1 else if k % 3=1 then c.2.2.1 else c.2.2.2
def E6 (lo hi:T3):zy (Int×Rat):= [(0,lo.1),(1,lo.2.1),(2,lo.2.2),(3,hi.1),(4,hi.2.1),(5,hi.2.2)]
def gb (p:C4×C4)(u:Int×Rat)(m:Rat):Prop:=p.1.1<m/\m<p.2.1/\e5 u.1 p.1≠e5 u.1 p.2/\e5 u.1 p.1+(m-p.1.1)/(p.2.1-p.1.1)*(e5 u.1 p.2-e5 u.1 p.1)=u.2
structure ZP (W:Nat) (cs:List C4) (us:List (C4×C4)) (lo hi:T3) (p:C4×C4) (ws:List (Int×Rat)) (ms:List Rat):Prop where
 bd:∀m∈ms,Bd W m
 crn:∀c∈cs,c.1∈ms
 ed:∀p∈us,∀u∈E6 lo hi,∀m,gb p u m->m∈ms
 ed2:∀u∈ws,∀m,gb p u m->m∈ms
 len:ms.length<=cs.length+6*us.length+ws.length
def ZP.more {W:Nat}{cs:zy C4}{b:zy (C4×C4)}{lo hi:T3}{p:C4×C4}{d:zy (Int×Rat)}{ms:zy Rat}{u:Int×Rat}(h:ZP W cs b lo hi p d ms){x:Rat}(e:Bd W x)(k:∀m,gb p u m->m=x):ZP W cs b lo hi p (d ++ [u]) (ms ++ [x]):=by
 refine⟨λm a=> ?_,λc hc=>by simp[h.crn c hc],λq f v hv m a=>by simp[h.ed q f v hv m a],λv hv m a=> ?_,by have:=h.len;simp;omega⟩
 .rcases AAQ.mp a with a|a
  .exact h.bd m a
  .rw [AAd.mp a];exact e
 .rcases AAQ.mp hv with hv|hv
  .simp [h.ed2 v hv m a]
  .rw [AAd.mp hv] at a;simp[k m a]
def sv (p:Int×Int):Rat:=(p.1:Rat)/(p.2:Rat)
section
variable {cs ds:zy C4}{d:Rat×Rat}{M W:Nat}
def NS (cs ds:zy C4)(d:Rat×Rat)(m:Rat):Prop:=Zg cs ds<=m/\m<Zl cs ds/\hV (iZ cs ds d m)<1
instance {m:Rat}:Decidable (NS cs ds d m):=by unfold NS;infer_instance
structure Yo (cs ds:List C4) (d:Rat×Rat) (B:Nat) (ss:List B8):Prop where
 few:ss.length<=201
 ok:∀s∈ss,Ek B s
 fin:∀s∈ss,∃x,s.2.2=some x
 sem:∀m,ss.any (B0 · (m,0))=true↔NS cs ds d m
 pf:ss.length<=(nj cs ds d).length
end
def Xc {ss:zy B8}(a:∀s∈ss,∃x,s.2.2=some x)(k:Rat):∃m,k<m/\ss.any (B0 · (m,0))=false:=by
 induction ss with
 | nil=>exact⟨k+1,by grind,rfl⟩
 | cons s ss g=>
   obtain⟨x,hx⟩:=a s (by simp);have c:∀(b:zy B8),(∀s∈b,∃x,s.2.2=some x)->∃n:Rat,k<n/\∀s∈b,∀x,s.2.2=some x->x<n:=by
    intro b;induction b with
    | nil=>intro _;exact⟨k+1,by grind,by simp⟩
    | cons t b d=>
      intro e;obtain⟨n,h1,h2⟩:=d λs hs=>e s (by simp[hs]);obtain⟨y,hy⟩:=e t (by simp);by_cases z:y<n
      .refine ⟨n,h1,λs hs x hx=> ?_⟩;rcases AAH.mp hs with rfl|hs
       .rw [hy] at hx;cases hx;exact z
       .exact h2 s hs x hx
      .refine ⟨y+1,by grind,λs hs x hx=> ?_⟩;rcases AAH.mp hs with rfl|hs
       .rw [hy] at hx;cases hx;grind
       .have:=h2 s hs x hx;grind
   obtain⟨n,h1,h2⟩:=c (s::ss) a;refine⟨n,h1, ?_⟩;rw[List.any_eq_false];intro t f z;obtain⟨y,hy⟩:=a t f;have:=h2 t f y hy;unfold B0 at z;rw[hy] at z;simp at z;grind
def TY {B:Nat}{ss:zy B8}(ok:∀s∈ss,Ek B s)(a:∀s∈ss,∃x,s.2.2=some x):∀r∈canon 1 ss,∃x,r.2.2=some x:=by
 intro r b;cases e:r.2.2 with
 | some x=>exact⟨x,rfl⟩
 | none=> exfalso;obtain⟨m,h1,h2⟩:=Xc a r.1;rw[<-Of ok (p:=(m,0)) (.inl rfl)] at h2;rw[List.any_eq_false] at h2;refine h2 r b ?_;unfold B0;rw[e];simp;exact .inl h1
structure Told (P:Rat->Prop) (B:Nat) (cc:List B8):Prop where
 ok:∀s∈cc,Ek B s
 fin:∀s∈cc,∃x,s.2.2=some x
 few:cc.length<=2000
 sem:∀m,cc.any (B0 · (m,0))=true↔P m
def Yo.told {cs a:zy C4}{d:Rat×Rat}{B:Nat}{ss:zy B8}(n:Yo cs a d B ss):Told (NS cs a d) B (canon 1 ss):=
 ⟨VF n.ok,TY n.ok n.fin,by have:=QK (n:=1) (ss:=ss);have:=n.few;omega,λm=>by rw[Of n.ok (p:=(m,0)) (.inl rfl)];exact n.sem m⟩
def GZ.sem {N:Nat}{lo hi:T3}{a:zy (C4×C4)}{ss:zy B8}(h:GZ N lo hi a ss)(m:Rat):ss.any (B0 · (m,0))=true↔∃p∈a,Z9 lo hi p m:=by
 rw[List.any_eq_true];constructor
 .rintro ⟨s,hs,k⟩;obtain⟨p,hp,o⟩:=h.ok s hs;exact⟨p,hp,(o.sem m).mp k⟩
 .rintro ⟨p,hp,k⟩;exact h.all p hp m k
def GZ.fin {N:Nat}{lo hi:T3}{a:zy (C4×C4)}{ss:zy B8}(h:GZ N lo hi a ss):∀s∈ss,∃x,s.2.2=some x:=λs hs=>by obtain⟨p,hp,k⟩:=h.ok s hs;obtain⟨x,hx,_⟩:=k.fin;exact⟨x,hx⟩
end PL
namespace PL.K31
open PySem L2 PL PyProof.Rows
abbrev G5:AS:=
 (Ab (Dh (BP (AX Ui (AN 2 BV (AB (aV 0) (AB (aC (.int 2)) AM))) (aC (.int 0)))) (Ay (Ap (AB (Ap (AB (aC (.int 0)) (AB (aC (.int 1)) AM))) (AB (Ap (AB (aC (.int 0)) (AB (aC (.int 1)) AM))) (AB (Ap (AB (aC (.int 0)) (AB (aC (.int 1)) AM))) AM))))) B6)
   (Ay (Ap (AB (AX Ah (aV 1) (AN 2 BV (AB (aV 0) (AB (aC (.int 4)) AM)))) (AB (AX Ah (aV 1) (AN 2 BV (AB (aV 0) (AB (aC (.int 4)) AM)))) (AB (AX Ah (aV 1) (AN 2 BV (AB (aV 0) (AB (aC (.int 6)) AM)))) AM))))))
abbrev Ff:AS:=
 (Ab (As (Mz (HB (AB (Ap (AB (aC (.int 0)) (AB (aC (.int 1)) AM))) (AB (Ap (AB (aC (.int 1)) (AB (aC (.int 2)) AM))) (AB (Ap (AB (aC (.int 1)) (AB (aC (.int 1)) AM))) (AB (Ap (AB (aC (.int 1)) (AB (aC (.int 3)) AM))) (AB (Ap (AB (aC (.int 3)) (AB (aC (.int 1)) AM))) (AB (Ap (AB (aC (.int 40)) (AB (aC (.int 1)) AM))) AM)))))))) (Av 1))
   G5)
def Bb:AF:=At 2 Ff
def Ih {a:PV}{Q:PV->Prop}(h:Ff ⟨λ_=>Q .non,Q,λ_=>False,λ_=>False⟩ [some (.val a),none]):Bb [a] Q:=h
def VM (cs:zy C4)(b:T3):OW cs b (VL cs b):=⟨_,_,⟨cor, .inl rfl, .inl rfl⟩, .inl rfl, .inl rfl⟩
end PL.K31
namespace PL
open PySem L2 PyProof.Rows PL.K31
def Jh {Q:PV->Prop}(q:∀b:T3,Ga 8 b->0<=b.1->0<=b.2.1->0<=b.2.2->Q (ZF b)):Bb [.tape] Q:=by
 apply Ih;have all:∀x∈ [(0:Rat),1/2,1,1/3,3,40],Bd 8 x/\0<=x:=by intro x hx;simp only[AAH,AA0,ABB] at hx;rcases hx with rfl|rfl|rfl|rfl|rfl|rfl <;> exact⟨fD,by decide +kernel⟩
 ac_rfl
 .exact q (0,0,0) ⟨fD,fD,fD⟩ (by decide) (by decide) (by decide)
 refine J2 (xs:= [(0:Rat),1/2,1,1/3,3,40]) (by omega) (by show _<(6:Int);omega) λx hx=> ?_;ac_rfl;refine J2 (xs:= [(0:Rat),1/2,1,1/3,3,40]) (by omega) (by show _<(6:Int);omega) λy hy=> ?_;ac_rfl;refine J2 (xs:= [(0:Rat),1/2,1,1/3,3,40]) (by omega) (by show _<(6:Int);omega) λz a=> ?_;ac_rfl;exact q (x,y,z) ⟨(all x hx).1,(all y hy).1,(all z a).1⟩ (all x hx).2 (all y hy).2 (all z a).2
abbrev Fl:=zy C4×T3
section
variable {lo hi:T3}{f:Fl}
def Ga.up {n m:Nat}{t:T3}(h:Ga n t)(k:n<=m):Ga m t:=⟨h.x.mono k,h.y.mono k,h.z.mono k⟩
end
end PL
namespace PL
open PySem L2 PL PyProof.Rows
abbrev JN:AS:=
 (Ab (As (Ap (AB (Ap (AB (AN 1 Bo (AB (AX Ah (aV 3) (aC (.int 0))) AM)) (AB (aC (.tup [(.int 1),(.int 1)])) (AB (aC (.tup [(.int 0),(.int 1)])) AM)))) (AB (Ap (AB (AX Ah (aV 3) (aC (.int 1))) (AB (aC (.tup [(.int (-1)),(.int 1)])) (AB (aC (.tup [(.int 0),(.int 1)])) AM)))) (AB (Ap (AB (AN 1 Bo (AB (AX Ah (aV 4) (aC (.int 0))) AM)) (AB (aC (.tup [(.int 0),(.int 1)])) (AB (aC (.tup [(.int 1),(.int 1)])) AM)))) (AB (Ap (AB (AX Ah (aV 4) (aC (.int 1))) (AB (aC (.tup [(.int 0),(.int 1)])) (AB (aC (.tup [(.int (-1)),(.int 1)])) AM)))) (AB (Ap (AB (AX Ah (aV 6) (aC (.int 0))) (AB (aC (.tup [(.int 1),(.int 1)])) (AB (aC (.tup [(.int (-1)),(.int 1)])) AM)))) (AB (Ap (AB (AX Ah (aV 6) (aC (.int 1))) (AB (aC (.tup [(.int (-1)),(.int 1)])) (AB (aC (.tup [(.int 1),(.int 1)])) AM)))) AM))))))) (Av 2))
   (Ay (AX Ah (aV 2) (aV 1))))
abbrev Hg:AS:=
 (Ab (As (aV 0) (M1 4 (Aj (Av 3) (Aj (Av 4) (Aj (Av 5) (Aj (Av 6) Cc))))))
   JN)
def C0:AF:=At 7 Hg
def Lh {a b:PV}{Q:PV->Prop}(h:Hg ⟨λ_=>Q .non,Q,λ_=>False,λ_=>False⟩ [some (.val a),some (.val b),none,none,none,none,none]):C0 [a,b] Q:=h
abbrev JK:AS:=
 (Ab (Dh (BP (AX Ui (AX Ti (aV 1) (aC (.int 2))) (aC (.int 0)))) (Ay (Ap (AB (AN 2 DH (AB (AX Ah (aV 6) (aV 2)) (AB (aV 3) AM))) (AB (AN 1 Bo (AB (aV 9) AM)) (AB (aV 11) AM))))) B6)
   (Ay (Ap (AB (AN 2 D1 (AB (AX Ah (aV 6) (aV 2)) (AB (aV 3) AM))) (AB (aV 9) (AB (AN 1 Bo (AB (aV 11) AM)) AM))))))
abbrev JJ:AS:=
 (Ab (As (AN 2 DH (AB (aV 8) (AB (aV 10) AM))) (Av 3))
   JK)
abbrev JI:AS:=
 (Ab (As (AX Ah (AX Ah (aV 5) (aC (.int 2))) (aV 2)) (M1 2 (Aj (Av 10) (Aj (Av 11) Cc))))
   JJ)
abbrev JH:AS:=
 (Ab (As (AX Ah (AX Ah (aV 4) (aC (.int 2))) (aV 2)) (M1 2 (Aj (Av 8) (Aj (Av 9) Cc))))
   JI)
abbrev JG:AS:=
 (Ab (As (AX M9 (AX Jn (aV 1) (aC (.int 6))) (aC (.int 2))) (Av 2))
   JH)
abbrev Hf:AS:=
 (Ab (As (aV 0) (M1 4 (Aj (Av 4) (Aj (Av 5) (Aj (Av 6) (Aj (Av 7) Cc))))))
   JG)
def A5:AF:=At 12 Hf
def Bf {a b:PV}{Q:PV->Prop}(h:Hf ⟨λ_=>Q .non,Q,λ_=>False,λ_=>False⟩ [some (.val a),some (.val b),none,none,none,none,none,none,none,none,none,none]):A5 [a,b] Q:=h
abbrev Lo:AS:=
 (Ay (cJ (BP (AX Uj (aV 1) (aC (.int 6)))) (AN 2 C0 (AB (aV 0) (AB (aV 1) AM))) (AN 2 A5 (AB (aV 0) (AB (aV 1) AM)))))
def ED:AF:=At 2 Lo
def PZ {a b:PV}{Q:PV->Prop}(h:Lo ⟨λ_=>Q .non,Q,λ_=>False,λ_=>False⟩ [some (.val a),some (.val b)]):ED [a,b] Q:=h
abbrev OQ:AS:=
 (Ab (Zd 3 (aV 1) (aC (.int 0)))
   (Ay (Ap (AB (K6 Ex (AB (aV 3) AM)) (AB (AX Ah (aV 0) (aC (.int 1))) (AB (AX Ah (aV 0) (aC (.int 2))) AM))))))
abbrev OP:AS:=
 (Ab (Yv 3 (aC (.int 0)) (AX CG (AX Ah (AX Ah (aV 0) (aC (.int 0))) (aV 1)) (aV 4)))
   OQ)
abbrev OO:AS:=
 (Ab (LS (DG (Ob (AX Ah (aV 0) (aC (.int 0)))) 1 [5] (Av 0) IX (AX CG (aV 1) (aV 0))) 3)
   OP)
abbrev ON:AS:=
 (Ab (As (aV 2) (M1 2 (Aj (Av 4) (Aj (Av 5) Cc))))
   OO)
def Cz:AF:=At 6 ON
def KS {a b c:PV}{Q:PV->Prop}(h:ON ⟨λ_=>Q .non,Q,λ_=>False,λ_=>False⟩ [some (.val a),some (.val b),some (.val c),none,none,none]):Cz [a,b,c] Q:=h
abbrev GP:AS:=
 (Ab (Fa (c7 (aV 0)) (Av 2) (As (AN 2 EC (AB (aV 2) (AB (aV 1) AM))) (Av 1)))
   (Ay (K6 Ex (AB (Mz (DG (Ob (K6 VR (AB (aV 0) AM))) 1 [1,0] (Av 0) IX (Ap (AB (aV 0) (AB (AN 1 FS (AB (AX M9 (jv (aV 2) (aV 0)) (aV 1)) AM)) AM))))) AM))))
abbrev Em:AS:=
 (Ab (As (aC (.int 0)) (Av 1))
   GP)
def Bq:AF:=At 3 Em
def HP {a:PV}{Q:PV->Prop}(h:Em ⟨λ_=>Q .non,Q,λ_=>False,λ_=>False⟩ [some (.val a),none,none]):Bq [a] Q:=h
abbrev JO:AS:=
 (Ab (As (AN 2 DS (AB (aV 0) (AB (aV 1) AM))) (M1 3 (Aj (Av 2) (Aj (Av 3) (Aj (Av 4) Cc)))))
   (Ay (AN 2 Fp (AB (AN 2 D1 (AB (aV 2) (AB (aV 4) AM))) (AB (AN 1 FS (AB (aC (.int 2)) AM)) AM)))))
def Br:AF:=At 5 JO
def Nz {a b:PV}{Q:PV->Prop}(h:JO ⟨λ_=>Q .non,Q,λ_=>False,λ_=>False⟩ [some (.val a),some (.val b),none,none,none]):Br [a,b] Q:=h
abbrev Eo:AS:=
 (Ab (Dh (Rk (BP (AN 2 CY (AB (AX Ah (aV 2) (aC (.int 0))) (AB (AN 2 D1 (AB (AX Ah (aV 1) (aC (.int 1))) (AB (AX Ah (aV 4) (aC (.int 0))) AM))) AM))))) (Ay (Ap (AB (Ap (AB (aC (.int 1)) (AB (aC (.tup [(.int 1),(.int 1)])) AM))) (AB (Ap (AB (aC (.int 2)) (AB (aC (.tup [(.int 1),(.int 1)])) AM))) (AB (Ap (AB (aC (.int 4)) (AB (aC (.tup [(.int 1),(.int 1)])) AM))) AM))))) B6)
   (Ay (aC .non)))
abbrev En:AS:=
 (Ab (Dh (Rk (BP (AN 2 CY (AB (AX Ah (aV 1) (aC (.int 0))) (AB (AN 2 D1 (AB (AX Ah (aV 2) (aC (.int 1))) (AB (AX Ah (aV 4) (aC (.int 1))) AM))) AM))))) (Ay (Ap (AB (Ap (AB (aC (.int 0)) (AB (aC (.tup [(.int 1),(.int 1)])) AM))) (AB (Ap (AB (aC (.int 3)) (AB (aC (.tup [(.int 1),(.int 1)])) AM))) (AB (Ap (AB (aC (.int 5)) (AB (aC (.tup [(.int 1),(.int 1)])) AM))) AM))))) B6)
   Eo)
abbrev Dj:AS:=
 (Ab (As (aV 0) (M1 4 (Aj (Av 1) (Aj (Av 2) (Aj (Av 3) (Aj (Av 4) Cc))))))
   En)
def BK:AF:=At 5 Dj
def Fe {a:PV}{Q:PV->Prop}(h:Dj ⟨λ_=>Q .non,Q,λ_=>False,λ_=>False⟩ [some (.val a),none,none,none,none]):BK [a] Q:=h
abbrev Mr:AS:=
 (Ab (Fa (Ob (aV 3)) (Av 6) (Fa (Ob (aV 4)) (Av 7) (Dh (BP (AX jx (Ze (AX Ah (aV 6) (aC (.int 2))) (AX Ah (aV 7) (aC (.int 2)))) (aV 2))) (Hk 5 O5 (AB (AN 3 DL (AB (aV 6) (AB (aV 7) (AB (aV 1) AM)))) AM)) B6)))
   (Ay (aV 5)))
abbrev Mq:AS:=
 (Ab (LS (DG (Ob (aV 0)) 1 [1] (Av 0) (BP (AX Ui (AX Ah (AX Ah (aV 0) (aC (.int 0))) (aV 1)) (aC (.int 0)))) (aV 0)) 5)
   Mr)
abbrev Mp:AS:=
 (Ab (As (Mz (DG (Ob (aV 0)) 1 [1] (Av 0) (BP (AX Uj (AX Ah (AX Ah (aV 0) (aC (.int 0))) (aV 1)) (aC (.int 0)))) (aV 0))) (Av 4))
   Mq)
abbrev Lv:AS:=
 (Ab (As (Mz (DG (Ob (aV 0)) 1 [1] (Av 0) (BP (AX Yw (AX Ah (AX Ah (aV 0) (aC (.int 0))) (aV 1)) (aC (.int 0)))) (aV 0))) (Av 3))
   Mp)
def DN:AF:=At 8 Lv
def Pg {a b c:PV}{Q:PV->Prop}(h:Lv ⟨λ_=>Q .non,Q,λ_=>False,λ_=>False⟩ [some (.val a),some (.val b),some (.val c),none,none,none,none,none]):DN [a,b,c] Q:=h
abbrev Ml:AS:=
 (Ab (As (AN 2 Br (AB (aV 3) (AB (aC (.int 1)) AM))) (Av 5))
   (Ay (Ap (AB (Ap (AB (aV 5) (AB (AN 2 Br (AB (Mz (DG (Ob (aV 2)) 1 [5] (Av 0) IX (AN 3 Cz (AB (aV 0) (AB (aC (.int 1)) (AB (aV 1) AM)))))) (AB (aC (.int 2)) AM))) AM))) (AB (aC .non) AM)))))
abbrev Mj:AS:=
 (Ab (Dh (BP (AX Jm (aV 4) (aC .non))) (Ay (Ap (AB (aC .non) (AB (AN 1 Bq (AB (AX Ah (aV 4) (aC (.int 2))) AM)) AM)))) B6)
   Ml)
abbrev Mi:AS:=
 (Ab (As (AN 2 Ck (AB (aV 3) (AB (aC (.int 1)) AM))) (Av 4))
   Mj)
abbrev Mh:AS:=
 (Ab (As (U7 3 DN 2 (AB (aV 2) (AB (aC (.int 2)) AM))) (Av 3))
   Mi)
abbrev Mf:AS:=
 (Ab (As (Mz (DG (TN (AB (aC (.int 12)) AM)) 1 [0] (Av 0) IX (AN 3 DR (AB (AN 2 ED (AB (aV 1) (AB (aV 0) AM))) (AB (AX Ah (aC (.tup [(.int 0),(.int 1),(.int 0),(.int 1),(.int 0),(.int 0),(.int 1),(.int 1),(.int 1),(.int 1),(.int 1),(.int 1)])) (aV 0)) (AB (aV 0) AM)))))) (Av 2))
   Mh)
abbrev Me:AS:=
 (Ab (Dh (BP (AX Jm (aV 1) (aC .non))) (Ay (Ap (AB (aC .non) (AB (aV 1) AM)))) B6)
   Mf)
abbrev Lq:AS:=
 (Ab (As (AN 1 BK (AB (aV 0) AM)) (Av 1))
   Me)
def EE:AF:=At 6 Lq
def Pb {a:PV}{Q:PV->Prop}(h:Lq ⟨λ_=>Q .non,Q,λ_=>False,λ_=>False⟩ [some (.val a),none,none,none,none,none]):EE [a] Q:=h
abbrev JS:AS:=
 (Ab (Fa (fj (AB (AN 1 CM (AB (AX Ah (aV 0) (aC (.int 0))) AM)) AM)) (M1 2 (Aj (Av 7) (Aj (Av 8) Cc))) (Fa (fj (AB (aV 5) AM)) (M1 2 (Aj (Av 9) (Aj (Av 10) Cc))) (Hk 6 O5 (AB (Ap (AB (aV 7) (AB (aV 9) (AB (Ap (AB (aV 8) (AB (aV 10) (AB (aV 3) (AB (aV 4) AM))))) AM)))) AM))))
   (Ay (aV 6)))
abbrev JR:AS:=
 (Ab (LS (HB AM) 6)
   JS)
abbrev JQ:AS:=
 (Ab (As (AN 1 CM (AB (AX Ah (aV 1) (aC (.int 0))) AM)) (Av 5))
   JR)
abbrev JP:AS:=
 (Ab (As (Ap (AB (AX Ah (AX Ah (aV 0) (aC (.int 1))) (aC (.int 2))) (AB (AX Ah (AX Ah (aV 1) (aC (.int 1))) (aC (.int 2))) AM))) (Av 4))
   JQ)
abbrev Hh:AS:=
 (Ab (As (AN 3 DT (AB (aV 0) (AB (aV 1) (AB (aV 2) AM)))) (Av 3))
   JP)
def CO:AF:=At 11 Hh
def Li {a b c:PV}{Q:PV->Prop}(h:Hh ⟨λ_=>Q .non,Q,λ_=>False,λ_=>False⟩ [some (.val a),some (.val b),some (.val c),none,none,none,none,none,none,none,none]):CO [a,b,c] Q:=h
abbrev IP:AS:=
 (Ab (Dh (BP (AX Jm (aV 7) (aC .non))) (Ay (Ap (AB (aC (.str "meet")) (AB (AX Ah (aV 7) (aC (.int 0))) (AB (AX Ah (aV 7) (aC (.int 1))) AM))))) B6)
   (Hk 3 O5 (AB (Ap (AB (aV 4) (AB (aV 5) (AB (aV 8) AM)))) AM)))
abbrev Mm:AS:=
 (Ab (As (AN 1 EE (AB (aV 6) AM)) (M1 2 (Aj (Av 7) (Aj (Av 8) Cc))))
   IP)
abbrev Mn:AS:=
 (Ab (Fa (Ob (AN 3 CO (AB (aV 0) (AB (aV 1) (AB (aV 2) AM))))) (M1 3 (Aj (Av 4) (Aj (Av 5) (Aj (Av 6) Cc)))) Mm)
   (Ay (Ap (AB (aC (.str "apart")) (AB (K6 Ex (AB (aV 3) AM)) AM)))))
abbrev Lr:AS:=
 (Ab (LS (HB AM) 3)
   Mn)
def Bc:AF:=At 9 Lr
def Pd {a b c:PV}{Q:PV->Prop}(h:Lr ⟨λ_=>Q .non,Q,λ_=>False,λ_=>False⟩ [some (.val a),some (.val b),some (.val c),none,none,none,none,none,none]):Bc [a,b,c] Q:=h
end PL
namespace PL
open PySem L2 PyProof.Rows
def QH {a b:Rat}{Q:PV->Prop}(ha:Bd 8800 a)(hb:Bd 8800 b)(h:Q (.bl (decide (a<b)))):CY [fr a,fr b] Q:=by refine⟨.of ha.top hb.botI, .of hb.top ha.botI, ?_⟩;rw[<-di] at h;exact h
def V2 {a b:Rat}{Q:PV->Prop}(c:b≠0)(ha:Bd 8000 a)(hb:Bd 100 b)(h:Q (fr (a/b))):Fp [fr a,fr b] Q:=by refine⟨.of ha.top hb.botI, .of ha.botI hb.top,rfl,Cn _ _ (DA (BE a) (Qu c)) (Ao (BM (a:=(a.den:Int)) ha.botI hb.top) (by omega)) _ ?_⟩;rw[Fy] at h;exact h
instance (priority:=high){a b:Rat}{Q:PV->Prop}:Ug (CY [fr a,fr b] Q) (Bd 8800 a/\Bd 8800 b) (Q (.bl (decide (a<b)))):=⟨λc h=>QH c.1 c.2 h⟩
structure BN where
 c0:Int
 c1:Int
 c2:Int
 s:Int
 w:List (Int×Int)
def Al (p:BN):PV:= .tup [.tup [.int p.c0, .int p.c1, .int p.c2], .int p.s, .dk p.w]
def K7 (a:zq):Int:=if a then 2 else 1
def BN.pr (a:zq)(p:BN):Dm:=⟨p.c0,if a then p.c2 else p.c1,p.s,p.w⟩
structure BO (N:Nat) (p:BN):Prop where
 a:p.c0.natAbs<2^N
 b:p.c1.natAbs<2^N
 c:p.c2.natAbs<2^N
 w:∀e∈p.w,e.2.natAbs<2^N
 l:p.w.length<=12
 s:p.s=0\/p.s=1
def BO.pr {N:Nat}{p:BN}(h:BO N p)(a:zq):XR N (p.pr a):=⟨h.a,by cases a;exact h.b;exact h.c,h.w,h.l,h.s⟩
instance{p:BN}:Ix (Al p) 0 (.tup [.int p.c0, .int p.c1, .int p.c2]):=⟨rfl⟩
instance{p:BN}:Ix (Al p) 1 (.int p.s):=⟨rfl⟩
instance{p:BN}:Ix (Al p) 2 (.dk p.w):=⟨rfl⟩
def Ev {a:zq}{p:BN}{Q:PV->Prop}(q:Q (.int (p.pr a).c1)):Ah (.tup [.int p.c0, .int p.c1, .int p.c2]) (.int (K7 a)) Q:=by cases a <;> exact q
def fG (p r:BN)(many more:Int):BN:=⟨many*p.c0+more*r.c0,many*p.c1+more*r.c1,many*p.c2+more*r.c2,max p.s r.s,BA more (BB many p.w) r.w⟩
def Yf {p r:BN}{N:Nat}{many more:Int}(hp:BO N p)(f:BO N r)(h1:many.natAbs<2^N)(h2:more.natAbs<2^N)(hN:N<=10000){Q:PV->Prop}(q:Q (Al (fG p r many more))):Es [Al p, .int many,Al r, .int more] Q:=by
 have d:∀x y:Int,x.natAbs<2^N->y.natAbs<2^N->MulOk x y:=λx y a b=> .of a b;have sl:(BB many p.w).length<=p.w.length:=Kh;have g:=hp.l;have h:=f.l;apply RB;repeat' array_get_dec
 refine⟨d _ _ h1 hp.a, ?_⟩;repeat' array_get_dec
 refine⟨d _ _ h2 f.a, ?_⟩;repeat' array_get_dec
 refine⟨d _ _ h1 hp.b, ?_⟩;repeat' array_get_dec
 refine⟨d _ _ h2 f.b, ?_⟩;repeat' array_get_dec
 refine⟨d _ _ h1 hp.c, ?_⟩;repeat' array_get_dec
 refine⟨d _ _ h2 f.c, ?_⟩;repeat' array_get_dec
 refine⟨⟨ABA rfl,ABA rfl,ABA rfl⟩, ?_⟩;repeat' array_get_dec
 refine⟨many,rfl,MJ (n:=12) g (by decide),λe he=>d _ _ h1 (hp.w e he), ?_⟩;show AX Ah (aV 2) (aC (.int 2)) [some (AV.val (Al p)),some (AV.val (PV.int many)),some (AV.val (Al r)),some (AV.val (PV.int more)),some (AV.val (PV.tup [PV.int (many*p.c0+more*r.c0),PV.int (many*p.c1+more*r.c1),PV.int (many*p.c2+more*r.c2)])),none,none,none] _;repeat' array_get_dec
 refine⟨more,rfl,MJ (n:=24) (by omega) (by decide),λe he=>d _ _ h2 (f.w e he), ?_⟩;simp only[ACZ,ADP];repeat' array_get_dec
 exact q
def Au (a:zq)(p r:BN):BN:=fG p r (-(r.pr a).c1) (p.pr a).c1
def L8 {a:zq}{p r:BN}{N:Nat}(hp:BO N p)(c:BO N r)(hN:N<=10000){Q:PV->Prop}(q:Q (Al (Au a p r))):DL [Al p,Al r, .int (K7 a)] Q:=by
 apply PY;repeat' array_get_dec
 refine Ev ?_;repeat' array_get_dec
 refine Ev ?_;repeat' array_get_dec
 exact Yf hp c (by rw[ABU];exact(c.pr a).b) (hp.pr a).b hN q
def MP {p:BN}(a:zq){Q:PV->Prop}(q:Q (.bl (Fc (p.pr a)))):Cm [Al p] Q:=by
 unfold Fc at q;have b:(p.pr a).c0=p.c0:=rfl;have c:(p.pr a).s=p.s:=rfl;rw[b,c] at q;apply Nt;repeat' array_get_dec
 .rename_i h;rw[AAV (.inl h)] at q;exact q
 .rename_i h1 h2;rw[show decide (p.c0<0\/p.c0=0/\p.s=1)=decide (p.s=1) by rw[AB6];omega] at q;exact q
 .rename_i h1 h2;rw[AAa (by omega)] at q;exact q
def G3 {a:zq}{p:BN}{Q:PV->Prop}(q:Q (.tup [.int (BH (p.pr a)).1, .int (BH (p.pr a)).2])):CN [Al p, .int (K7 a)] Q:=by
 unfold BH at q;have b:(p.pr a).c0=p.c0:=rfl;rw[b] at q;apply Pf;repeat' array_get_dec
 refine Ev ?_;generalize (p.pr a).c1=f at *;repeat' array_get_dec
 .rename_i h;rw[AAE h] at q;exact q
 .rename_i h;rw[AAD h] at q;exact q
def Pq {a:zq}{p r:BN}{N:Nat}(hp:BO N p)(e:BO N r)(hN:N<=10000){Q:PV->Prop}(q:Q (.bl (Ky (p.pr a) (r.pr a)))):CZ [Al p,Al r, .int (K7 a)] Q:=by
 obtain⟨b,c⟩:=FN (hp.pr a);obtain⟨d,b2⟩:=FN (e.pr a);unfold Ky at q;apply KQ;ac_rfl;refine G3 ?_;ac_rfl;refine G3 ?_;ac_rfl;refine Jg b c d b2 hN ?_;ac_rfl
 .rename_i h;refine Ev ?_;ac_rfl;rw[AAE h] at q;exact q
 rename_i h;rw[AAD h] at q;refine Jg d b2 b c hN ?_;ac_rfl
 .rename_i h;refine Ev ?_;ac_rfl;rw[AAE h] at q;exact q
 .rename_i h;rw[AAD h] at q;exact q
instance{p:BN}{Q:PV->Prop}:Wp (Th (Al p) .non Q) (Q (.bl false)):=⟨id⟩
def Nd:zt BN->PV|none=> .non|some p=>Al p
def FJ (a:zq)(sg:Int)(o:zt BN)(p:BN):zt BN:=if 0<(p.pr a).c1*sg then (match o with | none=>some p|some r=>if Ky (p.pr a) (r.pr a)=true then some p else some r) else o
def Bw (a:zq)(sg:Int)(ps:zy BN):zt BN:=ps.foldl (FJ a sg) none
def RY {a:zq}{sg:Int}{o:zt BN}{p:BN}:(FJ a sg o p).map (BN.pr a)=Kz sg (o.map (BN.pr a)) (p.pr a):=by
 unfold FJ Kz;split
 .cases o with
  | none=>rfl
  | some r=>
    show Option.map _ (if Ky (p.pr a) (r.pr a)=true then some p else some r)=if Ky (p.pr a) (r.pr a)=true then some (p.pr a) else some (r.pr a)
    cases Ky (p.pr a) (r.pr a) <;> rfl
 .rfl
def RS (a:zq)(sg:Int)(b:zy BN)(p:BN):Bw a sg (b ++ [p])=FJ a sg (Bw a sg b) p:=by unfold Bw;rw[AB9];rfl
def RT {a:zq}{sg:Int}{ps:zy BN}:(Bw a sg ps).map (BN.pr a)=tight sg (ps.map (BN.pr a)):=by
 have key:∀(ps:zy BN) (o:zt BN),(ps.foldl (FJ a sg) o).map (BN.pr a)=(ps.map (BN.pr a)).foldl (Kz sg) (o.map (BN.pr a)):=by
  intro ps;induction ps with
  | nil=>intro o;rfl
  | cons p ps b=> intro o;rw[AA1,b,RY];rfl
 exact key ps none
def Ct {a:zq}{sg:Int}:∀{ps:zy BN} {r:BN},Bw a sg ps=some r->r∈ps:=by
 have key:∀(ps:zy BN) (o:zt BN) (r:BN),ps.foldl (FJ a sg) o=some r->r∈ps\/o=some r:=by
  intro ps;induction ps with
  | nil=>intro o r h;exact .inr h
  | cons p ps b=>
    intro o r h;rcases b _ _ h with h|h
    .exact .inl (by simp[h])
    .unfold FJ at h;split at h
     .cases o with
      | none=>cases h;exact .inl (by simp)
      | some q=>
        dsimp only at h;split at h
        .cases h;exact .inl (by simp)
        .exact .inr h
     .exact .inr h
 intro ps r h;rcases key ps none r h with h|h
 .exact h
 .cases h
def DK {v:PV}{a:zq}{ps:zy BN}{N:Nat}{sg:Int}(hv:v= .lst (ps.map Al))(h:sg=1\/sg= -1)(ok:∀p∈ps,BO N p)(hN:N<=10000)(hl:ps.length<=1000){Q:PV->Prop}(q:Q (Nd (Bw a sg ps))):Bp [v, .int (K7 a), .int sg] Q:=by
 subst hv;apply Ny;ac_rfl;refine CC Al (λd vs τ=>∃f,τ= [some (.val (.lst (ps.map Al))),some (.val (.int (K7 a))),some (.val (.int sg)),some (.val (Nd (Bw a sg d))),f]) ?_ ?_ ⟨_,rfl⟩
 .rintro τ ⟨f,rfl⟩;ac_rfl;exact q
 .rintro d p vs e τ R i ⟨f,rfl⟩;have j:BO N p:=ok p (by rw[<-e];simp);have k:∀x∈d,BO N x:=λx hx=>ok x (by rw[<-e];simp[hx]);have c:=i [some (.val (.lst (ps.map Al))),some (.val (.int (K7 a))),some (.val (.int sg)),some (.val (Nd (Bw a sg (d ++ [p])))),some (.val (Al p))] ⟨_,rfl⟩;clear i;rw[RS] at c;unfold FJ at c;have m1:MulOk (p.pr a).c1 sg:= .of (m:=10000) (n:=10000) (Ao (j.pr a).b hN) (Ao (m:=1) (by omega) (by decide));cases g:Bw a sg d with
  | none=>
    rw[g] at c;rw[show Nd none=PV.non from rfl];ac_rfl;refine Ev ?_;ac_rfl
    .rename_i z;rw[AAE z] at c;exact c
    .rename_i z;rw[AAD z] at c;exact c
  | some r=>
    rw[g] at c;have l:=k r (Ct g);rw[show Nd (some r)=Al r from rfl];ac_rfl;refine Ev ?_;ac_rfl
    .rename_i z;rw[AAE z] at c;refine Pq j l hN ?_;dsimp only at c;cases hb:Ky (p.pr a) (r.pr a) with
     | true=> rw[hb,AAE rfl] at c;ac_rfl;exact c
     | false=> rw[hb,AAD (by decide)] at c;ac_rfl;exact c
    .rename_i z;rw[AAD z] at c;exact c
def UP {v:PV}{a:zq}{ps:zy BN}{N:Nat}{l h:BN}(hv:v= .lst (ps.map Al))(ok:∀p∈ps,BO N p)(hN:N<=8900)(hl:ps.length<=1000)(b:Bw a 1 ps=some l)(c:Bw a (-1) ps=some h)(d:(l.pr a).c1≠0)(e:(h.pr a).c1≠0){Q:PV->Prop}(q:Q (.tup [fr (CU (l.pr a)), .int (1-l.s),fr (CU (h.pr a))])):DS [v, .int (K7 a)] Q:=by have f:=FN ((ok l (Ct b)).pr a);have b2:=FN ((ok h (Ct c)).pr a);have g:=(CB d).1;have i:=(CB e).1;rw[<-RX d,<-RX e] at q;apply Nw;ac_rfl;refine DK hv (.inl rfl) ok (by omega) hl ?_;rw[b,show Nd (some l)=Al l from rfl];ac_rfl;refine G3 ?_;ac_rfl;refine Cn _ _ (by omega) (Ao f.2 hN) _ ?_;ac_rfl;refine DK hv (.inr rfl) ok (by omega) hl ?_;rw[c,show Nd (some h)=Al h from rfl];ac_rfl;refine G3 ?_;ac_rfl;refine Cn _ _ (by omega) (Ao b2.2 hN) _ ?_;ac_rfl;exact q
def g6:Bd 100 ((2:Int):Rat):=by constructor <;> decide
def MY {v:PV}{a:zq}{ps:zy BN}{N:Nat}{l h:BN}(hv:v= .lst (ps.map Al))(ok:∀p∈ps,BO N p)(hN:N<=8900)(hl:ps.length<=1000)(b:Bw a 1 ps=some l)(c:Bw a (-1) ps=some h)(d:(l.pr a).c1≠0)(e:(h.pr a).c1≠0)(f:Bd 3900 (CU (l.pr a)))(b2:Bd 3900 (CU (h.pr a))){Q:PV->Prop}(q:Q (fr ((CU (l.pr a)+CU (h.pr a))/2))):Br [v, .int (K7 a)] Q:=by apply Nz;ac_rfl;refine UP hv ok hN hl b c d e ?_;ac_rfl;refine V2 (by grind) ((f.add b2).mono (by decide)) g6 ?_;exact q
def Oj {p:Dm}(h:p.c1=0)(t u:Rat):holds p t↔holds p u:=by
 unfold holds KN;rw[h];have e:∀t:Rat,(p.c0:Rat)+((0:Int):Rat)*t=p.c0:=λt=>by grind
 rw[e,e]
def MM {ps:zy Dm}{l h:Dm}(hs:∀p∈ps,p.s=0\/p.s=1)(g:tight 1 ps=some l)(i:tight (-1) ps=some h){t0:Rat}(a:∀p∈ps,holds p t0):∀p∈ps,holds p ((CU l+CU h)/2):=by
 have b:=(CT (.inl rfl) ps.length ps rfl hs).so l g;have c:=(CT (.inr rfl) ps.length ps rfl hs).so h i;have d:0<l.c1:=by have:=b.2.1;omega
 have f:h.c1<0:=by have:=c.2.1;omega
 have m:=(Cq d t0).mp (a l b.1);have n:=(CH f t0).mp (a h c.1);by_cases o:CU l<CU h
 .have j:holds l ((CU l+CU h)/2):=(Cq d _).mpr (.inl (by grind));have k:holds h ((CU l+CU h)/2):=(CH f _).mpr (.inl (by grind));intro p hp;rcases ADQ p.c1 0 with z|z|z
  .exact c.2.2 p hp (by omega) _ k
  .exact (Oj z _ _).mp (a p hp)
  .exact b.2.2 p hp (by omega) _ j
 .have e:(CU l+CU h)/2=t0:=by grind
  rw[e];exact a
def Hm {l h:Dm}(b:0<l.c1)(c:h.c1<0)(u:l.s=0\/l.s=1)(v:h.s=0\/h.s=1)(w:zy (Int×Int)):Fc ⟨-h.c1*l.c0+l.c1*h.c0, -h.c1*l.c1+l.c1*h.c1,max l.s h.s,w⟩=false↔∃t,holds l t/\holds h t:=by
 have g:(0:Rat)<l.c1:=by exact_mod_cast b
 have i:(0:Rat) < -(h.c1:Rat):=by
  have:(h.c1:Rat)<0:=by exact_mod_cast c
  grind
 have k:((-h.c1*l.c0+l.c1*h.c0:Int):Rat)=(l.c1 * -(h.c1:Rat))*(CU h-CU l):=by
  push_cast
  rw[(CB (p:=l) (by omega)).2.2,(CB (p:=h) (by omega)).2.2];grind
 have pos:=ABs g i;have key:CU l<CU h↔0 < -h.c1*l.c0+l.c1*h.c0:=by rw[<-ABr,k,ABZ,ABt pos];grind
 have a:CU l=CU h↔ -h.c1*l.c0+l.c1*h.c0=0:=by
  rw[<-ACi,k,ABZ,ABY];constructor
  .intro e;right;grind
  .rintro (z|z)
   .grind
   .grind
 unfold Fc;rw[ADR];dsimp only;constructor
 .intro n;rcases Int.lt_or_eq_of_le (show 0<= -h.c1*l.c0+l.c1*h.c0 by omega) with z|z
  .have m:=key.mpr z;exact⟨(CU l+CU h)/2,(Cq b _).mpr (.inl (by grind)),(CH c _).mpr (.inl (by grind))⟩
  .have j:=a.mpr z.symm;have m0:l.s=0/\h.s=0:=by omega
   exact⟨CU l,(Cq b _).mpr (.inr ⟨rfl,m0.1⟩),(CH c _).mpr (.inr ⟨j.symm,m0.2⟩)⟩
 .rintro ⟨t,o,r⟩;have d:=(Cq b t).mp o;have f:=(CH c t).mp r;by_cases m:CU l<CU h
  .have:=key.mp m;omega
  .have j:CU l=CU h:=by grind
   have:=a.mp j;have:l.s=0:=by
    rcases d with d|d
    .exfalso;grind
    .exact d.2
   have:h.s=0:=by
    rcases f with f|f
    .exfalso;grind
    .exact f.2
   omega
def Tj {v:PV}{a:zq}{ps:zy BN}{N:Nat}(hv:v= .lst (ps.map Al))(ok:∀p∈ps,BO N p)(hN:N<=10000)(hl:ps.length<=1000){l h:BN}(k:Bw a 1 ps=some l)(m:Bw a (-1) ps=some h){Q:PV->Prop}(s:(∀p∈ps,(p.pr a).c1=0->Fc (p.pr a)=false)->Fc ((Au a l h).pr a)=false->Q .non)(n:∀p,(p∈ps/\(p.pr a).c1=0)\/p=Au a l h->Fc (p.pr a)=true->Q (Al p)):Ck [v, .int (K7 a)] Q:=by
 subst hv;apply Nr;ac_rfl;refine CC Al (λo vs τ=>(∀p∈o,(p.pr a).c1=0->Fc (p.pr a)=false)/\∃i f g,τ= [some (.val (.lst (ps.map Al))),some (.val (.int (K7 a))),i,f,g]) ?_ ?_ ⟨by simp,_,_,_,rfl⟩
 .rintro τ ⟨j,i,f,g,rfl⟩;ac_rfl;refine DK rfl (.inr rfl) ok (by omega) hl ?_;rw[m,show Nd (some h)=Al h from rfl];ac_rfl;refine DK rfl (.inl rfl) ok (by omega) hl ?_;rw[k,show Nd (some l)=Al l from rfl];ac_rfl;refine L8 (ok l (Ct k)) (ok h (Ct m)) hN ?_;have f1:=n (Au a l h) (.inr rfl);have t:=s j;generalize Au a l h=b at *;ac_rfl;refine MP a ?_;cases c:Fc (b.pr a) with
  | true=> ac_rfl;exact f1 c
  | false=> ac_rfl;exact t c
 .rintro o p vs e τ R r ⟨j,i,f,g,rfl⟩;have u:p∈ps:=by rw[<-e];simp
  have d:((p.pr a).c1=0->Fc (p.pr a)=false)->R [some (AV.val (PV.lst (List.map Al ps))),some (AV.val (PV.int (K7 a))),some (AV.val (Al p)),f,g] :=λh=>r _ ⟨λx hx=>by
   rcases AAQ.mp hx with hx|hx
   .exact j x hx
   .rw [AAd.mp hx];exact h,_,_,_,rfl⟩
  clear r;ac_rfl;refine Ev ?_;ac_rfl
  .rename_i z;refine MP a ?_;cases c:Fc (p.pr a) with
   | true=> ac_rfl;exact n p (.inl ⟨u,z⟩) c
   | false=> ac_rfl;exact d λ_=>c
  .rename_i z;exact d λh=>absurd h z
def Vw {o:zt Nat}{R:Nat->Prop}(j:Nat)(h:o=some j)(q:R j):gN o R:=by subst h;exact q
def CJ (a:zq)(r:Rat)(p:BN):BN:=if a then ⟨r.den*p.c0+p.c2*r.num,r.den*p.c1,0,p.s,p.w⟩ else ⟨r.den*p.c0+p.c1*r.num,0,r.den*p.c2,p.s,p.w⟩
def Q5 {a:zq}{p:BN}{r:Rat}{N M:Nat}(hp:BO N p)(d:Bd M r)(hN:N<=100000)(e:M<=100000){Q:PV->Prop}(q:Q (Al (CJ a r p))):Cz [Al p, .int (K7 a),fr r] Q:=by
 have m0:MulOk (r.den:Int) p.c0:= .of d.botI hp.a;have m1:MulOk (r.den:Int) p.c1:= .of d.botI hp.b;have m2:MulOk (r.den:Int) p.c2:= .of d.botI hp.c;have m3:MulOk (p.pr a).c1 r.num:= .of (hp.pr a).b d.top;cases a
 .show Cz [Al p, .int 1,fr r] Q;have m3:MulOk p.c1 r.num:=m3;apply KS;repeat' array_get_dec
  refine⟨ACh 0,(by show (0:Int)<3;decide), ?_⟩;show AX CG (AX Ah (AX Ah (aV 0) (aC (PV.int 0))) (aV 1)) (aV 4) _ _;simp only[ACZ,ADP,Int.toNat_zero];repeat' array_get_dec
  refine Vw 1 (by simp[T4]) ?_;show Lj _ 3 (AV.own [PV.int (r.den*p.c0+p.c1*r.num),PV.int 0,PV.int (r.den*p.c2)]) _;repeat' array_get_dec
  exact q
 .show Cz [Al p, .int 2,fr r] Q;have m3:MulOk p.c2 r.num:=m3;apply KS;repeat' array_get_dec
  refine⟨ACh 0,(by show (0:Int)<3;decide), ?_⟩;show AX CG (AX Ah (AX Ah (aV 0) (aC (PV.int 0))) (aV 1)) (aV 4) _ _;simp only[ACZ,ADP,Int.toNat_zero];repeat' array_get_dec
  refine Vw 2 (by simp[T4]) ?_;show Lj _ 3 (AV.own [PV.int (r.den*p.c0+p.c2*r.num),PV.int (r.den*p.c1),PV.int 0]) _;repeat' array_get_dec
  exact q
def aP (x:PV)(R:Int->Prop):Prop:=match x with | .dk [(i,_)] =>R i|_=>False
instance{i v:Int}{R:Int->Prop}:Wp (aP (.dk [(i,v)]) R) (R i):=⟨id⟩
instance{a b:AE}{τ:A0}{Q:PV->Prop}:Wp (Ze a b τ Q) (a τ λx=>aP x λi=>b τ λy=>aP y λj=>Q (.int (gR i j))):=⟨id⟩
def De (a:zq)(ps:zy BN):zy BN:=ps.filter (λp=>decide ((p.pr a).c1=0))++(ps.filter λp=>decide (0<(p.pr a).c1)).flatMap λl=>(ps.filter λp=>decide ((p.pr a).c1<0)).map λh=>Au a l h
def SZ {m:zy (Int×Int)}(h:m.length=1):∃i v,m= [(i,v)] :=by
 match m,h with
 | [(i,v)],_=>exact⟨i,v,rfl⟩
def b6 (i j:Int):gR i j<=2:=by unfold gR;split <;> decide
def Pu {v:PV}{a:zq}{ps:zy BN}{N:Nat}(hv:v= .lst (ps.map Al))(ok:∀p∈ps,BO N p)(one:∀p∈ps,p.w.length=1)(hN:N<=10000)(hl:ps.length<=20){Q:PV->Prop}(q:Q (.lst ((De a ps).map Al))):DN [v, .int (K7 a), .int 2] Q:=by
 subst hv;unfold De at q;apply Pg;ac_rfl;refine DU Al Al (λp=>decide (0<(p.pr a).c1)) (λ_=>True) (λp _ R N h1 h2=> ?_) ps [] (λ_ _=>trivial) ?_
 .ac_rfl;refine Ev ?_;ac_rfl
  .rename_i h;exact h1 (AAV h)
  .rename_i h;exact h2 (AAa h)
 rw[AAr];have f:∀p∈(ps.filter λp=>decide (0<(p.pr a).c1)),p∈ps:=λp hp=>(AAS.mp hp).1;have y:(ps.filter λp=>decide (0<(p.pr a).c1)).length<=20:=AAT (ABu ..) hl;generalize (ps.filter λp=>decide (0<(p.pr a).c1))=lows at *;ac_rfl;refine DU Al Al (λp=>decide ((p.pr a).c1<0)) (λ_=>True) (λp _ R N h1 h2=> ?_) ps [] (λ_ _=>trivial) ?_
 .ac_rfl;refine Ev ?_;ac_rfl
  .rename_i h;exact h1 (AAV h)
  .rename_i h;exact h2 (AAa h)
 rw[AAr];have g:∀p∈(ps.filter λp=>decide ((p.pr a).c1<0)),p∈ps:=λp hp=>(AAS.mp hp).1;have m:(ps.filter λp=>decide ((p.pr a).c1<0)).length<=20:=AAT (ABu ..) hl;generalize (ps.filter λp=>decide ((p.pr a).c1<0))=Eg at *;ac_rfl;refine DU Al Al (λp=>decide ((p.pr a).c1=0)) (λ_=>True) (λp _ R N h1 h2=> ?_) ps [] (λ_ _=>trivial) ?_
 .ac_rfl;refine Ev ?_;ac_rfl
  .rename_i h;exact h1 (AAV h)
  .rename_i h;exact h2 (AAa h)
 rw[AAr];have z:(ps.filter λp=>decide ((p.pr a).c1=0)).length<=20:=AAT (ABu ..) hl;generalize (ps.filter λp=>decide ((p.pr a).c1=0))=zs at *;ac_rfl;refine CC Al (λb vs τ=>∃n c,τ= [some (.val (.lst (ps.map Al))),some (.val (.int (K7 a))),some (.val (.int 2)),some (.val (.lst (lows.map Al))),some (.val (.lst (Eg.map Al))),some (.own ((zs++b.flatMap λl=>Eg.map λh=>Au a l h).map Al)),n,c]) ?_ ?_ ⟨none,none,by simp⟩
 .rintro τ ⟨n,c,rfl⟩;ac_rfl;exact q
 .rintro b l vs e τ R o ⟨n,c,rfl⟩;have r:l∈lows:=by rw[<-e];simp
  have ul:b.length<=20:=by have:=congrArg List.length e;simp at this;omega
  ac_rfl;refine CC Al (λd xs τ=>∃c,τ= [some (.val (.lst (ps.map Al))),some (.val (.int (K7 a))),some (.val (.int 2)),some (.val (.lst (lows.map Al))),some (.val (.lst (Eg.map Al))),some (.own (((zs++b.flatMap λl=>Eg.map λh=>Au a l h)++d.map λh=>Au a l h).map Al)),some (.val (Al l)),c]) ?_ ?_ ⟨c,by simp⟩
  .rintro τ ⟨c,rfl⟩;exact o _ ⟨some (.val (Al l)),c,by simp[List.flatMap_append]⟩
  .rintro d h xs s τ F t ⟨c,rfl⟩;have u:h∈Eg:=by rw[<-s];simp
   have G:d.length<=20:=by have:=congrArg List.length s;simp at this;omega
   obtain⟨i,H,B⟩:=SZ (one l (f l r));obtain⟨j,I,C⟩:=SZ (one h (g h u));have J:=b6 i j;have k:=t [some (.val (.lst (ps.map Al))),some (.val (.int (K7 a))),some (.val (.int 2)),some (.val (.lst (lows.map Al))),some (.val (.lst (Eg.map Al))),some (.own (((zs++b.flatMap λl=>Eg.map λh=>Au a l h)++(d ++ [h]).map λh=>Au a l h).map Al)),some (.val (Al l)),some (.val (Al h))] ⟨_,rfl⟩;clear t o;have D:∀A:zy BN,(A++(d ++ [h]).map λh=>Au a l h).map Al=(A++d.map λh=>Au a l h).map Al ++ [Al (Au a l h)] :=λA=>by simp
   rw[D] at k;have len:(((zs++b.flatMap λl=>Eg.map λh=>Au a l h)++d.map λh=>Au a l h).map Al).length<=1000:=by
    have:(b.flatMap λl=>Eg.map λh=>Au a l h).length<=20*20:=by
     rw[ADS];have:∀b:zy BN,(b.map λl=>(Eg.map λh=>Au a l h).length).sum=b.length*Eg.length:=λb=>by
      induction b with
      | nil=>simp
      | cons x b E=>simp[AAM,AAh,AB5] at E ⊢;omega
     rw[this];exact ACl ul m
    simp only[AAL,AAy];omega
   generalize (((zs++b.flatMap λl=>Eg.map λh=>Au a l h)++d.map λh=>Au a l h).map Al)=told at *;ac_rfl;rw[B];ac_rfl;rw[C];ac_rfl
   .refine L8 (ok l (f l r)) (ok h (g h u)) hN ?_;ac_rfl;refine⟨MJ len (by decide), ?_⟩;ac_rfl;exact k
   .exfalso;omega
def h3 (p:BN)(s t:Rat):Prop:=0<(p.c0:Rat)+p.c1*s+p.c2*t\/((p.c0:Rat)+p.c1*s+p.c2*t=0/\p.s=0)
def R0 (r:Rat):(0:Rat)<(r.den:Rat)/\(r.num:Rat)=(r.den:Rat)*r:=by
 have hd:(0:Rat)<(r.den:Rat):=by exact_mod_cast r.den_pos
 refine⟨hd, ?_⟩;have:(r.num:Rat)/(r.den:Rat)=r:=by
  have:=AAq r;rw[ACj] at this
  exact_mod_cast this
 have e:(r.num:Rat)/(r.den:Rat)*(r.den:Rat)=(r.num:Rat):=Rat.div_mul_cancel (by grind);rw[this] at e;grind
def EK {d x:Rat}(h:0<d):(0<d*x↔0<x)/\(d*x=0↔x=0):=by refine⟨ABt h, ?_⟩;rw[ABY];grind
def Be {p:BN}{r t:Rat}:holds ((CJ false r p).pr true) t↔h3 p r t:=by
 obtain⟨hd,a⟩:=R0 r;have e:KN ((CJ false r p).pr true) t=(r.den:Rat)*((p.c0:Rat)+p.c1*r+p.c2*t):=by
  show (((r.den:Int)*p.c0+p.c1*r.num:Int):Rat)+(((r.den:Int)*p.c2:Int):Rat)*t=_
  push_cast
  rw[a];grind
 unfold holds h3;rw[e,(EK hd).1,(EK hd).2];rfl
def MQ {p:BN}{s t:Rat}(h:p.c2=0):holds (p.pr false) s↔h3 p s t:=by
 have e:KN (p.pr false) s=(p.c0:Rat)+p.c1*s+p.c2*t:=by show (p.c0:Rat)+(p.c1:Rat)*s=_;rw[h];grind
 unfold holds h3;rw[e];rfl
def Hl {l h:BN}(s:Rat)(f:0<l.c2)(g:h.c2<0)(i:l.s=0\/l.s=1)(j:h.s=0\/h.s=1):holds ((Au true l h).pr false) s↔∃t,h3 l s t/\h3 h s t:=by
 obtain⟨hd,k⟩:=R0 s;have hi:(0:Int)<s.den:=by exact_mod_cast s.den_pos
 have m:=Hm (l:=(CJ false s l).pr true) (h:=(CJ false s h).pr true) (ABL hi f) (by show (s.den:Int)*h.c2<0;exact Int.mul_neg_of_pos_of_neg hi g) i j [];have e:(∃t,holds ((CJ false s l).pr true) t/\holds ((CJ false s h).pr true) t)↔∃t,h3 l s t/\h3 h s t:=by
  constructor
  .rintro ⟨t,a,b⟩;exact⟨t,Be.mp a,Be.mp b⟩
  .rintro ⟨t,a,b⟩;exact⟨t,Be.mpr a,Be.mpr b⟩
 rw[<-e,<-m];unfold Fc;rw[ADR];dsimp only;have c:(((-((CJ false s h).pr true).c1*((CJ false s l).pr true).c0+((CJ false s l).pr true).c1*((CJ false s h).pr true).c0:Int)):Rat)=((s.den:Rat)*s.den)*KN ((Au true l h).pr false) s:=by
  show ((-((s.den:Int)*h.c2)*((s.den:Int)*l.c0+l.c1*s.num)+((s.den:Int)*l.c2)*((s.den:Int)*h.c0+h.c1*s.num):Int):Rat)=((s.den:Rat)*s.den)*((((-h.c2)*l.c0+l.c2*h.c0:Int):Rat)+(((-h.c2)*l.c1+l.c2*h.c1:Int):Rat)*s)
  push_cast
  rw[k];grind
 generalize (-((CJ false s h).pr true).c1*((CJ false s l).pr true).c0+((CJ false s l).pr true).c1*((CJ false s h).pr true).c0:Int)=V at *;have d:=ABs hd hd;have n:0<V↔0<KN ((Au true l h).pr false) s:=by rw[<-(EK d).1,<-c,<-ABZ,ABr]
 have o:V=0↔KN ((Au true l h).pr false) s=0:=by rw[<-(EK d).2,<-c,<-ABZ,ACi]
 unfold holds;rw[<-n,<-o];show (0<V\/V=0/\max l.s h.s=0)↔¬(V<0\/V=0/\max l.s h.s=1);omega
def fm {ps:zy BN}(hs:∀p∈ps,p.s=0\/p.s=1)(lo:∃p∈ps,0<p.c2)(hi:∃p∈ps,p.c2<0)(s:Rat):(∀p∈De true ps,holds (p.pr false) s)↔∃t,∀p∈ps,h3 p s t:=by
 have d:(0:Int)<s.den:=by exact_mod_cast s.den_pos
 constructor
 .intro b;have n:∀p∈ps,p.c2=0->holds (p.pr false) s:=λp hp z=>b p (by unfold De;exact AAQ.mpr (.inl (AAS.mpr ⟨hp,AAV z⟩)));have cs:∀l∈ps,∀h∈ps,0<l.c2->h.c2<0->∃t,h3 l s t/\h3 h s t:=λl hl h a f g=>(Hl s f g (hs l hl) (hs h a)).mp (b _ (by
   unfold De;exact AAQ.mpr (.inr (AA2.mpr ⟨l,AAS.mpr ⟨hl,AAV f⟩,AAJ.mpr ⟨h,AAS.mpr ⟨a,AAV g⟩,rfl⟩⟩))))
  have i:∀q∈ps.map (λp=>(CJ false s p).pr true),q.s=0\/q.s=1:=λq i=>by obtain⟨p,hp,rfl⟩:=AAJ.mp i;exact hs p hp
  have j:=CT (.inl rfl) _ (ps.map λp=>(CJ false s p).pr true) rfl i;have k:=CT (.inr rfl) _ (ps.map λp=>(CJ false s p).pr true) rfl i;have c:∀p:BN,((CJ false s p).pr true).c1=s.den*p.c2:=λp=>rfl;obtain⟨l',o⟩:∃l,tight 1 (ps.map λp=>(CJ false s p).pr true)=some l:=by
   cases e:tight 1 (ps.map λp=>(CJ false s p).pr true) with
   | some l=>exact⟨l,rfl⟩
   | none=> obtain⟨p,hp,h⟩:=lo;refine absurd ?_ (j.no e _ (AAJ.mpr ⟨p,hp,rfl⟩));rw[c,ABc];exact ABL d h
  obtain⟨h',r⟩:∃l,tight (-1) (ps.map λp=>(CJ false s p).pr true)=some l:=by
   cases e:tight (-1) (ps.map λp=>(CJ false s p).pr true) with
   | some l=>exact⟨l,rfl⟩
   | none=> obtain⟨p,hp,h⟩:=hi;refine absurd ?_ (k.no e _ (AAJ.mpr ⟨p,hp,rfl⟩));rw[c];have:=ABL d (show 0 < -p.c2 by omega);grind
  obtain⟨m1,m,u⟩:=j.so l' o;obtain⟨m2,v,w⟩:=k.so h' r;obtain⟨l,hl,rfl⟩:=AAJ.mp m1;obtain⟨h,a,rfl⟩:=AAJ.mp m2;have sg:∀x:Int,(0<s.den*x↔0<x):=λx=>⟨λz=>Int.pos_of_mul_pos_right z d,λz=>ABL d z⟩;have f:0<l.c2:=by rw[c,ABc,sg] at m;exact m
  have g:h.c2<0:=by rw[c,show (s.den:Int)*h.c2 * -1=s.den * -h.c2 by grind,sg] at v;omega
  obtain⟨t,y,A⟩:=cs l hl h a f g;refine⟨t,λp hp=> ?_⟩;rcases ADQ p.c2 0 with z|z|z
  .refine Be.mp (w _ (AAJ.mpr ⟨p,hp,rfl⟩) ?_ t (Be.mpr A));rw[c,show (s.den:Int)*p.c2 * -1=s.den * -p.c2 by grind,sg];omega
  .exact (MQ z).mp (n p hp z)
  .refine Be.mp (u _ (AAJ.mpr ⟨p,hp,rfl⟩) ?_ t (Be.mpr y));rw[c,ABc,sg];exact z
 .rintro ⟨t,b⟩ p hp;unfold De at hp;rcases AAQ.mp hp with hp|hp
  .obtain ⟨hp,z⟩:=AAS.mp hp;exact(MQ (t:=t) (AA9 z)).mpr (b p hp)
  .obtain ⟨l,hl,hp⟩:=AA2.mp hp;obtain⟨h,a,rfl⟩:=AAJ.mp hp;obtain⟨hl,B⟩:=AAS.mp hl;obtain⟨a,C⟩:=AAS.mp a;exact(Hl s (AA9 B) (AA9 C) (hs l hl) (hs h a)).mpr ⟨t,b l hl,b h a⟩
def Pw (a b c:Rat)(s n:Int):BN:=⟨WS (EZ [a,b,c]) a,WS (EZ [a,b,c]) b,WS (EZ [a,b,c]) c,s, [(n,(EZ [a,b,c] :Nat))]⟩
def RI {a b c:Rat}{W:Nat}(ba:Bd W a)(j:Bd W b)(f:Bd W c)(i:W<=1400){Q:PV->Prop}(q:Q (.int (EZ [a,b,c] :Nat))):Ba [.tup [fr a,fr b,fr c]] Q:=by
 have hx:∀x∈ [a,b,c],Bd W x:=by simp;exact⟨ba,j,f⟩
 apply Gu;ac_rfl;show Cd _ _ _ ([a,b,c].map fr) _;refine CC fr (λd vs τ=>∃g h,τ= [some (.val (.tup [fr a,fr b,fr c])),some (.val (.int (EZ d:Nat))),g,h]) ?_ ?_ ⟨_,_,rfl⟩
 .rintro τ ⟨g,h,rfl⟩;ac_rfl;exact q
 .rintro d c vs e τ R k ⟨g,h,rfl⟩;have hu:∀x∈d,Bd W x:=λx l=>hx x (by rw[<-e];simp[l]);have ul:d.length<=6:=by have:=congrArg List.length e;simp at this;omega
  obtain⟨h1,h2,h3⟩:=GG d.length d rfl hu;have f:=(hx c (by rw[<-e];simp)).bot;have p:d.length*W<=6*1400:=ACl ul i;have r:0<Nat.gcd (EZ d) c.den:=ABo _ c.den_pos;have gl:Nat.gcd (EZ d) c.den<2^8900:=Ao (AAn (ABq c.den_pos (ABp ..)) f) (by omega);ac_rfl;refine Er _ _ _ ?_;ac_rfl;refine⟨⟨by omega,by simpa using gl⟩, ?_⟩;have o:((c.den:Nat):Int).fdiv ((Nat.gcd (EZ d) c.den:Nat):Int)=((c.den/Nat.gcd (EZ d) c.den:Nat):Int):=by rw[ABI _ (by omega),ABV]
  rw[o];have dl:c.den/Nat.gcd (EZ d) c.den<2^1400:=Ao (AAn (ABT ..) f) i;ac_rfl;refine⟨MulOk.of (m:=8401) (n:=1400) (by simpa using Ao h3 (by omega)) (by rw[ABK];exact dl), ?_⟩;exact k _ ⟨some (.val (.int c.num)),some (.val (.int c.den)),by rw[Sn,ACY];rfl⟩
def UN {a b c:Rat}{W:Nat}{s n:Int}(ba:Bd W a)(e:Bd W b)(f:Bd W c)(d:W<=1400){Q:PV->Prop}(q:Q (Al (Pw a b c s n))):DR [.tup [fr a,fr b,fr c], .int s, .int n] Q:=by
 obtain⟨h1,h2,h3⟩:=GG (W:=W) 3 [a,b,c] rfl (by simp;exact⟨ba,e,f⟩);have g:∀x:Rat,((EZ [a,b,c] :Int).fdiv (x.den:Int)).natAbs<2^4201:=λx=>by rw[ABI _ (by omega),<-ABV,ABK];exact AAn (ABT ..) (Ao h3 (by omega))
 have h:=g a;have i:=g b;have j:=g c;have o:0<a.den:=a.den_pos;have p:0<b.den:=b.den_pos;have r:0<c.den:=c.den_pos;have k:=(ba.mono d).bot;have l:=(e.mono d).bot;have m:=(f.mono d).bot;apply Nv;ac_rfl;refine RI ba e f d ?_;unfold Pw WS at q;generalize EZ [a,b,c] =S at *;repeat' array_get_dec
 refine⟨⟨by omega,by rw[ABK];exact Ao k (by decide)⟩, ?_⟩;repeat' array_get_dec
 refine⟨MulOk.of (ba.mono d).top h, ?_⟩;repeat' array_get_dec
 refine⟨⟨by omega,by rw[ABK];exact Ao l (by decide)⟩, ?_⟩;repeat' array_get_dec
 refine⟨MulOk.of (e.mono d).top i, ?_⟩;repeat' array_get_dec
 refine⟨⟨by omega,by rw[ABK];exact Ao m (by decide)⟩, ?_⟩;repeat' array_get_dec
 refine⟨MulOk.of (f.mono d).top j, ?_⟩;repeat' array_get_dec
 exact q
def Qs {a b c:Rat}{W M:Nat}{s n:Int}(ba:Bd W a)(f:Bd W b)(g:Bd W c)(d:EZ [a,b,c] < 2^M)(hs:s=0\/s=1):BO (W+M) (Pw a b c s n)/\∀x y:Rat,h3 (Pw a b c s n) x y↔(0<a+b*x+c*y\/(a+b*x+c*y=0/\s=0)):=by
 obtain⟨h1,h2,_⟩:=GG (W:=W) 3 [a,b,c] rfl (by simp;exact⟨ba,f,g⟩);have h:(0:Rat)<((EZ [a,b,c] :Nat):Rat):=by exact_mod_cast h1
 have i:=FE (h2 a (by simp));have j:=FE (h2 b (by simp));have k:=FE (h2 c (by simp));refine⟨⟨RG ba d,RG f d,RG g d,by simp[Pw];exact Ao d (by omega),by simp[Pw],hs⟩,λx y=> ?_⟩;have e:((Pw a b c s n).c0:Rat)+(Pw a b c s n).c1*x+(Pw a b c s n).c2*y=((EZ [a,b,c] :Nat):Rat)*(a+b*x+c*y):=by show ((WS (EZ [a,b,c]) a:Int):Rat)+((WS (EZ [a,b,c]) b:Int):Rat)*x+((WS (EZ [a,b,c]) c:Int):Rat)*y=_;rw[i,j,k];grind
 unfold h3;rw[e,(EK h).1,(EK h).2];rfl
def C2 (m:zy (Int×Int)):Nat:=m.foldl (λg e=>Nat.gcd e.2.toNat g) 0
def YK (m:zy (Int×Int))(k:Int):PV:= .tup [.int k,fr (((((m.lookup k).getD 0).fdiv (C2 m:Nat):Int)):Rat)]
def VS (m:zy (Int×Int))(e:Int×Int):C2 (m ++ [e])=Nat.gcd e.2.toNat (C2 m):=by unfold C2;rw[AB9];rfl
def Qm {m:zy (Int×Int)}{k:Int}(h:k∈m.map (·.1)):∃v,m.lookup k=some v/\(k,v)∈m:=by
 induction m with
 | nil=>simp at h
 | cons e m c=>
   obtain⟨i,v⟩:=e;by_cases z:k=i
   .subst z;exact⟨v,by simp[List.lookup],by simp⟩
   .have:k∈m.map (·.1):=by simp[z] at h;simpa using h
    obtain⟨d,a,b⟩:=c this;have f:(k==i)=false:=by simpa using z
    exact⟨d,by simp[List.lookup,f,a],by simp[b]⟩
theorem ND:∀(m:zy (Int×Int)) (g:Nat),(0<g\/m≠ [])->(∀e∈m,0<e.2)->0<m.foldl (λg e=>Nat.gcd e.2.toNat g) g
 | [],g,h,_=>by simpa using h
 | e::m,g,_,hp=>ND m _ (.inl (Nat.gcd_pos_of_pos_left _ (by have:=hp e (by simp);omega))) λx hx=>hp x (by simp[hx])
theorem R6 {N:Nat}:∀(m:zy (Int×Int)) (g:Nat),(∀e∈m,0<e.2/\e.2.natAbs<2^N)->(g<2^N)->m.foldl (λg e=>Nat.gcd e.2.toNat g) g<2^N
 | [],g,_,h=>h
 | e::m,g,hp,_=>R6 m _ (λx hx=>hp x (by simp[hx])) (by
    have h:=hp e (by simp);exact AAn (ABq (by omega) (ADA ..)) (by omega))
def UY {m:zy (Int×Int)}{N:Nat}(hp:∀e∈m,0<e.2/\e.2.natAbs<2^N)(i:m≠ [])(hl:m.length<64)(hN:N<=8900){Q:PV->Prop}(q:∀ns:zy Int,ns.Perm (m.map (·.1))->ns.Pairwise (· <= ·)->Q (.tup (ns.map (YK m)))):Bq [.dk m] Q:=by
 have o:0<C2 m:=ND m 0 (.inr i) λe he=>(hp e he).1;have j:C2 m<2^N:=R6 m 0 hp (ADT N);apply HP;ac_rfl;show Cd _ _ _ (m.map λp=>PV.int p.2) _;refine CC (λp:Int×Int=>PV.int p.2) (λc vs τ=>∃d,τ= [some (.val (.dk m)),some (.val (.int (C2 c:Nat))),d]) ?_ ?_ ⟨_,rfl⟩
 .rintro τ ⟨d,rfl⟩;ac_rfl;refine⟨hl,λns f l=> ?_⟩;ac_rfl;have a:=q ns f l;refine⟨by rw[f.length_eq,AAL];omega, ?_⟩;refine M4 PV.int (YK m) id (λk=>k∈m.map (·.1)) (λk hk R b=> ?_) ns [] (λk hk=>f.mem_iff.mp hk) ?_
  .obtain ⟨v,g,r⟩:=Qm hk;unfold YK id at b;rw[g,ACf] at b;ac_rfl;refine⟨v,g, ?_⟩;ac_rfl;refine⟨⟨by omega,by simpa using Ao j hN⟩, ?_⟩;ac_rfl;exact b
  .rw [AAr,List.map_id];ac_rfl;exact a
 .rintro c e vs n τ R b ⟨d,rfl⟩;have he:=(hp e (by rw[<-n];simp)).1;have h:e.2=((e.2.toNat:Nat):Int):=by omega
  have a:=b [some (.val (.dk m)),some (.val (.int (C2 (c ++ [e]):Nat))),some (.val (.int e.2))] ⟨_,rfl⟩;clear b;rw[VS] at a;ac_rfl;rw[h];refine Er _ _ _ ?_;rw[h] at a;ac_rfl;exact a
structure Wd where
 b:C4
 e:C4
 b':C4
 e':C4
 z:T3
 l:Rat
 l':Rat
def XD (w:Wd):PV:= .tup [Bg w.b w.e,Bg w.b' w.e', .lst [fr w.z.1,fr w.z.2.1,fr w.z.2.2], .tup [fr w.l,fr w.l']]
def sl (w:Wd):Nat->Rat|0=>Uq w.b w.e w.b.2.1 w.e.2.1|1=>Uq w.b w.e w.b.2.2.1 w.e.2.2.1|_=>Uq w.b w.e w.b.2.2.2 w.e.2.2.2
def UT (w:Wd):Nat->Rat|0=>Uq w.b' w.e' w.b'.2.1 w.e'.2.1|1=>Uq w.b' w.e' w.b'.2.2.1 w.e'.2.2.1|_=>Uq w.b' w.e' w.b'.2.2.2 w.e'.2.2.2
def ba (w:Wd):Nat->Rat|0=>W6 w.b w.e w.b.2.1 w.e.2.1|1=>W6 w.b w.e w.b.2.2.1 w.e.2.2.1|_=>W6 w.b w.e w.b.2.2.2 w.e.2.2.2
def Ro (w:Wd):Nat->Rat|0=>W6 w.b' w.e' w.b'.2.1 w.e'.2.1|1=>W6 w.b' w.e' w.b'.2.2.1 w.e'.2.2.1|_=>W6 w.b' w.e' w.b'.2.2.2 w.e'.2.2.2
def sz (w:Wd):Nat->Rat|0=>w.z.1|1=>w.z.2.1|_=>w.z.2.2
def Aa (w:Wd):Nat->Rat×Rat×Rat
 | 0=>(-w.b.1,1,0)
 | 1=>(w.e.1, -1,0)
 | 2=>(-w.b'.1,0,1)
 | 3=>(w.e'.1,0, -1)
 | 4=>(w.l,1, -1)
 | 5=>(w.l', -1,1)
 | 6=>(sz w 0-(ba w 0-Ro w 0), -sl w 0,UT w 0)
 | 7=>(sz w 0+(ba w 0-Ro w 0),sl w 0, -UT w 0)
 | 8=>(sz w 1-(ba w 1-Ro w 1), -sl w 1,UT w 1)
 | 9=>(sz w 1+(ba w 1-Ro w 1),sl w 1, -UT w 1)
 | 10=>(sz w 2-(ba w 2-Ro w 2), -sl w 2,UT w 2)
 | _=>(sz w 2+(ba w 2-Ro w 2),sl w 2, -UT w 2)
structure Jf (W:Nat) (w:Wd):Prop where
 t1:Bd W w.b.1
 t2:Bd W w.e.1
 t3:Bd W w.b'.1
 t4:Bd W w.e'.1
 l1:Bd W w.l
 l2:Bd W w.l'
 z:∀k,Bd W (sz w k)
 s:∀k,Bd W (sl w k)
 s':∀k,Bd W (UT w k)
 a:∀k,Bd W (ba w k)
 a':∀k,Bd W (Ro w k)
def Ym (x:Rat×Rat×Rat):PV:= .tup [fr x.1,fr x.2.1,fr x.2.2]
def Yj {w:Wd}{n:Nat}(h:n<6){Q:PV->Prop}(q:Q (Ym (Aa w n))):C0 [XD w, .int n] Q:=by
 apply Lh;unfold XD Bg;repeat' array_get_dec
 refine Ez ?_;repeat' array_get_dec
 refine Ez ?_;repeat' array_get_dec
 have cs:n=0\/n=1\/n=2\/n=3\/n=4\/n=5:=by omega
 rcases cs with rfl|rfl|rfl|rfl|rfl|rfl <;> exact q
def Ud (d e f g h:PV)(a s b c:Nat->Rat)(z:Nat->Rat):PV:= .tup [.tup [d,e, .lst [.tup [fr (a 0),fr (s 0)], .tup [fr (a 1),fr (s 1)], .tup [fr (a 2),fr (s 2)]]], .tup [f,g, .lst [.tup [fr (b 0),fr (c 0)], .tup [fr (b 1),fr (c 1)], .tup [fr (b 2),fr (c 2)]]], .lst [fr (z 0),fr (z 1),fr (z 2)],h]
section
variable {x1 x2 x3 x4 ls:PV}{a s a' s' z:Nat->Rat}{W:Nat}{Q:PV->Prop}
theorem bR (d:W<=1300)(ha:Bd W (a 0))(b:Bd W (a' 0))(c:Bd W (z 0))(q:Q (.tup [fr (z 0-(a 0-a' 0)),fr (-s 0),fr (s' 0)])):A5 [Ud x1 x2 x3 x4 ls a s a' s' z, .int 6] Q:=by
 have e:=(ha.sub b).mono (n:=3900) (by omega);have ha:=ha.mono (n:=3900) (by omega);have b:=b.mono (n:=3900) (by omega);have c:=c.mono (n:=3900) (by omega);apply Bf;unfold Ud;repeat' array_get_dec
 refine⟨⟨by decide,by decide⟩, ?_⟩;show Av 2 (.int 0) _ _;repeat' array_get_dec
 refine Ez ?_;repeat' array_get_dec
 exact q
theorem bS (d:W<=1300)(ha:Bd W (a 0))(b:Bd W (a' 0))(c:Bd W (z 0))(q:Q (.tup [fr (z 0+(a 0-a' 0)),fr (s 0),fr (-s' 0)])):A5 [Ud x1 x2 x3 x4 ls a s a' s' z, .int 7] Q:=by
 have e:=(ha.sub b).mono (n:=3900) (by omega);have ha:=ha.mono (n:=3900) (by omega);have b:=b.mono (n:=3900) (by omega);have c:=c.mono (n:=3900) (by omega);apply Bf;unfold Ud;repeat' array_get_dec
 refine⟨⟨by decide,by decide⟩, ?_⟩;show Av 2 (.int 0) _ _;repeat' array_get_dec
 refine Ez ?_;repeat' array_get_dec
 exact q
theorem bT (d:W<=1300)(ha:Bd W (a 1))(b:Bd W (a' 1))(c:Bd W (z 1))(q:Q (.tup [fr (z 1-(a 1-a' 1)),fr (-s 1),fr (s' 1)])):A5 [Ud x1 x2 x3 x4 ls a s a' s' z, .int 8] Q:=by
 have e:=(ha.sub b).mono (n:=3900) (by omega);have ha:=ha.mono (n:=3900) (by omega);have b:=b.mono (n:=3900) (by omega);have c:=c.mono (n:=3900) (by omega);apply Bf;unfold Ud;repeat' array_get_dec
 refine⟨⟨by decide,by decide⟩, ?_⟩;show Av 2 (.int 1) _ _;repeat' array_get_dec
 refine Ez ?_;repeat' array_get_dec
 exact q
theorem bU (d:W<=1300)(ha:Bd W (a 1))(b:Bd W (a' 1))(c:Bd W (z 1))(q:Q (.tup [fr (z 1+(a 1-a' 1)),fr (s 1),fr (-s' 1)])):A5 [Ud x1 x2 x3 x4 ls a s a' s' z, .int 9] Q:=by
 have e:=(ha.sub b).mono (n:=3900) (by omega);have ha:=ha.mono (n:=3900) (by omega);have b:=b.mono (n:=3900) (by omega);have c:=c.mono (n:=3900) (by omega);apply Bf;unfold Ud;repeat' array_get_dec
 refine⟨⟨by decide,by decide⟩, ?_⟩;show Av 2 (.int 1) _ _;repeat' array_get_dec
 refine Ez ?_;repeat' array_get_dec
 exact q
theorem YQ (d:W<=1300)(ha:Bd W (a 2))(b:Bd W (a' 2))(c:Bd W (z 2))(q:Q (.tup [fr (z 2-(a 2-a' 2)),fr (-s 2),fr (s' 2)])):A5 [Ud x1 x2 x3 x4 ls a s a' s' z, .int 10] Q:=by
 have e:=(ha.sub b).mono (n:=3900) (by omega);have ha:=ha.mono (n:=3900) (by omega);have b:=b.mono (n:=3900) (by omega);have c:=c.mono (n:=3900) (by omega);apply Bf;unfold Ud;repeat' array_get_dec
 refine⟨⟨by decide,by decide⟩, ?_⟩;show Av 2 (.int 2) _ _;repeat' array_get_dec
 refine Ez ?_;repeat' array_get_dec
 exact q
theorem YR (d:W<=1300)(ha:Bd W (a 2))(b:Bd W (a' 2))(c:Bd W (z 2))(q:Q (.tup [fr (z 2+(a 2-a' 2)),fr (s 2),fr (-s' 2)])):A5 [Ud x1 x2 x3 x4 ls a s a' s' z, .int 11] Q:=by
 have e:=(ha.sub b).mono (n:=3900) (by omega);have ha:=ha.mono (n:=3900) (by omega);have b:=b.mono (n:=3900) (by omega);have c:=c.mono (n:=3900) (by omega);apply Bf;unfold Ud;repeat' array_get_dec
 refine⟨⟨by decide,by decide⟩, ?_⟩;show Av 2 (.int 2) _ _;repeat' array_get_dec
 refine Ez ?_;repeat' array_get_dec
 exact q
end
def YS {w:Wd}{W:Nat}(ok:Jf W w)(c:W<=1300){n:Nat}(h:6<=n)(h':n<12){Q:PV->Prop}(q:Q (Ym (Aa w n))):A5 [XD w, .int n] Q:=by
 have e:XD w=Ud (fr w.b.1) (fr w.e.1) (fr w.b'.1) (fr w.e'.1) (.tup [fr w.l,fr w.l']) (ba w) (sl w) (Ro w) (UT w) (sz w):=rfl;rw[e];have cs:n=6\/n=7\/n=8\/n=9\/n=10\/n=11:=by omega
 rcases cs with rfl|rfl|rfl|rfl|rfl|rfl
 .exact bR c (ok.a 0) (ok.a' 0) (ok.z 0) q
 .exact bS c (ok.a 0) (ok.a' 0) (ok.z 0) q
 .exact bT c (ok.a 1) (ok.a' 1) (ok.z 1) q
 .exact bU c (ok.a 1) (ok.a' 1) (ok.z 1) q
 .exact YQ c (ok.a 2) (ok.a' 2) (ok.z 2) q
 .exact YR c (ok.a 2) (ok.a' 2) (ok.z 2) q
def XY {w:Wd}{W:Nat}(ok:Jf W w)(a:W<=1300){n:Nat}(h:n<12){Q:PV->Prop}(q:Q (Ym (Aa w n))):ED [XD w, .int n] Q:=by
 apply PZ;ac_rfl
 .exact Yj (by omega) q
 .exact YS ok a (by omega) h q
def C1 {w:Wd}{W:Nat}(ok:Jf W w)(n:Nat):Bd (3*W+2) (Aa w n).1/\Bd (3*W+2) (Aa w n).2.1/\Bd (3*W+2) (Aa w n).2.2:=by
 have b:Bd (3*W+2) (1:Rat):=Bd.mono (m:=2) (by constructor <;> decide) (by omega);have c:Bd (3*W+2) (-1:Rat):=Bd.mono (m:=2) (by constructor <;> decide) (by omega);have d:Bd (3*W+2) (0:Rat):=Bd.mono (m:=2) (by constructor <;> decide) (by omega);have m:∀{r:Rat},Bd W r->Bd (3*W+2) r:=λh=>h.mono (by omega);have p:∀k,Bd (3*W+2) (sz w k+(ba w k-Ro w k)):=λk=>((ok.z k).add ((ok.a k).sub (ok.a' k))).mono (by omega);have q:∀k,Bd (3*W+2) (sz w k-(ba w k-Ro w k)):=λk=>((ok.z k).sub ((ok.a k).sub (ok.a' k))).mono (by omega);unfold Aa;split
 .exact ⟨(m ok.t1).neg,b,d⟩
 .exact ⟨m ok.t2,c,d⟩
 .exact ⟨(m ok.t3).neg,d,b⟩
 .exact ⟨m ok.t4,d,c⟩
 .exact ⟨m ok.l1,b,c⟩
 .exact ⟨m ok.l2,c,b⟩
 .exact ⟨q 0,(m (ok.s 0)).neg,m (ok.s' 0)⟩
 .exact ⟨p 0,m (ok.s 0),(m (ok.s' 0)).neg⟩
 .exact ⟨q 1,(m (ok.s 1)).neg,m (ok.s' 1)⟩
 .exact ⟨p 1,m (ok.s 1),(m (ok.s' 1)).neg⟩
 .exact ⟨q 2,(m (ok.s 2)).neg,m (ok.s' 2)⟩
 .exact ⟨p 2,m (ok.s 2),(m (ok.s' 2)).neg⟩
def Dx {a:zq}{sg:Int}{ps:zy BN}(h:sg=1\/sg= -1)(hs:∀p∈ps,p.s=0\/p.s=1)(ex:∃p∈ps,0<(p.pr a).c1*sg):∃l,Bw a sg ps=some l/\l∈ps/\0<(l.pr a).c1*sg/\tight sg (ps.map (BN.pr a))=some (l.pr a):=by
 have b:∀q∈ps.map (BN.pr a),q.s=0\/q.s=1:=λq b=>by obtain⟨p,hp,rfl⟩:=AAJ.mp b;exact hs p hp
 have j:=CT h _ (ps.map (BN.pr a)) rfl b;have e:=RT (a:=a) (sg:=sg) (ps:=ps);cases t:Bw a sg ps with
 | none=> rw[t] at e;obtain⟨p,hp,z⟩:=ex;exact absurd z (j.no e.symm _ (AAJ.mpr ⟨p,hp,rfl⟩))
 | some l=> rw[t] at e;exact⟨l,rfl,Ct t,(j.so _ e.symm).2.1,e.symm⟩
def MO {p:Dm}(z:p.c1=0)(hs:p.s=0\/p.s=1)(t:Rat):holds p t↔Fc p=false:=by
 unfold holds KN Fc;rw[z,ADR];have a:(p.c0:Rat)+((0:Int):Rat)*t=(p.c0:Rat):=by grind
 rw[a,<-ABZ,ABr,ACi];omega
def TQ {ps:zy Dm}{l h:Dm}(hs:∀p∈ps,p.s=0\/p.s=1)(a:tight 1 ps=some l)(b:tight (-1) ps=some h)(c:∀p∈ps,p.c1=0->Fc p=false){t:Rat}(d:holds l t)(e:holds h t):∀p∈ps,holds p t:=by
 have f:=(CT (.inl rfl) ps.length ps rfl hs).so l a;have g:=(CT (.inr rfl) ps.length ps rfl hs).so h b;intro p hp;rcases ADQ p.c1 0 with z|z|z
 .exact g.2.2 p hp (by omega) t e
 .exact (MO z (hs p hp) t).mpr (c p hp z)
 .exact f.2.2 p hp (by omega) t d
def PU {P:Int->Prop}{m:zy (Int×Int)}{k v:Int}(h:∀e∈m,P e.2)(hv:P v):∀e∈BL m k v,P e.2:=by
 intro e he;unfold BL at he;split at he
 .obtain ⟨p,hp,rfl⟩:=AAJ.mp he;split
  .exact hv
  .exact h p hp
 .rcases AAQ.mp he with he|he
  .exact h e he
  .rw [AAd.mp he];exact hv
def YG {m:zy (Int×Int)}{k v:Int}:BL m k v≠ [] :=by
 unfold BL;split
 .rename_i h;intro z;rw[List.map_eq_nil_iff] at z;subst z;simp at h
 .simp
def Tl {m:zy (Int×Int)}{k C:Int}(h:∀e∈m,0<e.2/\e.2<C)(a:0<C):0<=BQ m k/\BQ m k<C:=by
 unfold BQ;cases e:m.find? λp=>decide (p.1=k) with
 | none=>exact⟨ACh _,a⟩
 | some p=> have:=h p (List.mem_of_find?_eq_some e);show 0<=p.2/\p.2<C;omega
def RF {many C:Int}{m:zy (Int×Int)}(h:∀e∈m,0<many*e.2/\many*e.2<C):∀e∈BB many m,0<e.2/\e.2<C:=by
 have key:∀(m a:zy (Int×Int)),(∀e∈m,0<many*e.2/\many*e.2<C)->(∀e∈a,0<e.2/\e.2<C)->∀e∈m.foldl (λa p=>BL a p.1 (many*p.2)) a,0<e.2/\e.2<C:=by
  intro m;induction m with
  | nil=>intro a _ h;exact h
  | cons x m b=> intro a h1 h2;exact b _ (λe he=>h1 e (by simp[he])) (PU (P:=λx=>0<x/\x<C) h2 (h1 x (by simp)))
 exact key m [] h (by simp)
theorem J6 {more D:Int}(b:0<D):∀(m a:zy (Int×Int)) (C:Int),0<C->(∀e∈m,0<more*e.2/\more*e.2<D)->(∀e∈a,0<e.2/\e.2<C)->∀e∈BA more a m,0<e.2/\e.2<C+m.length*D
 | [],a,C,_,_,h=>by simpa[BA] using h
 | x::m,a,C,hC,h1,h2=>by
   have hx:=h1 x (by simp);have g:=Tl (k:=x.1) h2 hC;have st:∀e∈BL a x.1 (BQ a x.1+more*x.2),0<e.2/\e.2<C+D:=PU (P:=λy=>0<y/\y<C+D) (λe he=>by have:=h2 e he;omega) (by omega);have r:=J6 b m (BL a x.1 (BQ a x.1+more*x.2)) (C+D) (by omega) (λe he=>h1 e (by simp[he])) st;intro e he;have:=r e he;rw[AAk];have c:C+((m.length+1:Nat):Int)*D=C+D+(m.length:Int)*D:=by push_cast;grind
   rw[c];exact this
theorem J7 {more:Int}:∀(m a:zy (Int×Int)),(BA more a m).length<=a.length+m.length
 | [],a=>by simp[BA]
 | x::m,a=>by have r:=J7 (more:=more) m (BL a x.1 (BQ a x.1+more*x.2));have p:=Gq a x.1 (BQ a x.1+more*x.2);show (BA more (BL a x.1 (BQ a x.1+more*x.2)) m).length<=_;rw[AAk];omega
theorem ML {more:Int}:∀(m a:zy (Int×Int)),m≠ [] \/a≠ [] ->BA more a m≠ []
 | [],a,h=>by simpa[BA] using h
 | x::m,a,_=>ML m (BL a x.1 (BQ a x.1+more*x.2)) (.inr YG)
structure Za (L N:Nat) (m:List (Int×Int)):Prop where
 p:∀e∈m,0<e.2/\e.2.natAbs<2^N
 l:m.length<=L
 n:m≠ []
def dn {x y:Int}{N:Nat}(hx:0<x)(hy:0<y)(h1:x.natAbs<2^N)(h2:y.natAbs<2^N):0<x*y/\x*y<((2^(2*N):Nat):Int):=by refine⟨ABL hx hy, ?_⟩;have:=ACm h1 h2;rw[<-AB4,show N+N=2*N by omega,<-ABm] at this;have p:=ABL hx hy;omega
def Ru {a:zq}{l h:BN}{L N:Nat}(hl:BO N l)(d:BO N h)(g:Za L N l.w)(f:Za L N h.w)(t:L<=6)(r:0<(l.pr a).c1)(u:(h.pr a).c1<0):BO (2*N+4) (Au a l h)/\Za (2*L) (2*N+4) (Au a l h).w:=by
 have i:=(hl.pr a).b;have b2:=(d.pr a).b;have j:(0:Int)<((2^(2*N):Nat):Int):=by exact_mod_cast ADT _
 have sc:=RF (many:= -(h.pr a).c1) (C:=((2^(2*N):Nat):Int)) (m:=l.w) λe he=>dn (by omega) (g.p e he).1 (by rw[ABU];exact b2) (g.p e he).2;have mg:=J6 (more:=(l.pr a).c1) j h.w (BB (-(h.pr a).c1) l.w) _ j (λe he=>dn r (f.p e he).1 i (f.p e he).2) sc;have sl:(BB (-(h.pr a).c1) l.w).length<=l.w.length:=Kh;have v:=J7 (more:=(l.pr a).c1) h.w (BB (-(h.pr a).c1) l.w);have k:2^(2*N+4)=16*2^(2*N):=by rw[AB4];omega
 have z:=g.l;have A:=f.l;have o:∀e∈(Au a l h).w,0<e.2/\e.2.natAbs<2^(2*N+4):=λe he=>by have:=mg e he;have:(h.w.length:Int)*((2^(2*N):Nat):Int)<=6*((2^(2*N):Nat):Int):=Int.mul_le_mul_of_nonneg_right (by omega) (by omega);rw[k];omega
 have num:∀x y:Int,x.natAbs<2^N->y.natAbs<2^N->(-(h.pr a).c1*x+(l.pr a).c1*y).natAbs<2^(2*N+4):=λx y hx hy=>by
  have m1:=ACm b2 hx;have m2:=ACm i hy;rw[<-AB4,show N+N=2*N by omega,<-ABm] at m1 m2;have e: -(h.pr a).c1*x= -((h.pr a).c1*x):=by grind
  rw[e,k];omega
 refine⟨⟨num _ _ hl.a d.a,num _ _ hl.b d.b,num _ _ hl.c d.c,λe he=>(o e he).2, ?_, ?_⟩,⟨o, ?_,ML _ _ (.inl f.n)⟩⟩
 .show (BA (l.pr a).c1 (BB (-(h.pr a).c1) l.w) h.w).length<=12;omega
 .show max l.s h.s=0\/max l.s h.s=1;have:=hl.s;have:=d.s;omega
 .show (BA (l.pr a).c1 (BB (-(h.pr a).c1) l.w) h.w).length<=2*L;omega
def ZE:zy Int:= [0,1,0,1,0,0,1,1,1,1,1,1]
def strN (n:Nat):Int:=ZE.getD n 0
def EV (w:Wd)(n:Nat):BN:=Pw (Aa w n).1 (Aa w n).2.1 (Aa w n).2.2 (strN n) n
def DB (w:Wd):zy BN:=(List.range 12).map (EV w)
def UE (w:Wd)(s t:Rat):Prop:=∀n<12,0<(Aa w n).1+(Aa w n).2.1*s+(Aa w n).2.2*t\/((Aa w n).1+(Aa w n).2.1*s+(Aa w n).2.2*t=0/\strN n=0)
def i9:PV:= .tup [.tup [.int 0, .tup [.int 1, .int 1]], .tup [.int 3, .tup [.int 1, .int 1]], .tup [.int 5, .tup [.int 1, .int 1]]]
def jA:PV:= .tup [.tup [.int 1, .tup [.int 1, .int 1]], .tup [.int 2, .tup [.int 1, .int 1]], .tup [.int 4, .tup [.int 1, .int 1]]]
def Vs {w:Wd}{s t:Rat}(h:UE w s t):w.b.1<=s/\s<w.e.1/\w.b'.1<=t/\t<w.e'.1/\t-s<=w.l/\s-t<=w.l':=by
 have a:=h 0 (by decide);have h1:=h 1 (by decide);have h2:=h 2 (by decide);have h3:=h 3 (by decide);have c:=h 4 (by decide);have d:=h 5 (by decide);have f:strN 1=1:=rfl;have g:strN 3=1:=rfl;rw[f] at h1;rw[g] at h3;simp only[Aa] at a h1 h2 h3 c d;refine⟨?_, ?_, ?_, ?_, ?_, ?_⟩
 .rcases a with z|z <;> grind
 .rcases h1 with z|z
  .grind
  .omega
 .rcases h2 with z|z <;> grind
 .rcases h3 with z|z
  .grind
  .omega
 .rcases c with z|z <;> grind
 .rcases d with z|z <;> grind
def cA {w:Wd}{W:Nat}(ok:Jf W w)(f:W<=1300){Q:PV->Prop}(a:(¬∃s t,UE w s t)->w.e'.1+w.l'<=w.b.1->Q i9)(c:(¬∃s t,UE w s t)->w.e.1+w.l<=w.b'.1->Q jA)(q:Q .non):BK [XD w] Q:=by
 have g:=ok.t2.mono (n:=3900) (by omega);have i:=ok.t4.mono (n:=3900) (by omega);have j:=ok.t1.mono (n:=3900) (by omega);have k:=ok.t3.mono (n:=3900) (by omega);have ol:=ok.l1.mono (n:=3900) (by omega);have d:=ok.l2.mono (n:=3900) (by omega);have m:=(ok.t4.add ok.l2).mono (n:=3900) (by omega);have p:=(ok.t2.add ok.l1).mono (n:=3900) (by omega);apply Fe;unfold XD Bg;repeat' array_get_dec
 .rename_i h;refine a ?_ (by grind);rintro⟨s,t,o⟩;have:=Vs o;grind
 .rename_i h;refine c ?_ (by grind);rintro⟨s,t,o⟩;have:=Vs o;grind
 .exact q
def Wm (n:Nat):strN n=0\/strN n=1:=by unfold strN ZE;rcases n with _|_|_|_|_|_|_|_|_|_|_|_|n <;> simp
structure Yu (N:Nat) (w:Wd):Prop where
 W:∃W,Jf W w/\3*W+2<=1300
 p:∀n<12,BO N (EV w n)
def Yu.sh {N:Nat}{w:Wd}(h:Yu N w):∀n<12,EZ [(Aa w n).1,(Aa w n).2.1,(Aa w n).2.2] < 2^N:=λn a=>by have:=(h.p n a).w ((n:Int),((EZ [(Aa w n).1,(Aa w n).2.1,(Aa w n).2.2] :Nat):Int)) (by simp[EV,Pw]);simpa using this
def Yu.of {w:Wd}{W M:Nat}(ok:Jf W w)(a:3*W+2<=1300)(b:∀n<12,EZ [(Aa w n).1,(Aa w n).2.1,(Aa w n).2.2] < 2^M):Yu (3*W+2+M) w:=by refine⟨⟨W,ok,a⟩,λn c=> ?_⟩;obtain⟨d,b2,e⟩:=C1 ok n;exact(Qs (n:=n) d b2 e (b n c) (Wm n)).1
def YB {w:Wd}{N:Nat}(h:Yu N w):∀p∈DB w,BO N p/\Za 1 N p.w/\p.w.length=1:=by
 intro p hp;obtain⟨n,a,rfl⟩:=AAJ.mp hp;have a:=ABP.mp a;obtain⟨W,ok,_⟩:=h.W;obtain⟨b,b2,c⟩:=C1 ok n;have k:=h.p n a;obtain⟨h1,_,_⟩:=GG (W:=3*W+2) 3 [(Aa w n).1,(Aa w n).2.1,(Aa w n).2.2] rfl (by simp;exact⟨b,b2,c⟩);refine⟨k,⟨λe he=>⟨?_,k.w e he⟩,AAI _,by simp[EV,Pw]⟩,rfl⟩;have:e=((n:Int),((EZ [(Aa w n).1,(Aa w n).2.1,(Aa w n).2.2] :Nat):Int)):=by simpa[EV,Pw] using he
 rw[this];show (0:Int)<_;omega
def av {w:Wd}{W M:Nat}(ok:Jf W w)(d:∀n<12,EZ [(Aa w n).1,(Aa w n).2.1,(Aa w n).2.2] < 2^M)(s t:Rat):(∀p∈DB w,h3 p s t)↔UE w s t:=by
 unfold DB UE;constructor
 .intro h n a;obtain⟨b,b2,c⟩:=C1 ok n;exact((Qs (n:=n) b b2 c (d n a) (Wm n)).2 s t).mp (h _ (AAJ.mpr ⟨n,ABP.mpr a,rfl⟩))
 .intro h p hp;obtain⟨n,a,rfl⟩:=AAJ.mp hp;have a:=ABP.mp a;obtain⟨b,b2,c⟩:=C1 ok n;exact((Qs (n:=n) b b2 c (d n a) (Wm n)).2 s t).mpr (h n a)
def Vr {a b:Rat}{N:Nat}(ha:Bd N a)(hb:Bd N b):Bd (2*N+4) ((a+b)/2):=by have:=Bd.div (a:=a+b) (b:=((2:Int):Rat)) (by grind) (ha.add hb) (Bd.mono (m:=2) (n:=2) (by constructor <;> decide) (by omega));exact this.mono (by omega)
def bB {p:BN}{r:Rat}{N M:Nat}(h:BO N p)(d:Bd M r):BO (N+M+1) (CJ false r p):=by
 have f:=d.bot;have i:=d.top;have g:2^(N+M+1)=2*2^(N+M):=by rw[AC8];omega
 have m:∀x y:Int,x.natAbs<2^N->y.natAbs<2^M->(x*y).natAbs<2^(N+M):=λx y a b=>by have:=ACm a b;rw[<-AB4,<-ABm] at this;exact this
 have j:=m p.c0 r.den h.a (by rw[ABK];exact f);have k:=m p.c1 r.num h.b i;have n:=m p.c2 r.den h.c (by rw[ABK];exact f);refine⟨?_,by show (0:Int).natAbs<_;exact ADT _, ?_,λe he=>Ao (h.w e he) (by omega),h.l,h.s⟩
 .show ((r.den:Int)*p.c0+p.c1*r.num).natAbs<_;rw[ADD,g];omega
 .show ((r.den:Int)*p.c2).natAbs<_;rw[ADD,g];omega
def Af (m:zy (Int×Int)):zy Int:=m.map (·.1)
def Cu (g:Int->Rat)(m:zy (Int×Int)):Rat:=(m.map λe=>(e.2:Rat)*g e.1).sum
def FQ {g:Int->Rat}:Cu g [] =0:=rfl
def CV {g:Int->Rat}{x:Int×Int}{m:zy (Int×Int)}:Cu g (x::m)=(x.2:Rat)*g x.1+Cu g m:=by simp[Cu]
def Q8 {x:Int×Int}{m:zy (Int×Int)}{k v:Int}(h:x.1≠k):BL (x::m) k v=x::BL m k v:=by unfold BL;simp only[ABJ,AAa h,Bool.false_or,AAM,AAD h,ABC];split <;> rfl
def bA {m:zy (Int×Int)}{k v:Int}(h:k ∉ Af m):(m.map λp=>if p.1=k then (p.1,v) else p)=m:=by
 induction m with
 | nil=>rfl
 | cons x m a=> have h1:x.1≠k:=λz=>h (by simp[Af,z]);have h2:k ∉ Af m:=λz=>h (by simp[Af] at z ⊢;exact .inr z);rw[AAM,AAD h1,a h2]
def WJ {x:Int×Int}{m:zy (Int×Int)}{k v:Int}(h:x.1=k)(a:k ∉ Af m):BL (x::m) k v=(k,v)::m:=by unfold BL;simp only[ABJ,AAV h,ADE,AAo,AAM,AAE h];rw[bA a,h]
def Js {x:Int×Int}{m:zy (Int×Int)}{k:Int}:BQ (x::m) k=if x.1=k then x.2 else BQ m k:=by
 unfold BQ;rw[ABX];by_cases h:x.1=k
 .rw [AAV h,AAE h];rfl
 .rw [AAa h,AAD h]
def Zu {m:zy (Int×Int)}{k:Int}(h:k ∉ Af m):BQ m k=0:=by
 induction m with
 | nil=>rfl
 | cons x m a=> have h1:x.1≠k:=λz=>h (by simp[Af,z]);have h2:k ∉ Af m:=λz=>h (by simp[Af] at z ⊢;exact .inr z);rw[Js,AAD h1,a h2]
def Ir {x:Int×Int}{m:zy (Int×Int)}(h:(Af (x::m)).Nodup):x.1 ∉ Af m/\(Af m).Nodup:=ABR.mp h
theorem K0 {g:Int->Rat}{k v:Int}:∀(m:zy (Int×Int)),(Af m).Nodup->Cu g (BL m k v)=Cu g m+((v-BQ m k:Int):Rat)*g k
 | [],_=>by rw[show BL [] k v= [(k,v)] from rfl,CV,FQ,show BQ [] k=0 from rfl,Int.sub_zero];grind
 | x::m,nd=>by
   obtain⟨a,b⟩:=Ir nd;by_cases h:x.1=k
   .rw [WJ h (h ▸ a),CV,CV,Js,AAE h,<-h,Rat.intCast_sub];grind
   .rw [Q8 h,CV,CV,K0 m b,Js,AAD h];grind
theorem E3 {k v:Int}:∀(m:zy (Int×Int)) (i:Int),i∈Af (BL m k v)↔i∈Af m\/i=k
 | [],i=>by rw[show BL [] k v= [(k,v)] from rfl];simp[Af]
 | x::m,i=>by
   by_cases h:x.1=k
   .unfold BL;simp only[ABJ,AAV h,ADE,AAo];have e:Af ((x::m).map λp=>if p.1=k then (p.1,v) else p)=Af (x::m):=by unfold Af;rw[ABS];refine ABl λp _=> ?_;show (if p.1=k then (p.1,v) else p).1=p.1;split <;> rfl
    rw[e];constructor
    .exact .inl
    .rintro (z|rfl)
     .exact z
     .simp [Af,h]
   .rw [Q8 h];have:=E3 (k:=k) (v:=v) m i;simp only[Af,AAM,AAH] at this ⊢;rw[this];grind
theorem Q7 {k v:Int}:∀(m:zy (Int×Int)),(Af m).Nodup->(Af (BL m k v)).Nodup
 | [],_=>by rw[show BL [] k v= [(k,v)] from rfl];simp[Af]
 | x::m,nd=>by
   obtain⟨a,b⟩:=Ir nd;by_cases h:x.1=k
   .rw [WJ h (h ▸ a)];exact ABR.mpr ⟨h ▸ a,b⟩
   .rw [Q8 h];refine ABR.mpr ⟨λz=> ?_,Q7 m b⟩;rcases (E3 m x.1).mp z with z|z
    .exact a z
    .exact h z
theorem Jq {g:Int->Rat}{many:Int}:∀(m a:zy (Int×Int)),(Af m).Nodup->(Af a).Nodup->(∀i∈Af m,i ∉ Af a)->Cu g (m.foldl (λa p=>BL a p.1 (many*p.2)) a)=Cu g a+(many:Rat)*Cu g m/\(Af (m.foldl (λa p=>BL a p.1 (many*p.2)) a)).Nodup/\∀i,i∈Af (m.foldl (λa p=>BL a p.1 (many*p.2)) a)↔i∈Af a\/i∈Af m
 | [],a,_,na,_=>⟨by rw[FQ];show Cu g a=_;grind,na,λi=>by simp[Af]⟩
 | x::m,a,nm,na,dj=>by
   obtain⟨b,c⟩:=Ir nm;have hx:x.1 ∉ Af a:=dj x.1 (by simp[Af]);obtain⟨h1,h2,h3⟩:=Jq (g:=g) (many:=many) m (BL a x.1 (many*x.2)) c (Q7 a na) (λi hi z=>by
    rcases (E3 a i).mp z with z|z
    .exact dj i (by simp[Af] at hi ⊢;exact .inr hi) z
    .exact b (z ▸ hi))
   refine⟨?_,h2,λi=> ?_⟩
   .show Cu g (m.foldl _ (BL a x.1 (many*x.2)))=_;rw[h1,K0 a na,Zu hx,CV,Int.sub_zero,AAl];grind
   .show i∈Af (m.foldl _ (BL a x.1 (many*x.2)))↔_;rw[h3,E3];show _↔_\/i∈x.1::Af m;rw[AAH];grind
theorem Jp {g:Int->Rat}{more:Int}:∀(m a:zy (Int×Int)),(Af a).Nodup->Cu g (BA more a m)=Cu g a+(more:Rat)*Cu g m/\(Af (BA more a m)).Nodup/\∀i,i∈Af (BA more a m)↔i∈Af a\/i∈Af m
 | [],a,na=>⟨by rw[FQ];show Cu g a=_;grind,na,λi=>by simp[Af,BA]⟩
 | x::m,a,na=>by
   obtain⟨h1,h2,h3⟩:=Jp (g:=g) (more:=more) m (BL a x.1 (BQ a x.1+more*x.2)) (Q7 a na);refine⟨?_,h2,λi=> ?_⟩
   .show Cu g (BA more (BL a x.1 (BQ a x.1+more*x.2)) m)=_;rw[h1,K0 a na,CV,show BQ a x.1+more*x.2-BQ a x.1=more*x.2 by omega,AAl];grind
   .show i∈Af (BA more (BL a x.1 (BQ a x.1+more*x.2)) m)↔_;rw[h3,E3];show _↔_\/i∈x.1::Af m;rw[AAH];grind
def fK (w:Wd):Nat->Int->Rat
 | 0,n=>(Aa w n.toNat).1
 | 1,n=>(Aa w n.toNat).2.1
 | _,n=>(Aa w n.toNat).2.2
structure Mx (w:Wd) (p:BN):Prop where
 a:(p.c0:Rat)=Cu (fK w 0) p.w
 b:(p.c1:Rat)=Cu (fK w 1) p.w
 c:(p.c2:Rat)=Cu (fK w 2) p.w
 s:p.s=1->∃i∈Af p.w,strN i.toNat=1
 n:(Af p.w).Nodup
 k:∀i∈Af p.w,0<=i/\i<12
def YL {w:Wd}{W:Nat}(ok:Jf W w){n:Nat}(j:n<12):Mx w (EV w n):=by
 obtain⟨b,b2,c⟩:=C1 ok n;obtain⟨h1,h2,_⟩:=GG (W:=3*W+2) 3 [(Aa w n).1,(Aa w n).2.1,(Aa w n).2.2] rfl (by simp;exact⟨b,b2,c⟩);have d:=FE (h2 (Aa w n).1 (by simp));have e:=FE (h2 (Aa w n).2.1 (by simp));have f:=FE (h2 (Aa w n).2.2 (by simp));have a:∀g,Cu g (EV w n).w=((EZ [(Aa w n).1,(Aa w n).2.1,(Aa w n).2.2] :Nat):Rat)*g n:=λg=>by show Cu g [((n:Int),((EZ [(Aa w n).1,(Aa w n).2.1,(Aa w n).2.2] :Nat):Int))] =_;rw[CV,FQ,ACk];grind
 refine⟨?_, ?_, ?_,λh=>⟨n,by simp[EV,Pw,Af], ?_⟩,by simp[EV,Pw,Af],λi hi=> ?_⟩
 .rw [a];exact d.trans (by show _=_*(Aa w ((n:Int).toNat)).1;rw[ABi];grind)
 .rw [a];exact e.trans (by show _=_*(Aa w ((n:Int).toNat)).2.1;rw[ABi];grind)
 .rw [a];exact f.trans (by show _=_*(Aa w ((n:Int).toNat)).2.2;rw[ABi];grind)
 .rw [ABi];exact h
 .have:i=n:=by simpa[EV,Pw,Af] using hi
  omega
def Kb {w:Wd}{a:zq}{l h:BN}(hl:Mx w l)(f:Mx w h)(sl:l.s=0\/l.s=1)(j:h.s=0\/h.s=1):Mx w (Au a l h):=by
 have S:=λg=>Jq (g:=g) (many:= -(h.pr a).c1) l.w [] hl.n (by simp[Af]) (by simp[Af]);have M:=λg=>Jp (g:=g) (more:=(l.pr a).c1) h.w (BB (-(h.pr a).c1) l.w) (S g).2.1;have E:∀g,Cu g (Au a l h).w=((-(h.pr a).c1:Int):Rat)*Cu g l.w+((l.pr a).c1:Rat)*Cu g h.w:=λg=>by refine(M g).1.trans ?_;have:=(S g).1;rw[FQ,Rat.zero_add] at this;rw[show BB (-(h.pr a).c1) l.w=l.w.foldl (λd p=>BL d p.1 (-(h.pr a).c1*p.2)) [] from rfl,this]
 have K:∀i,i∈Af (Au a l h).w↔i∈Af l.w\/i∈Af h.w:=λi=>by refine((M λ_=>0).2.2 i).trans ?_;have:=(S λ_=>0).2.2 i;rw[show BB (-(h.pr a).c1) l.w=l.w.foldl (λd p=>BL d p.1 (-(h.pr a).c1*p.2)) [] from rfl,this];simp[Af]
 refine⟨?_, ?_, ?_,λz=> ?_,(M λ_=>0).2.1,λi hi=> ?_⟩
 .show ((-(h.pr a).c1*l.c0+(l.pr a).c1*h.c0:Int):Rat)=_;rw[E,<-hl.a,<-f.a,ADU,AAl,AAl]
 .show ((-(h.pr a).c1*l.c1+(l.pr a).c1*h.c1:Int):Rat)=_;rw[E,<-hl.b,<-f.b,ADU,AAl,AAl]
 .show ((-(h.pr a).c1*l.c2+(l.pr a).c1*h.c2:Int):Rat)=_;rw[E,<-hl.c,<-f.c,ADU,AAl,AAl]
 .have z:max l.s h.s=1:=z;have:l.s=1\/h.s=1:=by omega
  rcases this with q|q
  .obtain ⟨i,hi,e⟩:=hl.s q;exact⟨i,(K i).mpr (.inl hi),e⟩
  .obtain ⟨i,hi,e⟩:=f.s q;exact⟨i,(K i).mpr (.inr hi),e⟩
 .rcases (K i).mp hi with q|q
  .exact hl.k i q
  .exact f.k i q
def Nq (rows:zy (Int×Rat)):PV:= .tup (rows.map λe=> .tup [.int e.1,fr e.2])
def Fd (w:Wd)(k:Nat)(rows:zy (Int×Rat)):Rat:=(rows.map λe=>e.2*fK w k e.1).sum
structure ZT (N:Nat) (w:Wd) (rows:List (Int×Rat)):Prop where
 r:rows.Pairwise λa b=>a.1<b.1
 k:∀e∈rows,0<=e.1/\e.1<12
 p:∀e∈rows,0<e.2/\Bd N e.2
 l:rows.length<=12
 b:Fd w 1 rows=0
 c:Fd w 2 rows=0
 a:Fd w 0 rows<0\/(Fd w 0 rows=0/\∃e∈rows,strN e.1.toNat=1)
def Eh (m:zy (Int×Int))(ns:zy Int):zy (Int×Rat):=ns.map λk=>(k,((((m.lookup k).getD 0).fdiv (C2 m:Nat):Int):Rat))
theorem Jr:∀(m:zy (Int×Int)) (g:Nat),(m.foldl (λg e=>Nat.gcd e.2.toNat g) g ∣ g)/\∀e∈m,m.foldl (λg e=>Nat.gcd e.2.toNat g) g ∣ e.2.toNat
 | [],g=>⟨Nat.dvd_refl _,by simp⟩
 | x::m,g=>by
   obtain⟨h1,h2⟩:=Jr m (Nat.gcd x.2.toNat g);refine⟨ADO h1 (ABp ..),λe he=> ?_⟩;rcases AAH.mp he with rfl|he
   .exact ADO h1 (ADA ..)
   .exact h2 e he
def MI {m:zy (Int×Int)}{e:Int×Int}(b:(Af m).Nodup)(h:e∈m):m.lookup e.1=some e.2:=by
 induction m with
 | nil=>cases h
 | cons x m c=>
   obtain⟨d,f⟩:=Ir b;rcases AAH.mp h with rfl|a
   .obtain ⟨i,v⟩:=e;simp[List.lookup]
   .have ne:e.1≠x.1:=λz=>d (z ▸ AAJ.mpr ⟨e,a,rfl⟩);obtain⟨i,v⟩:=x;have g:(e.1==i)=false:=by simpa using ne
    simp[List.lookup,g,c f a]
def V9 {xs c:zy Rat}(h:xs.Perm c):xs.sum=c.sum:=by
 induction h with
 | nil=>rfl
 | cons x _ d=>rw[AAh,AAh,d]
 | swap x y l=>simp only[AAh];grind
 | trans _ _ a b=>rw[a,b]
def Uc {w:Wd}{k:Nat}{m:zy (Int×Int)}{ns:zy Int}(d:ns.Perm (Af m))(f:(Af m).Nodup)(pos:∀e∈m,0<e.2)(n:0<C2 m):Fd w k (Eh m ns)*(C2 m:Nat)=Cu (fK w k) m:=by
 have g:Fd w k (Eh m ns)=Fd w k (Eh m (Af m)):=by unfold Fd Eh;exact V9 ((d.map _).map _)
 have key:∀e∈m,((((m.lookup e.1).getD 0).fdiv (C2 m:Nat):Int):Rat)*(C2 m:Nat)=e.2:=λe he=>by
  rw[MI f he,ACf];have p:=pos e he;have b:=(Jr m 0).2 e he;have b:((C2 m:Nat):Int) ∣ e.2:=by
   have:((C2 m:Nat):Int) ∣ ((e.2.toNat:Nat):Int):=Int.natCast_dvd_natCast.mpr b
   rwa [Int.toNat_of_nonneg (by omega)] at this
  rw[ABI _ (by omega)];have:=Int.ediv_mul_cancel b;rw[<-ACk (C2 m),<-AAl,this]
 rw[g];unfold Fd Eh Af Cu;rw[ABS,ABS];generalize o:C2 m=G at *;have c:∀a:zy (Int×Int),(∀e∈a,e∈m)->(a.map ((λe:Int×Rat=>e.2*fK w k e.1) ∘ (λk=>(k,((((m.lookup k).getD 0).fdiv (G:Nat):Int):Rat))) ∘ λx=>x.1)).sum*(G:Nat)=(a.map λe=>(e.2:Rat)*fK w k e.1).sum:=by
  intro a;induction a with
  | nil=>intro _;simp
  | cons x a j=> intro h;have i:=j λe he=>h e (by simp[he]);have l:=key x (h x (by simp));simp only[AAM,AAh,Function.comp] at i ⊢;rw[<-i,<-l];grind
 exact c m λe he=>he
def ab {w:Wd}{N:Nat}{p:BN}(hp:Mx w p)(pos:∀e∈p.w,0<e.2/\e.2.natAbs<2^N)(hl:p.w.length<=12)(g:p.c1=0)(j:p.c2=0)(c0:p.c0<0\/(p.c0=0/\p.s=1))(ne:p.w≠ []){ns:zy Int}(d:ns.Perm (p.w.map (·.1)))(l:ns.Pairwise (· <= ·)):ZT (N+1) w (Eh p.w ns):=by
 have f:0<C2 p.w:=ND p.w 0 (.inr ne) λe he=>(pos e he).1;have d:ns.Perm (Af p.w):=d;have S:=λk=>Uc (w:=w) (k:=k) d hp.n (λe he=>(pos e he).1) f;have m:(0:Rat)<((C2 p.w:Nat):Rat):=by exact_mod_cast f
 have o:ns.Nodup:=d.nodup_iff.mpr hp.n;have zero:∀k,Cu (fK w k) p.w=0->Fd w k (Eh p.w ns)=0:=λk h=>by
  have:=S k;rw[h] at this;rcases ABY.mp this with z|z
  .exact z
  .grind
 have vals:∀i∈ns,0<((p.w.lookup i).getD 0).fdiv (C2 p.w:Nat)/\(((p.w.lookup i).getD 0).fdiv (C2 p.w:Nat)).natAbs<2^N:=λi hi=>by
  obtain⟨e,he,rfl⟩:=AAJ.mp (d.mem_iff.mp hi);rw[MI hp.n he,ACf,ABI _ (by omega)];obtain⟨A,B⟩:=pos e he;have r:=(Jr p.w 0).2 e he;have t:=ABq (by omega) r;have C:0<e.2.toNat/C2 p.w:=Nat.div_pos t f;have D:e.2.toNat/C2 p.w<=e.2.toNat:=ABT ..;have u:e.2/((C2 p.w:Nat):Int)=((e.2.toNat/C2 p.w:Nat):Int):=by rw[ABV,Int.toNat_of_nonneg (by omega)]
  rw[u];omega
 refine⟨?_, ?_, ?_, ?_,zero 1 (by rw[<-hp.b,g];rfl),zero 2 (by rw[<-hp.c,j];rfl), ?_⟩
 .refine List.pairwise_map.mpr ?_;have:ns.Pairwise λa b=>a<=b/\a≠b:=l.and o;exact this.imp λ{a b} h=>by show a<b;omega
 .intro e he;obtain⟨i,hi,rfl⟩:=AAJ.mp he;exact hp.k i (d.mem_iff.mp hi)
 .intro e he;obtain⟨i,hi,rfl⟩:=AAJ.mp he;obtain⟨v,x⟩:=vals i hi;refine⟨Rat.intCast_pos.mpr v,⟨?_, ?_⟩⟩
  .rw [Rat.num_intCast];exact Ao x (by omega)
  .rw [Rat.den_intCast];exact AAP (by decide:1<2^1) (ACW (by decide) (by omega))
 .unfold Eh;rw[AAL,d.length_eq];unfold Af;rw[AAL];exact hl
 .have:=S 0;rw[<-hp.a] at this;rcases c0 with z|⟨z,y⟩
  .left;have:Fd w 0 (Eh p.w ns)*((C2 p.w:Nat):Rat)<0:=by rw[this];exact_mod_cast z
   by_cases q:0<=Fd w 0 (Eh p.w ns)
   .have:=Rat.mul_nonneg q (ADV m);grind
   .grind
  .right;refine⟨zero 0 (by rw[<-hp.a,z];rfl), ?_⟩;obtain⟨i,hi,e⟩:=hp.s y;exact⟨_,AAJ.mpr ⟨i,d.mem_iff.mpr hi,rfl⟩,e⟩
instance{p:BN}{Q:PV->Prop}:Wp (Jm (Al p) .non Q) (Q (.bl true)):=⟨id⟩
def bf {n:Nat}(h:n<12){Q:PV->Prop}(q:Q (.int (strN n))):Ah (.tup [(.int 0),(.int 1),(.int 0),(.int 1),(.int 0),(.int 0),(.int 1),(.int 1),(.int 1),(.int 1),(.int 1),(.int 1)]) (.int n) Q:=by
 have cs:n=0\/n=1\/n=2\/n=3\/n=4\/n=5\/n=6\/n=7\/n=8\/n=9\/n=10\/n=11:=by omega
 rcases cs with rfl|rfl|rfl|rfl|rfl|rfl|rfl|rfl|rfl|rfl|rfl|rfl <;> exact q
def Gm (w:Wd):(DB w).length=12:=by simp[DB]
def Go (w:Wd){n:Nat}(h:n<12):EV w n∈DB w:=AAJ.mpr ⟨n,ABP.mpr h,rfl⟩
def UX {a:zq}{ps:zy BN}(h:ps.length<=12):(De a ps).length<=1000:=by
 unfold De;rw[AAy,ADS];have f:(ps.filter λp=>decide ((p.pr a).c1=0)).length<=12:=AAT (ABu ..) h;have c:(ps.filter λp=>decide (0<(p.pr a).c1)).length<=12:=AAT (ABu ..) h;have d:(ps.filter λp=>decide ((p.pr a).c1<0)).length<=12:=AAT (ABu ..) h;generalize (ps.filter λp=>decide ((p.pr a).c1=0))=zs at *;generalize (ps.filter λp=>decide (0<(p.pr a).c1))=b at *;generalize (ps.filter λp=>decide ((p.pr a).c1<0))=hs at *;have:∀b:zy BN,(b.map λl=>(hs.map λh=>Au a l h).length).sum=b.length*hs.length:=λb=>by
  induction b with
  | nil=>simp
  | cons x b e=>simp[AAM,AAh,AB5] at e ⊢;omega
 rw[this];have:=ACl c d;omega
def Wz {ps:zy BN}{N:Nat}(h:∀p∈ps,BO N p/\Za 1 N p.w):∀p∈De true ps,BO (2*N+4) p/\Za 2 (2*N+4) p.w:=by
 intro p hp;unfold De at hp;rcases AAQ.mp hp with hp|hp
 .obtain ⟨k,w⟩:=h p (AAS.mp hp).1;exact⟨⟨Ao k.a (by omega),Ao k.b (by omega),Ao k.c (by omega),λe he=>Ao (k.w e he) (by omega),k.l,k.s⟩,⟨λe he=>⟨(w.p e he).1,Ao (w.p e he).2 (by omega)⟩,by have:=w.l;omega,w.n⟩⟩
 .obtain ⟨l,hl,hp⟩:=AA2.mp hp;obtain⟨h',d,rfl⟩:=AAJ.mp hp;obtain⟨hl,f⟩:=AAS.mp hl;obtain⟨d,g⟩:=AAS.mp d;exact Ru (h l hl).1 (h h' d).1 (h l hl).2 (h h' d).2 (by decide) (AA9 f) (AA9 g)
def Nh {w:Wd}{W:Nat}(ok:Jf W w){n:Nat}(c:n<12):∃S:Rat,0<S/\((EV w n).c1:Rat)=(Aa w n).2.1*S/\((EV w n).c2:Rat)=(Aa w n).2.2*S:=by obtain⟨a,b2,b⟩:=C1 ok n;obtain⟨h1,h2,_⟩:=GG (W:=3*W+2) 3 [(Aa w n).1,(Aa w n).2.1,(Aa w n).2.2] rfl (by simp;exact⟨a,b2,b⟩);exact⟨((EZ [(Aa w n).1,(Aa w n).2.1,(Aa w n).2.2] :Nat):Rat),by exact_mod_cast h1,FE (h2 _ (by simp)),FE (h2 _ (by simp))⟩
def HY {x:Int}{y:Rat}{S:Rat}(a:0<S)(e:(x:Rat)=y*S):(0<y->0<x)/\(y=0->x=0)/\(y<0->x<0):=by
 refine⟨λh=> ?_,λh=> ?_,λh=> ?_⟩
 .have:(0:Rat)<x:=by rw[e];exact ABs h a
  exact_mod_cast this
 .have:(x:Rat)=0:=by rw[e,h];grind
  exact_mod_cast this
 .have p:0 < -y*S:=ABs (by grind) a;have:(x:Rat)<0:=by rw[e];grind
  exact_mod_cast this
def Yn (m:zy (Int×Int))(ns:zy Int):Nq (Eh m ns)= .tup (ns.map (YK m)):=by unfold Nq Eh;rw[ABS];rfl
def RW {w:Wd}{ps:zy BN}(h:∀p∈ps,Mx w p)(hs:∀p∈ps,p.s=0\/p.s=1):∀p∈De true ps,Mx w p/\p.c2=0:=by
 intro p hp;unfold De at hp;rcases AAQ.mp hp with hp|hp
 .obtain ⟨hp,z⟩:=AAS.mp hp;exact⟨h p hp,AA9 z⟩
 .obtain ⟨l,hl,hp⟩:=AA2.mp hp;obtain⟨h',a,rfl⟩:=AAJ.mp hp;obtain⟨hl,b⟩:=AAS.mp hl;obtain⟨a,c⟩:=AAS.mp a;refine⟨Kb (h l hl) (h h' a) (hs l hl) (hs h' a), ?_⟩;show -h'.c2*l.c2+l.c2*h'.c2=0;grind
def Vx {N:Nat}:Bd (N+1) (1:Rat):=⟨AAP (by decide:1<2^1) (ACW (by decide) (by omega)),AAP (by decide:1<2^1) (ACW (by decide) (by omega))⟩
def ae {w:Wd}{N:Nat}(h:w.e'.1+w.l'<=w.b.1)(hN:1<=N):ZT N w [(0,1),(3,1),(5,1)] :=by
 obtain⟨N,rfl⟩:∃n,N=n+1:=⟨N-1,by omega⟩;have e:∀k,Fd w k [(0,1),(3,1),(5,1)] =fK w k 0+fK w k 3+fK w k 5:=λk=>by unfold Fd;simp only[AAM,AB2,AAh,List.sum_nil];grind
 refine⟨by simp,by simp,λe he=> ?_,by decide, ?_, ?_, ?_⟩
 .simp only[AAH,AA0,ABB] at he;rcases he with rfl|rfl|rfl <;> exact⟨by decide,Vx⟩
 .rw [e];show (1:Rat)+0 + -1=0;grind
 .rw [e];show (0:Rat) + -1+1=0;grind
 .rw [e];show -w.b.1+w.e'.1+w.l'<0\/(-w.b.1+w.e'.1+w.l'=0/\_);by_cases z:w.e'.1+w.l'=w.b.1
  .exact .inr ⟨by grind,(3,1),by simp,rfl⟩
  .exact .inl (by grind)
def af {w:Wd}{N:Nat}(h:w.e.1+w.l<=w.b'.1)(hN:1<=N):ZT N w [(1,1),(2,1),(4,1)] :=by
 obtain⟨N,rfl⟩:∃n,N=n+1:=⟨N-1,by omega⟩;have e:∀k,Fd w k [(1,1),(2,1),(4,1)] =fK w k 1+fK w k 2+fK w k 4:=λk=>by unfold Fd;simp only[AAM,AB2,AAh,List.sum_nil];grind
 refine⟨by simp,by simp,λe he=> ?_,by decide, ?_, ?_, ?_⟩
 .simp only[AAH,AA0,ABB] at he;rcases he with rfl|rfl|rfl <;> exact⟨by decide,Vx⟩
 .rw [e];show (-1:Rat)+0+1=0;grind
 .rw [e];show (0:Rat)+1 + -1=0;grind
 .rw [e];show w.e.1 + -w.b'.1+w.l<0\/(w.e.1 + -w.b'.1+w.l=0/\_);by_cases z:w.e.1+w.l=w.b'.1
  .exact .inr ⟨by grind,(1,1),by simp,rfl⟩
  .exact .inl (by grind)
def Qq {w:Wd}{N:Nat}(h:Yu N w)(hN:N<=770){Q:PV->Prop}(K:(¬∃s t,UE w s t)->∀rows,ZT (4*N+13) w rows->Q (.tup [.non,Nq rows]))(qm:∀s t,UE w s t->Bd (4*N+12) s->Bd (10*N+30) t->Q (.tup [.tup [fr s,fr t], .non])):EE [XD w] Q:=by
 have r:=YB h;obtain⟨W,ok,hW⟩:=h.W;have hh:=λs t=>av ok h.sh s t;have sy:∀p∈DB w,Mx w p:=λp hp=>by obtain⟨n,hn,rfl⟩:=AAJ.mp hp;exact YL ok (ABP.mp hn)
 have c0:=Nh ok (n:=0) (by decide);have c1:=Nh ok (n:=1) (by decide);have c2:=Nh ok (n:=2) (by decide);have c3:=Nh ok (n:=3) (by decide);have L:=λn=>C1 ok n;apply Pb;ac_rfl;refine cA ok (by omega) (λx u=> ?_) (λx u=> ?_) ?_
 .have b:=K x [(0,1),(3,1),(5,1)] (ae u (by omega));rw[show Nq [(0,1),(3,1),(5,1)] =i9 from rfl] at b;unfold i9 at b ⊢;ac_rfl;exact b
 .have b:=K x [(1,1),(2,1),(4,1)] (af u (by omega));rw[show Nq [(1,1),(2,1),(4,1)] =jA from rfl] at b;unfold jA at b ⊢;ac_rfl;exact b
 ac_rfl;refine Rs (λi f=>f=((List.range i).map (EV w)).map Al) (λf e=> ?_) (λi hi f R F e=> ?_) rfl;rotate_left
 .have b:=F (f ++ [Al (EV w i)]) (by rw[e,List.range_succ,AB8,AB8];rfl);clear F;have hi:i<12:=hi;rw[show (0:Int)+(i:Int)=i by omega];ac_rfl;refine XY ok (by omega) hi ?_;unfold Ym;ac_rfl;refine bf hi ?_;ac_rfl;obtain⟨G,b2,b3⟩:=L i;refine UN G b2 b3 (by omega) ?_;exact b
 subst e;show Av 2 (.lst ((DB w).map Al)) _ _;ac_rfl;have hs:∀p∈DB w,p.s=0\/p.s=1:=λp hp=>(r p hp).1.s;have y:∃p∈DB w,0<p.c2:=by obtain⟨S,g,_,e⟩:=c2;exact⟨_,Go w (n:=2) (by decide),(HY g e).1 (by simp only[Aa];decide)⟩
 have j4:∃p∈DB w,p.c2<0:=by obtain⟨S,g,_,e⟩:=c3;exact⟨_,Go w (n:=3) (by decide),(HY g e).2.2 (by simp only[Aa];decide)⟩
 have FM:=λs=>fm hs y j4 s;have m0:∃p∈De true (DB w),0<(p.pr false).c1*1:=by obtain⟨S,g,e,M⟩:=c0;refine⟨EV w 0,AAQ.mpr (.inl (AAS.mpr ⟨Go w (by decide),AAV ((HY g M).2.1 (by simp only[Aa]))⟩)), ?_⟩;have:=(HY g e).1 (by simp only[Aa];decide);show 0<(EV w 0).c1*1;omega
 have m1:∃p∈De true (DB w),0<(p.pr false).c1 * -1:=by obtain⟨S,g,e,M⟩:=c1;refine⟨EV w 1,AAQ.mpr (.inl (AAS.mpr ⟨Go w (by decide),AAV ((HY g M).2.1 (by simp only[Aa]))⟩)), ?_⟩;have:=(HY g e).2.2 (by simp only[Aa];decide);show 0<(EV w 1).c1 * -1;omega
 have d:=Wz (ps:=DB w) λp hp=>⟨(r p hp).1,(r p hp).2.1⟩;have st:=RW sy hs;have u:=UX (a:=true) (ps:=DB w) (by rw[Gm];decide);refine⟨rfl, ?_⟩;show DN [.lst ((DB w).map Al), .int (K7 true), .int 2] _;refine Pu rfl (λp hp=>(r p hp).1) (λp hp=>(r p hp).2.2) (by omega) (by rw[Gm];decide) ?_;generalize De true (DB w)=first at *
 have j:∀p∈first,p.s=0\/p.s=1:=λp hp=>(d p hp).1.s
 have A:∀q∈first.map (BN.pr false),q.s=0\/q.s=1:=λq c=>by obtain⟨p,hp,rfl⟩:=AAJ.mp c;exact j p hp
 obtain⟨l,e1,k,gl,t1⟩:=Dx (a:=false) (.inl rfl) j m0;obtain⟨h,e2,m,O,t2⟩:=Dx (a:=false) (.inr rfl) j m1;have gl:0<(l.pr false).c1:=by omega
 have O:(h.pr false).c1<0:=by omega
 have cn:=Hm (l:=l.pr false) (h:=h.pr false) gl O (j l k) (j h m) (Au false l h).w;have cw:=Ru (a:=false) (d l k).1 (d h m).1 (d l k).2 (d h m).2 (by decide) gl O;ac_rfl;show Ck [.lst (first.map Al), .int (K7 false)] _;refine Tj rfl (λp hp=>(d p hp).1) (by omega) u e1 e2 (λP nc=> ?_) (λp hp H=> ?_)
 .obtain ⟨s0,a1,a2⟩:=cn.mp nc;have B:=TQ A t1 t2 (λq c z=>by
   obtain⟨p,hp,rfl⟩:=AAJ.mp c;exact P p hp z) a1 a2
  have md:=MM A t1 t2 B;have G:=OG ((d l k).1.pr false) (by omega);have b2:=OG ((d h m).1.pr false) (by omega);have bs:=Vr G b2;obtain⟨t0,ht⟩:=(FM _).mp λp hp=>md _ (AAJ.mpr ⟨p,hp,rfl⟩);ac_rfl;show Br [.lst (first.map Al), .int (K7 false)] _;refine MY rfl (λp hp=>(d p hp).1) (by omega) u e1 e2 (by omega) (by omega) (G.mono (by omega)) (b2.mono (by omega)) ?_;generalize (CU (l.pr false)+CU (h.pr false))/2=s at *;have Z3:(0:Int)<s.den:=by exact_mod_cast s.den_pos
  have I:∀q∈(DB w).map (CJ false s),BO (N+(2*(2*(N)+4)+4)+1) q:=λq c=>by obtain⟨p,hp,rfl⟩:=AAJ.mp c;exact bB (r p hp).1 bs
  have T:∀q∈(DB w).map (CJ false s),q.s=0\/q.s=1:=λq c=>(I q c).s;have lq:((DB w).map (CJ false s)).length<=1000:=by rw[AAL,Gm];decide
  have n0:∃p∈(DB w).map (CJ false s),0<(p.pr true).c1*1:=by obtain⟨p,hp,z⟩:=y;refine⟨_,AAJ.mpr ⟨p,hp,rfl⟩, ?_⟩;show 0<(s.den:Int)*p.c2*1;rw[ABc];exact ABL Z3 z
  have n1:∃p∈(DB w).map (CJ false s),0<(p.pr true).c1 * -1:=by obtain⟨p,hp,z⟩:=j4;refine⟨_,AAJ.mpr ⟨p,hp,rfl⟩, ?_⟩;show 0<(s.den:Int)*p.c2 * -1;rw[show (s.den:Int)*p.c2 * -1=s.den * -p.c2 by grind];exact ABL Z3 (by omega)
  obtain⟨l',U,X,gl',Y⟩:=Dx (a:=true) (.inl rfl) T n0;obtain⟨h',Z,mh',gh',t2'⟩:=Dx (a:=true) (.inr rfl) T n1;have md':=MM (λq c=>by
   obtain⟨p,hp,rfl⟩:=AAJ.mp c;exact T p hp) Y t2' (t0:=t0) λq c=>by obtain⟨q',Tv,rfl⟩:=AAJ.mp c;obtain⟨p,hp,rfl⟩:=AAJ.mp Tv;exact Be.mpr (ht p hp)
  have C:=OG ((I l' X).pr true) (by omega);have D:=OG ((I h' mh').pr true) (by omega);have bt:=Vr C D;have b:=qm s _ ((hh s _).mp λp hp=>Be.mp (md' _ (AAJ.mpr ⟨_,AAJ.mpr ⟨p,hp,rfl⟩,rfl⟩))) (bs.mono (by omega)) (bt.mono (by omega));ac_rfl;refine⟨by rw[Gm];decide, ?_⟩;refine M4 Al Al (CJ false s) (λp=>p∈DB w) (λp hp R F=> ?_) (DB w) [] (λp hp=>hp) ?_
  .ac_rfl;show Cz [Al p, .int (K7 false),fr s] _;exact Q5 (r p hp).1 bs (by omega) (by omega) F
  rw[AAr];generalize (DB w).map (CJ false s)=qs at *;ac_rfl;show Br [.lst (qs.map Al), .int (K7 true)] _;refine MY rfl I (by omega) lq U Z (by omega) (by omega) (C.mono (by omega)) (D.mono (by omega)) ?_;generalize (CU (l'.pr true)+CU (h'.pr true))/2=t at *;ac_rfl;exact b
 .have x:¬∃s t,UE w s t:=by
   rintro⟨s,t,o⟩;have B:=(FM s).mpr ⟨t,(hh s t).mpr o⟩;rcases hp with⟨hp,z⟩|rfl
   .have:=(MO z (j p hp) s).mp (B p hp);rw[this] at H;cases H
   .have:=cn.mpr ⟨s,B l k,B h m⟩;have E:Fc ⟨-(h.pr false).c1*(l.pr false).c0+(l.pr false).c1*(h.pr false).c0, -(h.pr false).c1*(l.pr false).c1+(l.pr false).c1*(h.pr false).c1,max (l.pr false).s (h.pr false).s,(Au false l h).w⟩=true:=H;rw[this] at E;cases E
  have v:Za 4 (2*(2*(N)+4)+4) p.w:=by
   rcases hp with⟨hp,z⟩|rfl
   .have J:=(d p hp).2;exact⟨λe he=>⟨(J.p e he).1,Ao (J.p e he).2 (by omega)⟩,by have:=J.l;omega,J.n⟩
   .exact cw.2
  have sp:Mx w p/\p.c1=0/\p.c2=0:=by
   rcases hp with⟨hp,z⟩|rfl
   .exact ⟨(st p hp).1,z,(st p hp).2⟩
   .refine ⟨Kb (st l k).1 (st h m).1 (j l k) (j h m), ?_, ?_⟩
    .show -(h.pr false).c1*l.c1+(l.pr false).c1*h.c1=0;show -h.c1*l.c1+l.c1*h.c1=0;grind
    .show -(h.pr false).c1*l.c2+(l.pr false).c1*h.c2=0;rw[(st l k).2,(st h m).2];grind
  have P:p.c0<0\/(p.c0=0/\p.s=1):=by have:decide (p.c0<0\/(p.c0=0/\p.s=1))=true:=H;exact AA9 this
  have b:=λns pm pw=>K x _ (cast (congrArg (λn=>ZT n w _) (by omega:2*(2*N+4)+4+1=4*N+13)) (ab (ns:=ns) sp.1 v.p (by have:=v.l;omega) sp.2.1 sp.2.2 P v.n pm pw));ac_rfl;refine UY v.p v.n (by have:=v.l;omega) (by omega) λns pm pw=> ?_;have b:=b ns pm pw;rw[Yn] at b;ac_rfl;exact b
def QS {a:Type}:Nat->zy a->zy (Nat×a)
 | _, [] => []
 | k,x::xs=>(k,x)::QS (k+1) xs
theorem M7 {a:Type}:∀(k:Nat) (xs:zy a),(QS k xs).length=xs.length
 | _, [] =>rfl
 | k,x::xs=>by simp[QS,M7 (k+1) xs]
theorem HD {a:Type}(g:a->PV):∀(k:Nat) (xs:zy a),DV k (xs.map g)=(QS k xs).map λp=> .tup [.int p.1,g p.2]
 | _, [] =>rfl
 | k,x::xs=>by have:=HD g (k+1) xs;simp only[AAM,DV,QS];rw[<-this]
def Df (cs a:zy C4)(b e:T3)(d:Rat×Rat)(p q:C4×C4):Wd:=⟨p.1,p.2,q.1,q.2,szs b e d,b.2.2,e.2.2⟩
def wrow (x:Nat×Nat×Wd):PV:= .tup [.int x.1, .int x.2.1,XD x.2.2]
def ck (cs a:zy C4)(b e:T3)(d:Rat×Rat):zy (Nat×Nat×Wd):=(QS 0 (KM cs)).flatMap λp=>(QS 0 (KM a)).map λq=>(p.1,q.1,Df cs a b e d p.2 q.2)
def VN {cs:zy C4}{b:T3}{v:PV}(h:OW cs b v):∃p w,Hi cs p/\S9 b w/\∀{R:PV->Prop},(R p->Ah v (.int 0) R)/\(R w->Ah v (.int 1) R):=by
 obtain⟨p,w,h1,h2,rfl|rfl⟩:=h
 .exact ⟨p,w,h1,h2,id,id⟩
 .exact ⟨p,w,h1,h2,id,id⟩
def Ue {cs a:zy C4}{b e:T3}{d:Rat×Rat}{v w u:PV}{B:Nat}(hv:OW cs b v)(hw:OW a e w)(hu:ZI d u)(I:Ga 100 b)(J:Ga 100 e)(K:Bd 100 d.1)(b2:Bd 100 d.2)(hc:∀c∈cs,K3 B c)(L:XS cs)(h2:2<=cs.length)(hl:cs.length<=100)(M:∀c∈a,K3 B c)(N:XS a)(O:2<=a.length)(W:a.length<=100)(F:6*B+3<=3900){Q:PV->Prop}(q:Q (.lst ((ck cs a b e d).map wrow))):CO [v,w,u] Q:=by
 have sz:=λ{Q}=>We (Q:=Q) hv hw hu I J K b2;obtain⟨X,Y,m,n,j⟩:=VN hv;obtain⟨Z,w2,o,r,k⟩:=VN hw;have s:(KM cs).length<=100:=by unfold KM;simp;omega
 have t:(KM a).length<=100:=by unfold KM;simp;omega
 apply Li;ac_rfl;refine sz ?_;ac_rfl;refine j.2 ?_;ac_rfl;refine(VE n).2.2 ?_;ac_rfl;refine k.2 ?_;ac_rfl;refine(VE r).2.2 ?_;ac_rfl;refine k.1 ?_;ac_rfl;refine WE o M N O (by omega) F ?_;ac_rfl;refine j.1 ?_;ac_rfl;refine WE m hc L h2 (by omega) F ?_;ac_rfl;show Cd _ _ _ (DV 0 ((KM cs).map λp=>Bg p.1 p.2)) _;rw[HD];unfold ck at q;have P:(QS 0 (KM cs)).length<=100:=by rw[M7];exact s
 have y:(QS 0 (KM a)).length<=100:=by rw[M7];exact t
 have z:DV 0 ((KM a).map λp=>Bg p.1 p.2)=(QS 0 (KM a)).map λp=> .tup [.int p.1,Bg p.2.1 p.2.2] :=HD _ 0 _;generalize (QS 0 (KM cs))=us1 at *;generalize (QS 0 (KM a))=us2 at *;generalize hP:((KM a).map λp=>Bg p.1 p.2)=P2 at *;refine CC (λp:Nat×C4×C4=> .tup [.int p.1,Bg p.2.1 p.2.2]) (λg vs τ=>∃C D h f,τ= [some (.val v),some (.val w),some (.val u),some (.val (.lst [fr (szs b e d).1,fr (szs b e d).2.1,fr (szs b e d).2.2])),some (.val (.tup [fr b.2.2,fr e.2.2])),some (.val (.lst P2)),some (.own ((g.flatMap λp=>us2.map λq=>(p.1,q.1,Df cs a b e d p.2 q.2)).map wrow)),C,D,h,f]) ?_ ?_ ⟨none,none,none,none,rfl⟩
 .rintro τ ⟨C,D,h,f,rfl⟩;ac_rfl;exact q
 .rintro g p vs S τ R G ⟨C,D,h,f,rfl⟩;have ul:g.length<=100:=by have:=congrArg List.length S;simp at this;omega
  ac_rfl;show Cd _ _ _ (DV 0 P2) _;rw[z];refine CC (λp:Nat×C4×C4=> .tup [.int p.1,Bg p.2.1 p.2.2]) (λi xs τ=>∃h f,τ= [some (.val v),some (.val w),some (.val u),some (.val (.lst [fr (szs b e d).1,fr (szs b e d).2.1,fr (szs b e d).2.2])),some (.val (.tup [fr b.2.2,fr e.2.2])),some (.val (.lst P2)),some (.own (((g.flatMap λp=>us2.map λq=>(p.1,q.1,Df cs a b e d p.2 q.2))++i.map λq=>(p.1,q.1,Df cs a b e d p.2 q.2)).map wrow)),some (.val (.int p.1)),some (.val (Bg p.2.1 p.2.2)),h,f]) ?_ ?_ ⟨h,f,by simp⟩
  .rintro τ ⟨h,f,rfl⟩;exact G _ ⟨some (.val (.int p.1)),some (.val (Bg p.2.1 p.2.2)),h,f,by simp[List.flatMap_append]⟩
  .rintro i x xs E τ R' H ⟨h,f,rfl⟩;have wl:i.length<=100:=by have:=congrArg List.length E;simp at this;omega
   have l:=H [some (.val v),some (.val w),some (.val u),some (.val (.lst [fr (szs b e d).1,fr (szs b e d).2.1,fr (szs b e d).2.2])),some (.val (.tup [fr b.2.2,fr e.2.2])),some (.val (.lst P2)),some (.own (((g.flatMap λp=>us2.map λq=>(p.1,q.1,Df cs a b e d p.2 q.2))++(i ++ [x]).map λq=>(p.1,q.1,Df cs a b e d p.2 q.2)).map wrow)),some (.val (.int p.1)),some (.val (Bg p.2.1 p.2.2)),some (.val (.int x.1)),some (.val (Bg x.2.1 x.2.2))] ⟨_,_,rfl⟩;clear H G;have T:∀A:zy (Nat×Nat×Wd),(A++(i ++ [x]).map λq=>(p.1,q.1,Df cs a b e d p.2 q.2)).map wrow=(A++i.map λq=>(p.1,q.1,Df cs a b e d p.2 q.2)).map wrow ++ [wrow (p.1,x.1,Df cs a b e d p.2 x.2)] :=λA=>by simp
   rw[T] at l;have len:(((g.flatMap λp=>us2.map λq=>(p.1,q.1,Df cs a b e d p.2 q.2))++i.map λq=>(p.1,q.1,Df cs a b e d p.2 q.2)).map wrow).length<=10100:=by
    have:(g.flatMap λp=>us2.map λq=>(p.1,q.1,Df cs a b e d p.2 q.2)).length<=100*100:=by
     rw[ADS];have:∀g:zy (Nat×C4×C4),(g.map λp=>(us2.map λq=>(p.1,q.1,Df cs a b e d p.2 q.2)).length).sum=g.length*us2.length:=λg=>by
      induction g with
      | nil=>simp
      | cons x g U=>simp[AAM,AAh,AB5] at U ⊢;omega
     rw[this];exact ACl ul y
    simp only[AAL,AAy];omega
   generalize (((g.flatMap λp=>us2.map λq=>(p.1,q.1,Df cs a b e d p.2 q.2))++i.map λq=>(p.1,q.1,Df cs a b e d p.2 q.2)).map wrow)=told at *;ac_rfl;refine⟨MJ len (by decide), ?_⟩;ac_rfl;exact l
def F5 (x:(Nat×Nat×Wd)×zy (Int×Rat)):PV:= .tup [.int x.1.1, .int x.1.2.1,Nq x.2]
def Qr {v w u:PV}{L:zy (Nat×Nat×Wd)}(hw:∀{Q:PV->Prop},Q (.lst (L.map wrow))->CO [v,w,u] Q)(hl:L.length<=10100){N:Nat}(hN:N<=770)(p:∀x∈L,Yu N x.2.2){Q:PV->Prop}(r:(∀x∈L,¬∃s t,UE x.2.2 s t)->∀ps:zy (zy (Int×Rat)),L.length=ps.length->(∀y∈L.zip ps,ZT (4*N+13) y.1.2.2 y.2)->Q (.tup [.str "apart", .tup ((L.zip ps).map F5)]))(z:∀x∈L,∀s t,UE x.2.2 s t->Bd (4*N+12) s->Bd (10*N+30) t->Q (.tup [.str "meet",fr s,fr t])):Bc [v,w,u] Q:=by
 apply Pd;ac_rfl;refine hw ?_;ac_rfl;refine CC wrow (λa vs τ=>(∀x∈a,¬∃s t,UE x.2.2 s t)/\∃(ps:zy (zy (Int×Rat))) (c d f g h:zt AV),a.length=ps.length/\(∀y∈a.zip ps,ZT (4*N+13) y.1.2.2 y.2)/\τ= [some (.val v),some (.val w),some (.val u),some (.own ((a.zip ps).map F5)),c,d,f,g,h]) ?_ ?_ ⟨by simp, [],_,_,_,_,_,rfl,by simp,rfl⟩
 .rintro τ ⟨i,ps,c,d,f,g,h,hl,hp,rfl⟩;have b:=r i ps hl hp;ac_rfl;exact b
 .rintro a x vs e τ R j ⟨i,ps,c,d,f,g,h,l,A,rfl⟩;have mx:x∈L:=by rw[<-e];simp
  have ul:a.length<=10100:=by have:=congrArg List.length e;simp at this;omega
  have k:=z x mx;unfold wrow;ac_rfl;refine Qq (p x mx) hN (λnx rows hp=> ?_) (λs t o bs bt=> ?_)
  .have m:(a ++ [x]).zip (ps ++ [rows])=a.zip ps ++ [(x,rows)] :=by rw[List.zip_append l];rfl
   have b:=j [some (.val v),some (.val w),some (.val u),some (.own ((a.zip ps).map F5 ++ [F5 (x,rows)])),some (.val (.int x.1)),some (.val (.int x.2.1)),some (.val (XD x.2.2)),some (.val .non),some (.val (Nq rows))] ⟨λy hy=>by
    rcases AAQ.mp hy with hy|hy
    .exact i y hy
    .rw [AAd.mp hy];exact nx,ps ++ [rows],_,_,_,_,_,by simp[l],λy hy=>by
    rw[m] at hy;rcases AAQ.mp hy with hy|hy
    .exact A y hy
    .rw [AAd.mp hy];exact hp,by rw[m,AB8];rfl⟩
   clear j;have B:((a.zip ps).map F5).length<=10100:=by rw[AAL,List.length_zip];omega
   generalize (a.zip ps).map F5=told at *;unfold F5 Nq at b;unfold Nq;ac_rfl;refine⟨MJ (n:=10100) (by omega) (by decide), ?_⟩;ac_rfl;exact b
  .clear j;ac_rfl;exact k s t o bs bt
end PL
namespace PL.K34
open PySem L2 PL PyProof.Rows
open PL.K31
abbrev El:AS:=
 (Ay (Ap (AB (AX Cj (Ap (AB (aV 0) AM)) (aV 2)) (AB (AX Cj (Ap (AB (AN 2 A9 (AB (aV 0) (AB (aV 1) AM))) AM)) (aV 2)) AM))))
def BD:AF:=At 3 El
def HN {a b c:PV}{Q:PV->Prop}(h:El ⟨λ_=>Q .non,Q,λ_=>False,λ_=>False⟩ [some (.val a),some (.val b),some (.val c)]):BD [a,b,c] Q:=h
abbrev IC:AS:=
 (Ab (As (AX Ah (Mz (HB (AB (aC (.str "apart")) (AB (aC (.str "meet")) AM)))) (K6 QY (AB (AX Uj (AX Ah (aV 12) (aC (.int 0))) (aC (.int 0))) AM))) (Av 17))
   (Dh (VA (BP (AX XW (AX Ah (AN 3 Bc (AB (aV 20) (AB (aV 21) (AB (aV 3) AM)))) (aC (.int 0))) (aV 17))) (BP (AX XW (AX Ah (AN 3 Bc (AB (aV 21) (AB (aV 20) (AB (aV 3) AM)))) (aC (.int 0))) (aV 17)))) (Ay (aC (.bl false))) B6))
abbrev IB:AS:=
 (Ab (As (Ap (AB (AN 3 BD (AB (aV 6) (AB (aV 14) (AB (aV 19) AM)))) (AB (AX Ah (aV 4) (aC (.int 1))) AM))) (Av 21))
   IC)
abbrev IA:AS:=
 (Ab (As (Ap (AB (AN 3 BD (AB (aV 6) (AB (aV 13) (AB (aV 5) AM)))) (AB (AX Ah (aV 4) (aC (.int 0))) AM))) (Av 20))
   IB)
abbrev Hz:AS:=
 (Ab (As (AX Cj (AX Cj (cK (aV 5) cM (cN (aV 7))) (Ap (AB (AN 2 A9 (AB (AX Ah (aV 5) (aV 7)) (AB (aV 18) AM))) AM))) (cK (aV 5) (cN (AX Cj (aV 7) (aC (.int 1)))) cM)) (Av 19))
   IA)
abbrev Mb:AS:=
 (Ab (As (AN 2 Bm (AB (Ap (AB (aV 15) (AB (aC (.int 1)) AM))) (AB (AN 2 A9 (AB (aV 10) (AB (aV 12) AM))) AM))) (Av 18))
   Hz)
abbrev IE:AS:=
 (Ab (As (AX Ah (Mz (HB (AB (aC (.str "apart")) (AB (aC (.str "meet")) AM)))) (K6 QY (AB (AX Uj (AX Ah (aV 12) (aC (.int 0))) (aC (.int 0))) AM))) (Av 17))
   (Dh (VA (BP (AX XW (AX Ah (AN 3 Bc (AB (aV 20) (AB (aV 16) (AB (aV 3) AM)))) (aC (.int 0))) (aV 17))) (BP (AX XW (AX Ah (AN 3 Bc (AB (aV 16) (AB (aV 20) (AB (aV 3) AM)))) (aC (.int 0))) (aV 17)))) (Ay (aC (.bl false))) B6))
abbrev ID:AS:=
 (Ab (As (Ap (AB (AN 3 BD (AB (AN 2 A9 (AB (aV 11) (AB (aV 12) AM))) (AB (aV 14) (AB (aV 5) AM)))) (AB (AX Ah (aV 4) (aC (.int 1))) AM))) (Av 16))
   IE)
abbrev Mc:AS:=
 (Ab (Fa (Ob (Mz (HB (AB (aC (.int 1)) (AB (Uh IY (aC (.int 1))) AM))))) (Av 15) Mb)
   ID)
abbrev G6:AS:=
 (Ab (As (AN 2 A9 (AB (AN 2 A9 (AB (aV 6) (AB (aV 13) AM))) (AB (AX Ah (AX Ah (aV 4) (aC (.int 0))) (aC (.int 2))) AM))) (Av 11))
   (Fa (Ob (Mz (HB (AB (Ap (AB (aC (.int 0)) (AB (aC (.int 1)) AM))) (AB (Ap (AB (aC (.int 1)) (AB (aC (.int 1000)) AM))) (AB (Ap (AB (Uh IY (aC (.int 1))) (AB (aC (.int 1000)) AM))) (AB (Ap (AB (aC (.int 1)) (AB (AX Zm (aC (.int 10)) (aC (.int 19))) AM))) (AB (Ap (AB (Uh IY (aC (.int 1))) (AB (AX Zm (aC (.int 10)) (aC (.int 19))) AM))) AM)))))))) (Av 12) Mc))
abbrev IN:AS:=
 (Ab (As (AN 2 A9 (AB (AX Ah (aV 3) (aV 8)) (AB (aV 9) AM))) (Av 10))
   G6)
abbrev IM:AS:=
 (Ab (As (AN 2 A9 (AB (AX Ah (AX Ah (aV 4) (aC (.int 0))) (aV 8)) (AB (AX Ah (AX Ah (aV 4) (aC (.int 1))) (aV 8)) AM))) (Av 9))
   IN)
abbrev IL:AS:=
 (Ab (As (K6 QY (AB (AX Ui (aV 7) (aC (.int 2))) AM)) (Av 8))
   IM)
abbrev IK:AS:=
 (Ab (As (AN 2 BV (AB (aV 2) (AB (aC (.int 3)) AM))) (Av 7))
   IL)
abbrev IJ:AS:=
 (Ab (Oa 13 14 (AB (AN 1 Bn (AB (aV 2) AM)) (AB (AN 1 Bn (AB (aV 2) AM)) AM)))
   IK)
abbrev II:AS:=
 (Ab (As (AN 1 BJ (AB (aV 2) AM)) (Av 6))
   IJ)
abbrev IH:AS:=
 (Ab (As (Ap (AB (AN 1 BJ (AB (aV 2) AM)) (AB (AN 1 BJ (AB (aV 2) AM)) (AB (AN 1 BJ (AB (aV 2) AM)) AM)))) (Av 5))
   II)
abbrev IG:AS:=
 (Ab (As (Mz (HB (AB (AN 1 Bb (AB (aV 2) AM)) (AB (AN 1 Bb (AB (aV 2) AM)) AM)))) (Av 4))
   IH)
abbrev IF:AS:=
 (Ab (As (AN 1 CW (AB (aV 2) AM)) (Av 3))
   IG)
abbrev Md:AS:=
 (Ab (As (AN 2 Jb (AB (aV 0) (AB (aV 1) AM))) (Av 2))
   IF)
abbrev Lp:AS:=
 (Ab (Fa (TN (AB (AX Cj (aC (.int 1)) (K6 (Zt min) (AB (aC (.int 4)) (AB (K6 QZ (AB (aV 0) AM)) AM)))) AM)) (Av 1) Md)
   (Ay (aC (.bl true))))
def DM:AF:=At 22 Lp
def Pa {a:PV}{Q:PV->Prop}(h:Lp ⟨λ_=>Q .non,Q,λ_=>False,λ_=>False⟩ [some (.val a),none,none,none,none,none,none,none,none,none,none,none,none,none,none,none,none,none,none,none,none,none]):DM [a] Q:=h
def A8 (m l:Rat)(x:T3):zy C4:= [(m,x.1,x.2.1,x.2.2),(m+l,x.1,x.2.1,x.2.2)]
def Lz (m l a l' b e:Rat):Prop:=∃s t,m<=s/\s<m+l/\a<=t/\t<a+l'/\t-s<=b/\s-t<=e
def Ef (x y z:Rat):Prop:=x-y<z/\ -z<x-y
def Et (m l c l':Rat)(x a b e:T3)(d:Rat×Rat):Prop:=Lz m l c l' b.2.2 e.2.2/\Ef x.1 a.1 (szs b e d).1/\Ef x.2.1 a.2.1 (szs b e d).2.1/\Ef x.2.2 a.2.2 (szs b e d).2.2
def bP {a b c:Rat}(hb:b.den=1)(hc:c.den=1):EZ [a,b,c] =a.den:=by unfold EZ;simp only[AA1,List.foldl_nil,hb,hc,Nat.gcd_one_left,Nat.gcd_one_right,Nat.div_one,Nat.one_mul,Nat.mul_one]
def Wh {b e:C4}{x:Rat}:Uq b e x x=0:=by unfold Uq;rw[Rat.sub_self,Rat.div_def,Rat.zero_mul]
def L0 {b e:C4}{x:Rat}:W6 b e x x=x:=by unfold W6;rw[Wh];grind
def UF {w:Wd}(h:∀k,sl w k=0)(h':∀k,UT w k=0)(s t:Rat):UE w s t↔(w.b.1<=s/\s<w.e.1/\w.b'.1<=t/\t<w.e'.1/\t-s<=w.l/\s-t<=w.l')/\∀k<3,Ef (ba w k) (Ro w k) (sz w k):=by
 have c:∀x:Rat,0<x\/(x=0/\(1:Int)=0)↔0<x:=λx=>⟨λz=>by rcases z with z|z;exact z;omega, .inl⟩;constructor
 .intro o;refine⟨Vs o,λk hk=> ?_⟩;have cs:k=0\/k=1\/k=2:=by omega
  have i:=o 6 (by decide);have j:=o 7 (by decide);have m:=o 8 (by decide);have p:=o 9 (by decide);have d:=o 10 (by decide);have f:=o 11 (by decide);rw[show strN 6=1 from rfl,c] at i;rw[show strN 7=1 from rfl,c] at j;rw[show strN 8=1 from rfl,c] at m;rw[show strN 9=1 from rfl,c] at p;rw[show strN 10=1 from rfl,c] at d;rw[show strN 11=1 from rfl,c] at f;simp only[Aa,h,h'] at i j m p d f;unfold Ef;rcases cs with rfl|rfl|rfl
  .exact ⟨by grind,by grind⟩
  .exact ⟨by grind,by grind⟩
  .exact ⟨by grind,by grind⟩
 .rintro ⟨⟨y,A,B,C,D,E⟩,g⟩ n F;have r:=g 0 (by decide);have u:=g 1 (by decide);have v:=g 2 (by decide);unfold Ef at r u v;have a:∀x:Rat,0<=x->0<x\/(x=0/\(0:Int)=0):=λx hx=>by
   rcases Rat.le_iff_lt_or_eq.mp hx with z|z
   .exact .inl z
   .exact .inr ⟨z.symm,rfl⟩
  have cs:n=0\/n=1\/n=2\/n=3\/n=4\/n=5\/n=6\/n=7\/n=8\/n=9\/n=10\/n=11:=by omega
  rcases cs with rfl|rfl|rfl|rfl|rfl|rfl|rfl|rfl|rfl|rfl|rfl|rfl <;> simp only[Aa,h,h']
  .exact a _ (by grind)
  .left;grind
  .exact a _ (by grind)
  .left;grind
  .exact a _ (by grind)
  .exact a _ (by grind)
  .left;grind
  .left;grind
  .left;grind
  .left;grind
  .left;grind
  .left;grind
structure Mw (M L:Rat) (X:T3):Prop where
 m:Bd 119 M
 e:Bd 119 (M+L)
 x:Ga 119 X
 p:0<L
def Ya {m l c l':Rat}{x a b e:T3}{d:Rat×Rat}(h:Mw m l x)(h':Mw c l' a)(hb:Ga 8 b)(he:Ga 8 e)(u:Bd 8 d.1)(I:Bd 8 d.2):Jf 119 (Df (A8 m l x) (A8 c l' a) b e d ((m,x.1,x.2.1,x.2.2),(m+l,x.1,x.2.1,x.2.2)) ((c,a.1,a.2.1,a.2.2),(c+l',a.1,a.2.1,a.2.2)))/\ (∀n<12,EZ [(Aa (Df (A8 m l x) (A8 c l' a) b e d ((m,x.1,x.2.1,x.2.2),(m+l,x.1,x.2.1,x.2.2)) ((c,a.1,a.2.1,a.2.2),(c+l',a.1,a.2.1,a.2.2))) n).1,(Aa (Df (A8 m l x) (A8 c l' a) b e d ((m,x.1,x.2.1,x.2.2),(m+l,x.1,x.2.1,x.2.2)) ((c,a.1,a.2.1,a.2.2),(c+l',a.1,a.2.1,a.2.2))) n).2.1,(Aa (Df (A8 m l x) (A8 c l' a) b e d ((m,x.1,x.2.1,x.2.2),(m+l,x.1,x.2.1,x.2.2)) ((c,a.1,a.2.1,a.2.2),(c+l',a.1,a.2.1,a.2.2))) n).2.2] < 2^359)/\ ((∃s t,UE (Df (A8 m l x) (A8 c l' a) b e d ((m,x.1,x.2.1,x.2.2),(m+l,x.1,x.2.1,x.2.2)) ((c,a.1,a.2.1,a.2.2),(c+l',a.1,a.2.1,a.2.2))) s t)↔Et m l c l' x a b e d):=by
 generalize hw:Df (A8 m l x) (A8 c l' a) b e d ((m,x.1,x.2.1,x.2.2),(m+l,x.1,x.2.1,x.2.2)) ((c,a.1,a.2.1,a.2.2),(c+l',a.1,a.2.1,a.2.2))=w;have j:∀k,sl w k=0:=λk=>by subst hw;unfold sl;split <;> exact Wh
 have p:∀k,UT w k=0:=λk=>by subst hw;unfold UT;split <;> exact Wh
 have f:ba w 0=x.1/\ba w 1=x.2.1/\∀k,ba w (k+2)=x.2.2:=by subst hw;exact⟨L0,L0,λk=>L0⟩
 have g:Ro w 0=a.1/\Ro w 1=a.2.1/\∀k,Ro w (k+2)=a.2.2:=by subst hw;exact⟨L0,L0,λk=>L0⟩
 have i:sz w 0=(szs b e d).1/\sz w 1=(szs b e d).2.1/\∀k,sz w (k+2)=(szs b e d).2.2:=by subst hw;exact⟨rfl,rfl,λk=>rfl⟩
 have v:∀y:Rat,Bd 8 y->Bd 119 y:=λy h=>h.mono (by decide);have zero:Bd 119 (0:Rat):=Bd.mono (m:=2) (by constructor <;> decide) (by decide);have ok:Jf 119 w:=by
  refine⟨?_, ?_, ?_, ?_, ?_, ?_, ?_,λk=>by rw[j];exact zero,λk=>by rw[p];exact zero, ?_, ?_⟩
  .subst hw;exact h.m
  .subst hw;exact h.e
  .subst hw;exact h'.m
  .subst hw;exact h'.e
  .subst hw;exact v _ hb.z
  .subst hw;exact v _ he.z
  .intro k;rcases k with _|_|k
   .rw [i.1];exact(u.add (hb.x.add he.x)).mono (by decide)
   .rw [i.2.1];exact(u.add (hb.x.add he.x)).mono (by decide)
   .rw [i.2.2];exact(I.add (hb.y.add he.y)).mono (by decide)
  .intro k;rcases k with _|_|k
   .rw [f.1];exact h.x.x
   .rw [f.2.1];exact h.x.y
   .rw [f.2.2];exact h.x.z
  .intro k;rcases k with _|_|k
   .rw [g.1];exact h'.x.x
   .rw [g.2.1];exact h'.x.y
   .rw [g.2.2];exact h'.x.z
 refine⟨ok,λn M=> ?_, ?_⟩
 .have A:(Aa w n).2.1.den=1/\(Aa w n).2.2.den=1:=by unfold Aa;split <;> simp only[j,p] <;> exact⟨rfl,rfl⟩
  rw[bP A.1 A.2];exact(C1 ok n).1.bot
 .have B:=λs t=>UF j p s t;unfold Et Lz;rw[<-i.1,<-i.2.1,<-i.2.2 0,<-f.1,<-f.2.1,<-f.2.2 0,<-g.1,<-g.2.1,<-g.2.2 0];have ew:w.b.1=m/\w.e.1=m+l/\w.b'.1=c/\w.e'.1=c+l'/\w.l=b.2.2/\w.l'=e.2.2:=by subst hw;exact⟨rfl,rfl,rfl,rfl,rfl,rfl⟩
  obtain⟨C,D,E,F,G,H⟩:=ew;constructor
  .rintro ⟨s,t,o⟩;obtain⟨tm,r⟩:=(B s t).mp o;rw[C,D,E,F,G,H] at tm;exact⟨⟨s,t,tm⟩,r 0 (by decide),r 1 (by decide),r 2 (by decide)⟩
  .rintro ⟨⟨s,t,tm⟩,J,K,L⟩;refine⟨s,t,(B s t).mpr ⟨?_,λk hk=> ?_⟩⟩
   .rw [C,D,E,F,G,H];exact tm
   .have cs:k=0\/k=1\/k=2:=by omega
    rcases cs with rfl|rfl|rfl
    .exact J
    .exact K
    .exact L
def Pp {m l:Rat}{x:T3}(h:0<l):XS (A8 m l x):=by unfold XS A8;simp only[AAf,AAd,forall_eq,AA0,false_implies,implies_true,List.Pairwise.nil,and_true];grind
def UU {m l f l':Rat}{x a b e:T3}{d:Rat×Rat}(h:Mw m l x)(h':Mw f l' a)(hb:Ga 8 b)(he:Ga 8 e)(i:Bd 8 d.1)(j:Bd 8 d.2){Q:PV->Prop}(n:¬Et m l f l' x a b e d->∀z,Q (.tup [.str "apart",z]))(r:Et m l f l' x a b e d->∀s t:Rat,Q (.tup [.str "meet",fr s,fr t])):Bc [VL (A8 m l x) b,VL (A8 f l' a) e, .tup [fr d.1,fr d.2]] Q:=by
 obtain⟨ok,u,g⟩:=Ya h h' hb he i j;have v:Ga 100 b:=hb.mono (by decide);have w:Ga 100 e:=he.mono (by decide);have k:∀{m l:Rat} {x:T3},Mw m l x->∀c∈A8 m l x,K3 119 c:=λ{m l x} h c hc=>by
  have hc:c=(m,x.1,x.2.1,x.2.2)\/c=(m+l,x.1,x.2.1,x.2.2):=by simpa[A8] using hc
  rcases hc with rfl|rfl
  .exact ⟨h.m,h.x.x,h.x.y,h.x.z⟩
  .exact ⟨h.e,h.x.x,h.x.y,h.x.z⟩
 refine Qr (L:=ck (A8 m l x) (A8 f l' a) b e d) (λ{Q} q=>Ue (B:=119) (VM _ _) (VM _ _) (.inl rfl) v w (i.mono (by decide)) (j.mono (by decide)) (k h) (Pp h.p) (by simp[A8]) (by simp[A8]) (k h') (Pp h'.p) (by simp[A8]) (by simp[A8]) (by decide) q) (by simp[ck,QS,KM,A8]) (N:=3*119+2+359) (by decide) ?_ ?_ ?_
 .intro y hy;obtain rfl:y=(0,0,Df (A8 m l x) (A8 f l' a) b e d ((m,x.1,x.2.1,x.2.2),(m+l,x.1,x.2.1,x.2.2)) ((f,a.1,a.2.1,a.2.2),(f+l',a.1,a.2.1,a.2.2))):=by simpa[ck,QS,KM,A8] using hy
  exact Yu.of ok (by decide) u
 .intro A ps _ _;refine n (λz=> ?_) _;refine A _ (AA2.mpr ⟨_,AA4 ..,AAJ.mpr ⟨_,AA4 ..,rfl⟩⟩) (g.mpr z)
 .intro y hy s t o _ _;obtain rfl:y=(0,0,Df (A8 m l x) (A8 f l' a) b e d ((m,x.1,x.2.1,x.2.2),(m+l,x.1,x.2.1,x.2.2)) ((f,a.1,a.2.1,a.2.2),(f+l',a.1,a.2.1,a.2.2))):=by simpa[ck,QS,KM,A8] using hy
  exact r (g.mp ⟨s,t,o⟩) s t
def RU {m l l' b e:Rat}(h:0<l)(h':0<l')(hb:0<=b)(he:0<=e):Lz m l m l' b e:=⟨m,m,by grind,by grind,by grind,by grind,by grind,by grind⟩
def RV {m l f l' b e:Rat}:Lz m l f l' b e↔Lz f l' m l e b:=by
 constructor
 .rintro ⟨s,t,h1,h2,h3,a,c,d⟩;exact⟨t,s,h3,a,h1,h2,d,c⟩
 .rintro ⟨s,t,h1,h2,h3,a,c,d⟩;exact⟨t,s,h3,a,h1,h2,d,c⟩
def B2 {x z:Rat}(h:0<z):Ef x x z:=⟨by grind,by grind⟩
def F2 {x y z:Rat}:Ef x y z↔Ef y x z:=by unfold Ef;grind
def J9 {x r t g:Rat}(b:1/3<=r)(c: -(1/1000)<=t)(a:g=r+t\/g= -(r+t)):Ef x (x+g) r↔t<0:=by unfold Ef;rcases a with rfl|rfl <;> grind
def Zf {l:Rat}(h:Bd 8 l)(p:0<l):1/1000<=l:=by
 have b:(l.den:Rat)≠0:=by exact_mod_cast l.den_nz
 have e:l*(l.den:Rat)=(l.num:Rat):=by have:=AAq l;rw[ACj,ACk] at this;grind
 have c:(1:Rat)<=(l.num:Rat):=by
  have:0<l.num:=by have:=Rat.num_nonneg (q:=l);have z:l.num≠0:=λz=>(by rw[Rat.num_eq_zero.mp z] at p;exact absurd p (by decide));have:=this.mpr (ADV p);omega
  exact_mod_cast this
 have a:(l.den:Rat)<=256:=by
  have:l.den<=256:=by have:=h.bot;omega
  exact_mod_cast this
 have:=Rat.mul_le_mul_of_nonneg_left a (ADV p);grind
def OF {m l l' b e t:Rat}(h:1/1000<=l)(h':0<l')(hb:0<=b)(he:0<=e)(a: -(1/1000)<=t):Lz m l (m+l+b+t) l' b e↔t<0:=by
 constructor
 .rintro ⟨s,u,h1,h2,h3,c,d,f⟩;grind
 .intro z;exact⟨m+l+t,m+l+b+t,by grind,by grind,by grind,by grind,by grind,by grind⟩
def Az {m l:Rat}{x:T3}(a:Bd 4000 m)(hl:Bd 4000 l){Q:PV->Prop}(q:Q (WC (A8 m l x))):BD [fr m,fr l,ZF x] Q:=by
 apply HN;unfold ZF;repeat' array_get_dec
 exact q
def Wq {b e:T3}{d:Rat×Rat}:szs b e d=szs e b d:=by unfold szs;rw[Rat.add_comm b.1,Rat.add_comm b.2.1]
def BX {m l a l':Rat}{x c b e:T3}{d:Rat×Rat}:Et m l a l' x c b e d↔Et a l' m l c x e b d:=by unfold Et;rw[RV,Wq,F2,F2 (x:=x.2.1),F2 (x:=x.2.2)]
def mQ (r:Int)(x:T3)(g:Rat):T3:=if r=0 then (x.1+g,x.2.1,x.2.2) else if r=1 then (x.1,x.2.1+g,x.2.2) else (x.1,x.2.1,x.2.2+g)
def kM (r:Int)(b e:T3)(d:Rat×Rat):Rat:=if r=2 then d.2+(b.2.1+e.2.1) else d.1+(b.1+e.1)
section
variable {m l l' t g:Rat}{x b e:T3}{d:Rat×Rat}(pl:0<l)(pl':0<l')(b0:0<=b.1)(b1:0<=b.2.1)(b2:0<=b.2.2)(e0:0<=e.1)(e1:0<=e.2.1)(e2:0<=e.2.2)(p1:1/3<=d.1)(p2:1/3<=d.2)(ht: -(1/1000)<=t)
include pl pl' b0 b1 b2 e0 e1 e2 p1 p2 ht
theorem Cp {r:Int}(j:r=0\/r=1\/r=2)(a:g=kM r b e d+t\/g= -(kM r b e d+t)):Et m l m l' x (mQ r x g) b e d↔t<0:=by
 have c:0<(szs b e d).1:=by show 0<d.1+(b.1+e.1);grind
 have f:0<(szs b e d).2.1:=by show 0<d.1+(b.1+e.1);grind
 have i:0<(szs b e d).2.2:=by show 0<d.2+(b.2.1+e.2.1);grind
 have T:=RU (m:=m) pl pl' b2 e2;unfold Et;rcases j with rfl|rfl|rfl
 .have:=J9 (x:=x.1) (r:=(szs b e d).1) (by show 1/3<=d.1+(b.1+e.1);grind) ht a;exact⟨λh=>this.mp h.2.1,λh=>⟨T,this.mpr h,B2 f,B2 i⟩⟩
 .have:=J9 (x:=x.2.1) (r:=(szs b e d).2.1) (by show 1/3<=d.1+(b.1+e.1);grind) ht a;exact⟨λh=>this.mp h.2.2.1,λh=>⟨T,B2 c,this.mpr h,B2 i⟩⟩
 .have:=J9 (x:=x.2.2) (r:=(szs b e d).2.2) (by show 1/3<=d.2+(b.2.1+e.2.1);grind) ht a;exact⟨λh=>this.mp h.2.2.2,λh=>⟨T,B2 c,B2 f,this.mpr h⟩⟩
theorem Ft (hl:1/1000<=l):Et m l (m+l+b.2.2+t) l' x x b e d↔t<0:=by
 have a:0<(szs b e d).1:=by show 0<d.1+(b.1+e.1);grind
 have c:0<(szs b e d).2.1:=by show 0<d.1+(b.1+e.1);grind
 have f:0<(szs b e d).2.2:=by show 0<d.2+(b.2.1+e.2.1);grind
 have:=OF (m:=m) (l:=l) (b:=b.2.2) (e:=e.2.2) hl pl' b2 e2 ht;exact⟨λh=>this.mp h.1,λh=>⟨this.mpr h,B2 a,B2 c,B2 f⟩⟩
end
def R3 (t:Rat):String:=if t<0 then "meet" else "apart"
def Bh {m l a l' t:Rat}{x c b e:T3}{d:Rat×Rat}(h:Mw m l x)(h':Mw a l' c)(hb:Ga 8 b)(he:Ga 8 e)(f:Bd 8 d.1)(g:Bd 8 d.2)(i:Et m l a l' x c b e d↔t<0){Q:PV->Prop}(q:∀z,Q (.tup (.str (R3 t)::z))):Bc [VL (A8 m l x) b,VL (A8 a l' c) e, .tup [fr d.1,fr d.2]] Q:=by
 unfold R3 at q;refine UU h h' hb he f g (λn z=> ?_) (λy s t=> ?_)
 .rw [AAD λz=>n (i.mpr z)] at q;exact q _
 .rw [AAE (i.mp y)] at q;exact q _
def DJ (t:Rat):decide (t.num<0)=decide (t<0):=by rw[AB6];have:=Rat.num_nonneg (q:=t);grind
def NQ {t:Rat}(h:t∈ [(0:Rat),1/1000, -1/1000,1/10000000000000000000, -1/10000000000000000000]):Bd 64 t/\ -(1/1000)<=t:=by simp only[AAH,AA0,ABB] at h;rcases h with rfl|rfl|rfl|rfl|rfl <;> exact⟨⟨by decide +kernel,by decide +kernel⟩,by decide +kernel⟩
def lits:([fr 0, .tup [.int 1, .int 1000], .tup [.int (-1), .int 1000], .tup [.int 1, .int (10^Int.toNat 19)], .tup [.int (-1), .int (10^Int.toNat 19)]] :zy PV)= [(0:Rat),1/1000, -1/1000,1/10000000000000000000, -1/10000000000000000000].map fr:=by kernel_rfl
def fo {a b c:PV}:Fx [a,b,c] none (some 0)= [] :=rfl
def fq {a b c:PV}:Fx [a,b,c] none (some 1)= [a] :=rfl
def ft {a b c:PV}:Fx [a,b,c] none (some 2)= [a,b] :=rfl
def fw {a b c:PV}:Fx [a,b,c] (some 1) none= [b,c] :=rfl
def fx {a b c:PV}:Fx [a,b,c] (some 2) none= [c] :=rfl
def fy {a b c:PV}:Fx [a,b,c] (some 3) none= [] :=rfl
def HG {a b:Nat}(h:a+b<=3:=by simp):a+b<=sizeLine:=AAT h (ABA rfl)
def ES (t:Rat){Q:PV->Prop}(q:Q (.str (R3 t))):Ah (.lst [.str "apart", .str "meet"]) (.int (if decide (t<0)=true then 1 else 0)) Q:=by
 unfold R3 at q;by_cases h:t<0
 .rw [AAE (by simpa using h)];rw[AAE h] at q;exact q
 .rw [AAD (by simpa using h)];rw[AAD h] at q;exact q
def Vp (ns:zy Int)(hn:ns.length<=63):DM [.scr ns] λx=>x= .bl true:=by
 apply Pa;repeat' array_get_dec
 refine R4 (λi τ=>∃z:zy (zt AV),z.length=21/\τ=some (.val (.scr ns))::z) ?_ ?_ ⟨_,rfl,rfl⟩
 .rintro τ ⟨z,hz,rfl⟩;rfl
 .rintro i hi τ R hR ⟨z,hz,rfl⟩;obtain⟨z1,z2,z3,z4,z5,z6,z7,z8,z9,Z,z11,v,z13,z14,w,A,B,C,D,E,F,rfl⟩:∃z1 z2 z3 z4 z5 z6 z7 z8 z9 Z z11 v z13 z14 w A B C D E F,z= [z1,z2,z3,z4,z5,z6,z7,z8,z9,Z,z11,v,z13,z14,w,A,B,C,D,E,F] :=by
   match z,hz with
   | [_,_,_,_,_,_,_,_,_,_,_,_,_,_,_,_,_,_,_,_,_],_=>exact⟨_,_,_,_,_,_,_,_,_,_,_,_,_,_,_,_,_,_,_,_,_,rfl⟩
  have again:∀z:zy (zt AV),z.length=21->R (some (.val (.scr ns))::z):=λz hz=>hR _ ⟨z,hz,rfl⟩;clear hR;ac_rfl;refine PL.apart_ok λd p u P Q=> ?_;ac_rfl;refine Jh λb hb S T b2=> ?_;ac_rfl;refine Jh λe he U W X=> ?_;ac_rfl;rename_i a K c L f M m bm l I J l' h j r r0 r1;have ll:=Zf I J;have hr:r=0\/r=1\/r=2:=by omega
  have bb1:=hb.x;have bb2:=hb.y;have Y:=hb.z;have be1:=he.x;have be2:=he.y;have be3:=he.z;generalize (0+(i:Int))=ii;rcases hr with rfl|rfl|rfl
  .rw [show (if decide ((0:Int)=2)=true then (1:Int) else 0)=0 from rfl];unfold ZF;ac_rfl;rw[lits];have bo:Bd 26 (d.1+(b.1+e.1)):=(p.add (bb1.add be1)).mono (by decide);have N:Bd 26 (m+l+b.2.2):=((bm.add I).add Y).mono (by decide);have s:Mw m l (a,c,f):=⟨bm.mono (by decide),(bm.add I).mono (by decide),⟨K.mono (by decide),L.mono (by decide),M.mono (by decide)⟩,J⟩;refine CC fr (λus vs τ=>∃v w A B C D E F,τ= [some (.val (.scr ns)),some (.val (.int ii)),some (.val .tape),some (.val (.tup [fr d.1,fr d.2])),some (.val (.lst [.tup [fr b.1,fr b.2.1,fr b.2.2], .tup [fr e.1,fr e.2.1,fr e.2.2]])),some (.val (.tup [fr a,fr c,fr f])),some (.val (fr m)),some (.val (.int 0)),some (.val (.int 0)),some (.val (fr (b.1+e.1))),some (.val (fr (d.1+(b.1+e.1)))),some (.val (fr (m+l+b.2.2))),v,some (.val (fr l)),some (.val (fr l')),w,A,B,C,D,E,F]) ?_ ?_ ⟨_,_,_,_,_,_,_,_,rfl⟩
   .rintro τ ⟨_,_,_,_,_,_,_,_,rfl⟩;exact again _ rfl
   .rintro us t vs et τ R' VW ⟨_,_,_,_,_,_,_,_,rfl⟩;obtain⟨bt,O⟩:=NQ (t:=t) (by rw[<-et];simp);have G:=bo.add bt;have bm1:Bd 26 ((-1:Int):Rat):=Bd.mono (m:=2) (by constructor <;> decide) (by decide);repeat' array_get_dec
    refine⟨by simp only[fo,fw];exact HG, ?_⟩;repeat' array_get_dec
    simp only[fo,fw,Int.reduceAdd,AAr,ABC];repeat' array_get_dec
    refine Az (m:=m) (l:=l) (x:=(a,c,f)) (bm.mono (by decide)) (I.mono (by decide)) ?_;repeat' array_get_dec
    refine Az (m:=m) (l:=l') (x:=((a+1*(d.1+(b.1+e.1)+t)),c,f)) (bm.mono (by decide)) (h.mono (by decide)) ?_;repeat' array_get_dec
    rw[DJ];repeat' array_get_dec
    refine ES t ?_;repeat' array_get_dec
    have k:=Cp J j S T b2 U W X P Q O (r:=0) (by decide) (x:=(a,c,f)) (g:=1*(d.1+(b.1+e.1)+t)) (by left;show _=d.1+(b.1+e.1)+t;grind) (m:=m) (l:=l) (l':=l');have H:Bd 100 (1*(d.1+(b.1+e.1)+t)):=((Bd.mono (m:=2) (n:=2) (by constructor <;> decide) (by omega)).mul G).mono (by decide);have o:Mw m l' ((a+1*(d.1+(b.1+e.1)+t)),c,f):=⟨bm.mono (by decide),(bm.add h).mono (by decide),⟨(K.add H).mono (by decide),L.mono (by decide),M.mono (by decide)⟩,j⟩;refine Bh s o hb he p u k λz=> ?_;repeat' array_get_dec
    refine Bh o s he hb p u (BX.trans k) λz=> ?_;repeat' array_get_dec
    clear k H o;repeat' array_get_dec
    refine⟨by simp only[fo,fw];exact HG, ?_⟩;repeat' array_get_dec
    simp only[fo,fw,Int.reduceAdd,AAr,ABC];repeat' array_get_dec
    refine Az (m:=m) (l:=l) (x:=(a,c,f)) (bm.mono (by decide)) (I.mono (by decide)) ?_;repeat' array_get_dec
    refine Az (m:=m) (l:=l') (x:=((a+((-1:Int):Rat)*(d.1+(b.1+e.1)+t)),c,f)) (bm.mono (by decide)) (h.mono (by decide)) ?_;repeat' array_get_dec
    rw[DJ];repeat' array_get_dec
    refine ES t ?_;repeat' array_get_dec
    have k:=Cp J j S T b2 U W X P Q O (r:=0) (by decide) (x:=(a,c,f)) (g:=((-1:Int):Rat)*(d.1+(b.1+e.1)+t)) (by right;show _= -(d.1+(b.1+e.1)+t);grind) (m:=m) (l:=l) (l':=l');have H:Bd 100 (((-1:Int):Rat)*(d.1+(b.1+e.1)+t)):=((Bd.mono (m:=2) (n:=2) (by constructor <;> decide) (by omega)).mul G).mono (by decide);have o:Mw m l' ((a+((-1:Int):Rat)*(d.1+(b.1+e.1)+t)),c,f):=⟨bm.mono (by decide),(bm.add h).mono (by decide),⟨(K.add H).mono (by decide),L.mono (by decide),M.mono (by decide)⟩,j⟩;refine Bh s o hb he p u k λz=> ?_;repeat' array_get_dec
    refine Bh o s he hb p u (BX.trans k) λz=> ?_;repeat' array_get_dec
    clear k H o;repeat' array_get_dec
    refine Az (m:=m+l+b.2.2+t) (l:=l') (x:=(a,c,f)) ((N.add bt).mono (by decide)) (h.mono (by decide)) ?_;repeat' array_get_dec
    rw[DJ];repeat' array_get_dec
    refine ES t ?_;repeat' array_get_dec
    have k:=Ft J j S T b2 U W X P Q O ll (m:=m) (x:=(a,c,f));have o:Mw (m+l+b.2.2+t) l' (a,c,f):=⟨(N.add bt).mono (by decide),((N.add bt).add h).mono (by decide),⟨K.mono (by decide),L.mono (by decide),M.mono (by decide)⟩,j⟩;refine Bh s o hb he p u k λz=> ?_;repeat' array_get_dec
    refine Bh o s he hb p u (BX.trans k) λz=> ?_;repeat' array_get_dec
    exact VW _ ⟨_,_,_,_,_,_,_,_,rfl⟩
  .rw [show (if decide ((1:Int)=2)=true then (1:Int) else 0)=0 from rfl];unfold ZF;ac_rfl;rw[lits];have bo:Bd 26 (d.1+(b.1+e.1)):=(p.add (bb1.add be1)).mono (by decide);have N:Bd 26 (m+l+b.2.2):=((bm.add I).add Y).mono (by decide);have s:Mw m l (a,c,f):=⟨bm.mono (by decide),(bm.add I).mono (by decide),⟨K.mono (by decide),L.mono (by decide),M.mono (by decide)⟩,J⟩;refine CC fr (λus vs τ=>∃v w A B C D E F,τ= [some (.val (.scr ns)),some (.val (.int ii)),some (.val .tape),some (.val (.tup [fr d.1,fr d.2])),some (.val (.lst [.tup [fr b.1,fr b.2.1,fr b.2.2], .tup [fr e.1,fr e.2.1,fr e.2.2]])),some (.val (.tup [fr a,fr c,fr f])),some (.val (fr m)),some (.val (.int 1)),some (.val (.int 0)),some (.val (fr (b.1+e.1))),some (.val (fr (d.1+(b.1+e.1)))),some (.val (fr (m+l+b.2.2))),v,some (.val (fr l)),some (.val (fr l')),w,A,B,C,D,E,F]) ?_ ?_ ⟨_,_,_,_,_,_,_,_,rfl⟩
   .rintro τ ⟨_,_,_,_,_,_,_,_,rfl⟩;exact again _ rfl
   .rintro us t vs et τ R' VW ⟨_,_,_,_,_,_,_,_,rfl⟩;obtain⟨bt,O⟩:=NQ (t:=t) (by rw[<-et];simp);have G:=bo.add bt;have bm1:Bd 26 ((-1:Int):Rat):=Bd.mono (m:=2) (by constructor <;> decide) (by decide);repeat' array_get_dec
    refine⟨by simp only[fq,fx];exact HG, ?_⟩;repeat' array_get_dec
    simp only[fq,fx,Int.reduceAdd,AAr,ABC];repeat' array_get_dec
    refine Az (m:=m) (l:=l) (x:=(a,c,f)) (bm.mono (by decide)) (I.mono (by decide)) ?_;repeat' array_get_dec
    refine Az (m:=m) (l:=l') (x:=(a,(c+1*(d.1+(b.1+e.1)+t)),f)) (bm.mono (by decide)) (h.mono (by decide)) ?_;repeat' array_get_dec
    rw[DJ];repeat' array_get_dec
    refine ES t ?_;repeat' array_get_dec
    have k:=Cp J j S T b2 U W X P Q O (r:=1) (by decide) (x:=(a,c,f)) (g:=1*(d.1+(b.1+e.1)+t)) (by left;show _=d.1+(b.1+e.1)+t;grind) (m:=m) (l:=l) (l':=l');have H:Bd 100 (1*(d.1+(b.1+e.1)+t)):=((Bd.mono (m:=2) (n:=2) (by constructor <;> decide) (by omega)).mul G).mono (by decide);have o:Mw m l' (a,(c+1*(d.1+(b.1+e.1)+t)),f):=⟨bm.mono (by decide),(bm.add h).mono (by decide),⟨K.mono (by decide),(L.add H).mono (by decide),M.mono (by decide)⟩,j⟩;refine Bh s o hb he p u k λz=> ?_;repeat' array_get_dec
    refine Bh o s he hb p u (BX.trans k) λz=> ?_;repeat' array_get_dec
    clear k H o;repeat' array_get_dec
    refine⟨by simp only[fq,fx];exact HG, ?_⟩;repeat' array_get_dec
    simp only[fq,fx,Int.reduceAdd,AAr,ABC];repeat' array_get_dec
    refine Az (m:=m) (l:=l) (x:=(a,c,f)) (bm.mono (by decide)) (I.mono (by decide)) ?_;repeat' array_get_dec
    refine Az (m:=m) (l:=l') (x:=(a,(c+((-1:Int):Rat)*(d.1+(b.1+e.1)+t)),f)) (bm.mono (by decide)) (h.mono (by decide)) ?_;repeat' array_get_dec
    rw[DJ];repeat' array_get_dec
    refine ES t ?_;repeat' array_get_dec
    have k:=Cp J j S T b2 U W X P Q O (r:=1) (by decide) (x:=(a,c,f)) (g:=((-1:Int):Rat)*(d.1+(b.1+e.1)+t)) (by right;show _= -(d.1+(b.1+e.1)+t);grind) (m:=m) (l:=l) (l':=l');have H:Bd 100 (((-1:Int):Rat)*(d.1+(b.1+e.1)+t)):=((Bd.mono (m:=2) (n:=2) (by constructor <;> decide) (by omega)).mul G).mono (by decide);have o:Mw m l' (a,(c+((-1:Int):Rat)*(d.1+(b.1+e.1)+t)),f):=⟨bm.mono (by decide),(bm.add h).mono (by decide),⟨K.mono (by decide),(L.add H).mono (by decide),M.mono (by decide)⟩,j⟩;refine Bh s o hb he p u k λz=> ?_;repeat' array_get_dec
    refine Bh o s he hb p u (BX.trans k) λz=> ?_;repeat' array_get_dec
    clear k H o;repeat' array_get_dec
    refine Az (m:=m+l+b.2.2+t) (l:=l') (x:=(a,c,f)) ((N.add bt).mono (by decide)) (h.mono (by decide)) ?_;repeat' array_get_dec
    rw[DJ];repeat' array_get_dec
    refine ES t ?_;repeat' array_get_dec
    have k:=Ft J j S T b2 U W X P Q O ll (m:=m) (x:=(a,c,f));have o:Mw (m+l+b.2.2+t) l' (a,c,f):=⟨(N.add bt).mono (by decide),((N.add bt).add h).mono (by decide),⟨K.mono (by decide),L.mono (by decide),M.mono (by decide)⟩,j⟩;refine Bh s o hb he p u k λz=> ?_;repeat' array_get_dec
    refine Bh o s he hb p u (BX.trans k) λz=> ?_;repeat' array_get_dec
    exact VW _ ⟨_,_,_,_,_,_,_,_,rfl⟩
  .rw [show (if decide ((2:Int)=2)=true then (1:Int) else 0)=1 from rfl];unfold ZF;ac_rfl;rw[lits];have bo:Bd 26 (d.2+(b.2.1+e.2.1)):=(u.add (bb2.add be2)).mono (by decide);have N:Bd 26 (m+l+b.2.2):=((bm.add I).add Y).mono (by decide);have s:Mw m l (a,c,f):=⟨bm.mono (by decide),(bm.add I).mono (by decide),⟨K.mono (by decide),L.mono (by decide),M.mono (by decide)⟩,J⟩;refine CC fr (λus vs τ=>∃v w A B C D E F,τ= [some (.val (.scr ns)),some (.val (.int ii)),some (.val .tape),some (.val (.tup [fr d.1,fr d.2])),some (.val (.lst [.tup [fr b.1,fr b.2.1,fr b.2.2], .tup [fr e.1,fr e.2.1,fr e.2.2]])),some (.val (.tup [fr a,fr c,fr f])),some (.val (fr m)),some (.val (.int 2)),some (.val (.int 1)),some (.val (fr (b.2.1+e.2.1))),some (.val (fr (d.2+(b.2.1+e.2.1)))),some (.val (fr (m+l+b.2.2))),v,some (.val (fr l)),some (.val (fr l')),w,A,B,C,D,E,F]) ?_ ?_ ⟨_,_,_,_,_,_,_,_,rfl⟩
   .rintro τ ⟨_,_,_,_,_,_,_,_,rfl⟩;exact again _ rfl
   .rintro us t vs et τ R' VW ⟨_,_,_,_,_,_,_,_,rfl⟩;obtain⟨bt,O⟩:=NQ (t:=t) (by rw[<-et];simp);have G:=bo.add bt;have bm1:Bd 26 ((-1:Int):Rat):=Bd.mono (m:=2) (by constructor <;> decide) (by decide);repeat' array_get_dec
    refine⟨by simp only[ft,fy];exact HG, ?_⟩;repeat' array_get_dec
    simp only[ft,fy,Int.reduceAdd,AAr,ABC];repeat' array_get_dec
    refine Az (m:=m) (l:=l) (x:=(a,c,f)) (bm.mono (by decide)) (I.mono (by decide)) ?_;repeat' array_get_dec
    refine Az (m:=m) (l:=l') (x:=(a,c,(f+1*(d.2+(b.2.1+e.2.1)+t)))) (bm.mono (by decide)) (h.mono (by decide)) ?_;repeat' array_get_dec
    rw[DJ];repeat' array_get_dec
    refine ES t ?_;repeat' array_get_dec
    have k:=Cp J j S T b2 U W X P Q O (r:=2) (by decide) (x:=(a,c,f)) (g:=1*(d.2+(b.2.1+e.2.1)+t)) (by left;show _=d.2+(b.2.1+e.2.1)+t;grind) (m:=m) (l:=l) (l':=l');have H:Bd 100 (1*(d.2+(b.2.1+e.2.1)+t)):=((Bd.mono (m:=2) (n:=2) (by constructor <;> decide) (by omega)).mul G).mono (by decide);have o:Mw m l' (a,c,(f+1*(d.2+(b.2.1+e.2.1)+t))):=⟨bm.mono (by decide),(bm.add h).mono (by decide),⟨K.mono (by decide),L.mono (by decide),(M.add H).mono (by decide)⟩,j⟩;refine Bh s o hb he p u k λz=> ?_;repeat' array_get_dec
    refine Bh o s he hb p u (BX.trans k) λz=> ?_;repeat' array_get_dec
    clear k H o;repeat' array_get_dec
    refine⟨by simp only[ft,fy];exact HG, ?_⟩;repeat' array_get_dec
    simp only[ft,fy,Int.reduceAdd,AAr,ABC];repeat' array_get_dec
    refine Az (m:=m) (l:=l) (x:=(a,c,f)) (bm.mono (by decide)) (I.mono (by decide)) ?_;repeat' array_get_dec
    refine Az (m:=m) (l:=l') (x:=(a,c,(f+((-1:Int):Rat)*(d.2+(b.2.1+e.2.1)+t)))) (bm.mono (by decide)) (h.mono (by decide)) ?_;repeat' array_get_dec
    rw[DJ];repeat' array_get_dec
    refine ES t ?_;repeat' array_get_dec
    have k:=Cp J j S T b2 U W X P Q O (r:=2) (by decide) (x:=(a,c,f)) (g:=((-1:Int):Rat)*(d.2+(b.2.1+e.2.1)+t)) (by right;show _= -(d.2+(b.2.1+e.2.1)+t);grind) (m:=m) (l:=l) (l':=l');have H:Bd 100 (((-1:Int):Rat)*(d.2+(b.2.1+e.2.1)+t)):=((Bd.mono (m:=2) (n:=2) (by constructor <;> decide) (by omega)).mul G).mono (by decide);have o:Mw m l' (a,c,(f+((-1:Int):Rat)*(d.2+(b.2.1+e.2.1)+t))):=⟨bm.mono (by decide),(bm.add h).mono (by decide),⟨K.mono (by decide),L.mono (by decide),(M.add H).mono (by decide)⟩,j⟩;refine Bh s o hb he p u k λz=> ?_;repeat' array_get_dec
    refine Bh o s he hb p u (BX.trans k) λz=> ?_;repeat' array_get_dec
    clear k H o;repeat' array_get_dec
    refine Az (m:=m+l+b.2.2+t) (l:=l') (x:=(a,c,f)) ((N.add bt).mono (by decide)) (h.mono (by decide)) ?_;repeat' array_get_dec
    rw[DJ];repeat' array_get_dec
    refine ES t ?_;repeat' array_get_dec
    have k:=Ft J j S T b2 U W X P Q O ll (m:=m) (x:=(a,c,f));have o:Mw (m+l+b.2.2+t) l' (a,c,f):=⟨(N.add bt).mono (by decide),((N.add bt).add h).mono (by decide),⟨K.mono (by decide),L.mono (by decide),M.mono (by decide)⟩,j⟩;refine Bh s o hb he p u k λz=> ?_;repeat' array_get_dec
    refine Bh o s he hb p u (BX.trans k) λz=> ?_;repeat' array_get_dec
    exact VW _ ⟨_,_,_,_,_,_,_,_,rfl⟩
end PL.K34
section
namespace K34
open PySem L2 PL PL.K34 PyProof.Rows
open PL.K31
open PyProof.Rows
def Di {N Q:zy Str}{s:Scope}(a:s.kind= .function:=by rfl)(b:s.isCoroutine=false:=by rfl)(c:s.isGenerator=false:=by rfl)(d:N.Nodup:=by decide +kernel)(e:N.take Q.length=Q:=by rfl)(f:∀x∈Q,s.names.lookup x=some .local\/s.names.lookup x=some .cell:=by decide +kernel)(g:∀y∈s.names,y.2≠ .free:=by decide +kernel):Ca N Q s:=⟨a,b,c,d,e,f,g⟩
section
variable (P:zp)(w:zm)(K:AAB)(Z:Str->zt zx)(Y:zl)(n:Nat)
abbrev C3:=Has P w K Z Y n "_law_draw" ["_law_tape_here","_law_many"] (Ci K 2 BV)
abbrev NG:=Has P w K Z Y n "_law_apart" ["_law_tape_here"] (Ci K 1 CW)
abbrev La:=Has P w K Z Y n "_law_bounds" ["_law_tape_here"] (Ci K 1 Bb)
abbrev Dp:=Has P w K Z Y n "_law_part" ["_law_top","_law_bottom"] (Ci K 2 A4)
abbrev NH:=Has P w K Z Y n "_law_place" ["_law_tape_here"] (Ci K 1 BJ)
abbrev Ju:=Has P w K Z Y n "_law_product" ["_law_one","_law_other"] (Ci K 2 Bm)
abbrev Ot:=Has P w K Z Y n "_law_span" ["_law_tape_here"] (Ci K 1 Bn)
abbrev Jw:=Has P w K Z Y n "_law_sum" ["_law_one","_law_other"] (Ci K 2 A9)
abbrev Jv:=Has P w K Z Y n "_law_staying" ["_law_begin","_law_long","_law_spot"] (Ci K 3 BD)
abbrev Ou:=Has P w K Z Y n "_law_tape" ["_law_script","_law_k"] (Ci K 2 Jb)
abbrev VZ:=Has P w K Z Y n "summed" ["one","many","other","more"] (Ci K 4 Es)
abbrev MC:=Has P w K Z Y n "crossed" ["low","high","at"] (Ci K 3 DL)
abbrev Qc:=Has P w K Z Y n "is_never" ["plane"] (Ci K 1 Cm)
abbrev Ov:=Has P w K Z Y n "before" ["one","other"] (Ci K 2 CY)
abbrev MD:=Has P w K Z Y n "turn_of" ["plane","at"] (Ci K 2 CN)
abbrev NI:=Has P w K Z Y n "is_tighter" ["plane","other","at"] (Ci K 3 CZ)
abbrev J0:=Has P w K Z Y n "tightest" ["planes","at","sign"] (Ci K 3 Bp)
abbrev Qb:=Has P w K Z Y n "fault_in" ["planes","at"] (Ci K 2 Ck)
abbrev Jx:=Has P w K Z Y n "common" ["one","other"] (Ci K 2 EC)
abbrev Jz:=Has P w K Z Y n "part" ["top","bottom"] (Ci K 2 EN)
abbrev SC:=Has P w K Z Y n "minus" ["one","other"] (Ci K 2 DH)
abbrev Jy:=Has P w K Z Y n "negative" ["number"] (Ci K 1 Bo)
abbrev NJ:=Has P w K Z Y n "plus" ["one","other"] (Ci K 2 D1)
abbrev Ox:=Has P w K Z Y n "side_form" ["wedge","number"] (Ci K 2 A5)
abbrev Oy:=Has P w K Z Y n "time_form" ["wedge","number"] (Ci K 2 C0)
abbrev Tn:=Has P w K Z Y n "form_of" ["wedge","number"] (Ci K 2 ED)
abbrev VY:=Has P w K Z Y n "placed" ["plane","at","value"] (Ci K 3 Cz)
abbrev Ia:=Has P w K Z Y n "shared_bottom" ["numbers"] (Ci K 1 Ba)
abbrev Qe:=Has P w K Z Y n "plane_of" ["form","strict","number"] (Ci K 3 DR)
abbrev SD:=Has P w K Z Y n "whole" ["n"] (Ci K 1 FS)
abbrev J1:=Has P w K Z Y n "told_weights" ["weights"] (Ci K 1 Bq)
abbrev VX:=Has P w K Z Y n "over" ["one","other"] (Ci K 2 Fp)
abbrev Qf:=Has P w K Z Y n "range_in" ["planes","at"] (Ci K 2 DS)
abbrev Qi:=Has P w K Z Y n "value_in" ["planes","at"] (Ci K 2 Br)
abbrev Gh:=Has P w K Z Y n "weights_by_time" ["wedge"] (Ci K 1 BK)
abbrev Tr:=P8 P w K Z Y n "without" ["planes","at","most"] 2 (Ci K 3 DN)
abbrev To:=Has P w K Z Y n "meet_in" ["wedge"] (Ci K 1 EE)
abbrev Xb:=Has P w K Z Y n "times" ["one","other"] (Ci K 2 GW)
abbrev IZ:=Has P w K Z Y n "piece_between" ["former","latter"] (Ci K 2 BI)
abbrev Ow:=Has P w K Z Y n "pieces_of" ["plan"] (Ci K 1 CM)
abbrev Tq:=Has P w K Z Y n "size_of" ["apart","side"] (Ci K 2 Bz)
abbrev Qg:=Has P w K Z Y n "sizes_of" ["one","other","apart"] (Ci K 3 DT)
abbrev Oz:=Has P w K Z Y n "wedges_of" ["one","other","apart"] (Ci K 3 CO)
abbrev Tp:=Has P w K Z Y n "meet_of" ["one","other","apart"] (Ci K 3 Bc)
end
section
variable {P:zp}{w:zm}{K:AAB}{Z:Str->zt zx}{Y:zl}{n m:Nat}{f:zu}{U:FuncData}
theorem Gv:Ca ["_law_tape_here","_law_many","_law_once","_law_found"] ["_law_tape_here","_law_many"] (Ai Dt):=Di
theorem NT (F:Rh K "_law_draw" "_law_draw" Dt f U):Co P w K Z Y JT (n+1) f U ["_law_tape_here","_law_many"] (Ci K 2 BV):=by
 have k:=Gv.nd;refine F.ok Gv (λvs H Q E h=> ?_) (λu A outer s H vs Q E J h=> ?_)
 .obtain ⟨T,M,xs,v,_,_,r,hl,_⟩:=h;rw[r.length,hl] <;> rfl
 obtain⟨T,M,xs,v,va,_,r,hl,hF,hQ⟩:=h;unfold BV at hF;split at hF <;> first | exact hF.elim|skip
 rename_i m;obtain⟨⟨m0,m1⟩,hF⟩:=hF;cases r with
 | cons r j=>
 cases j with
 | cons y j=>
 cases j;cases y;cases r with
 | tape tp=>
 rename_i p;obtain⟨d,x,hp,l,z,B⟩:=va.tp p tp;refine⟨_,(Bu (WH (Nm Y7 (Ht Dq (pv 0) A3 (λ_ _=>rfl)) A3 (CI _)) (Bu (F6 (i:=3) k rfl (Or.inl rfl) (BR ET (Ht Dq (pv 0) A3 (λ_ _=>rfl)) (pv 1)))
  (Bu (Ni (BR Vz (Ht Dq (pv 0) A3 (λ_ _=>rfl)) (pv 1)) (Q4 (pv 0) A3 Gx))
  (FX (Nj (pv 3))))) Nk)
  (Bu (Ni (BR ET (BR F4 (BR FU (Ht Dq (pv 0) A3 (λ_ _=>rfl)) A3) A3) A3) (Q4 (pv 0) A3 Gx))
  (Bu (F6 (i:=2) k rfl (Or.inl rfl) (BR ET (BR FU (Ht Dq (pv 0) A3 (λ_ _=>rfl)) (BR F4 (BR ET (Ht Dq (pv 0) A3 (λ_ _=>rfl)) A3) A3)) A3))
  (FX (Nj (BR ET (BR ET (BR FU (pv 2) (BR F4 (BR ET (pv 2) A3) A3)) A3) (pv 1))))))), ?_⟩
 have e:∀(r d' g:Int),0<=r->r<m->0<=d'->0<=g->g<2147483647->Q (.int r) (upd H p (.lst [.int d', .int g])):=λr d' g C D a b c=>
  hQ _ (.int r) T _ (Ww va.tp tp a b c) (.int r) (hF r C D)
 refine⟨_,rfl,p,_,_,_,rfl,rfl,EQ.of hp,rfl,_,_,rfl,rfl,_,rfl, ?_⟩;refine dc (λc=> ?_) (λc=> ?_)
 .refine ⟨_,rfl,p,_,_,_,rfl,rfl,EQ.of hp,rfl,_,rfl,_,_,rfl,rfl,m0, ?_⟩;refine⟨_,rfl,p,_,_,_,rfl,rfl,EQ.of hp,rfl,_,rfl,_,_,rfl,rfl,⟨m0,by omega⟩, ?_⟩;refine⟨_,rfl,p,_,_,_,rfl,rfl,hp,rfl, ?_⟩;exact⟨_,rfl,e _ _ _ (ACB _ (by omega)) (ACC _ m0) (Int.ediv_nonneg l (by omega)) z B⟩
 .refine ⟨_,rfl,p,_,_,_,rfl,rfl,EQ.of hp,rfl,_,_,rfl,rfl, .inl (.inr ⟨by decide,by decide⟩),_,_,rfl,rfl,_,_,rfl,rfl,(show (0:Int)<2147483647 by decide), ?_⟩;refine⟨_,rfl,p,_,_,_,rfl,rfl,hp,rfl, ?_⟩;have o:0<=(x*48271+12345) % 2147483647:=ACB _ (by decide);have y1:(x*48271+12345) % 2147483647<2147483647:=ACC _ (by decide);have t:upd H p (.lst ([V.int d,V.int x].set (Int.toNat 1) (V.int ((x*48271+12345) % 2147483647)))) p=some (.lst [.int d, .int ((x*48271+12345) % 2147483647)]):=Ad;have G:0<=(x*48271+12345) % 2147483647*((x*48271+12345) % 2147483647 % 1009+3) % 2147483629:=ACB _ (by decide);have I:(x*48271+12345) % 2147483647*((x*48271+12345) % 2147483647 % 1009+3) % 2147483629<2147483629:=ACC _ (by decide);refine⟨_,rfl,p,_,_,_,rfl,rfl,EQ.of t,rfl,_,rfl,p,_,_,_,rfl,rfl,EQ.of t,rfl,_,_,rfl,rfl,(show (0:Int)<1009 by decide),_,_,rfl,rfl,_,_,rfl,rfl, .inl (.inl (Kr o y1)),_,_,rfl,rfl,(show (0:Int)<2147483629 by decide), ?_⟩;refine⟨_,rfl,_,rfl,_,_,rfl,rfl,(show (0:Int)<997 by decide),_,_,rfl,rfl,_,_,rfl,rfl, .inl (.inl (Kr G (Int.lt_trans I (by decide)))),_,_,rfl,rfl,(show (0:Int)<998244353 by decide),_,rfl,_,_,rfl,rfl,m0, ?_⟩;exact e _ _ _ (ACB _ (by omega)) (ACC _ m0) l o y1
theorem D8 {P:zp}{w:zm}{K:AAB}{Z:Str->zt zx}{Y:zl}{x q:Str}{st:Stmt}{f:zu}{U:FuncData}{N:zy Str}{k n:Nat}{b:AS}(F:Rh K x q st f U)(S:Ca N (N.take n) (Ai st))(a:n=(N.take n).length)(h:∀(v:zx) (A:zk) (o:zy Env) (s:zw) (H:Hp) (E:XK),Room k (A.deeper (envOfC q (Ai st) s.heap.objs.size f v))->N.Nodup->TL (LY JT P w K Z Y N q (Ai st) f v A o s H E).nox (BW st) b):Co P w K Z Y JT (k+1) f U (N.take n) (Ci K n (At N.length b)):=
 XX F S a λv A o s H E r=>h v A o s H E r S.nd
abbrev Z1 (K:AAB)(x:Str)(s:Stmt)(f:zu)(d:FuncData):=Rh K x x s f d
abbrev Z2 (P:zp)(w:zm)(K:AAB)(Z:Str->zt zx)(b:zl)(n:Nat)(f:zu)(d:FuncData)(N:zy Str)(k:Nat)(F:AF):=Co P w K Z b JT (n+1) f d (N.take k) (Ci K k F)
theorem Lc (F:Z1 K "_law_apart" EW f U)(a:C3 P w K Z Y n):Z2 P w K Z Y n f U ["_law_tape_here","_law_some"] 1 CW:=D8 F Di rfl λ_ _ _ _ _ _ b c=>(AL (C8 1 c (Ii (Db (BY (AU (Aw AH AH)) (BY (AU (Aw AH AH)) (Dg (AU (Aw AH AH)) (AU (Aw AH AH)) (AU (Aw AH AH)))))))) (AR (AY (AU (Aw (AW (AJ 1) (AK a b rfl (Aw (AJ 0) AH))) (AW (AJ 1) (AK a b rfl (Aw (AJ 0) AH))))))))
theorem KG (F:Z1 K "_law_bounds" D5 f U)(b:C3 P w K Z Y n):Z2 P w K Z Y n f U ["_law_tape_here","_law_some"] 1 Bb:=D8 F Di rfl λ_ _ _ _ _ _ a c=>(AL (C8 1 c (Ii (Db (BY (AU (Aw AH AH)) (BY (AU (Aw AH AH)) (BY (AU (Aw AH AH)) (Dg (AU (Aw AH AH)) (AU (Aw AH AH)) (AU (Aw AH AH))))))))) (AL (CS (Ha (G0 a) (AK b a rfl (Aw (AJ 0) AH)) AH) (AR (AY (AU (Dg (AU (Aw AH AH)) (AU (Aw AH AH)) (AU (Aw AH AH)))))) BS) (AR (AY (AU (Dg (AW (AJ 1) (AK b a rfl (Aw (AJ 0) AH))) (AW (AJ 1) (AK b a rfl (Aw (AJ 0) AH))) (AW (AJ 1) (AK b a rfl (Aw (AJ 0) AH)))))))))
theorem NU (F:Z1 K "_law_part" E7 f U)(b:Z "abs" =none)(c:Z "int" =none):Z2 P w K Z Y n f U ["_law_top","_law_bottom","_law_sign","_law_one","_law_other"] 2 A4:=D8 F Di rfl λ_ _ _ _ _ _ _ a=>(AL (OD (i:=3) (j:=4) rfl a rfl rfl (by decide) rfl rfl (Aw (Cf N3 rfl b boot_abs (Cy (AJ 0))) (Cf N3 rfl b boot_abs (Cy (AJ 1)))) rfl) (AL (Pn AAY (Ha MW (AJ 4) AH) (AR (OD (i:=3) (j:=4) rfl a rfl rfl (by decide) rfl rfl (Aw (AJ 4) (Ag RL (AJ 3) (AJ 4))) rfl))) (AL (C8 2 a (Ag D7 AH (Ag A7 AH (B3 N4 rfl c boot_int (Cy (DZ FF (AJ 1) AH (CI _))))))) (AR (AY (AU (Aw (Ag Dv (Ag A7 (AJ 2) (AJ 0)) (AJ 3)) (Ag Dv (Ag A7 (AJ 2) (AJ 1)) (AJ 3)))))))))
theorem Ld (F:Z1 K "_law_place" EX f U)(b:C3 P w K Z Y n)(c:Dp P w K Z Y n):Z2 P w K Z Y n f U ["_law_tape_here","_law_kind"] 1 BJ:=D8 F Di rfl λ_ _ _ _ _ _ a d=>(AL (C8 1 d (AK b a rfl (Aw (AJ 0) AH))) (AL (CS (Ha FF (AJ 1) AH) (AR (AY (AU (Aw (Ag D7 (AK b a rfl (Aw (AJ 0) AH)) AH) AH)))) BS) (AL (CS (Ha (G0 a) (AJ 1) AH) (AR (AY (AK c a rfl (Aw (Ag D7 (AK b a rfl (Aw (AJ 0) AH)) AH) AH)))) BS) (AR (AY (AK c a rfl (Aw (Ag D7 (AK b a rfl (Aw (AJ 0) AH)) AH) AH)))))))
theorem Ic (F:Z1 K "_law_product" DW f U)(a:Dp P w K Z Y n):Z2 P w K Z Y n f U ["_law_one","_law_other"] 2 Bm:=D8 F Di rfl λ_ _ _ _ _ _ b _=>(AR (AY (AK a b rfl (Aw (Ag A7 (AW (AJ 0) AH) (AW (AJ 1) AH)) (Ag A7 (AW (AJ 0) AH) (AW (AJ 1) AH))))))
theorem NV (F:Z1 K "_law_span" E8 f U)(b:C3 P w K Z Y n)(c:Dp P w K Z Y n):Z2 P w K Z Y n f U ["_law_tape_here","_law_way"] 1 Bn:=D8 F Di rfl λ_ _ _ _ _ _ a d=>(AL (C8 1 d (AK b a rfl (Aw (AJ 0) AH))) (AL (CS (Ha FF (AJ 1) AH) (AR (AY (AU (Aw (Ag CD AH (AK b a rfl (Aw (AJ 0) AH))) AH)))) BS) (AR (AY (AK c a rfl (Aw (Ag CD AH (AK b a rfl (Aw (AJ 0) AH))) (Ag D7 (AJ 1) AH)))))))
theorem PB (F:Z1 K "_law_sum" F7 f U)(a:Dp P w K Z Y n):Z2 P w K Z Y n f U ["_law_one","_law_other"] 2 A9:=D8 F Di rfl λ_ _ _ _ _ _ b _=>(AR (AY (AK a b rfl (Aw (Ag CD (Ag A7 (AW (AJ 0) AH) (AW (AJ 1) AH)) (Ag A7 (AW (AJ 1) AH) (AW (AJ 0) AH))) (Ag A7 (AW (AJ 0) AH) (AW (AJ 1) AH))))))
theorem Ie (F:Z1 K "_law_staying" DX f U)(a:Jw P w K Z Y n):Z2 P w K Z Y n f U ["_law_begin","_law_long","_law_spot"] 3 BD:=D8 F Di rfl λ_ _ _ _ _ _ b _=>(AR (AY (AU (Aw (Ag CD (AU (Cy (AJ 0))) (AJ 2)) (Ag CD (AU (Cy (AK a b rfl (Aw (AJ 0) (AJ 1))))) (AJ 2))))))
theorem Gw:Ca ["_law_script","_law_k","_law_cell","_law_digits"] ["_law_script","_law_k"] (Ai Du):=Di
theorem NW (F:Rh K "_law_tape" "_law_tape" Du f U)(j:Z "abs" =none)(o:Z "int" =none)(t:Z "len" =none):Co P w K Z Y JT (n+1) f U ["_law_script","_law_k"] (Ci K 2 Jb):=by
 have e:=Gw.nd;refine F.ok Gw (λvs H Q E h=> ?_) (λu A outer s H vs Q E z h=> ?_)
 .obtain ⟨T,M,xs,v,_,_,r,hl,_⟩:=h;rw[r.length,hl] <;> rfl
 obtain⟨T,M,xs,v,va,_,r,hl,hF,hQ⟩:=h;unfold Jb at hF;split at hF <;> first | exact hF.elim|skip
 rename_i ns k;obtain⟨⟨B,C⟩,hF⟩:=hF;cases r with
 | cons r g=>
 cases g with
 | cons x g=>
 cases g;cases x;obtain⟨a,rfl,l⟩:=WT r;refine⟨_,(Bu (F6 (i:=2) e rfl (Or.inl rfl) A3)
  (Bu (WH (Nm Y8 (pv 1) (E2 Gd rfl t ACe (Cw (pv 0) EU)) (CI _)) (FX (F6 (i:=2) e rfl (Or.inl rfl) (Ht Dq (pv 0) (pv 1) (λ_ _=>rfl)))) Nk)
  (Bu (F6 (i:=3) e rfl (Or.inl rfl) (BR FU (E2 Ji rfl j boot_abs (Cw (pv 2) EU)) (FV L6 rfl o PyProof.Rows.boot_int (Cw (Sc d3 (E2 Ji rfl j boot_abs (Cw (pv 2) EU)) (BR V1 A3 A3) (CI _)) EU))))
  (FX (Nj (V7 (Cw (pv 3) (Cw (BR ET (BR FU (BR ET (BR F4 (BR F4 (pv 2) (BR FU A3 (pv 1))) A3) A3) A3) A3) EU)))))))), ?_⟩
 have hl:(ns.map V.int).length=ns.length:=AAL _;have d:∀(c:Int) (p:zu),H p=none->Q (.ref p) (upd H p (.lst [.int ((if c<0 then -c else c)*(if decide ((10:Int)^18<=(if c<0 then -c else c)) then 1 else 0)), .int ((c+7919*k+1) % 2147483647*48271 % 2147483647)])):=λc p hp=>
  hQ _ .tape (λb=>T b\/b=p) _ (Wv va.tp hp (Int.mul_nonneg (by split <;> omega) (mR _)) (ACB _ (by decide)) (ACC _ (by decide))) (.tape (.inr rfl)) hF
 refine⟨_,rfl,_,rfl,a,_,rfl, .inl l,_,_,rfl,rfl,_,rfl, ?_⟩;refine dc (λc=> ?_) (λc=> ?_)
 .have y:k<(((ns.map V.int).length:Nat):Int):=AA9 c;rw[hl] at y;have hk:k.toNat<ns.length:=by omega
  have hv:M3 (ns.map V.int) k=some (.int ns[k.toNat]):=by
   have q:M3 (ns.map V.int) ((k.toNat:Nat):Int)=some (.int ns[k.toNat]):=DI (by rw[AAg,AAc hk] <;> rfl)
   rwa [show ((k.toNat:Nat):Int)=k by omega] at q
  refine⟨_,rfl,_,rfl,a,_,_,_,rfl,rfl,l,hv, ?_⟩;refine⟨_,rfl,_,rfl,_,rfl,_,rfl,_,_,rfl,rfl,⟨by decide,by decide,by decide⟩,_,_,rfl,rfl, .inr ⟨_,rfl,_,_,rfl,rfl, .inl (.inr (jw _)), ?_⟩⟩;exact⟨_,rfl,_,rfl,_,rfl,_,_,rfl,rfl, .inl (.inl ⟨by decide,by decide⟩),_,_,rfl,rfl,_,_,rfl,rfl,_,_,rfl,rfl,(show (0:Int)<2147483647 by decide),_,_,rfl,rfl, .inl (.inr ⟨by decide,by decide⟩),_,_,rfl,rfl,(show (0:Int)<2147483647 by decide),(show 2<=sizeLine by decide),λp hp=>d _ p hp⟩
 .refine ⟨_,rfl,_,rfl,_,rfl,_,rfl,_,_,rfl,rfl,⟨by decide,by decide,by decide⟩,_,_,rfl,rfl, .inr ⟨_,rfl,_,_,rfl,rfl, .inl (.inr (jw _)), ?_⟩⟩;exact⟨_,rfl,_,rfl,_,rfl,_,_,rfl,rfl, .inl (.inl ⟨by decide,by decide⟩),_,_,rfl,rfl,_,_,rfl,rfl,_,_,rfl,rfl,(show (0:Int)<2147483647 by decide),_,_,rfl,rfl, .inl (.inr ⟨by decide,by decide⟩),_,_,rfl,rfl,(show (0:Int)<2147483647 by decide),(show 2<=sizeLine by decide),λp hp=>d 0 p hp⟩
theorem UJ (F:Z1 K "summed" KZ f U)(g:Z "max" =none)(h:Z "tuple" =none)(j:Z "zip" =none):Z2 P w K Z Y n f U ["one","many","other","more","numbers","weights","number","weight"] 4 Es:=by
 have a:(["former","latter","many","more"] :zy Str).Nodup:=by decide +kernel
 have b:(["number","weight","many"] :zy Str).Nodup:=by decide +kernel
 exact D8 F Di rfl λ_ _ _ _ _ _ e c=>(AL (C8 4 c (B3 FD rfl h boot_tuple (Cy (Ii (Gy rfl (fC rfl j (Aw (AW (AJ 0) AH) (AW (AJ 2) AH))) (D4 (own:=2) (ix:= [1,3]) (N:= ["former","latter" ,"many" ,"more" ]) rfl rfl rfl rfl rfl rfl (λ_ _ _ _ _ _=>(Wg (n:=2) rfl (Gz (Up 0 a) (Gz (Up 1 a) Sx)))) (λ_ _ _ _ _ _=>Eb) (λ_ _ _ _ _ _=>(Ag CD (Ag A7 (AJ 2) (AJ 0)) (Ag A7 (AJ 3) (AJ 1)))))))))) (Wj (by decide) (by decide) (by decide) (by decide) (by decide) (by decide) (AW (AJ 0) AH) (AW (AJ 2) AH) (λk d=>WF (i:=5) rfl c rfl (Or.inl rfl) (PR d rfl rfl rfl rfl) (Rt (own:=2) (ix:= [1]) (N:= ["number","weight" ,"many" ]) rfl rfl rfl rfl rfl rfl (VU (Jt (NE (by decide)) Il (Jt (NE (by decide)) Il R8 NF) (Os Il NF))) (λ_ _ _ _ _ _=>(Ng rfl (EH (FW (i:=0) b rfl (Or.inl rfl)) (EH (FW (i:=1) b rfl (Or.inl rfl)) Iu)))) (λ_ _ _ _ _ _=>Sd) (λ_ _ _ _ _ _=>(pv 0))) (λ_ _ _ _ _ _=>(BR Nc (pv 2) (pv 1)))) (λk d=>WG AAY rfl (PR d rfl rfl rfl rfl) (Ng rfl (EH (FW (i:=6) c rfl (Or.inl rfl)) (EH (FW (i:=7) c rfl (Or.inl rfl)) Iu))) (FX (YD (jB e) (pv 5) (pv 6) (BR F4 (V4 (jB e) (pv 5) (pv 6) A3 ⟨rfl,rfl,rfl,rfl⟩) (BR Nc (pv 3) (pv 7))) rfl))) (AR (AY (AU (Dg (AJ 4) (Cf (bJ rfl) rfl g boot_max (Aw (AW (AJ 0) AH) (AW (AJ 2) AH))) (AJ 5)))))))
theorem Qv (F:Z1 K "crossed" HQ f U)(a:VZ P w K Z Y n):Z2 P w K Z Y n f U ["low","high","at"] 3 DL:=D8 F Di rfl λ_ _ _ _ _ _ b _=>(AR (AY (AK a b rfl (BY (AJ 0) (Dg (D6 (AW (AW (AJ 1) AH) (AJ 2))) (AJ 1) (AW (AW (AJ 0) AH) (AJ 2)))))))
theorem PD (F:Z1 K "is_never" F9 f U):Z2 P w K Z Y n f U ["plane","total"] 1 Cm:=D8 F Di rfl λ_ _ _ _ _ _ a b=>(AL (C8 1 b (AW (AW (AJ 0) AH) AH)) (AR (AY (fA (DZ FF (AJ 1) AH (CI _)) (WW (bM (DZ (G0 a) (AJ 1) AH (CI _)) (WW (DZ (G0 a) (AW (AJ 0) AH) AH (CI _)))))))))
theorem UG (F:Z1 K "before" KU f U):Z2 P w K Z Y n f U ["one","other"] 2 CY:=D8 F Di rfl λ_ _ _ _ _ _ _ _=>(AR (AY (DZ FF (Ag A7 (AW (AJ 0) AH) (AW (AJ 1) AH)) (Ag A7 (AW (AJ 1) AH) (AW (AJ 0) AH)) (CI _))))
theorem Q0 (F:Z1 K "turn_of" HW f U):Z2 P w K Z Y n f U ["plane","at","total","factor"] 2 CN:=D8 F Di rfl λ_ _ _ _ _ _ _ a=>(AL (C8 2 a (AW (AW (AJ 0) AH) AH)) (AL (C8 3 a (AW (AW (AJ 0) AH) (AJ 1))) (AR (AY (Sj (Ha MW (AJ 3) AH) (AU (Aw (D6 (AJ 2)) (AJ 3))) (AU (Aw (AJ 2) (D6 (AJ 3)))))))))
theorem Le (F:Z1 K "is_tighter" EY f U)(b:Ov P w K Z Y n)(c:MD P w K Z Y n):Z2 P w K Z Y n f U ["plane","other","at","here","there"] 3 CZ:=D8 F Di rfl λ_ _ _ _ _ _ a d=>(AL (C8 3 d (AK c a rfl (Aw (AJ 0) (AJ 2)))) (AL (C8 4 d (AK c a rfl (Aw (AJ 1) (AJ 2)))) (AL (CS (GJ (AK b a rfl (Aw (AJ 3) (AJ 4)))) (AR (AY (DZ FF (AW (AW (AJ 0) AH) (AJ 2)) AH (CI _)))) BS) (AL (CS (GJ (AK b a rfl (Aw (AJ 4) (AJ 3)))) (AR (AY (DZ MW (AW (AW (AJ 0) AH) (AJ 2)) AH (CI _)))) BS) (AR (AY (DZ MW (AW (AJ 0) AH) (AW (AJ 1) AH) (CI _))))))))
theorem PM (F:Z1 K "tightest" GE f U)(b:NI P w K Z Y n):Z2 P w K Z Y n f U ["planes","at","sign","told","plane"] 3 Bp:=D8 F Di rfl λ_ _ _ _ _ _ c a=>(AL (C8 3 a Cg) (AL (Ch AAY rfl (GH (AJ 0)) (D9 4 a) (AR (CS (Wl (Wn (Ha MW (Ag A7 (AW (AW (AJ 4) AH) (AJ 1)) (AJ 2)) AH) (S5 (Wl (Wo (Ha RK (AJ 3) Cg) (RP (GJ (AK b c rfl (Dg (AJ 4) (AJ 3) (AJ 1)))))))))) (AR (C8 3 a (AJ 4))) BS))) (AR (AY (AJ 3)))))
theorem PC (F:Z1 K "fault_in" F8 f U)(e:MC P w K Z Y n)(c:Qc P w K Z Y n)(d:J0 P w K Z Y n):Z2 P w K Z Y n f U ["planes","at","plane","high","both"] 2 Ck:=D8 F Di rfl λ_ _ _ _ _ _ a b=>(AL (Ch AAY rfl (GH (AJ 0)) (D9 2 b) (AR (CS (Wl (Wn (Ha (G0 a) (AW (AW (AJ 2) AH) (AJ 1)) AH) (S5 (GJ (AK c a rfl (Cy (AJ 2))))))) (AR (AY (AJ 2))) BS))) (AL (C8 3 b (AK d a rfl (Dg (AJ 0) (AJ 1) (D6 AH)))) (AL (CS (Ha RK (AJ 3) Cg) (AR (AY Cg)) BS) (AL (C8 4 b (AK e a rfl (Dg (AK d a rfl (Dg (AJ 0) (AJ 1) AH)) (AJ 3) (AJ 1)))) (AR (AY (Sj (GJ (AK c a rfl (Cy (AJ 4)))) (AJ 4) Cg)))))))
theorem UH (F:Z1 K "common" KW f U):Z2 P w K Z Y n f U ["one","other"] 2 EC:=D8 F Di rfl λ_ _ _ _ _ _ a b=>(AL (Pn AAY (Ha (Pk a) (AJ 1) AH) (AR (OD (i:=0) (j:=1) rfl b rfl rfl (by decide) rfl rfl (Aw (AJ 1) (Ag RL (AJ 0) (AJ 1))) rfl))) (AR (AY (AJ 0))))
theorem Xq (F:Z1 K "part" RD f U)(c:Jx P w K Z Y n)(a:Z "abs" =none):Z2 P w K Z Y n f U ["top","bottom","shared"] 2 EN:=D8 F Di rfl λ_ _ _ _ _ _ d b=>(AL (C8 2 b (AK c d rfl (Aw (Cf N3 rfl a boot_abs (Cy (AJ 0))) (Cf N3 rfl a boot_abs (Cy (AJ 1)))))) (AL (CS (Ha FF (AJ 1) AH) (AR (C8 2 b (D6 (AJ 2)))) BS) (AR (AY (AU (Aw (Ag Dv (AJ 0) (AJ 2)) (Ag Dv (AJ 1) (AJ 2))))))))
theorem Vt (F:Z1 K "minus" N0 f U)(a:Jz P w K Z Y n):Z2 P w K Z Y n f U ["one","other"] 2 DH:=D8 F Di rfl λ_ _ _ _ _ _ b _=>(AR (AY (AK a b rfl (Aw (Ag D7 (Ag A7 (AW (AJ 0) AH) (AW (AJ 1) AH)) (Ag A7 (AW (AJ 1) AH) (AW (AJ 0) AH))) (Ag A7 (AW (AJ 0) AH) (AW (AJ 1) AH))))))
theorem PF (F:Z1 K "negative" GA f U):Z2 P w K Z Y n f U ["number"] 1 Bo:=D8 F Di rfl λ_ _ _ _ _ _ _ _=>(AR (AY (AU (Aw (D6 (AW (AJ 0) AH)) (AW (AJ 0) AH)))))
theorem Xr (F:Z1 K "plus" RE f U)(a:Jz P w K Z Y n):Z2 P w K Z Y n f U ["one","other"] 2 D1:=D8 F Di rfl λ_ _ _ _ _ _ b _=>(AR (AY (AK a b rfl (Aw (Ag CD (Ag A7 (AW (AJ 0) AH) (AW (AJ 1) AH)) (Ag A7 (AW (AJ 1) AH) (AW (AJ 0) AH))) (Ag A7 (AW (AJ 0) AH) (AW (AJ 1) AH))))))
theorem NY (F:Z1 K "side_form" FA f U)(c:SC P w K Z Y n)(d:Jy P w K Z Y n)(e:NJ P w K Z Y n):Z2 P w K Z Y n f U ["wedge","number","side","off","one","other","sizes","lates","base","slope","other_base","other_slope"] 2 A5:=D8 F Di rfl λ_ _ _ _ _ _ b a=>(AL (FH (AJ 0) (Cs (n:=4) rfl (Ae (D9 4 a) (Ae (D9 5 a) (Ae (D9 6 a) (Ae (D9 7 a) B4)))))) (AL (C8 2 a (Ag Dv (Ag D7 (AJ 1) AH) AH)) (AL (FH (AW (AW (AJ 4) AH) (AJ 2)) (Cs (n:=2) rfl (Ae (D9 8 a) (Ae (D9 9 a) B4)))) (AL (FH (AW (AW (AJ 5) AH) (AJ 2)) (Cs (n:=2) rfl (Ae (D9 10 a) (Ae (D9 11 a) B4)))) (AL (C8 3 a (AK c b rfl (Aw (AJ 8) (AJ 10)))) (AL (CS (Ha (G0 b) (Ag RL (AJ 1) AH) AH) (AR (AY (AU (Dg (AK c b rfl (Aw (AW (AJ 6) (AJ 2)) (AJ 3))) (AK d b rfl (Cy (AJ 9))) (AJ 11))))) BS) (AR (AY (AU (Dg (AK e b rfl (Aw (AW (AJ 6) (AJ 2)) (AJ 3))) (AJ 9) (AK d b rfl (Cy (AJ 11)))))))))))))
theorem NZ (F:Z1 K "time_form" FB f U)(e:Jy P w K Z Y n)(b:Kc K Z "BACK" (.tup [(.int (-1)),(.int 1)]))(a:Kc K Z "NOUGHT" (.tup [(.int 0),(.int 1)]))(c:Kc K Z "ONCE" (.tup [(.int 1),(.int 1)])):Z2 P w K Z Y n f U ["wedge","number","forms","one","other","sizes","lates"] 2 C0:=D8 F Di rfl λ_ _ _ _ _ _ g d=>(AL (FH (AJ 0) (Cs (n:=4) rfl (Ae (D9 3 d) (Ae (D9 4 d) (Ae (D9 5 d) (Ae (D9 6 d) B4)))))) (AL (C8 2 d (AU (BY (AU (Dg (AK e g rfl (Cy (AW (AJ 3) AH))) (A2 c rfl) (A2 a rfl))) (BY (AU (Dg (AW (AJ 3) AH) (A2 b rfl) (A2 a rfl))) (BY (AU (Dg (AK e g rfl (Cy (AW (AJ 4) AH))) (A2 a rfl) (A2 c rfl))) (Dg (AU (Dg (AW (AJ 4) AH) (A2 a rfl) (A2 b rfl))) (AU (Dg (AW (AJ 6) AH) (A2 c rfl) (A2 b rfl))) (AU (Dg (AW (AJ 6) AH) (A2 b rfl) (A2 c rfl))))))))) (AR (AY (AW (AJ 2) (AJ 1))))))
theorem Qw (F:Z1 K "form_of" HR f U)(b:Ox P w K Z Y n)(c:Oy P w K Z Y n):Z2 P w K Z Y n f U ["wedge","number"] 2 ED:=D8 F Di rfl λ_ _ _ _ _ _ a _=>(AR (AY (Sj (Ha FF (AJ 1) AH) (AK c a rfl (Aw (AJ 0) (AJ 1))) (AK b a rfl (Aw (AJ 0) (AJ 1))))))
theorem UI (F:Z1 K "placed" KY f U)(c:Z "tuple" =none):Z2 P w K Z Y n f U ["plane","at","value","numbers","top","bottom"] 3 Cz:=by
 have a:(["number","bottom"] :zy Str).Nodup:=by decide +kernel
 exact D8 F Di rfl λ_ _ _ _ _ _ _ b=>(AL (FH (AJ 2) (Cs (n:=2) rfl (Ae (D9 4 b) (Ae (Sm (i:=5) b rfl (Or.inr rfl)) B4)))) (AL (Pm (i:=3) rfl b rfl (Or.inl rfl) (GH (AW (AJ 0) AH)) (D4 (own:=1) (ix:= [5]) (N:= ["number","bottom" ]) rfl rfl rfl rfl rfl rfl (λ_ _ _ _ _ _=>(Up 0 a)) (λ_ _ _ _ _ _=>Eb) (λ_ _ _ _ _ _=>(Ag A7 (AJ 1) (AJ 0))))) (AL (YZ (i:=3) AH (Ag A7 (AW (AW (AJ 0) AH) (AJ 1)) (AJ 4))) (AL (bY (i:=3) (AJ 1) AH) (AR (AY (AU (Dg (B3 FD rfl c boot_tuple (Cy (AJ 3))) (AW (AJ 0) AH) (AW (AJ 0) AH)))))))))
theorem HK (F:Z1 K "shared_bottom" DE f U)(b:Jx P w K Z Y n):Z2 P w K Z Y n f U ["numbers","told","top","bottom"] 1 Ba:=D8 F Di rfl λ_ _ _ _ _ _ c a=>(AL (C8 1 a AH) (AL (Ch AAY rfl (GH (AJ 0)) (Cs (n:=2) rfl (Ae (D9 2 a) (Ae (D9 3 a) B4))) (AR (bX (i:=1) a rfl (Or.inl rfl) (Ag Dv (AJ 3) (AK b c rfl (Aw (AJ 1) (AJ 3)))) bQ))) (AR (AY (AJ 1)))))
theorem PH (F:Z1 K "plane_of" GB f U)(c:Ia P w K Z Y n)(d:Z "tuple" =none):Z2 P w K Z Y n f U ["form","strict","number","shared","numbers"] 3 DR:=by
 have a:(["top","bottom","shared"] :zy Str).Nodup:=by decide +kernel
 exact D8 F Di rfl λ_ _ _ _ _ _ e b=>(AL (Kv (i:=3) b rfl (Or.inr rfl) (AK c e rfl (Cy (AJ 0)))) (AL (C8 4 b (B3 FD rfl d boot_tuple (Cy (Ii (Gy rfl (GH (AJ 0)) (D4 (own:=2) (ix:= [3]) (N:= ["top","bottom" ,"shared" ]) rfl rfl rfl rfl rfl rfl (λ_ _ _ _ _ _=>(Wg (n:=2) rfl (Gz (Up 0 a) (Gz (Up 1 a) Sx)))) (λ_ _ _ _ _ _=>Eb) (λ_ _ _ _ _ _=>(Ag A7 (AJ 0) (Ag Dv (AJ 2) (AJ 1)))))))))) (AR (AY (AU (Dg (AJ 4) (AJ 1) (bN (AJ 2) (AJ 3))))))))
theorem Vv (F:Z1 K "whole" N2 f U):Z2 P w K Z Y n f U ["n"] 1 FS:=D8 F Di rfl λ_ _ _ _ _ _ _ _=>(AR (AY (AU (Aw (AJ 0) AH))))
theorem Ig (F:Z1 K "told_weights" DY f U)(d:Jx P w K Z Y n)(e:SD P w K Z Y n)(g:Z "sorted" =none)(h:Z "tuple" =none):Z2 P w K Z Y n f U ["weights","shared","weight"] 1 Bq:=by
 have a:(["number","shared","weights"] :zy Str).Nodup:=by decide +kernel
 exact D8 F Di rfl λ_ _ _ _ _ _ b c=>(AL (Kv (i:=1) c rfl (Or.inr rfl) AH) (AL (Ch AAY rfl (YO (AJ 0)) (D9 2 c) (AR (Kv (i:=1) c rfl (Or.inr rfl) (AK d b rfl (Aw (AJ 2) (AJ 1)))))) (AR (AY (B3 FD rfl h boot_tuple (Cy (Ii (Gy rfl (GH (Cf (WP rfl) rfl g boot_sorted (Cy (AJ 0)))) (D4 (own:=1) (ix:= [1,0]) (N:= ["number","shared" ,"weights" ]) rfl rfl rfl rfl rfl rfl (λ_ _ _ _ _ _=>(Up 0 a)) (λ_ _ _ _ _ _=>Eb) (λ_ _ _ _ _ _=>(AU (Aw (AJ 0) (AK e b rfl (Cy (Ag Dv (e6 b (AJ 2) (AJ 0) (λ_ _=>rfl)) (AJ 1))))))))))))))))
theorem Xp (F:Z1 K "over" RC f U)(a:Jz P w K Z Y n):Z2 P w K Z Y n f U ["one","other"] 2 Fp:=D8 F Di rfl λ_ _ _ _ _ _ b _=>(AR (AY (AK a b rfl (Aw (Ag A7 (AW (AJ 0) AH) (AW (AJ 1) AH)) (Ag A7 (AW (AJ 0) AH) (AW (AJ 1) AH))))))
theorem PJ (F:Z1 K "range_in" GC f U)(c:Jz P w K Z Y n)(d:J0 P w K Z Y n)(e:MD P w K Z Y n):Z2 P w K Z Y n f U ["planes","at","low","least","high","greatest"] 2 DS:=D8 F Di rfl λ_ _ _ _ _ _ a b=>(AL (C8 2 b (AK d a rfl (Dg (AJ 0) (AJ 1) AH))) (AL (C8 3 b (AK e a rfl (Aw (AJ 2) (AJ 1)))) (AL (C8 3 b (AK c a rfl (Aw (AW (AJ 3) AH) (AW (AJ 3) AH)))) (AL (C8 4 b (AK d a rfl (Dg (AJ 0) (AJ 1) (D6 AH)))) (AL (CS (Ha RK (AJ 4) Cg) (AR (AY (AU (Dg (AJ 3) (Ag D7 AH (AW (AJ 2) AH)) Cg)))) BS) (AL (C8 5 b (AK e a rfl (Aw (AJ 4) (AJ 1)))) (AR (AY (AU (Dg (AJ 3) (Ag D7 AH (AW (AJ 2) AH)) (AK c a rfl (Aw (AW (AJ 5) AH) (AW (AJ 5) AH)))))))))))))
theorem PN (F:Z1 K "value_in" GF f U)(c:VX P w K Z Y n)(d:NJ P w K Z Y n)(e:Qf P w K Z Y n)(g:SD P w K Z Y n):Z2 P w K Z Y n f U ["planes","at","least","held","greatest"] 2 Br:=D8 F Di rfl λ_ _ _ _ _ _ a b=>(AL (FH (AK e a rfl (Aw (AJ 0) (AJ 1))) (Cs (n:=3) rfl (Ae (D9 2 b) (Ae (D9 3 b) (Ae (D9 4 b) B4))))) (AR (AY (AK c a rfl (Aw (AK d a rfl (Aw (AJ 2) (AJ 4))) (AK g a rfl (Cy AH)))))))
theorem F3 (F:Z1 K "weights_by_time" Ce f U)(d:Ov P w K Z Y n)(e:NJ P w K Z Y n)(a:Kc K Z "ONCE" (.tup [(.int 1),(.int 1)])):Z2 P w K Z Y n f U ["wedge","one","other","sizes","lates"] 1 BK:=D8 F Di rfl λ_ _ _ _ _ _ b c=>(AL (FH (AJ 0) (Cs (n:=4) rfl (Ae (D9 1 c) (Ae (D9 2 c) (Ae (D9 3 c) (Ae (D9 4 c) B4)))))) (AL (CS (Wk (GJ (AK d b rfl (Aw (AW (AJ 1) AH) (AK e b rfl (Aw (AW (AJ 2) AH) (AW (AJ 4) AH))))))) (AR (AY (AU (Dg (AU (Aw AH (A2 a rfl))) (AU (Aw AH (A2 a rfl))) (AU (Aw AH (A2 a rfl))))))) BS) (AL (CS (Wk (GJ (AK d b rfl (Aw (AW (AJ 2) AH) (AK e b rfl (Aw (AW (AJ 1) AH) (AW (AJ 4) AH))))))) (AR (AY (AU (Dg (AU (Aw AH (A2 a rfl))) (AU (Aw AH (A2 a rfl))) (AU (Aw AH (A2 a rfl))))))) BS) (AR (AY Cg)))))
theorem Kg:Ca ["planes","at","most","lows","highs","told","low","high"] ["planes","at","most"] (Ai FY):=Di
theorem Q1 (F:Mt K "without" "without" FY f U 2)(g:MC P w K Z Y n)(h:Z "len" =none)(j:Z "set" =none):Co P w K Z Y JT (n+1) f U ["planes","at","most"] (Ci K 3 DN):=by
 have a:=Kg.nd;have b:(["plane","at"] :zy Str).Nodup:=by decide +kernel
 have c:(["plane","at"] :zy Str).Nodup:=by decide +kernel
 have d:(["plane","at"] :zy Str).Nodup:=by decide +kernel
 exact VO F Kg rfl λ_ _ _ _ _ _ e=>(AL (Ku (i:=3) rfl a rfl (Or.inl rfl) (GH (AJ 0)) (D4 (own:=1) (ix:= [1]) (N:= ["plane","at" ]) rfl rfl rfl rfl rfl rfl (λ_ _ _ _ _ _=>(Up 0 b)) (λ_ _ _ _ _ _=>(N5 (Ha MW (AW (AW (AJ 0) AH) (AJ 1)) AH))) (λ_ _ _ _ _ _=>(AJ 0)))) (AL (Ku (i:=4) rfl a rfl (Or.inl rfl) (GH (AJ 0)) (D4 (own:=1) (ix:= [1]) (N:= ["plane","at" ]) rfl rfl rfl rfl rfl rfl (λ_ _ _ _ _ _=>(Up 0 c)) (λ_ _ _ _ _ _=>(N5 (Ha FF (AW (AW (AJ 0) AH) (AJ 1)) AH))) (λ_ _ _ _ _ _=>(AJ 0)))) (AL (Pm (i:=5) rfl a rfl (Or.inl rfl) (GH (AJ 0)) (D4 (own:=1) (ix:= [1]) (N:= ["plane","at" ]) rfl rfl rfl rfl rfl rfl (λ_ _ _ _ _ _=>(Up 0 d)) (λ_ _ _ _ _ _=>(N5 (Ha (G0 e) (AW (AW (AJ 0) AH) (AJ 1)) AH))) (λ_ _ _ _ _ _=>(AJ 0)))) (AL (Ch AAY rfl (GH (AJ 3)) (D9 6 a) (AR (Ch AAY rfl (GH (AJ 4)) (D9 7 a) (AR (CS (Ha fF (bO rfl h rfl j (AW (AJ 6) AH) (AW (AJ 7) AH)) (AJ 2)) (AR (G1 (i:=5) ACD ACE EL (Cy (AK g e rfl (Dg (AJ 6) (AJ 7) (AJ 1)))))) BS))))) (AR (AY (AJ 5)))))))
theorem Qx (F:Z1 K "meet_in" HS f U)(h:Qb P w K Z Y n)(j:Tn P w K Z Y n)(k:VY P w K Z Y n)(l:Qe P w K Z Y n)(o:J1 P w K Z Y n)(g:Qi P w K Z Y n)(p:Gh P w K Z Y n)(r:Tr P w K Z Y n)(s:Z "range" =none)(a:Kc K Z "STRICT" (.tup [(.int 0),(.int 1),(.int 0),(.int 1),(.int 0),(.int 0),(.int 1),(.int 1),(.int 1),(.int 1),(.int 1),(.int 1)])):Z2 P w K Z Y n f U ["wedge","weights","planes","first","fault","s"] 1 EE:=by
 have d:(["number","wedge"] :zy Str).Nodup:=by decide +kernel
 have e:(["plane","s"] :zy Str).Nodup:=by decide +kernel
 exact D8 F Di rfl λ_ _ _ _ _ _ b c=>(AL (C8 1 c (AK p b rfl (Cy (AJ 0)))) (AL (CS (Ha OB (AJ 1) Cg) (AR (AY (AU (Aw Cg (AJ 1))))) BS) (AL (Ku (i:=2) rfl c rfl (Or.inl rfl) (So rfl s (Cy AH)) (D4 (own:=1) (ix:= [0]) (N:= ["number","wedge" ]) rfl rfl rfl rfl rfl rfl (λ_ _ _ _ _ _=>(Up 0 d)) (λ_ _ _ _ _ _=>Eb) (λ_ _ _ _ _ _=>(AK l b rfl (Dg (AK j b rfl (Aw (AJ 1) (AJ 0))) (AW (A2 a rfl) (AJ 0)) (AJ 0)))))) (AL (C8 3 c (WV r b rfl (Aw (AJ 2) AH))) (AL (C8 4 c (AK h b rfl (Aw (AJ 3) AH))) (AL (CS (Ha OB (AJ 4) Cg) (AR (AY (AU (Aw Cg (AK o b rfl (Cy (AW (AJ 4) AH))))))) BS) (AL (Kv (i:=5) c rfl (Or.inr rfl) (AK g b rfl (Aw (AJ 3) AH))) (AR (AY (AU (Aw (AU (Aw (AJ 5) (AK g b rfl (Aw (Ii (Gy rfl (GH (AJ 2)) (D4 (own:=1) (ix:= [5]) (N:= ["plane","s" ]) rfl rfl rfl rfl rfl rfl (λ_ _ _ _ _ _=>(Up 0 e)) (λ_ _ _ _ _ _=>Eb) (λ_ _ _ _ _ _=>(AK k b rfl (Dg (AJ 0) AH (AJ 1))))))) AH)))) Cg)))))))))))
theorem Vu (F:Z1 K "times" N1 f U)(a:Jz P w K Z Y n):Z2 P w K Z Y n f U ["one","other"] 2 GW:=D8 F Di rfl λ_ _ _ _ _ _ b _=>(AR (AY (AK a b rfl (Aw (Ag A7 (AW (AJ 0) AH) (AW (AJ 1) AH)) (Ag A7 (AW (AJ 0) AH) (AW (AJ 1) AH))))))
theorem HJ (F:Z1 K "piece_between" DD f U)(c:SC P w K Z Y n)(d:VX P w K Z Y n)(e:Xb P w K Z Y n)(g:Z "zip" =none):Z2 P w K Z Y n f U ["former","latter","span","lines","low","high","slope"] 2 BI:=D8 F Di rfl λ_ _ _ _ _ _ a b=>(AL (C8 2 b (AK c a rfl (Aw (AW (AJ 1) AH) (AW (AJ 0) AH)))) (AL (OC (i:=3) b rfl (Or.inl rfl) (Db Ka)) (AL (Ch AAY rfl (fC rfl g (Aw (Sk (AJ 0) (gP AH) gO) (Sk (AJ 1) (gP AH) gO))) (Cs (n:=2) rfl (Ae (D9 4 b) (Ae (D9 5 b) B4))) (AL (C8 6 b (AK d a rfl (Aw (AK c a rfl (Aw (AJ 5) (AJ 4))) (AJ 2)))) (AR (G1 (i:=3) ACD ACE EL (Cy (AU (Aw (AK c a rfl (Aw (AJ 4) (AK e a rfl (Aw (AJ 6) (AW (AJ 0) AH))))) (AJ 6)))))))) (AR (AY (AU (Dg (AW (AJ 0) AH) (AW (AJ 1) AH) (AJ 3))))))))
theorem NX (F:Z1 K "pieces_of" E9 f U)(b:IZ P w K Z Y n)(c:Z "len" =none)(d:Z "range" =none):Z2 P w K Z Y n f U ["plan"] 1 CM:=by
 have a:(["at","plan"] :zy Str).Nodup:=by decide +kernel
 exact D8 F Di rfl λ_ _ _ _ _ _ e _=>(AR (AY (Ii (Gy rfl (So rfl d (Cy (Ag D7 (Cf WO rfl c ACe (Cy (AJ 0))) AH))) (D4 (own:=1) (ix:= [0]) (N:= ["at","plan" ]) rfl rfl rfl rfl rfl rfl (λ_ _ _ _ _ _=>(Up 0 a)) (λ_ _ _ _ _ _=>Eb) (λ_ _ _ _ _ _=>(AK b e rfl (Aw (AW (AJ 1) (AJ 0)) (AW (AJ 1) (Ag CD (AJ 0) AH))))))))))
theorem Qz (F:Z1 K "size_of" HV f U):Z2 P w K Z Y n f U ["apart","side"] 2 Bz:=D8 F Di rfl λ_ _ _ _ _ _ a _=>(AR (AY (Sj (Ha (G0 a) (AJ 1) AH) (AW (AJ 0) AH) (AW (AJ 0) AH))))
theorem PK (F:Z1 K "sizes_of" GD f U)(d:NJ P w K Z Y n)(b:Tq P w K Z Y n)(e:Z "range" =none):Z2 P w K Z Y n f U ["one","other","apart","told","side","asides"] 3 DT:=D8 F Di rfl λ_ _ _ _ _ _ a c=>(AL (OC (i:=3) c rfl (Or.inl rfl) (Db Ka)) (AL (Ch AAY rfl (So rfl e (Cy AH)) (D9 4 c) (AL (C8 5 c (AK d a rfl (Aw (AK b a rfl (Aw (AW (AJ 0) AH) (AJ 4))) (AK b a rfl (Aw (AW (AJ 1) AH) (AJ 4)))))) (AR (G1 (i:=3) ACD ACE EL (Cy (AK d a rfl (Aw (AK b a rfl (Aw (AJ 2) (AJ 4))) (AJ 5)))))))) (AR (AY (AJ 3)))))
theorem Na (F:Z1 K "wedges_of" FC f U)(c:Ow P w K Z Y n)(e:Qg P w K Z Y n)(d:Z "enumerate" =none):Z2 P w K Z Y n f U ["one","other","apart","sizes","lates","others","told","i","former","j","latter"] 3 CO:=D8 F Di rfl λ_ _ _ _ _ _ b a=>(AL (C8 3 a (AK e b rfl (Dg (AJ 0) (AJ 1) (AJ 2)))) (AL (C8 4 a (AU (Aw (AW (AW (AJ 0) AH) AH) (AW (AW (AJ 1) AH) AH)))) (AL (C8 5 a (AK c b rfl (Cy (AW (AJ 1) AH)))) (AL (OC (i:=6) a rfl (Or.inl rfl) (Db Ka)) (AL (Ch AAY rfl (fB rfl d (Cy (AK c b rfl (Cy (AW (AJ 0) AH))))) (Cs (n:=2) rfl (Ae (D9 7 a) (Ae (D9 8 a) B4))) (AR (Ch AAY rfl (fB rfl d (Cy (AJ 5))) (Cs (n:=2) rfl (Ae (D9 9 a) (Ae (D9 10 a) B4))) (AR (G1 (i:=6) ACD ACE EL (Cy (AU (Dg (AJ 7) (AJ 9) (AU (BY (AJ 8) (Dg (AJ 10) (AJ 3) (AJ 4)))))))))))) (AR (AY (AJ 6))))))))
theorem Qy (F:Z1 K "meet_of" HU f U)(c:To P w K Z Y n)(d:Oz P w K Z Y n)(e:Z "tuple" =none):Z2 P w K Z Y n f U ["one","other","apart","rows","i","j","wedge","moments","weights"] 3 Bc:=D8 F Di rfl λ_ _ _ _ _ _ b a=>(AL (OC (i:=3) a rfl (Or.inl rfl) (Db Ka)) (AL (Ch AAY rfl (GH (AK d b rfl (Dg (AJ 0) (AJ 1) (AJ 2)))) (Cs (n:=3) rfl (Ae (D9 4 a) (Ae (D9 5 a) (Ae (D9 6 a) B4)))) (AL (FH (AK c b rfl (Cy (AJ 6))) (Cs (n:=2) rfl (Ae (D9 7 a) (Ae (D9 8 a) B4)))) (AL (CS (Ha OB (AJ 7) Cg) (AR (AY (AU (Dg HX (AW (AJ 7) AH) (AW (AJ 7) AH))))) BS) (AR (G1 (i:=3) ACD ACE EL (Cy (AU (Dg (AJ 4) (AJ 5) (AJ 8))))))))) (AR (AY (AU (Aw HX (B3 FD rfl e boot_tuple (Cy (AJ 3)))))))))
theorem aO (F:Z1 K "law" MU f U)(o:NG P w K Z Y n)(k:La P w K Z Y n)(p:C3 P w K Z Y n)(d:NH P w K Z Y n)(r:Ju P w K Z Y n)(l:Ot P w K Z Y n)(g:Jv P w K Z Y n)(c:Jw P w K Z Y n)(s:Ou P w K Z Y n)(e:Tp P w K Z Y n)(h:Z "int" =none)(t:Z "len" =none)(u:Z "min" =none)(v:Z "range" =none):Z2 P w K Z Y n f U ["_law_script","_law_k","_law_tape_here","_law_apart_here","_law_bounds_here","_law_spot","_law_begin","_law_side","_law_kind","_law_both","_law_reach","_law_wait","_law_little","_law_long","_law_further","_law_sign","_law_behind","_law_due","_law_off_here","_law_away","_law_one","_law_beside"] 1 DM:=D8 F Di rfl λ_ _ _ _ _ _ a b=>(AL (Ch AAY rfl (So rfl v (Cy (Ag CD AH (Cf (bK rfl) rfl u boot_min (Aw AH (Cf WO rfl t ACe (Cy (AJ 0)))))))) (D9 1 b) (AL (C8 2 b (AK s a rfl (Aw (AJ 0) (AJ 1)))) (AL (C8 3 b (AK o a rfl (Cy (AJ 2)))) (AL (C8 4 b (Ii (Db (Aw (AK k a rfl (Cy (AJ 2))) (AK k a rfl (Cy (AJ 2))))))) (AL (C8 5 b (AU (Dg (AK d a rfl (Cy (AJ 2))) (AK d a rfl (Cy (AJ 2))) (AK d a rfl (Cy (AJ 2)))))) (AL (C8 6 b (AK d a rfl (Cy (AJ 2)))) (AL (OD (i:=13) (j:=14) rfl b rfl rfl (by decide) rfl rfl (Aw (AK l a rfl (Cy (AJ 2))) (AK l a rfl (Cy (AJ 2)))) rfl) (AL (C8 7 b (AK p a rfl (Aw (AJ 2) AH))) (AL (C8 8 b (B3 N4 rfl h boot_int (Cy (DZ (G0 a) (AJ 7) AH (CI _))))) (AL (C8 9 b (AK c a rfl (Aw (AW (AW (AJ 4) AH) (AJ 8)) (AW (AW (AJ 4) AH) (AJ 8))))) (AL (C8 10 b (AK c a rfl (Aw (AW (AJ 3) (AJ 8)) (AJ 9)))) (AL (C8 11 b (AK c a rfl (Aw (AK c a rfl (Aw (AJ 6) (AJ 13))) (AW (AW (AJ 4) AH) AH)))) (AR (Ch AAY rfl (GH (Ii (Db (BY (AU (Aw AH AH)) (BY (AU (Aw AH AH)) (Dg (AU (Aw (D6 AH) AH)) (AU (Aw AH (Ag Wi AH AH))) (AU (Aw (D6 AH) (Ag Wi AH AH))))))))) (D9 12 b) (AL (Ch AAY rfl (GH (Ii (Db (Aw AH (D6 AH))))) (D9 15 b) (AL (C8 18 b (AK r a rfl (Aw (AU (Aw (AJ 15) AH)) (AK c a rfl (Aw (AJ 10) (AJ 12)))))) (AL (C8 19 b (Ag CD (Ag CD (Sk (AJ 5) gO (gP (AJ 7))) (AU (Cy (AK c a rfl (Aw (AW (AJ 5) (AJ 7)) (AJ 18)))))) (Sk (AJ 5) (gP (Ag CD (AJ 7) AH)) gO))) (AL (C8 20 b (AU (Aw (AK g a rfl (Dg (AJ 6) (AJ 13) (AJ 5))) (AW (AJ 4) AH)))) (AL (C8 21 b (AU (Aw (AK g a rfl (Dg (AJ 6) (AJ 14) (AJ 19))) (AW (AJ 4) AH)))) (AL (C8 17 b (AW (Ii (Db (Aw HX HX))) (B3 N4 rfl h boot_int (Cy (DZ FF (AW (AJ 12) AH) AH (CI _)))))) (AR (CS (Wl (Wo (Ha (Pk a) (AW (AK e a rfl (Dg (AJ 20) (AJ 21) (AJ 3))) AH) (AJ 17)) (RP (Ha (Pk a) (AW (AK e a rfl (Dg (AJ 21) (AJ 20) (AJ 3))) AH) (AJ 17))))) (AR (AY WU)) BS)))))))) (AL (C8 16 b (AU (Aw (AK g a rfl (Dg (AK c a rfl (Aw (AJ 11) (AJ 12))) (AJ 14) (AJ 5))) (AW (AJ 4) AH)))) (AL (C8 17 b (AW (Ii (Db (Aw HX HX))) (B3 N4 rfl h boot_int (Cy (DZ FF (AW (AJ 12) AH) AH (CI _)))))) (AR (CS (Wl (Wo (Ha (Pk a) (AW (AK e a rfl (Dg (AJ 20) (AJ 16) (AJ 3))) AH) (AJ 17)) (RP (Ha (Pk a) (AW (AK e a rfl (Dg (AJ 16) (AJ 20) (AJ 3))) AH) (AJ 17))))) (AR (AY WU)) BS))))))))))))))))))) (AR (AY WU)))
end
def Zw {P:zp}{w:zm}{K:AAB}{Z:Str->zt zx}{Y:zl}{k:Nat}{x:Str}{st:Stmt}{ps:zy Str}{sp:Sp}{f:zu}{U:FuncData}(F:Rh K x x st f U)(b:Binds K U ps [])(m:Z x=some (.ref f))(G:Co P w K Z Y JT k f U ps sp):Has P w K Z Y k x ps sp:=⟨f,U,m,F.kp,b,G⟩
def de {a:zy zx}(hl:a.length=1):∃b:zx,a= [b] :=by match a,hl with | [b],_=>exact⟨_,rfl⟩
def df {a:zy zx}(hl:a.length=2):∃b c:zx,a= [b,c] :=by match a,hl with | [b,c],_=>exact⟨_,_,rfl⟩
def dg {a:zy zx}(hl:a.length=3):∃b c d:zx,a= [b,c,d] :=by match a,hl with | [b,c,d],_=>exact⟨_,_,_,rfl⟩
def dh {a:zy zx}(hl:a.length=4):∃b c d e:zx,a= [b,c,d,e] :=by match a,hl with | [b,c,d,e],_=>exact⟨_,_,_,_,rfl⟩
def DP (K:AAB)(x:Str)(st:Stmt)(f:zu):Prop:=PySem.W.nsIn K mainGlobals x=some (some (.ref f))/\∃U,Rh K x x st f U
def mP {K:AAB}{x:Str}{st:Stmt}{f:zu}{g:zx}{h i:zt zu}{d:Array (zt zx)}{kV e j b ct:zx}(a:PySem.W.nsIn K mainGlobals x=some (some (.ref f)))(l:K.lookup f=some ⟨g,h, .func (PySem.W.fnOf x x (Cv st) (BW st) (Ai st) .none kV e j i b ct),d⟩)(c:PySem.W.codeIn K b x=true)(k:PySem.W.keepIn K (.ref f)=true):DP K x st f:=⟨a,_,VQ l c k⟩
def h8 {P:zp}{w:zm}{K:AAB}{h Y:zl}{Z:Str->zt zx}{k:Nat}{x:Str}{st:Stmt}{ps:zy Str}{sp:Sp}{f:zu}(A:DP K x st f)(X:K.In h)(G:h.Ns mainGlobals Z)(g:∀U,Rh K x x st f U->Binds K U ps [] ->Z x=some (.ref f)->Co P w K Z Y JT k f U ps sp)(b:∀U,Rh K x x st f U->Binds K U ps [] :=by exact λ_ F=>F.binds λ_ _ _ _ _ _ c hl=>by first | (obtain⟨_,rfl⟩:=de hl;rfl)|(obtain⟨_,_,rfl⟩:=df hl;rfl)|(obtain⟨_,_,_,rfl⟩:=dg hl;rfl)|(obtain⟨_,_,_,_,rfl⟩:=dh hl;rfl)):Has P w K Z Y k x ps sp:=
 let ⟨a,U,F⟩:=A;Zw F (b U F) (ABM X G a) (g U F (b U F) (ABM X G a))
def gY (K:AAB)(x:Str)(st:Stmt)(f:zu)(d:Int):Prop:=PySem.W.nsIn K mainGlobals x=some (some (.ref f))/\∃U,Mt K x x st f U d
def dE {P:zp}{w:zm}{K:AAB}{h Y:zl}{Z:Str->zt zx}{k:Nat}{x:Str}{st:Stmt}{ps:zy Str}{d:Int}{sp:Sp}{f:zu}(A:gY K x st f d)(X:K.In h)(G:h.Ns mainGlobals Z)(b:∀U,Mt K x x st f U d->∃c,Binds K U ps [.int d c])(g:∀U,Mt K x x st f U d->Co P w K Z Y JT k f U ps sp):P8 P w K Z Y k x ps d sp:=
 let ⟨a,U,F⟩:=A;let ⟨c,B⟩:=b U F;⟨f,U,c,ABM X G a,F.kp,B,g U F⟩
def all_mk {l:PySem.W.OpenLaw}{w:zm}{K:AAB}{h:zl}{Z:Str->zt zx}{fa f1 f2 f3 f4 f5 f6 f7 f8 f9 E H I J L M N O P Q R S T f23 f24 f25 f26 f27 f28 f29 f30 f31 f32 f33 f34 f35 f36 f37 f38 f39 f40 f41 f42 f43 f44 f45:zu}(X:K.In h)(G:h.Ns mainGlobals Z)(nA:Z "law" =some (.ref fa))(a1:DP K "_law_draw" Dt f1)(a2:DP K "_law_apart" EW f2)(a3:DP K "_law_bounds" D5 f3)(a4:DP K "_law_part" E7 f4)(a5:DP K "_law_place" EX f5)(a6:DP K "_law_product" DW f6)(a7:DP K "_law_span" E8 f7)(a8:DP K "_law_sum" F7 f8)(a9:DP K "_law_staying" DX f9)(a10:DP K "_law_tape" Du E)(a11:DP K "summed" KZ H)(a12:DP K "crossed" HQ I)(a13:DP K "is_never" F9 J)(a14:DP K "before" KU L)(a15:DP K "turn_of" HW M)(a16:DP K "is_tighter" EY N)(a17:DP K "tightest" GE O)(a18:DP K "fault_in" F8 P)(a19:DP K "common" KW Q)(a20:DP K "part" RD R)(a21:DP K "minus" N0 S)(a22:DP K "negative" GA T)(a23:DP K "plus" RE f23)(a24:DP K "side_form" FA f24)(a25:DP K "time_form" FB f25)(a26:DP K "form_of" HR f26)(a27:DP K "placed" KY f27)(a28:DP K "shared_bottom" DE f28)(a29:DP K "plane_of" GB f29)(a30:DP K "whole" N2 f30)(a31:DP K "told_weights" DY f31)(a32:DP K "over" RC f32)(a33:DP K "range_in" GC f33)(a34:DP K "value_in" GF f34)(a35:DP K "weights_by_time" Ce f35)(a36:gY K "without" FY f36 2)(a37:DP K "meet_in" HS f37)(a38:DP K "times" N1 f38)(a39:DP K "piece_between" DD f39)(a40:DP K "pieces_of" E9 f40)(a41:DP K "size_of" HV f41)(a42:DP K "sizes_of" GD f42)(a43:DP K "wedges_of" FC f43)(a44:DP K "meet_of" HU f44)(x:DP K "law" MU f45)(k:PySem.W.nsIn K mainGlobals "abs" =some none)(a:PySem.W.nsIn K mainGlobals "enumerate" =some none)(m:PySem.W.nsIn K mainGlobals "int" =some none)(o:PySem.W.nsIn K mainGlobals "len" =some none)(p:PySem.W.nsIn K mainGlobals "max" =some none)(r:PySem.W.nsIn K mainGlobals "min" =some none)(g:PySem.W.nsIn K mainGlobals "range" =some none)(t:PySem.W.nsIn K mainGlobals "set" =some none)(c:PySem.W.nsIn K mainGlobals "sorted" =some none)(i:PySem.W.nsIn K mainGlobals "tuple" =some none)(u:PySem.W.nsIn K mainGlobals "zip" =some none){qBACK_2:Tok}{qBACK_3:Tok}{qBACK_1:zu}{qBACK_1n:Nat}{qBACK_1d:zt zu}{qBACK_1s:Array (zt zx)}{qNOUGHT_5:Tok}{qNOUGHT_6:Tok}{qNOUGHT_4:zu}{qNOUGHT_4n:Nat}{qNOUGHT_4d:zt zu}{qNOUGHT_4s:Array (zt zx)}{qONCE_8:Tok}{qONCE_9:Tok}{qONCE_7:zu}{qONCE_7n:Nat}{qONCE_7d:zt zu}{qONCE_7s:Array (zt zx)}{qSTRICT_11:Tok}{qSTRICT_12:Tok}{qSTRICT_13:Tok}{qSTRICT_14:Tok}{qSTRICT_15:Tok}{qSTRICT_16:Tok}{qSTRICT_17:Tok}{qSTRICT_18:Tok}{qSTRICT_19:Tok}{qSTRICT_20:Tok}{qSTRICT_21:Tok}{qSTRICT_22:Tok}{qSTRICT_10:zu}{qSTRICT_10n:Nat}{qSTRICT_10d:zt zu}{qSTRICT_10s:Array (zt zx)}(a_STRICT:PySem.W.nsIn K mainGlobals "STRICT" =some (some (.ref qSTRICT_10)))(a_ONCE:PySem.W.nsIn K mainGlobals "ONCE" =some (some (.ref qONCE_7)))(a_NOUGHT:PySem.W.nsIn K mainGlobals "NOUGHT" =some (some (.ref qNOUGHT_4)))(a_BACK:PySem.W.nsIn K mainGlobals "BACK" =some (some (.ref qBACK_1)))(h_qBACK_1:K.lookup qBACK_1=some ⟨.type "tuple",qBACK_1d, .seq (List.toArray [(.int (-1) qBACK_2),(.int 1 qBACK_3)]) qBACK_1n,qBACK_1s⟩)(h_qNOUGHT_4:K.lookup qNOUGHT_4=some ⟨.type "tuple",qNOUGHT_4d, .seq (List.toArray [(.int 0 qNOUGHT_5),(.int 1 qNOUGHT_6)]) qNOUGHT_4n,qNOUGHT_4s⟩)(h_qONCE_7:K.lookup qONCE_7=some ⟨.type "tuple",qONCE_7d, .seq (List.toArray [(.int 1 qONCE_8),(.int 1 qONCE_9)]) qONCE_7n,qONCE_7s⟩)(h_qSTRICT_10:K.lookup qSTRICT_10=some ⟨.type "tuple",qSTRICT_10d, .seq (List.toArray [(.int 0 qSTRICT_11),(.int 1 qSTRICT_12),(.int 0 qSTRICT_13),(.int 1 qSTRICT_14),(.int 0 qSTRICT_15),(.int 0 qSTRICT_16),(.int 1 qSTRICT_17),(.int 1 qSTRICT_18),(.int 1 qSTRICT_19),(.int 1 qSTRICT_20),(.int 1 qSTRICT_21),(.int 1 qSTRICT_22)]) qSTRICT_10n,qSTRICT_10s⟩):∃U:FuncData,(∀(s:zw) (v:zx),BindsTo s U ⟨[v], []⟩ [("_law_script",v)])/\∀Y:zl,K.In Y->Y.Ns mainGlobals Z->Co l.prog w K Z Y JT 8 fa U ["_law_script"] (Ci K 1 DM):=by have e:=nA.symm.trans (ABM X G x.1);cases e;obtain⟨aL,fdL,FL⟩:=x;obtain⟨⟨oc,od,kV,doc,pm,an,cdv,ct,osl,eL,lL,cL⟩,kL⟩:=FL;subst eL;have FL:=VQ lL cL kL;have Ei:=AAs X G k;have Dy:=AAs X G a;have FR:=AAs X G m;have A:=AAs X G o;have W2:=AAs X G p;have W3:=AAs X G r;have B:=AAs X G g;have W4:=AAs X G t;have K1:=AAs X G c;have y:=AAs X G i;have MZ:=AAs X G u;have j:Kc K Z "BACK" (.tup [(.int (-1)),(.int 1)]):=SU (ABM X G a_BACK) (Iv h_qBACK_1 (.cons BG (.cons BG .nil)));have d:Kc K Z "NOUGHT" (.tup [(.int 0),(.int 1)]):=SU (ABM X G a_NOUGHT) (Iv h_qNOUGHT_4 (.cons BG (.cons BG .nil)));have b:Kc K Z "ONCE" (.tup [(.int 1),(.int 1)]):=SU (ABM X G a_ONCE) (Iv h_qONCE_7 (.cons BG (.cons BG .nil)));have f:Kc K Z "STRICT" (.tup [(.int 0),(.int 1),(.int 0),(.int 1),(.int 0),(.int 0),(.int 1),(.int 1),(.int 1),(.int 1),(.int 1),(.int 1)]):=SU (ABM X G a_STRICT) (Iv h_qSTRICT_10 (.cons BG (.cons BG (.cons BG (.cons BG (.cons BG (.cons BG (.cons BG (.cons BG (.cons BG (.cons BG (.cons BG (.cons BG .nil)))))))))))));refine⟨PySem.W.fnOf "law" "law" (Cv MU) (BW MU) (Ai MU) .none kV doc pm an cdv ct,λs v=> .of_eq rfl,λY _ _=> ?_⟩;have hs:= @h8 l.prog w K h Y Z;have H1:=hs a1 X G λ_ F _ _=>NT (n:=0) F;have H2:=hs a2 X G λ_ F _ _=>Lc (n:=1) F (B7 H1);have H3:=hs a3 X G λ_ F _ _=>KG (n:=1) F (B7 H1);have C:=hs a4 X G λ_ F _ _=>NU (n:=0) F Ei FR;have H5:=hs a5 X G λ_ F _ _=>Ld (n:=1) F (B7 H1) (B7 C);have H6:=hs a6 X G λ_ F _ _=>Ic (n:=1) F (B7 C);have H7:=hs a7 X G λ_ F _ _=>NV (n:=1) F (B7 H1) (B7 C);have H8:=hs a8 X G λ_ F _ _=>PB (n:=1) F (B7 C);have H9:=hs a9 X G λ_ F _ _=>Ie (n:=2) F (B7 H8);have lZ:=hs a10 X G λ_ F _ _=>NW (n:=0) F Ei FR A;have lc:=hs a11 X G λ_ F _ _=>UJ (n:=0) F W2 y MZ;have jj:=hs a12 X G λ_ F _ _=>Qv (n:=1) F (B7 lc);have lf:=hs a13 X G λ_ F _ _=>PD (n:=0) F;have jk:=hs a14 X G λ_ F _ _=>UG (n:=0) F;have jl:=hs a15 X G λ_ F _ _=>Q0 (n:=0) F;have lh:=hs a16 X G λ_ F _ _=>Le (n:=1) F (B7 jk) (B7 jl);have jm:=hs a17 X G λ_ F _ _=>PM (n:=2) F (B7 lh);have lj:=hs a18 X G λ_ F _ _=>PC (n:=3) F (B7 jj) (B7 lf) (B7 jm);have gc:=hs a19 X G λ_ F _ _=>UH (n:=0) F;have z:=hs a20 X G λ_ F _ _=>Xq (n:=1) F (B7 gc) Ei;have jn:=hs a21 X G λ_ F _ _=>Vt (n:=2) F (B7 z);have jo:=hs a22 X G λ_ F _ _=>PF (n:=0) F;have D:=hs a23 X G λ_ F _ _=>Xr (n:=2) F (B7 z);have ln:=hs a24 X G λ_ F _ _=>NY (n:=3) F (B7 jn) (B7 jo) (B7 D);have lp:=hs a25 X G λ_ F _ _=>NZ (n:=1) F (B7 jo) j d b;have lu:=hs a26 X G λ_ F _ _=>Qw (n:=4) F (B7 ln) (B7 lp);have lv:=hs a27 X G λ_ F _ _=>UI (n:=0) F y;have lw:=hs a28 X G λ_ F _ _=>HK (n:=1) F (B7 gc);have ly:=hs a29 X G λ_ F _ _=>PH (n:=2) F (B7 lw) y;have jp:=hs a30 X G λ_ F _ _=>Vv (n:=0) F;have l7:=hs a31 X G λ_ F _ _=>Ig (n:=1) F (B7 gc) (B7 jp) K1 y;have jq:=hs a32 X G λ_ F _ _=>Xp (n:=2) F (B7 z);have l8:=hs a33 X G λ_ F _ _=>PJ (n:=3) F (B7 z) (B7 jm) (B7 jl);have l9:=hs a34 X G λ_ F _ _=>PN (n:=4) F (B7 jq) (B7 D) (B7 l8) (B7 jp);have mB:=hs a35 X G λ_ F _ _=>F3 (n:=3) F (B7 jk) (B7 D) b;have mC:= @dE l.prog w K h Y Z _ _ _ _ _ _ _ a36 X G (λ_ F=>F.binds3 λ_ _ _ _ _ _ _ _ _=>⟨_,rfl,λ_=>rfl⟩) λ_ F=>Q1 (n:=2) F (B7 jj) A W4;have mD:=hs a37 X G λ_ F _ _=>Qx (n:=5) F (B7 lj) (B7 lu) (B7 lv) (B7 ly) (B7 l7) (B7 l9) (B7 mB) (mC.mono (by decide)) B f;have mE:=hs a38 X G λ_ F _ _=>Vu (n:=2) F (B7 z);have mF:=hs a39 X G λ_ F _ _=>HJ (n:=3) F (B7 jn) (B7 jq) (B7 mE) MZ;have mH:=hs a40 X G λ_ F _ _=>NX (n:=4) F (B7 mF) A B;have mI:=hs a41 X G λ_ F _ _=>Qz (n:=0) F;have mJ:=hs a42 X G λ_ F _ _=>PK (n:=3) F (B7 D) (B7 mI) B;have mK:=hs a43 X G λ_ F _ _=>Na (n:=5) F (B7 mH) (B7 mJ) Dy;have mL:=hs a44 X G λ_ F _ _=>Qy (n:=6) F (B7 mD) (B7 mK) y;exact aO (n:=7) FL (B7 H2) (B7 H3) (B7 H1) (B7 H5) (B7 H6) (B7 H7) (B7 H9) (B7 H8) (B7 lZ) (B7 mL) FR A W3 B
def walk {l:PySem.W.OpenLaw}{q:zp}{loose:zy Str}{XP:(Str->zt zx)->zl->Prop}{YP:zm->zl->Prop}{d:DefRec}{K:Params->AAB}(c:l.most=some 63)(e:d.params.defaults= [])(g:∀(w:zm) (h:zl),YP w h->(K w.params).In h)(F:∀(w:zm) (Z:Str->zt zx) (b:zu) (h:zl),(K w.params).In h->h.Ns mainGlobals Z->Z d.name=some (.ref b)-> ∃U:FuncData,(∀(s:zw) (u:zx),BindsTo s U ⟨[u], []⟩ [("_law_script",u)])/\∀Y:zl,(K w.params).In Y->Y.Ns mainGlobals Z->Co l.prog w (K w.params) Z Y JT 8 b U ["_law_script"] (Ci (K w.params) 1 DM)):PySem.W.WalkO q loose XP YP l.row.toRowW d [] (λf vs=>PySem.call f vs):=
 L2.walk_of (n:=63) (k:=8) (x:="_law_script") (CX:=λ_=>JT) (sp:=λw=>Ci (K w.params) 1 DM) c (by decide) e ⟨rfl,by decide,by decide,rfl⟩ g F (λ_ _ a ns hl _ i=>PL.law_sp i (Vp ns hl)) λ_ _ _ _ _ z=>z
def atKD {K:AAB}{x:String}{s:Stmt}{d:Int}(t:Nat)(b n:Nat)(m:String)(i c f:Nat)(a:PySem.W.nsIn K mainGlobals (Str.ofString x)=some (some (.ref f)):=by kernel_rfl)(l:K.lookup f=some (jy t x s m i c):=by kernel_rfl)(e:PySem.W.codeIn K (.ref c) (Str.ofString x)=true:=by kernel_rfl)(k:PySem.W.keepIn K (.ref f)=true:=by kernel_rfl)(g:K.lookup t=some ⟨.type "tuple",none, .seq #[.int d b] n, #[]⟩:=by kernel_rfl):gY K (Str.ofString x) s f d:=⟨a,_,⟨⟨_,_,_,_,_,_,_,_,_,t,rfl,l,e,_,b,n,g,rfl⟩,k⟩⟩
def atK {K:AAB}{x:String}{s:Stmt}(m:String)(i c f:Nat)(a:PySem.W.nsIn K mainGlobals (Str.ofString x)=some (some (.ref f)):=by kernel_rfl)(l:K.lookup f=some (fO x s m i c):=by kernel_rfl)(d:PySem.W.codeIn K (.ref c) (Str.ofString x)=true:=by kernel_rfl)(k:PySem.W.keepIn K (.ref f)=true:=by kernel_rfl):DP K (Str.ofString x) s f:=mP a l d k
end K34
open PySem PySem.W PyProof.Rows
def K34.lg:LeftO K34.pwA K34.q [] (λs=>xlAt K34.q [] s&&recOk [] s) (λs=>K34.KA.map s.heap.get?) (λw=>(K34.KK w.params).map λp=>some p.2) 6000:=λw=>PL.map_pair (PL.map5 (K34.l0 w) (K34.l1 w) (K34.l2 w) (K34.l3 w) (K34.l4 w)) (K34.l5 w)
theorem PySem.Challenge.cw_skylanes_k34_the_bounds_ends_holds : PySem.Challenge.rw_skylanes_k34_the_bounds_ends.Holds := by
 refine ⟨K34.w1, ?_⟩
 refine PySem.W.holds_open (q:=K34.q) (loose:= []) (Xt:=λs=>xlAt K34.q [] s&&recOk [] s) (XP:=XL K34.q []) (YP:=InK K34.KK) (N:=6000) K34.lg (InK.of (as:=K34.KA) λ_=>by kernel_rfl) InK.keeps (λs e=>xl_of s (Bool.and_eq_true_iff.mp e).1) XL.keeps (by rfl) (by rfl) (by rfl) (λs e=>recFacts_of (Bool.and_eq_true_iff.mp e).2) (by rfl) K34.w0 (by decide +kernel) ⟨rfl,rfl,rfl,rfl,rfl,by decide +kernel⟩ ?hw ?hc
 (case hw=>w_witness2)
 case hc=>
 refine K34.walk (l:=PySem.Challenge.rw_skylanes_k34_the_bounds_ends) (K:=K34.KK) rfl rfl (λw h Y=>Y) ?F
 intro w mg fa h KX G dM
 refine' K34.all_mk KX G dM (K34.atK K34.m0 542 256 257) (K34.atK K34.m0 542 333 334) (K34.atK K34.m0 542 326 327) (K34.atK K34.m0 542 263 264) (K34.atK K34.m0 542 305 306) (K34.atK K34.m0 542 291 292) (K34.atK K34.m0 542 312 313) (K34.atK K34.m0 542 277 278) (K34.atK K34.m0 542 340 341) (K34.atK K34.m0 542 249 250) (K34.atK K34.m1 263 86 87) (K34.atK K34.m1 263 93 94) (K34.atK K34.m1 263 111 112) (K34.atK K34.m2 187 69 70) (K34.atK K34.m1 263 118 119) (K34.atK K34.m1 263 125 126) (K34.atK K34.m1 263 132 133) (K34.atK K34.m1 263 139 140) (K34.atK K34.m2 187 20 21) (K34.atK K34.m2 187 27 28) (K34.atK K34.m2 187 48 49) (K34.atK K34.m3 383 171 172) (K34.atK K34.m2 187 41 42) (K34.atK K34.m3 383 211 212) (K34.atK K34.m3 383 204 205) (K34.atK K34.m3 383 218 219) (K34.atK K34.m1 263 104 105) (K34.atK K34.m2 187 76 77) (K34.atK K34.m1 263 81 82) (K34.atK K34.m2 187 34 35) (K34.atK K34.m4 502 230 231) (K34.atK K34.m2 187 62 63) (K34.atK K34.m1 263 146 147) (K34.atK K34.m1 263 153 154) (K34.atK K34.m4 502 225 226) (K34.atKD 95 286 0 K34.m1 263 99 100) (K34.atK K34.m4 502 235 236) (K34.atK K34.m2 187 55 56) (K34.atK K34.m3 383 178 179) (K34.atK K34.m3 383 183 184) (K34.atK K34.m5 373 160 161) (K34.atK K34.m3 383 190 191) (K34.atK K34.m3 383 197 198) (K34.atK K34.m4 502 242 243) (K34.atK K34.m0 542 347 348) (by kernel_rfl) (by kernel_rfl) (by kernel_rfl) (by kernel_rfl) (by kernel_rfl) (by kernel_rfl) (by kernel_rfl) (by kernel_rfl) (by kernel_rfl) (by kernel_rfl) (by kernel_rfl) ?a_STRICT ?a_ONCE ?a_NOUGHT ?a_BACK ?h_qBACK_1 ?h_qNOUGHT_4 ?h_qONCE_7 ?h_qSTRICT_10 (qBACK_1:=164) (qBACK_1n:=0) (qBACK_1d:=none) (qBACK_1s:= #[]) (qBACK_2:=392) (qBACK_3:=393) (qNOUGHT_4:=162) (qNOUGHT_4n:=0) (qNOUGHT_4d:=none) (qNOUGHT_4s:= #[]) (qNOUGHT_5:=385) (qNOUGHT_6:=386) (qONCE_7:=163) (qONCE_7n:=0) (qONCE_7d:=none) (qONCE_7s:= #[]) (qONCE_8:=388) (qONCE_9:=389) (qSTRICT_10:=165) (qSTRICT_10n:=0) (qSTRICT_10d:=none) (qSTRICT_10s:= #[]) (qSTRICT_11:=395) (qSTRICT_12:=396) (qSTRICT_13:=397) (qSTRICT_14:=398) (qSTRICT_15:=399) (qSTRICT_16:=400) (qSTRICT_17:=401) (qSTRICT_18:=402) (qSTRICT_19:=403) (qSTRICT_20:=404) (qSTRICT_21:=405) (qSTRICT_22:=406)
 (case a_STRICT=>kernel_rfl)
 (case a_ONCE=>kernel_rfl)
 (case a_NOUGHT=>kernel_rfl)
 (case a_BACK=>kernel_rfl)
 (case h_qBACK_1=>kernel_rfl)
 (case h_qNOUGHT_4=>kernel_rfl)
 (case h_qONCE_7=>kernel_rfl)
 (case h_qSTRICT_10=>kernel_rfl)
end
