import PyProof.Rows.All
import Wide.All
import KE.KTryMore
import KE.KRevIter
import KE.KFromBytes
import KE.KDictSum
import KE.KSortTup
import KE.KDictOf
import PyProof.CollectIter
import PyProof.SetNew
import PyProof.SetRoads
import PyProof.Rows.SetFrom
import PyProof.StrLawsIn
import Wide.FinOn
import Lean
import PyProof.EqAt
import PyProof.EqKinds
import PyProof.TupleCall
import PyProof.NeKinds
import PySem.Challenge.RW_shiftroom_k21_each_refusal_its_own
set_option Elab.async false
set_option linter.all false
set_option maxRecDepth 100000
namespace L2
open PySem
def inClass (s:Stmt) (j:Nat):Stmt:=match s with
 | .ClassDef _ _ _ body _ _ _ _ _ _ _=>body.getD j (.Pass ⟨0,0,0,0⟩)
 | _=>.Pass ⟨0,0,0,0⟩
def defArgs (s:Stmt):Arguments:=match s with
 | .FunctionDef _ a _ _ _ _ _ _ _ _=>a
 | _=>{ posonlyargs:=[],args:=[],vararg:=none,kwonlyargs:=[],kw_defaults:=[],kwarg:=none,defaults:=[] }
def defBody (s:Stmt):List Stmt:=match s with
 | .FunctionDef _ _ b _ _ _ _ _ _ _=>b
 | _=>[]
def defScope (s:Stmt):Scope:=match s with
 | .FunctionDef _ _ _ _ _ _ sc _ _ _=>sc
 | _=>{ kind:=.function,names:=[],isGenerator:=false,isCoroutine:=false }

end L2
def Prf.top (i:Nat):PySem.Stmt:=PySem.Challenge.pw_shiftroom_k21_each_refusal_its_own.main.body.getD i (.Pass ⟨0,0,0,0⟩)
abbrev Qd (P:PySem.Params) (s:PySem.Str) (n:Nat) (v:PySem.Value):PySem.DictEntry:={ hash:=PySem.PyData.keyHash P s,key:=.str s n,val:=v }
abbrev Qt (v:Array PySem.Value):PySem.Obj:={ cls:=.type "tuple",data:=.seq v }
abbrev QD (v:Array PySem.DictEntry):PySem.Obj:={ cls:=.type "dict",data:=.dict v }
abbrev Qf (n q:PySem.Str) (i:Nat) (m:PySem.Value) (c:Nat):PySem.Obj:={ cls:=.type "function",data:=.func { name:=n,qualname:=q,params:=L2.defArgs (Prf.top i),body:=.stmts (L2.defBody (Prf.top i)),scope:=L2.defScope (Prf.top i),globals:=3,closure:=[],defaults:=.none,kwdefaults:=.none,pyModule:=m,code:=.ref c } }
abbrev Qm (n q:PySem.Str) (i j:Nat) (m:PySem.Value) (c:Nat):PySem.Obj:={ cls:=.type "function",data:=.func { name:=n,qualname:=q,params:=L2.defArgs (L2.inClass (Prf.top i) j),body:=.stmts (L2.defBody (L2.inClass (Prf.top i) j)),scope:=L2.defScope (L2.inClass (Prf.top i) j),globals:=3,closure:=[],defaults:=.none,kwdefaults:=.none,pyModule:=m,code:=.ref c } }
abbrev Qc (n:PySem.Str) (a:Nat) (q:PySem.Str) (b c:Nat) (d e:Int) (f:Int) (g:Nat) (v w x y:PySem.Value) (u k:Int) (l:Nat):PySem.Obj:={ cls:=.type "code",data:=.fields #[.str n a,.str q b,.str ("/claim/cut.py") c,.int d 0,.int e 0,.int 0 0,.int 0 0,.int f 0,.ref g,.bool Bool.true,.int 181 0,v,.none,w,x,y,.int u 0,.int k 0,.str ("/claim/cut.py") l] }
noncomputable def Prf.KK:PySem.Params->PySem.W.Frag:=fun P=>(nat_lit 2,{ cls:=.none,data:=.dict #[] }) ::
 (nat_lit 3,{ cls:=.type "dict",data:=.dict #[Qd P "__name__" 165 (.str ("law_shiftroom_k21_each_refusal_its_own") 1006),Qd P "__doc__" 166 .none,Qd P "__package__" 167 .none,Qd P "__loader__" 168 (.builtin "__main__.__loader__#opaque"),Qd P "__spec__" 169 .none,Qd P "__annotations__" 170 (.ref 6),Qd P "__builtins__" 171 (.ref 4),Qd P "__file__" 173 (.str ("/claim/cut.py") 172),Qd P "__cached__" 174 .none,Qd P "RoomError" 206 (.ref 24),Qd P "NoSize" 222 (.ref 37),Qd P "NoSeating" 238 (.ref 49),Qd P "OtherSize" 254 (.ref 61),Qd P "NoSeat" 270 (.ref 73),Qd P "NoNumber" 286 (.ref 85),Qd P "TooMany" 302 (.ref 97),Qd P "Unreached" 318 (.ref 109),Qd P "TooWide" 334 (.ref 121),Qd P "NotRead" 350 (.ref 133),Qd P "LEAST_SIZE" 354 (.int 1 353),Qd P "GREATEST_SIZE" 356 (.int 16 355),Qd P "is_size" 363 (.ref 142),Qd P "is_seating" 370 (.ref 149),Qd P "need_size" 377 (.ref 156),Qd P "need_seating" 384 (.ref 163),Qd P "rest" 391 (.ref 170),Qd P "joined" 397 (.ref 175),Qd P "turned" 407 (.ref 182),Qd P "then" 415 (.ref 189),Qd P "back" 422 (.ref 196),Qd P "Entry" 460 (.ref 213),Qd P "Sifting" 498 (.ref 241),Qd P "parts_of_step" 505 (.ref 252),Qd P "needed_steps" 516 (.ref 259),Qd P "step_with_places" 522 (.ref 264),Qd P "steps_to" 534 (.ref 271),Qd P "seatings_of_page" 540 (.ref 276),Qd P "Book" 687 (.ref 374),Qd P "MOST_MOVES" 691 (.int 200 690),Qd P "Room" 800 (.ref 465),Qd P "ring_from" 812 (.ref 476),Qd P "rings" 822 (.ref 483),Qd P "age" 832 (.ref 490),Qd P "even" 838 (.ref 495),Qd P "times" 850 (.ref 502),Qd P "MOST_DYES" 854 (.int 6 853),Qd P "MOST_GONE_THROUGH" 856 (.int 2000 855),Qd P "need_seat" 864 (.ref 509),Qd P "ring_of" 876 (.ref 516),Qd P "first_seats" 882 (.ref 521),Qd P "parting" 888 (.ref 526),Qd P "within" 894 (.ref 531),Qd P "seats_with_these_first" 900 (.ref 536),Qd P "seen_through" 908 (.ref 543),Qd P "holding" 924 (.ref 550),Qd P "all_reached" 930 (.ref 555),Qd P "powers" 940 (.ref 562),Qd P "free_seats" 946 (.ref 567),Qd P "dyed" 952 (.ref 572),Qd P "REST" 956 (.str ("()") 955),Qd P "ring_shown" 962 (.ref 577),Qd P "shown" 968 (.ref 582),Qd P "ring_texts" 975 (.ref 589),Qd P "ring_read" 985 (.ref 596),Qd P "all_rings_read" 991 (.ref 601),Qd P "sent_by_rings" 997 (.ref 606),Qd P "read" 1005 (.ref 613),Qd P "_law_cell_at" 1015 (.ref 620),Qd P "_law_far" 1026 (.ref 627),Qd P "_law_which" 1035 (.ref 634),Qd P "_law_bad" 1045 (.ref 641),Qd P "_law_no_size" 1055 (.ref 648),Qd P "_law_no_seating" 1064 (.ref 655),Qd P "_law_other_size" 1073 (.ref 662),Qd P "_law_no_seat" 1082 (.ref 669),Qd P "_law_full" 1091 (.ref 676),Qd P "_law_unreached" 1101 (.ref 683),Qd P "_law_wide" 1108 (.ref 690),Qd P "_law_done" 1119 (.ref 697),Qd P "law" 1125 (.ref 702)] 80 }) ::
 (nat_lit 15,Qt #[.type "ValueError"]) ::
 (nat_lit 22,Qt #[]) ::
 (nat_lit 23,{ cls:=.type "dict",data:=.dict #[Qd P "__module__" 196 (.str ("shiftroom.errors") 187),Qd P "__firstlineno__" 200 (.int 2 199),Qd P "__static_attributes__" 201 (.ref 22),Qd P "__weakref__" 203 (.ref 25),Qd P "__doc__" 204 .none] 3 }) ::
 (nat_lit 24,{ cls:=.type "type",data:=.cls { name:="RoomError",bases:=[.type "ValueError"],mro:=[.ref 24,.type "ValueError",.type "Exception",.type "BaseException",.type "object"],ns:=23,qualname:="RoomError",subclasses:=[.ref 37,.ref 49,.ref 61,.ref 73,.ref 85,.ref 97,.ref 109,.ref 121,.ref 133] },slots:=#[Option.some (.ref 15),Option.none,Option.some (.str ("RoomError") 189),Option.some (.str ("RoomError") 197),Option.some (.builtin "ValueError.__new__"),Option.some (.bool Bool.true)] }) ::
 (nat_lit 25,{ cls:=.type "getset_descriptor",data:=.fields #[.str ("__weakref__") 202,.ref 24,.builtin "ExceptionGroup.__weakref__",.none] }) ::
 (nat_lit 28,Qt #[.ref 24]) ::
 (nat_lit 35,Qt #[]) ::
 (nat_lit 36,{ cls:=.type "dict",data:=.dict #[Qd P "__module__" 214 (.str ("shiftroom.errors") 187),Qd P "__firstlineno__" 218 (.int 4 217),Qd P "__static_attributes__" 219 (.ref 35),Qd P "__doc__" 220 .none] 2 }) ::
 (nat_lit 37,{ cls:=.type "type",data:=.cls { name:="NoSize",bases:=[.ref 24],mro:=[.ref 37,.ref 24,.type "ValueError",.type "Exception",.type "BaseException",.type "object"],ns:=36,qualname:="NoSize" },slots:=#[Option.some (.ref 28),Option.none,Option.some (.str ("NoSize") 207),Option.some (.str ("NoSize") 215),Option.some (.builtin "ValueError.__new__"),Option.some (.bool Bool.true)] }) ::
 (nat_lit 40,Qt #[.ref 24]) ::
 (nat_lit 47,Qt #[]) ::
 (nat_lit 48,{ cls:=.type "dict",data:=.dict #[Qd P "__module__" 230 (.str ("shiftroom.errors") 187),Qd P "__firstlineno__" 234 (.int 6 233),Qd P "__static_attributes__" 235 (.ref 47),Qd P "__doc__" 236 .none] 2 }) ::
 (nat_lit 49,{ cls:=.type "type",data:=.cls { name:="NoSeating",bases:=[.ref 24],mro:=[.ref 49,.ref 24,.type "ValueError",.type "Exception",.type "BaseException",.type "object"],ns:=48,qualname:="NoSeating" },slots:=#[Option.some (.ref 40),Option.none,Option.some (.str ("NoSeating") 223),Option.some (.str ("NoSeating") 231),Option.some (.builtin "ValueError.__new__"),Option.some (.bool Bool.true)] }) ::
 (nat_lit 52,Qt #[.ref 24]) ::
 (nat_lit 59,Qt #[]) ::
 (nat_lit 60,{ cls:=.type "dict",data:=.dict #[Qd P "__module__" 246 (.str ("shiftroom.errors") 187),Qd P "__firstlineno__" 250 (.int 8 249),Qd P "__static_attributes__" 251 (.ref 59),Qd P "__doc__" 252 .none] 2 }) ::
 (nat_lit 61,{ cls:=.type "type",data:=.cls { name:="OtherSize",bases:=[.ref 24],mro:=[.ref 61,.ref 24,.type "ValueError",.type "Exception",.type "BaseException",.type "object"],ns:=60,qualname:="OtherSize" },slots:=#[Option.some (.ref 52),Option.none,Option.some (.str ("OtherSize") 239),Option.some (.str ("OtherSize") 247),Option.some (.builtin "ValueError.__new__"),Option.some (.bool Bool.true)] }) ::
 (nat_lit 64,Qt #[.ref 24]) ::
 (nat_lit 71,Qt #[]) ::
 (nat_lit 72,{ cls:=.type "dict",data:=.dict #[Qd P "__module__" 262 (.str ("shiftroom.errors") 187),Qd P "__firstlineno__" 266 (.int 10 265),Qd P "__static_attributes__" 267 (.ref 71),Qd P "__doc__" 268 .none] 2 }) ::
 (nat_lit 73,{ cls:=.type "type",data:=.cls { name:="NoSeat",bases:=[.ref 24],mro:=[.ref 73,.ref 24,.type "ValueError",.type "Exception",.type "BaseException",.type "object"],ns:=72,qualname:="NoSeat" },slots:=#[Option.some (.ref 64),Option.none,Option.some (.str ("NoSeat") 255),Option.some (.str ("NoSeat") 263),Option.some (.builtin "ValueError.__new__"),Option.some (.bool Bool.true)] }) ::
 (nat_lit 76,Qt #[.ref 24]) ::
 (nat_lit 83,Qt #[]) ::
 (nat_lit 84,{ cls:=.type "dict",data:=.dict #[Qd P "__module__" 278 (.str ("shiftroom.errors") 187),Qd P "__firstlineno__" 282 (.int 12 281),Qd P "__static_attributes__" 283 (.ref 83),Qd P "__doc__" 284 .none] 2 }) ::
 (nat_lit 85,{ cls:=.type "type",data:=.cls { name:="NoNumber",bases:=[.ref 24],mro:=[.ref 85,.ref 24,.type "ValueError",.type "Exception",.type "BaseException",.type "object"],ns:=84,qualname:="NoNumber" },slots:=#[Option.some (.ref 76),Option.none,Option.some (.str ("NoNumber") 271),Option.some (.str ("NoNumber") 279),Option.some (.builtin "ValueError.__new__"),Option.some (.bool Bool.true)] }) ::
 (nat_lit 88,Qt #[.ref 24]) ::
 (nat_lit 95,Qt #[]) ::
 (nat_lit 96,{ cls:=.type "dict",data:=.dict #[Qd P "__module__" 294 (.str ("shiftroom.errors") 187),Qd P "__firstlineno__" 298 (.int 14 297),Qd P "__static_attributes__" 299 (.ref 95),Qd P "__doc__" 300 .none] 2 }) ::
 (nat_lit 97,{ cls:=.type "type",data:=.cls { name:="TooMany",bases:=[.ref 24],mro:=[.ref 97,.ref 24,.type "ValueError",.type "Exception",.type "BaseException",.type "object"],ns:=96,qualname:="TooMany" },slots:=#[Option.some (.ref 88),Option.none,Option.some (.str ("TooMany") 287),Option.some (.str ("TooMany") 295),Option.some (.builtin "ValueError.__new__"),Option.some (.bool Bool.true)] }) ::
 (nat_lit 100,Qt #[.ref 24]) ::
 (nat_lit 107,Qt #[]) ::
 (nat_lit 108,{ cls:=.type "dict",data:=.dict #[Qd P "__module__" 310 (.str ("shiftroom.errors") 187),Qd P "__firstlineno__" 314 (.int 16 313),Qd P "__static_attributes__" 315 (.ref 107),Qd P "__doc__" 316 .none] 2 }) ::
 (nat_lit 109,{ cls:=.type "type",data:=.cls { name:="Unreached",bases:=[.ref 24],mro:=[.ref 109,.ref 24,.type "ValueError",.type "Exception",.type "BaseException",.type "object"],ns:=108,qualname:="Unreached" },slots:=#[Option.some (.ref 100),Option.none,Option.some (.str ("Unreached") 303),Option.some (.str ("Unreached") 311),Option.some (.builtin "ValueError.__new__"),Option.some (.bool Bool.true)] }) ::
 (nat_lit 112,Qt #[.ref 24]) ::
 (nat_lit 119,Qt #[]) ::
 (nat_lit 120,{ cls:=.type "dict",data:=.dict #[Qd P "__module__" 326 (.str ("shiftroom.errors") 187),Qd P "__firstlineno__" 330 (.int 18 329),Qd P "__static_attributes__" 331 (.ref 119),Qd P "__doc__" 332 .none] 2 }) ::
 (nat_lit 121,{ cls:=.type "type",data:=.cls { name:="TooWide",bases:=[.ref 24],mro:=[.ref 121,.ref 24,.type "ValueError",.type "Exception",.type "BaseException",.type "object"],ns:=120,qualname:="TooWide" },slots:=#[Option.some (.ref 112),Option.none,Option.some (.str ("TooWide") 319),Option.some (.str ("TooWide") 327),Option.some (.builtin "ValueError.__new__"),Option.some (.bool Bool.true)] }) ::
 (nat_lit 124,Qt #[.ref 24]) ::
 (nat_lit 131,Qt #[]) ::
 (nat_lit 132,{ cls:=.type "dict",data:=.dict #[Qd P "__module__" 342 (.str ("shiftroom.errors") 187),Qd P "__firstlineno__" 346 (.int 20 345),Qd P "__static_attributes__" 347 (.ref 131),Qd P "__doc__" 348 .none] 2 }) ::
 (nat_lit 133,{ cls:=.type "type",data:=.cls { name:="NotRead",bases:=[.ref 24],mro:=[.ref 133,.ref 24,.type "ValueError",.type "Exception",.type "BaseException",.type "object"],ns:=132,qualname:="NotRead" },slots:=#[Option.some (.ref 124),Option.none,Option.some (.str ("NotRead") 335),Option.some (.str ("NotRead") 343),Option.some (.builtin "ValueError.__new__"),Option.some (.bool Bool.true)] }) ::
 (nat_lit 136,Qt #[]) ::
 (nat_lit 138,Qt #[.str ("size") 360]) ::
 (nat_lit 139,Qt #[]) ::
 (nat_lit 141,Qc "is_size" 357 "is_size" 358 359 25 1 3 136 (.ref 137) (.ref 138) (.ref 139) (.ref 140) 361 25 362) ::
 (nat_lit 142,Qf "is_size" "is_size" 14 (.str ("shiftroom.seats") 351) 141) ::
 (nat_lit 143,Qt #[]) ::
 (nat_lit 145,Qt #[.str ("row") 367]) ::
 (nat_lit 146,Qt #[]) ::
 (nat_lit 148,Qc "is_seating" 364 "is_seating" 365 366 27 1 3 143 (.ref 144) (.ref 145) (.ref 146) (.ref 147) 368 27 369) ::
 (nat_lit 149,Qf "is_seating" "is_seating" 15 (.str ("shiftroom.seats") 351) 148) ::
 (nat_lit 150,Qt #[]) ::
 (nat_lit 152,Qt #[.str ("size") 374]) ::
 (nat_lit 153,Qt #[]) ::
 (nat_lit 155,Qc "need_size" 371 "need_size" 372 373 31 1 3 150 (.ref 151) (.ref 152) (.ref 153) (.ref 154) 375 31 376) ::
 (nat_lit 156,Qf "need_size" "need_size" 16 (.str ("shiftroom.seats") 351) 155) ::
 (nat_lit 157,Qt #[]) ::
 (nat_lit 159,Qt #[.str ("row") 381]) ::
 (nat_lit 160,Qt #[]) ::
 (nat_lit 162,Qc "need_seating" 378 "need_seating" 379 380 34 1 3 157 (.ref 158) (.ref 159) (.ref 160) (.ref 161) 382 34 383) ::
 (nat_lit 163,Qf "need_seating" "need_seating" 17 (.str ("shiftroom.seats") 351) 162) ::
 (nat_lit 164,Qt #[]) ::
 (nat_lit 166,Qt #[.str ("size") 388]) ::
 (nat_lit 167,Qt #[]) ::
 (nat_lit 169,Qc "rest" 385 "rest" 386 387 37 1 3 164 (.ref 165) (.ref 166) (.ref 167) (.ref 168) 389 37 390) ::
 (nat_lit 170,Qf "rest" "rest" 18 (.str ("shiftroom.seats") 351) 169) ::
 (nat_lit 171,Qt #[]) ::
 (nat_lit 174,Qc "joined" 392 "joined" 393 394 40 2 3 171 (.ref 172) .none .none (.ref 173) 395 40 396) ::
 (nat_lit 175,Qf "joined" "joined" 19 (.str ("shiftroom.seats") 351) 174) ::
 (nat_lit 176,Qt #[]) ::
 (nat_lit 178,Qt #[.str ("a") 401,.str ("senders") 402,.str ("sender") 403,.str ("seat") 404]) ::
 (nat_lit 179,Qt #[]) ::
 (nat_lit 181,Qc "turned" 398 "turned" 399 400 42 1 3 176 (.ref 177) (.ref 178) (.ref 179) (.ref 180) 405 42 406) ::
 (nat_lit 182,Qf "turned" "turned" 20 (.str ("shiftroom.seats") 351) 181) ::
 (nat_lit 183,Qt #[]) ::
 (nat_lit 185,Qt #[.str ("a") 411,.str ("b") 412]) ::
 (nat_lit 186,Qt #[]) ::
 (nat_lit 188,Qc "then" 408 "then" 409 410 47 2 3 183 (.ref 184) (.ref 185) (.ref 186) (.ref 187) 413 47 414) ::
 (nat_lit 189,Qf "then" "then" 21 (.str ("shiftroom.seats") 351) 188) ::
 (nat_lit 190,Qt #[]) ::
 (nat_lit 192,Qt #[.str ("a") 419]) ::
 (nat_lit 193,Qt #[]) ::
 (nat_lit 195,Qc "back" 416 "back" 417 418 53 1 3 190 (.ref 191) (.ref 192) (.ref 193) (.ref 194) 420 53 421) ::
 (nat_lit 196,Qf "back" "back" 22 (.str ("shiftroom.seats") 351) 195) ::
 (nat_lit 204,Qt #[]) ::
 (nat_lit 206,Qt #[.str ("self") 440,.str ("seat") 441,.str ("seating") 442,.str ("step_number") 443,.str ("back_number") 444]) ::
 (nat_lit 207,Qt #[]) ::
 (nat_lit 209,Qc "__init__" 437 "Entry.__init__" 438 439 59 5 3 204 (.ref 205) (.ref 206) (.ref 207) (.ref 208) 445 59 446) ::
 (nat_lit 210,Qm "__init__" "Entry.__init__" 24 0 (.str ("shiftroom.book") 423) 209) ::
 (nat_lit 211,Qt #[.str ("back_number") 448,.str ("seat") 449,.str ("seating") 450,.str ("step_number") 451,.str ("way_back") 452]) ::
 (nat_lit 212,{ cls:=.type "dict",data:=.dict #[Qd P "__module__" 432 (.str ("shiftroom.book") 423),Qd P "__firstlineno__" 436 (.int 57 435),Qd P "__init__" 447 (.ref 210),Qd P "__static_attributes__" 453 (.ref 211),Qd P "__dict__" 455 (.ref 214),Qd P "__weakref__" 457 (.ref 215),Qd P "__doc__" 458 .none] 4 }) ::
 (nat_lit 213,{ cls:=.type "type",data:=.cls { name:="Entry",bases:=[.type "object"],mro:=[.ref 213,.type "object"],ns:=212,qualname:="Entry" },slots:=#[Option.none,Option.none,Option.some (.str ("Entry") 425),Option.some (.str ("Entry") 433),Option.some (.builtin "object.__new__"),Option.some (.bool Bool.true)] }) ::
 (nat_lit 214,{ cls:=.type "getset_descriptor",data:=.fields #[.str ("__dict__") 454,.ref 213,.builtin "function.__dict__",.builtin "function.__dict__#set"] }) ::
 (nat_lit 215,{ cls:=.type "getset_descriptor",data:=.fields #[.str ("__weakref__") 456,.ref 213,.builtin "ExceptionGroup.__weakref__",.none] }) ::
 (nat_lit 225,Qt #[]) ::
 (nat_lit 227,Qt #[.str ("self") 476,.str ("seating") 477]) ::
 (nat_lit 228,Qt #[]) ::
 (nat_lit 230,Qc "__init__" 473 "Sifting.__init__" 474 475 67 2 3 225 (.ref 226) (.ref 227) (.ref 228) (.ref 229) 478 67 479) ::
 (nat_lit 231,Qm "__init__" "Sifting.__init__" 25 0 (.str ("shiftroom.book") 423) 230) ::
 (nat_lit 232,Qt #[]) ::
 (nat_lit 234,Qt #[.str ("self") 484,.str ("entry") 485]) ::
 (nat_lit 235,Qt #[]) ::
 (nat_lit 237,Qc "take_off" 481 "Sifting.take_off" 482 483 71 2 3 232 (.ref 233) (.ref 234) (.ref 235) (.ref 236) 486 71 487) ::
 (nat_lit 238,Qm "take_off" "Sifting.take_off" 25 1 (.str ("shiftroom.book") 423) 237) ::
 (nat_lit 239,Qt #[.str ("left") 489,.str ("used") 490]) ::
 (nat_lit 240,{ cls:=.type "dict",data:=.dict #[Qd P "__module__" 468 (.str ("shiftroom.book") 423),Qd P "__firstlineno__" 472 (.int 65 471),Qd P "__init__" 480 (.ref 231),Qd P "take_off" 488 (.ref 238),Qd P "__static_attributes__" 491 (.ref 239),Qd P "__dict__" 493 (.ref 242),Qd P "__weakref__" 495 (.ref 243),Qd P "__doc__" 496 .none] 4 }) ::
 (nat_lit 241,{ cls:=.type "type",data:=.cls { name:="Sifting",bases:=[.type "object"],mro:=[.ref 241,.type "object"],ns:=240,qualname:="Sifting" },slots:=#[Option.none,Option.none,Option.some (.str ("Sifting") 461),Option.some (.str ("Sifting") 469),Option.some (.builtin "object.__new__"),Option.some (.bool Bool.true)] }) ::
 (nat_lit 242,{ cls:=.type "getset_descriptor",data:=.fields #[.str ("__dict__") 492,.ref 241,.builtin "function.__dict__",.builtin "function.__dict__#set"] }) ::
 (nat_lit 243,{ cls:=.type "getset_descriptor",data:=.fields #[.str ("__weakref__") 494,.ref 241,.builtin "ExceptionGroup.__weakref__",.none] }) ::
 (nat_lit 246,Qt #[]) ::
 (nat_lit 248,Qt #[.str ("step") 502]) ::
 (nat_lit 249,Qt #[]) ::
 (nat_lit 251,Qc "parts_of_step" 499 "parts_of_step" 500 501 74 1 3 246 (.ref 247) (.ref 248) (.ref 249) (.ref 250) 503 74 504) ::
 (nat_lit 252,Qf "parts_of_step" "parts_of_step" 26 (.str ("shiftroom.book") 423) 251) ::
 (nat_lit 253,Qt #[]) ::
 (nat_lit 255,Qt #[.str ("steps") 509,.str ("goal") 510,.str ("needed") 511,.str ("number") 512,.str ("part") 513]) ::
 (nat_lit 256,Qt #[]) ::
 (nat_lit 258,Qc "needed_steps" 506 "needed_steps" 507 508 78 2 3 253 (.ref 254) (.ref 255) (.ref 256) (.ref 257) 514 78 515) ::
 (nat_lit 259,Qf "needed_steps" "needed_steps" 27 (.str ("shiftroom.book") 423) 258) ::
 (nat_lit 260,Qt #[]) ::
 (nat_lit 263,Qc "step_with_places" 517 "step_with_places" 518 519 85 2 3 260 (.ref 261) .none .none (.ref 262) 520 85 521) ::
 (nat_lit 264,Qf "step_with_places" "step_with_places" 28 (.str ("shiftroom.book") 423) 263) ::
 (nat_lit 265,Qt #[]) ::
 (nat_lit 267,Qt #[.str ("steps") 526,.str ("goal") 527,.str ("needed") 528,.str ("places") 529,.str ("told") 530,.str ("number") 531]) ::
 (nat_lit 268,Qt #[]) ::
 (nat_lit 270,Qc "steps_to" 523 "steps_to" 524 525 89 2 3 265 (.ref 266) (.ref 267) (.ref 268) (.ref 269) 532 89 533) ::
 (nat_lit 271,Qf "steps_to" "steps_to" 29 (.str ("shiftroom.book") 423) 270) ::
 (nat_lit 272,Qt #[]) ::
 (nat_lit 275,Qc "seatings_of_page" 535 "seatings_of_page" 536 537 98 1 3 272 (.ref 273) .none .none (.ref 274) 538 98 539) ::
 (nat_lit 276,Qf "seatings_of_page" "seatings_of_page" 30 (.str ("shiftroom.book") 423) 275) ::
 (nat_lit 284,Qt #[]) ::
 (nat_lit 287,Qc "__init__" 553 "Book.__init__" 554 555 102 2 3 284 (.ref 285) .none .none (.ref 286) 556 102 557) ::
 (nat_lit 288,Qm "__init__" "Book.__init__" 31 0 (.str ("shiftroom.book") 423) 287) ::
 (nat_lit 289,Qt #[]) ::
 (nat_lit 291,Qt #[.str ("self") 562,.str ("seating") 563,.str ("sifting") 564,.str ("seat") 565,.str ("page") 566,.str ("goal") 567]) ::
 (nat_lit 292,Qt #[]) ::
 (nat_lit 294,Qc "sift" 559 "Book.sift" 560 561 109 2 3 289 (.ref 290) (.ref 291) (.ref 292) (.ref 293) 568 109 569) ::
 (nat_lit 295,Qm "sift" "Book.sift" 31 1 (.str ("shiftroom.book") 423) 294) ::
 (nat_lit 296,Qt #[]) ::
 (nat_lit 298,Qt #[.str ("self") 574,.str ("seating") 575]) ::
 (nat_lit 299,Qt #[]) ::
 (nat_lit 301,Qc "reaches" 571 "Book.reaches" 572 573 119 2 3 296 (.ref 297) (.ref 298) (.ref 299) (.ref 300) 576 119 577) ::
 (nat_lit 302,Qm "reaches" "Book.reaches" 31 2 (.str ("shiftroom.book") 423) 301) ::
 (nat_lit 303,Qt #[]) ::
 (nat_lit 305,Qt #[.str ("self") 582,.str ("move") 583,.str ("number") 584,.str ("sifting") 585]) ::
 (nat_lit 306,Qt #[]) ::
 (nat_lit 308,Qc "put_move" 579 "Book.put_move" 580 581 122 3 3 303 (.ref 304) (.ref 305) (.ref 306) (.ref 307) 586 122 587) ::
 (nat_lit 309,Qm "put_move" "Book.put_move" 31 3 (.str ("shiftroom.book") 423) 308) ::
 (nat_lit 310,Qt #[]) ::
 (nat_lit 312,Qt #[.str ("self") 592,.str ("step") 593]) ::
 (nat_lit 313,Qt #[]) ::
 (nat_lit 315,Qc "put_step" 589 "Book.put_step" 590 591 130 2 3 310 (.ref 311) (.ref 312) (.ref 313) (.ref 314) 594 130 595) ::
 (nat_lit 316,Qm "put_step" "Book.put_step" 31 4 (.str ("shiftroom.book") 423) 315) ::
 (nat_lit 317,Qt #[]) ::
 (nat_lit 319,Qt #[.str ("self") 600,.str ("sifting") 601,.str ("first_step") 602,.str ("number") 603,.str ("entry") 604,.str ("seat") 605,.str ("back_number") 606,.str ("fresh") 607]) ::
 (nat_lit 320,Qt #[]) ::
 (nat_lit 322,Qc "put_entry" 597 "Book.put_entry" 598 599 134 3 3 317 (.ref 318) (.ref 319) (.ref 320) (.ref 321) 608 134 609) ::
 (nat_lit 323,Qm "put_entry" "Book.put_entry" 31 5 (.str ("shiftroom.book") 423) 322) ::
 (nat_lit 324,Qt #[]) ::
 (nat_lit 327,Qc "first_sent" 611 "Book.first_sent" 612 613 144 2 3 324 (.ref 325) .none .none (.ref 326) 614 144 615) ::
 (nat_lit 328,Qm "first_sent" "Book.first_sent" 31 6 (.str ("shiftroom.book") 423) 327) ::
 (nat_lit 329,Qt #[]) ::
 (nat_lit 331,Qt #[.str ("self") 620,.str ("late") 621,.str ("place") 622,.str ("early") 623]) ::
 (nat_lit 332,Qt #[]) ::
 (nat_lit 334,Qc "fill" 617 "Book.fill" 618 619 147 1 3 329 (.ref 330) (.ref 331) (.ref 332) (.ref 333) 624 147 625) ::
 (nat_lit 335,Qm "fill" "Book.fill" 31 7 (.str ("shiftroom.book") 423) 334) ::
 (nat_lit 336,Qt #[]) ::
 (nat_lit 338,Qt #[.str ("self") 630,.str ("one") 631,.str ("other") 632,.str ("sifting") 633]) ::
 (nat_lit 339,Qt #[]) ::
 (nat_lit 341,Qc "join_entries" 627 "Book.join_entries" 628 629 158 3 3 336 (.ref 337) (.ref 338) (.ref 339) (.ref 340) 634 158 635) ::
 (nat_lit 342,Qm "join_entries" "Book.join_entries" 31 8 (.str ("shiftroom.book") 423) 341) ::
 (nat_lit 343,Qt #[]) ::
 (nat_lit 345,Qt #[.str ("self") 640,.str ("count") 641,.str ("page") 642]) ::
 (nat_lit 346,Qt #[]) ::
 (nat_lit 348,Qc "how_many" 637 "Book.how_many" 638 639 163 1 3 343 (.ref 344) (.ref 345) (.ref 346) (.ref 347) 643 163 644) ::
 (nat_lit 349,Qm "how_many" "Book.how_many" 31 9 (.str ("shiftroom.book") 423) 348) ::
 (nat_lit 350,Qt #[]) ::
 (nat_lit 352,Qt #[.str ("self") 649,.str ("seating") 650,.str ("steps") 651,.str ("goal") 652,.str ("entry") 653]) ::
 (nat_lit 353,Qt #[]) ::
 (nat_lit 355,Qc "recipe" 646 "Book.recipe" 647 648 169 2 3 350 (.ref 351) (.ref 352) (.ref 353) (.ref 354) 654 169 655) ::
 (nat_lit 356,Qm "recipe" "Book.recipe" 31 10 (.str ("shiftroom.book") 423) 355) ::
 (nat_lit 357,Qt #[]) ::
 (nat_lit 360,Qc "table" 657 "Book.table" 658 659 180 1 3 357 (.ref 358) .none .none (.ref 359) 660 180 661) ::
 (nat_lit 361,Qm "table" "Book.table" 31 11 (.str ("shiftroom.book") 423) 360) ::
 (nat_lit 362,Qt #[]) ::
 (nat_lit 365,Qc "numbered" 663 "Book.numbered" 664 665 183 2 3 362 (.ref 363) .none .none (.ref 364) 666 183 667) ::
 (nat_lit 366,Qm "numbered" "Book.numbered" 31 12 (.str ("shiftroom.book") 423) 365) ::
 (nat_lit 367,Qt #[]) ::
 (nat_lit 370,Qc "number_of" 669 "Book.number_of" 670 671 195 2 3 367 (.ref 368) .none .none (.ref 369) 672 195 673) ::
 (nat_lit 371,Qm "number_of" "Book.number_of" 31 13 (.str ("shiftroom.book") 423) 370) ::
 (nat_lit 372,Qt #[.str ("entries") 675,.str ("joined_so_far") 676,.str ("pages") 677,.str ("resting") 678,.str ("steps") 679]) ::
 (nat_lit 373,{ cls:=.type "dict",data:=.dict #[Qd P "__module__" 548 (.str ("shiftroom.book") 423),Qd P "__firstlineno__" 552 (.int 100 551),Qd P "__init__" 558 (.ref 288),Qd P "sift" 570 (.ref 295),Qd P "reaches" 578 (.ref 302),Qd P "put_move" 588 (.ref 309),Qd P "put_step" 596 (.ref 316),Qd P "put_entry" 610 (.ref 323),Qd P "first_sent" 616 (.ref 328),Qd P "fill" 626 (.ref 335),Qd P "join_entries" 636 (.ref 342),Qd P "how_many" 645 (.ref 349),Qd P "recipe" 656 (.ref 356),Qd P "table" 662 (.ref 361),Qd P "numbered" 668 (.ref 366),Qd P "number_of" 674 (.ref 371),Qd P "__static_attributes__" 680 (.ref 372),Qd P "__dict__" 682 (.ref 375),Qd P "__weakref__" 684 (.ref 376),Qd P "__doc__" 685 .none] 4 }) ::
 (nat_lit 374,{ cls:=.type "type",data:=.cls { name:="Book",bases:=[.type "object"],mro:=[.ref 374,.type "object"],ns:=373,qualname:="Book" },slots:=#[Option.none,Option.none,Option.some (.str ("Book") 541),Option.some (.str ("Book") 549),Option.some (.builtin "object.__new__"),Option.some (.bool Bool.true)] }) ::
 (nat_lit 375,{ cls:=.type "getset_descriptor",data:=.fields #[.str ("__dict__") 681,.ref 374,.builtin "function.__dict__",.builtin "function.__dict__#set"] }) ::
 (nat_lit 376,{ cls:=.type "getset_descriptor",data:=.fields #[.str ("__weakref__") 683,.ref 374,.builtin "ExceptionGroup.__weakref__",.none] }) ::
 (nat_lit 386,Qt #[]) ::
 (nat_lit 388,Qt #[.str ("self") 707,.str ("size") 708]) ::
 (nat_lit 389,Qt #[]) ::
 (nat_lit 391,Qc "__init__" 704 "Room.__init__" 705 706 209 2 3 386 (.ref 387) (.ref 388) (.ref 389) (.ref 390) 709 209 710) ::
 (nat_lit 392,Qm "__init__" "Room.__init__" 34 0 (.str ("shiftroom.room") 688) 391) ::
 (nat_lit 393,Qt #[]) ::
 (nat_lit 395,Qt #[.str ("self") 715,.str ("a") 716]) ::
 (nat_lit 396,Qt #[]) ::
 (nat_lit 398,Qc "need_fitting" 712 "Room.need_fitting" 713 714 215 2 3 393 (.ref 394) (.ref 395) (.ref 396) (.ref 397) 717 215 718) ::
 (nat_lit 399,Qm "need_fitting" "Room.need_fitting" 34 1 (.str ("shiftroom.room") 688) 398) ::
 (nat_lit 400,Qt #[]) ::
 (nat_lit 402,Qt #[.str ("self") 723,.str ("a") 724]) ::
 (nat_lit 403,Qt #[]) ::
 (nat_lit 405,Qc "need_reached" 720 "Room.need_reached" 721 722 220 2 3 400 (.ref 401) (.ref 402) (.ref 403) (.ref 404) 725 220 726) ::
 (nat_lit 406,Qm "need_reached" "Room.need_reached" 34 2 (.str ("shiftroom.room") 688) 405) ::
 (nat_lit 407,Qt #[]) ::
 (nat_lit 409,Qt #[.str ("self") 731,.str ("move") 732,.str ("more") 733]) ::
 (nat_lit 410,Qt #[]) ::
 (nat_lit 412,Qc "put_move" 728 "Room.put_move" 729 730 225 2 3 407 (.ref 408) (.ref 409) (.ref 410) (.ref 411) 734 225 735) ::
 (nat_lit 413,Qm "put_move" "Room.put_move" 34 3 (.str ("shiftroom.room") 688) 412) ::
 (nat_lit 414,Qt #[]) ::
 (nat_lit 416,Qt #[.str ("self") 740]) ::
 (nat_lit 417,Qt #[]) ::
 (nat_lit 419,Qc "moves" 737 "Room.moves" 738 739 233 1 3 414 (.ref 415) (.ref 416) (.ref 417) (.ref 418) 741 233 742) ::
 (nat_lit 420,Qm "moves" "Room.moves" 34 4 (.str ("shiftroom.room") 688) 419) ::
 (nat_lit 421,Qt #[]) ::
 (nat_lit 423,Qt #[.str ("self") 747]) ::
 (nat_lit 424,Qt #[]) ::
 (nat_lit 426,Qc "how_many" 744 "Room.how_many" 745 746 236 1 3 421 (.ref 422) (.ref 423) (.ref 424) (.ref 425) 748 236 749) ::
 (nat_lit 427,Qm "how_many" "Room.how_many" 34 5 (.str ("shiftroom.room") 688) 426) ::
 (nat_lit 428,Qt #[]) ::
 (nat_lit 430,Qt #[.str ("self") 754,.str ("a") 755]) ::
 (nat_lit 431,Qt #[]) ::
 (nat_lit 433,Qc "reaches" 751 "Room.reaches" 752 753 239 2 3 428 (.ref 429) (.ref 430) (.ref 431) (.ref 432) 756 239 757) ::
 (nat_lit 434,Qm "reaches" "Room.reaches" 34 6 (.str ("shiftroom.room") 688) 433) ::
 (nat_lit 435,Qt #[]) ::
 (nat_lit 437,Qt #[.str ("self") 762,.str ("a") 763]) ::
 (nat_lit 438,Qt #[]) ::
 (nat_lit 440,Qc "recipe" 759 "Room.recipe" 760 761 243 2 3 435 (.ref 436) (.ref 437) (.ref 438) (.ref 439) 764 243 765) ::
 (nat_lit 441,Qm "recipe" "Room.recipe" 34 7 (.str ("shiftroom.room") 688) 440) ::
 (nat_lit 442,Qt #[]) ::
 (nat_lit 444,Qt #[.str ("self") 770]) ::
 (nat_lit 445,Qt #[]) ::
 (nat_lit 447,Qc "table" 767 "Room.table" 768 769 247 1 3 442 (.ref 443) (.ref 444) (.ref 445) (.ref 446) 771 247 772) ::
 (nat_lit 448,Qm "table" "Room.table" 34 8 (.str ("shiftroom.room") 688) 447) ::
 (nat_lit 449,Qt #[]) ::
 (nat_lit 451,Qt #[.str ("self") 777,.str ("n") 778]) ::
 (nat_lit 452,Qt #[]) ::
 (nat_lit 454,Qc "numbered" 774 "Room.numbered" 775 776 250 2 3 449 (.ref 450) (.ref 451) (.ref 452) (.ref 453) 779 250 780) ::
 (nat_lit 455,Qm "numbered" "Room.numbered" 34 9 (.str ("shiftroom.room") 688) 454) ::
 (nat_lit 456,Qt #[]) ::
 (nat_lit 458,Qt #[.str ("self") 785,.str ("a") 786]) ::
 (nat_lit 459,Qt #[]) ::
 (nat_lit 461,Qc "number_of" 782 "Room.number_of" 783 784 255 2 3 456 (.ref 457) (.ref 458) (.ref 459) (.ref 460) 787 255 788) ::
 (nat_lit 462,Qm "number_of" "Room.number_of" 34 10 (.str ("shiftroom.room") 688) 461) ::
 (nat_lit 463,Qt #[.str ("book") 790,.str ("put_in") 791,.str ("size") 792]) ::
 (nat_lit 464,{ cls:=.type "dict",data:=.dict #[Qd P "__module__" 699 (.str ("shiftroom.room") 688),Qd P "__firstlineno__" 703 (.int 207 702),Qd P "__init__" 711 (.ref 392),Qd P "need_fitting" 719 (.ref 399),Qd P "need_reached" 727 (.ref 406),Qd P "put_move" 736 (.ref 413),Qd P "moves" 743 (.ref 420),Qd P "how_many" 750 (.ref 427),Qd P "reaches" 758 (.ref 434),Qd P "recipe" 766 (.ref 441),Qd P "table" 773 (.ref 448),Qd P "numbered" 781 (.ref 455),Qd P "number_of" 789 (.ref 462),Qd P "__static_attributes__" 793 (.ref 463),Qd P "__dict__" 795 (.ref 466),Qd P "__weakref__" 797 (.ref 467),Qd P "__doc__" 798 .none] 4 }) ::
 (nat_lit 465,{ cls:=.type "type",data:=.cls { name:="Room",bases:=[.type "object"],mro:=[.ref 465,.type "object"],ns:=464,qualname:="Room" },slots:=#[Option.none,Option.none,Option.some (.str ("Room") 692),Option.some (.str ("Room") 700),Option.some (.builtin "object.__new__"),Option.some (.bool Bool.true)] }) ::
 (nat_lit 466,{ cls:=.type "getset_descriptor",data:=.fields #[.str ("__dict__") 794,.ref 465,.builtin "function.__dict__",.builtin "function.__dict__#set"] }) ::
 (nat_lit 467,{ cls:=.type "getset_descriptor",data:=.fields #[.str ("__weakref__") 796,.ref 465,.builtin "ExceptionGroup.__weakref__",.none] }) ::
 (nat_lit 470,Qt #[]) ::
 (nat_lit 472,Qt #[.str ("a") 806,.str ("first") 807,.str ("ring") 808,.str ("seat") 809]) ::
 (nat_lit 473,Qt #[]) ::
 (nat_lit 475,Qc "ring_from" 803 "ring_from" 804 805 259 2 3 470 (.ref 471) (.ref 472) (.ref 473) (.ref 474) 810 259 811) ::
 (nat_lit 476,Qf "ring_from" "ring_from" 36 (.str ("shiftroom.rings") 801) 475) ::
 (nat_lit 477,Qt #[]) ::
 (nat_lit 479,Qt #[.str ("a") 816,.str ("found") 817,.str ("first") 818,.str ("ring") 819]) ::
 (nat_lit 480,Qt #[]) ::
 (nat_lit 482,Qc "rings" 813 "rings" 814 815 266 1 3 477 (.ref 478) (.ref 479) (.ref 480) (.ref 481) 820 266 821) ::
 (nat_lit 483,Qf "rings" "rings" 37 (.str ("shiftroom.rings") 801) 482) ::
 (nat_lit 484,Qt #[]) ::
 (nat_lit 486,Qt #[.str ("a") 826,.str ("count") 827,.str ("ring") 828,.str ("step") 829]) ::
 (nat_lit 487,Qt #[]) ::
 (nat_lit 489,Qc "age" 823 "age" 824 825 274 1 3 484 (.ref 485) (.ref 486) (.ref 487) (.ref 488) 830 274 831) ::
 (nat_lit 490,Qf "age" "age" 38 (.str ("shiftroom.rings") 801) 489) ::
 (nat_lit 491,Qt #[]) ::
 (nat_lit 494,Qc "even" 833 "even" 834 835 281 1 3 491 (.ref 492) .none .none (.ref 493) 836 281 837) ::
 (nat_lit 495,Qf "even" "even" 39 (.str ("shiftroom.rings") 801) 494) ::
 (nat_lit 496,Qt #[]) ::
 (nat_lit 498,Qt #[.str ("a") 842,.str ("n") 843,.str ("sent") 844,.str ("ring") 845,.str ("place") 846,.str ("seat") 847]) ::
 (nat_lit 499,Qt #[]) ::
 (nat_lit 501,Qc "times" 839 "times" 840 841 283 2 3 496 (.ref 497) (.ref 498) (.ref 499) (.ref 500) 848 283 849) ::
 (nat_lit 502,Qf "times" "times" 40 (.str ("shiftroom.rings") 801) 501) ::
 (nat_lit 503,Qt #[]) ::
 (nat_lit 505,Qt #[.str ("room") 860,.str ("seat") 861]) ::
 (nat_lit 506,Qt #[]) ::
 (nat_lit 508,Qc "need_seat" 857 "need_seat" 858 859 292 2 3 503 (.ref 504) (.ref 505) (.ref 506) (.ref 507) 862 292 863) ::
 (nat_lit 509,Qf "need_seat" "need_seat" 44 (.str ("shiftroom.asked") 851) 508) ::
 (nat_lit 510,Qt #[]) ::
 (nat_lit 512,Qt #[.str ("room") 868,.str ("seat") 869,.str ("moves") 870,.str ("found") 871,.str ("place") 872,.str ("move") 873]) ::
 (nat_lit 513,Qt #[]) ::
 (nat_lit 515,Qc "ring_of" 865 "ring_of" 866 867 295 2 3 510 (.ref 511) (.ref 512) (.ref 513) (.ref 514) 874 295 875) ::
 (nat_lit 516,Qf "ring_of" "ring_of" 45 (.str ("shiftroom.asked") 851) 515) ::
 (nat_lit 517,Qt #[]) ::
 (nat_lit 520,Qc "first_seats" 877 "first_seats" 878 879 306 3 3 517 (.ref 518) .none .none (.ref 519) 880 306 881) ::
 (nat_lit 521,Qf "first_seats" "first_seats" 46 (.str ("shiftroom.asked") 851) 520) ::
 (nat_lit 522,Qt #[]) ::
 (nat_lit 525,Qc "parting" 883 "parting" 884 885 317 3 3 522 (.ref 523) .none .none (.ref 524) 886 317 887) ::
 (nat_lit 526,Qf "parting" "parting" 47 (.str ("shiftroom.asked") 851) 525) ::
 (nat_lit 527,Qt #[]) ::
 (nat_lit 530,Qc "within" 889 "within" 890 891 324 2 3 527 (.ref 528) .none .none (.ref 529) 892 324 893) ::
 (nat_lit 531,Qf "within" "within" 48 (.str ("shiftroom.asked") 851) 530) ::
 (nat_lit 532,Qt #[]) ::
 (nat_lit 535,Qc "seats_with_these_first" 895 "seats_with_these_first" 896 897 328 2 3 532 (.ref 533) .none .none (.ref 534) 898 328 899) ::
 (nat_lit 536,Qf "seats_with_these_first" "seats_with_these_first" 49 (.str ("shiftroom.asked") 851) 535) ::
 (nat_lit 537,Qt #[]) ::
 (nat_lit 539,Qt #[.str ("seating") 904,.str ("names") 905]) ::
 (nat_lit 540,Qt #[]) ::
 (nat_lit 542,Qc "seen_through" 901 "seen_through" 902 903 331 2 3 537 (.ref 538) (.ref 539) (.ref 540) (.ref 541) 906 331 907) ::
 (nat_lit 543,Qf "seen_through" "seen_through" 50 (.str ("shiftroom.asked") 851) 542) ::
 (nat_lit 544,Qt #[]) ::
 (nat_lit 546,Qt #[.str ("room") 912,.str ("seats") 913,.str ("seat") 914,.str ("order") 915,.str ("renamed") 916,.str ("move") 917,.str ("held") 918,.str ("row") 919,.str ("entry") 920,.str ("seating") 921]) ::
 (nat_lit 547,Qt #[]) ::
 (nat_lit 549,Qc "holding" 909 "holding" 910 911 333 2 3 544 (.ref 545) (.ref 546) (.ref 547) (.ref 548) 922 333 923) ::
 (nat_lit 550,Qf "holding" "holding" 51 (.str ("shiftroom.asked") 851) 549) ::
 (nat_lit 551,Qt #[]) ::
 (nat_lit 554,Qc "all_reached" 925 "all_reached" 926 927 347 1 3 551 (.ref 552) .none .none (.ref 553) 928 347 929) ::
 (nat_lit 555,Qf "all_reached" "all_reached" 52 (.str ("shiftroom.asked") 851) 554) ::
 (nat_lit 556,Qt #[]) ::
 (nat_lit 558,Qt #[.str ("number") 934,.str ("most") 935,.str ("found") 936,.str ("exponent") 937]) ::
 (nat_lit 559,Qt #[]) ::
 (nat_lit 561,Qc "powers" 931 "powers" 932 933 355 2 3 556 (.ref 557) (.ref 558) (.ref 559) (.ref 560) 938 355 939) ::
 (nat_lit 562,Qf "powers" "powers" 53 (.str ("shiftroom.asked") 851) 561) ::
 (nat_lit 563,Qt #[]) ::
 (nat_lit 566,Qc "free_seats" 941 "free_seats" 942 943 360 1 3 563 (.ref 564) .none .none (.ref 565) 944 360 945) ::
 (nat_lit 567,Qf "free_seats" "free_seats" 54 (.str ("shiftroom.asked") 851) 566) ::
 (nat_lit 568,Qt #[]) ::
 (nat_lit 571,Qc "dyed" 947 "dyed" 948 949 362 2 3 568 (.ref 569) .none .none (.ref 570) 950 362 951) ::
 (nat_lit 572,Qf "dyed" "dyed" 55 (.str ("shiftroom.asked") 851) 571) ::
 (nat_lit 573,Qt #[]) ::
 (nat_lit 576,Qc "ring_shown" 957 "ring_shown" 958 959 372 1 3 573 (.ref 574) .none .none (.ref 575) 960 372 961) ::
 (nat_lit 577,Qf "ring_shown" "ring_shown" 58 (.str ("shiftroom.notes") 953) 576) ::
 (nat_lit 578,Qt #[]) ::
 (nat_lit 581,Qc "shown" 963 "shown" 964 965 374 1 3 578 (.ref 579) .none .none (.ref 580) 966 374 967) ::
 (nat_lit 582,Qf "shown" "shown" 59 (.str ("shiftroom.notes") 953) 581) ::
 (nat_lit 583,Qt #[]) ::
 (nat_lit 585,Qt #[.str ("text") 972]) ::
 (nat_lit 586,Qt #[]) ::
 (nat_lit 588,Qc "ring_texts" 969 "ring_texts" 970 971 379 1 3 583 (.ref 584) (.ref 585) (.ref 586) (.ref 587) 973 379 974) ::
 (nat_lit 589,Qf "ring_texts" "ring_texts" 60 (.str ("shiftroom.notes") 953) 588) ::
 (nat_lit 590,Qt #[]) ::
 (nat_lit 592,Qt #[.str ("text") 979,.str ("figures") 980,.str ("ring") 981,.str ("word") 982]) ::
 (nat_lit 593,Qt #[]) ::
 (nat_lit 595,Qc "ring_read" 976 "ring_read" 977 978 383 2 3 590 (.ref 591) (.ref 592) (.ref 593) (.ref 594) 983 383 984) ::
 (nat_lit 596,Qf "ring_read" "ring_read" 61 (.str ("shiftroom.notes") 953) 595) ::
 (nat_lit 597,Qt #[]) ::
 (nat_lit 600,Qc "all_rings_read" 986 "all_rings_read" 987 988 392 2 3 597 (.ref 598) .none .none (.ref 599) 989 392 990) ::
 (nat_lit 601,Qf "all_rings_read" "all_rings_read" 62 (.str ("shiftroom.notes") 953) 600) ::
 (nat_lit 602,Qt #[]) ::
 (nat_lit 605,Qc "sent_by_rings" 992 "sent_by_rings" 993 994 395 2 3 602 (.ref 603) .none .none (.ref 604) 995 395 996) ::
 (nat_lit 606,Qf "sent_by_rings" "sent_by_rings" 63 (.str ("shiftroom.notes") 953) 605) ::
 (nat_lit 607,Qt #[]) ::
 (nat_lit 609,Qt #[.str ("text") 1001,.str ("size") 1002]) ::
 (nat_lit 610,Qt #[]) ::
 (nat_lit 612,Qc "read" 998 "read" 999 1000 403 2 3 607 (.ref 608) (.ref 609) (.ref 610) (.ref 611) 1003 403 1004) ::
 (nat_lit 613,Qf "read" "read" 64 (.str ("shiftroom.notes") 953) 612) ::
 (nat_lit 614,Qt #[]) ::
 (nat_lit 616,Qt #[.str ("script") 1011,.str ("k") 1012]) ::
 (nat_lit 617,Qt #[]) ::
 (nat_lit 619,Qc "_law_cell_at" 1008 "_law_cell_at" 1009 1010 409 2 3 614 (.ref 615) (.ref 616) (.ref 617) (.ref 618) 1013 409 1014) ::
 (nat_lit 620,Qf "_law_cell_at" "_law_cell_at" 66 (.str ("law_shiftroom_k21_each_refusal_its_own") 1006) 619) ::
 (nat_lit 621,Qt #[]) ::
 (nat_lit 623,Qt #[.str ("cell") 1019,.str ("size") 1020,.str ("left") 1021,.str ("row") 1022,.str ("k") 1023]) ::
 (nat_lit 624,Qt #[]) ::
 (nat_lit 626,Qc "_law_far" 1016 "_law_far" 1017 1018 413 2 3 621 (.ref 622) (.ref 623) (.ref 624) (.ref 625) 1024 413 1025) ::
 (nat_lit 627,Qf "_law_far" "_law_far" 67 (.str ("law_shiftroom_k21_each_refusal_its_own") 1006) 626) ::
 (nat_lit 628,Qt #[]) ::
 (nat_lit 630,Qt #[.str ("e") 1030,.str ("first") 1031,.str ("then_more") 1032]) ::
 (nat_lit 631,Qt #[]) ::
 (nat_lit 633,Qc "_law_which" 1027 "_law_which" 1028 1029 420 1 3 628 (.ref 629) (.ref 630) (.ref 631) (.ref 632) 1033 420 1034) ::
 (nat_lit 634,Qf "_law_which" "_law_which" 68 (.str ("law_shiftroom_k21_each_refusal_its_own") 1006) 633) ::
 (nat_lit 635,Qt #[]) ::
 (nat_lit 637,Qt #[.str ("cell") 1039,.str ("size") 1040,.str ("row") 1041,.str ("at") 1042]) ::
 (nat_lit 638,Qt #[]) ::
 (nat_lit 640,Qc "_law_bad" 1036 "_law_bad" 1037 1038 424 1 3 635 (.ref 636) (.ref 637) (.ref 638) (.ref 639) 1043 424 1044) ::
 (nat_lit 641,Qf "_law_bad" "_law_bad" 69 (.str ("law_shiftroom_k21_each_refusal_its_own") 1006) 640) ::
 (nat_lit 642,Qt #[]) ::
 (nat_lit 644,Qt #[.str ("cell") 1049,.str ("far") 1050,.str ("size") 1051,.str ("way") 1052]) ::
 (nat_lit 645,Qt #[]) ::
 (nat_lit 647,Qc "_law_no_size" 1046 "_law_no_size" 1047 1048 434 2 3 642 (.ref 643) (.ref 644) (.ref 645) (.ref 646) 1053 434 1054) ::
 (nat_lit 648,Qf "_law_no_size" "_law_no_size" 70 (.str ("law_shiftroom_k21_each_refusal_its_own") 1006) 647) ::
 (nat_lit 649,Qt #[]) ::
 (nat_lit 651,Qt #[.str ("room") 1059,.str ("bad") 1060,.str ("way") 1061]) ::
 (nat_lit 652,Qt #[]) ::
 (nat_lit 654,Qc "_law_no_seating" 1056 "_law_no_seating" 1057 1058 443 3 3 649 (.ref 650) (.ref 651) (.ref 652) (.ref 653) 1062 443 1063) ::
 (nat_lit 655,Qf "_law_no_seating" "_law_no_seating" 71 (.str ("law_shiftroom_k21_each_refusal_its_own") 1006) 654) ::
 (nat_lit 656,Qt #[]) ::
 (nat_lit 658,Qt #[.str ("room") 1068,.str ("other") 1069,.str ("way") 1070]) ::
 (nat_lit 659,Qt #[]) ::
 (nat_lit 661,Qc "_law_other_size" 1065 "_law_other_size" 1066 1067 466 3 3 656 (.ref 657) (.ref 658) (.ref 659) (.ref 660) 1071 466 1072) ::
 (nat_lit 662,Qf "_law_other_size" "_law_other_size" 72 (.str ("law_shiftroom_k21_each_refusal_its_own") 1006) 661) ::
 (nat_lit 663,Qt #[]) ::
 (nat_lit 665,Qt #[.str ("room") 1077,.str ("seat") 1078,.str ("way") 1079]) ::
 (nat_lit 666,Qt #[]) ::
 (nat_lit 668,Qc "_law_no_seat" 1074 "_law_no_seat" 1075 1076 479 3 3 663 (.ref 664) (.ref 665) (.ref 666) (.ref 667) 1080 479 1081) ::
 (nat_lit 669,Qf "_law_no_seat" "_law_no_seat" 73 (.str ("law_shiftroom_k21_each_refusal_its_own") 1006) 668) ::
 (nat_lit 670,Qt #[]) ::
 (nat_lit 672,Qt #[.str ("size") 1086,.str ("room") 1087,.str ("k") 1088]) ::
 (nat_lit 673,Qt #[]) ::
 (nat_lit 675,Qc "_law_full" 1083 "_law_full" 1084 1085 488 1 3 670 (.ref 671) (.ref 672) (.ref 673) (.ref 674) 1089 488 1090) ::
 (nat_lit 676,Qf "_law_full" "_law_full" 74 (.str ("law_shiftroom_k21_each_refusal_its_own") 1006) 675) ::
 (nat_lit 677,Qt #[]) ::
 (nat_lit 679,Qt #[.str ("size") 1095,.str ("way") 1096,.str ("room") 1097,.str ("one") 1098]) ::
 (nat_lit 680,Qt #[]) ::
 (nat_lit 682,Qc "_law_unreached" 1092 "_law_unreached" 1093 1094 493 2 3 677 (.ref 678) (.ref 679) (.ref 680) (.ref 681) 1099 493 1100) ::
 (nat_lit 683,Qf "_law_unreached" "_law_unreached" 75 (.str ("law_shiftroom_k21_each_refusal_its_own") 1006) 682) ::
 (nat_lit 684,Qt #[]) ::
 (nat_lit 686,Qt #[.str ("room") 1105]) ::
 (nat_lit 687,Qt #[]) ::
 (nat_lit 689,Qc "_law_wide" 1102 "_law_wide" 1103 1104 500 0 3 684 (.ref 685) (.ref 686) (.ref 687) (.ref 688) 1106 500 1107) ::
 (nat_lit 690,Qf "_law_wide" "_law_wide" 76 (.str ("law_shiftroom_k21_each_refusal_its_own") 1006) 689) ::
 (nat_lit 691,Qt #[]) ::
 (nat_lit 693,Qt #[.str ("way") 1112,.str ("size") 1113,.str ("cell") 1114,.str ("far") 1115,.str ("room") 1116]) ::
 (nat_lit 694,Qt #[]) ::
 (nat_lit 696,Qc "_law_done" 1109 "_law_done" 1110 1111 505 4 3 691 (.ref 692) (.ref 693) (.ref 694) (.ref 695) 1117 505 1118) ::
 (nat_lit 697,Qf "_law_done" "_law_done" 77 (.str ("law_shiftroom_k21_each_refusal_its_own") 1006) 696) ::
 (nat_lit 698,Qt #[]) ::
 (nat_lit 701,Qc "law" 1120 "law" 1121 1122 527 1 3 698 (.ref 699) .none .none (.ref 700) 1123 527 1124) ::
 (nat_lit 702,Qf "law" "law" 78 (.str ("law_shiftroom_k21_each_refusal_its_own") 1006) 701)::[]
noncomputable def Prf.KA:List PySem.Addr:=2::3::15::22::23::24::25::28::35::36::37::40::47::48::49::52::59::60::61::64::71::72::73::76::83::84::85::88::95::96::97::100::107::108::109::112::119::120::121::124::131::132::133::136::138::139::141::142::143::145::146::148::149::150::152::153::155::156::157::159::160::162::163::164::166::167::169::170::171::174::175::176::178::179::181::182::183::185::186::188::189::190::192::193::195::196::204::206::207::209::210::211::212::213::214::215::225::227::228::230::231::232::234::235::237::238::239::240::241::242::243::246::248::249::251::252::253::255::256::258::259::260::263::264::265::267::268::270::271::272::275::276::284::287::288::289::291::292::294::295::296::298::299::301::302::303::305::306::308::309::310::312::313::315::316::317::319::320::322::323::324::327::328::329::331::332::334::335::336::338::339::341::342::343::345::346::348::349::350::352::353::355::356::357::360::361::362::365::366::367::370::371::372::373::374::375::376::386::388::389::391::392::393::395::396::398::399::400::402::403::405::406::407::409::410::412::413::414::416::417::419::420::421::423::424::426::427::428::430::431::433::434::435::437::438::440::441::442::444::445::447::448::449::451::452::454::455::456::458::459::461::462::463::464::465::466::467::470::472::473::475::476::477::479::480::482::483::484::486::487::489::490::491::494::495::496::498::499::501::502::503::505::506::508::509::510::512::513::515::516::517::520::521::522::525::526::527::530::531::532::535::536::537::539::540::542::543::544::546::547::549::550::551::554::555::556::558::559::561::562::563::566::567::568::571::572::573::576::577::578::581::582::583::585::586::588::589::590::592::593::595::596::597::600::601::602::605::606::607::609::610::612::613::614::616::617::619::620::621::623::624::626::627::628::630::631::633::634::635::637::638::640::641::642::644::645::647::648::649::651::652::654::655::656::658::659::661::662::663::665::666::668::669::670::672::673::675::676::677::679::680::682::683::684::686::687::689::690::691::693::694::696::697::698::701::702::[]
noncomputable def Prf.QQ:PySem.Program:={ PySem.Challenge.pw_shiftroom_k21_each_refusal_its_own with main:={ PySem.Challenge.pw_shiftroom_k21_each_refusal_its_own.main with body:=[Prf.top 1,Prf.top 2,Prf.top 3,Prf.top 4,Prf.top 5,Prf.top 6,Prf.top 7,Prf.top 8,Prf.top 9,Prf.top 10,Prf.top 12,Prf.top 13,Prf.top 14,Prf.top 15,Prf.top 16,Prf.top 17,Prf.top 18,Prf.top 19,Prf.top 20,Prf.top 21,Prf.top 22,Prf.top 24,Prf.top 25,Prf.top 26,Prf.top 27,Prf.top 28,Prf.top 29,Prf.top 30,Prf.top 31,Prf.top 33,Prf.top 34,Prf.top 36,Prf.top 37,Prf.top 38,Prf.top 39,Prf.top 40,Prf.top 42,Prf.top 43,Prf.top 44,Prf.top 45,Prf.top 46,Prf.top 47,Prf.top 48,Prf.top 49,Prf.top 50,Prf.top 51,Prf.top 52,Prf.top 53,Prf.top 54,Prf.top 55,Prf.top 57,Prf.top 58,Prf.top 59,Prf.top 60,Prf.top 61,Prf.top 62,Prf.top 63,Prf.top 64,Prf.top 66,Prf.top 67,Prf.top 68,Prf.top 69,Prf.top 70,Prf.top 71,Prf.top 72,Prf.top 73,Prf.top 74,Prf.top 75,Prf.top 76,Prf.top 77,Prf.top 78] } }
theorem Prf.KE:∀ P,Prf.KA=(Prf.KK P).map (·.1):=fun _=>by kernel_rfl
section
open PySem PySem.W PyProof.Rows
set_option maxHeartbeats 0
noncomputable def Prf.tRun (ok:Thread->Bool) (st:SharedT->Thread->Option (SharedT × Thread)) (n:Nat):SharedT->Thread->Option SharedT :=
 Nat.rec (motive:=fun _=>SharedT->Thread->Option SharedT) (fun _ _=>none) (fun _ ih s t=>match through t with
  | true=>some s
  | false=>match ok t with
   | false=>none
   | true=>match st s t with
    | some z=>ih z.1 z.2
    | none=>none) n
theorem Prf.tRunOf {tb:String->Option Builtin} {p:Program} {w:World} {n₀:Nat} {ann:Option Value}:∀ {n:Nat} {s s':SharedT} {t:Thread},Prf.tRun (stepOk n₀ ann) (stepT (denote tb) p w) n s t=some s'->topRun tb p w n₀ ann n s.abs t=some s'.abs
 | 0,s,s',t,h=>by cases h
 | n+1,s,s',t,h=>by
  have h:(match through t with
   | true=>some s
   | false=>match stepOk n₀ ann t with
    | false=>none
    | true=>match stepT (denote tb) p w s t with
     | some z=>Prf.tRun (stepOk n₀ ann) (stepT (denote tb) p w) n z.1 z.2
     | none=>none)=some s':=h
  unfold topRun
  cases ht:through t with
  | true =>
   rw[ht]at h
   obtain rfl:s=s':=Option.some.inj h
   rfl
  | false =>
   rw[ht]at h
   cases hk:stepOk n₀ ann t with
   | false=>rw[hk]at h;cases h
   | true =>
    rw[hk]at h
    cases hs:stepT (denote tb) p w s t with
    | none=>rw[hs]at h;cases h
    | some z =>
     rw[hs]at h
     have e:=stepT_spec (s':=z.1) (t':=z.2) hs
     show (match step (denote tb) p w s.abs t with
      | .go s' t'=>topRun tb p w n₀ ann n s' t'
      | .halt _ _=>none)=_
     rw[e]
     exact Prf.tRunOf h
noncomputable def Prf.tPlant:List Obj->Nat->BT->BT:=fun l=>List.rec (motive:=fun _=>Nat->BT->BT) (fun _ t=>t) (fun o _ ih n t=>ih (n+1) (t.ins n o)) l
noncomputable def Prf.tS0 (w:World) (os:OsState):SharedT:=⟨Prf.tPlant (boot_heap w.params).objs.toList 0 .nil,11,{},#[],boot_drawn,boot_toks,os⟩
theorem Prf.tAbs (w:World) (os:OsState):(Prf.tS0 w os).abs=⟨boot_heap w.params,#[],boot_drawn,boot_toks,os⟩:=by kernel_rfl
noncomputable def Prf.tFin (p:Program) (m:Nat) (ann:Option Value) (N:Nat) (S:World->OsState->SharedT) (w:World) (os:OsState):Option SharedT:=Prf.tRun (stepOk m ann) (stepT (denote treeTable) p w) N (S w os) (topStub p)
theorem Prf.tSize (w:World):((boot_heap w.params).isNs mainGlobals && (#[]:Array GenState).size == 0,(boot_heap w.params).objs.size,(boot_heap w.params).nsMap mainGlobals "__annotations__")=(true,11,some (.ref 6)):=by kernel_rfl
noncomputable def Prf.tBuild {α:Type} (t:BT) (k:List Obj->α) (n:Nat):List Obj->α :=
 Nat.rec (motive:=fun _=>List Obj->α) (fun acc=>k acc) (fun n ih acc=>match t.get n with
  | some ⟨a,b,c,d⟩=>ih (⟨a,b,c,d⟩::acc)
  | none=>ih (default::acc)) n
theorem Prf.tBuildE {α:Type} (t:BT) (k:List Obj->α):∀ (n:Nat) (acc:List Obj),Prf.tBuild t k n acc=k (t.list n++acc)
 | 0,acc=>rfl
 | n+1,acc=>by
  have e:t.list (n+1)++acc=t.list n++((t.get n).getD default::acc):=by
   unfold BT.list
   rw[List.range_succ,List.map_append,List.append_assoc]
   rfl
  rw[e,<- Prf.tBuildE t k n]
  show (match t.get n with
   | some ⟨a,b,c,d⟩=>Prf.tBuild t k n (⟨a,b,c,d⟩::acc)
   | none=>Prf.tBuild t k n (default::acc))=_
  cases t.get n with
  | none=>rfl
  | some o=>cases o;rfl
noncomputable def Prf.tSee {α:Type} (F:Shared->α) (z:SharedT):α:=Prf.tBuild z.tree (fun l=>F ⟨⟨⟨l⟩,z.life⟩,z.gens,z.drawn,z.toks,z.os⟩) z.n []
theorem Prf.tSeeE {α:Type} (F:Shared->α) (z:SharedT):Prf.tSee F z=F z.abs:=by
 unfold Prf.tSee
 rw[Prf.tBuildE,List.append_nil]
 rfl
theorem Prf.tEnds {p:Program} {N m₀:Nat} {ann:Option Value} {H₀:Params->Heap} {d₀:Drawn} {k₀:Nat} {S:World->OsState->SharedT}
  (o:∀ w:World,(fencedOpening treeTable p w N).map (fun s=>(s.heap,s.gens,s.drawn,s.toks))=some (H₀ w.params,Array.mk [],d₀,k₀))
  (sz:∀ w:World,((H₀ w.params).isNs mainGlobals && (#[]:Array GenState).size == 0,(H₀ w.params).objs.size,(H₀ w.params).nsMap mainGlobals "__annotations__")=(true,m₀,ann))
  (ab:∀ w os,(S w os).abs=⟨H₀ w.params,Array.mk [],d₀,k₀,os⟩)
  (lk:∀ w os,(Prf.tFin p m₀ ann N S w os).map (Prf.tSee fun s=>staticsOk (importedModules p.main.body) (H₀ w.params) s.heap && namesBound p s.heap && gensDone s && laidKept (H₀ w.params) s.heap)=some true)
  {α:Type} {F:Shared->α} {V:World->α} (h:∀ w os,(Prf.tFin p m₀ ann N S w os).map (Prf.tSee F)=some (V w)) (w:World):(openEnds treeTable p w N).map F=some (V w):=by
 obtain ⟨⟨hp,gs,d,k,os⟩,e,e'⟩:=Option.map_eq_some_iff.mp (o w)
 obtain ⟨rfl,rfl,rfl,rfl⟩:hp=H₀ w.params/\gs=Array.mk []/\d=d₀/\k=k₀:=by simpa using e'
 obtain ⟨z1,z2,z3⟩:_/\_/\_:=by simpa only [Prod.mk.injEq] using sz w
 obtain ⟨z,f1,f2⟩:=Option.map_eq_some_iff.mp (lk w os)
 obtain ⟨z',g1,g2⟩:=Option.map_eq_some_iff.mp (h w os)
 obtain rfl:z=z':=Option.some.inj (f1.symm.trans g1)
 rw[Prf.tSeeE]at f2 g2
 have r:=Prf.tRunOf f1
 rw[ab]at r
 have t:topFrom treeTable p w N ⟨H₀ w.params,Array.mk [],d,k,os⟩=some z.abs:=by
  unfold topFrom
  dsimp only
  rw[z1,z2,z3,r]
  show (match staticsOk (importedModules p.main.body) (H₀ w.params) z.abs.heap && namesBound p z.abs.heap && gensDone z.abs && laidKept (H₀ w.params) z.abs.heap with | true=>_ | false=>_)=_
  rw[f2]
 unfold openEnds
 rw[e]
 show (topFrom treeTable p w N _).map _=_
 rw[t]
 exact congrArg some g2
theorem Prf.tFq (p:Program) (m:Nat) (ann:Option Value) (N:Nat) (S:World->OsState->SharedT) (w:World) (os:OsState):Prf.tFin p m ann N S w os=Prf.tRun (PySem.W.Fast.tw6613529449190102663 m ann) (PySem.W.Fast.tw10156331382660048174 (PySem.W.Fast.tw11892475500146522536 PySem.W.Fast.tw14364793385576792824) p w) N (S w os) (topStub p):=by
 delta Prf.tFin
 rw[PySem.W.Fast.te6613529449190102663,PySem.W.Fast.te10156331382660048174,PySem.W.Fast.te11892475500146522536,PySem.W.Fast.te14364793385576792824]
theorem Prf.tOpens:∀ w:World,(fencedOpening treeTable PySem.Challenge.pw_shiftroom_k21_each_refusal_its_own w 10938).map (fun s=>(s.heap,s.gens,s.drawn,s.toks))=some (boot_heap w.params,Array.mk [],boot_drawn,boot_toks):=boot_open (by kernel_rfl) (by decide) (fun s=>by kernel_rfl)
theorem Prf.tLk (w:World) (os:OsState):(Prf.tFin PySem.Challenge.pw_shiftroom_k21_each_refusal_its_own 11 (some (.ref 6)) 10938 Prf.tS0 w os).map (Prf.tSee fun s=>staticsOk (importedModules PySem.Challenge.pw_shiftroom_k21_each_refusal_its_own.main.body) (boot_heap w.params) s.heap && namesBound PySem.Challenge.pw_shiftroom_k21_each_refusal_its_own s.heap && gensDone s && laidKept (boot_heap w.params) s.heap)=some true:=by
 rw[Prf.tFq]
 kernel_rfl
theorem Prf.left1a (w:World):(openEnds treeTable PySem.Challenge.pw_shiftroom_k21_each_refusal_its_own w 10938).map (fun s=>(seen ((recsOf Prf.QQ).map (·.name)) (ownsOf Prf.QQ) [] { s with gens:=#[] },s.heap.bltView))=some (expectedOf Prf.QQ,bltViewBooted):=Prf.tEnds (V:=fun w=>(expectedOf Prf.QQ,bltViewBooted)) Prf.tOpens Prf.tSize Prf.tAbs Prf.tLk (fun w os=>by
 rw[Prf.tFq]
 kernel_rfl) w
theorem Prf.left1b (w:World):(openEnds treeTable PySem.Challenge.pw_shiftroom_k21_each_refusal_its_own w 10938).map (fun s=>s.heap.keysOk (looseW Prf.QQ []) ((recsOf Prf.QQ).map (·.name)) ((litsOf Prf.QQ).map (·.1)) ((clssOf Prf.QQ (looseW Prf.QQ [])).map (·.name)) && s.heap.accountedOkI (importedModules PySem.Challenge.pw_shiftroom_k21_each_refusal_its_own.main.body) && s.heap.isNs mainGlobals && s.heap.isNs builtinsNs && tablesOk Prf.QQ s.heap && (fun s=>xlAt Prf.QQ [] s && recOk (RowW.records (OpenRow.toRowW (OpenLaw.row PySem.Challenge.rw_shiftroom_k21_each_refusal_its_own))) s) s && (if true then s.gens.size == 0 else !leftWithCleanup s.gens))=some true:=Prf.tEnds (V:=fun w=>true) Prf.tOpens Prf.tSize Prf.tAbs Prf.tLk (fun w os=>by
 rw[Prf.tFq]
 kernel_rfl) w
theorem Prf.left1c (w:World):(openEnds treeTable PySem.Challenge.pw_shiftroom_k21_each_refusal_its_own w 10938).map (fun s=>(tabsOk Prf.QQ s,pinSeenD Prf.QQ (drecsOf Prf.QQ) s,plainSeenE Prf.QQ (looseW Prf.QQ []) s,plainSeenD Prf.QQ [] s,wideSeen Prf.QQ s,clsSeenW Prf.QQ [] s))=some (true,pinGoodD (drecsOf Prf.QQ),plainGoodE Prf.QQ (looseW Prf.QQ []),plainGoodD Prf.QQ [],wideGood Prf.QQ,clsGoodW Prf.QQ []):=Prf.tEnds (V:=fun w=>(true,pinGoodD (drecsOf Prf.QQ),plainGoodE Prf.QQ (looseW Prf.QQ []),plainGoodD Prf.QQ [],wideGood Prf.QQ,clsGoodW Prf.QQ [])) Prf.tOpens Prf.tSize Prf.tAbs Prf.tLk (fun w os=>by
 rw[Prf.tFq]
 kernel_rfl) w
theorem Prf.three {α β γ δ:Type} {o:Option α} {f:α->β} {g:α->γ} {k:α->Bool} {h:α->δ} {b:β} {c:γ} {d:δ} (h1:o.map (fun s=>(f s,g s))=some (b,c)) (h2:o.map k=some true) (h3:o.map h=some d):o.map (fun s=>(f s,g s,k s,h s))=some (b,c,true,d):=by
 cases o with
 | none=>cases h1
 | some a =>
  have e1:(f a,g a)=(b,c):=Option.some.inj h1
  have e2:k a=true:=Option.some.inj h2
  have e3:h a=d:=Option.some.inj h3
  show some (f a,g a,k a,h a)=_
  cases e1
  rw[e2,e3]
theorem Prf.left1 (w:World):(openEnds treeTable PySem.Challenge.pw_shiftroom_k21_each_refusal_its_own w 10938).map (fun s=>openSeen Prf.QQ [] (importedModules PySem.Challenge.pw_shiftroom_k21_each_refusal_its_own.main.body) (fun s=>xlAt Prf.QQ [] s && recOk (RowW.records (OpenRow.toRowW (OpenLaw.row PySem.Challenge.rw_shiftroom_k21_each_refusal_its_own))) s) true s)=some (openGood Prf.QQ []):=by
 delta openSeen openGood
 exact Prf.three (Prf.left1a w) (Prf.left1b w) (Prf.left1c w)
theorem Prf.left2 (w:World):(openEnds treeTable PySem.Challenge.pw_shiftroom_k21_each_refusal_its_own w 10938).map (Hook.obs (kHook Prf.KK Prf.KA Prf.KE))=some (Hook.val (kHook Prf.KK Prf.KA Prf.KE) w):=Prf.tEnds (V:=fun w=>(Hook.val (kHook Prf.KK Prf.KA Prf.KE) w)) Prf.tOpens Prf.tSize Prf.tAbs Prf.tLk (fun w os=>by
 rw[Prf.tFq]
 kernel_rfl) w
theorem Prf.both {α β γ:Type} {o:Option α} {f:α->β} {g:α->γ} {b:β} {c:γ} (h1:o.map f=some b) (h2:o.map g=some c):o.map (fun s=>(f s,g s))=some (b,c):=by
 cases o with
 | none=>cases h1
 | some a=>cases h1;cases h2;rfl
theorem Prf.left:LeftO PySem.Challenge.pw_shiftroom_k21_each_refusal_its_own Prf.QQ [] (fun s=>xlAt Prf.QQ [] s && recOk (RowW.records (OpenRow.toRowW (OpenLaw.row PySem.Challenge.rw_shiftroom_k21_each_refusal_its_own))) s) (Hook.obs (kHook Prf.KK Prf.KA Prf.KE)) (Hook.val (kHook Prf.KK Prf.KA Prf.KE)) 10938:=fun w=>Prf.both (Prf.left1 w) (Prf.left2 w)
end
set_option Elab.async false
set_option linter.all false
set_option maxRecDepth 100000

namespace L2
open PySem PySem.Spec PyProof.Rows

abbrev Key:=Sum Int Str
def keyIs:Key->Value->Bool
 | .inl k,v=>Value.isInt k v
 | .inr x,v=>Value.isStrOf x v
def keyH (w:World):Key->Int
 | .inl k=>hashInt k
 | .inr x=>hashStr w x
theorem zC1:∀ {k:Key} {v:Value},keyIs k v=true->(∃ i t,k=Sum.inl i/\v=Value.int i t)\/(∃ x t,k=Sum.inr x/\v=Value.str x t)
 | .inl i,v,h=>by
  obtain ⟨t,e⟩:=Value.isInt_shape (k:=i) (v:=v) h
  exact .inl ⟨i,t,rfl,e⟩
 | .inr x,v,h=>by
  obtain ⟨t,e⟩:=Value.isStrOf_shape (x:=x) (v:=v) h
  exact .inr ⟨x,t,rfl,e⟩
theorem keyIs_int (i:Int) (t:Tok):keyIs (.inl i) (.int i t)=true:=by simp [keyIs,Value.isInt]
theorem keyIs_str (x:Str) (t:Tok):keyIs (.inr x) (.str x t)=true:=by simp [keyIs,Value.isStrOf]
theorem key_ll (a b:Int):decide ((Sum.inl a:Key)=Sum.inl b)=(a == b):=by
 by_cases e:a=b
 ·subst e;simp
 ·have h:¬ (Sum.inl a:Key)=Sum.inl b:=fun q=>e (Sum.inl.inj q)
  rw[decide_eq_false h]
  exact (beq_eq_false_iff_ne.mpr e).symm
theorem key_rr (a b:Str):decide ((Sum.inr a:Key)=Sum.inr b)=decide (a=b):=by
 by_cases e:a=b
 ·subst e;simp
 ·have h:¬ (Sum.inr a:Key)=Sum.inr b:=fun q=>e (Sum.inr.inj q)
  rw[decide_eq_false h,decide_eq_false e]
theorem key_lr (a:Int) (b:Str):decide ((Sum.inl a:Key)=Sum.inr b)=false:=decide_eq_false (fun q=>nomatch q)
theorem key_rl (a:Str) (b:Int):decide ((Sum.inr a:Key)=Sum.inl b)=false:=decide_eq_false (fun q=>nomatch q)

def zCm (prog:Program) (w:World):PySem.KeyKind prog w Key where
 is:=keyIs
 hash:=keyH w
 inj:=fun v a b ha hb=>by
  rcases zC1 ha with ⟨i,t,rfl,rfl⟩ | ⟨x,t,rfl,rfl⟩
  ·rcases zC1 hb with ⟨j,u,rfl,e⟩ | ⟨y,u,rfl,e⟩
   ·injection e with e1 _;rw[e1]
   ·exact nomatch e
  ·rcases zC1 hb with ⟨j,u,rfl,e⟩ | ⟨y,u,rfl,e⟩
   ·exact nomatch e
   ·injection e with e1 _;rw[e1]
 byValue:=fun k v h=>by
  rcases zC1 h with ⟨i,t,rfl,rfl⟩ | ⟨x,t,rfl,rfl⟩ <;> rfl
 pyHash:=fun hv h=>by
  rcases zC1 hv with ⟨i,t,rfl,rfl⟩ | ⟨x,t,rfl,rfl⟩
  ·exact wpAny_pyHash_int h
  ·exact wpAny_pyHash_str h
 eqBool:=fun hu hv h=>by
  rcases zC1 hu with ⟨i,t,rfl,rfl⟩ | ⟨x,t,rfl,rfl⟩
  ·rcases zC1 hv with ⟨j,u,rfl,rfl⟩ | ⟨y,u,rfl,rfl⟩
   ·rw[key_ll]at h;exact wpAny_eqBool_int h
   ·rw[key_lr]at h;exact SeqAt.EqAt.int_str i t y u _ _ _ _ h
  ·rcases zC1 hv with ⟨j,u,rfl,rfl⟩ | ⟨y,u,rfl,rfl⟩
   ·rw[key_rl]at h;exact SeqAt.EqAt.str_int x t j u _ _ _ _ h
   ·rw[key_rr]at h;exact wpAny_eqBool_str h
 «strs»:=fun k x t v h=>by
  rcases zC1 h with ⟨i,u,rfl,e⟩ | ⟨y,u,rfl,e⟩
  ·exact nomatch e
  ·injection e with e1 _
   subst e1
   cases v <;> rfl

theorem mixKind_int (prog:Program) (w:World) (i:Int) (t:Tok):(zCm prog w).is (.inl i) (.int i t)=true:=keyIs_int i t
theorem mixKind_str (prog:Program) (w:World) (x:Str) (t:Tok):(zCm prog w).is (.inr x) (.str x t)=true:=keyIs_str x t
end L2

namespace L2
open PySem PySem.Spec PyProof.Rows

inductive V where
 | non | bl (b:Bool) | int (i:Int) | str (x:Str) | byt (b:Array UInt8) | flt (b:UInt64) | ref (a:Addr) | ty (n:String)
 deriving DecidableEq

def RelV:V->Value->Prop
 | .non,u=>u=Value.none
 | .bl b,u=>u=Value.bool b
 | .int i,u=>∃ t,u=Value.int i t
 | .str x,u=>∃ t,u=Value.str x t
 | .byt b,u=>∃ t,u=Value.bytes b t
 | .flt b,u=>∃ t,u=Value.float b t
 | .ref a,u=>u=Value.ref a
 | .ty n,u=>u=Value.type n

abbrev Vals:List V->List Value->Prop:=Paired RelV
theorem Vals.length {xs:List V} {us:List Value} (r:Vals xs us):xs.length=us.length:=Paired.length r
theorem Vals.get:∀ {xs:List V} {us:List Value} {i:Nat} {x:V},Vals xs us->xs[i]?=some x->∃ u,us[i]?=some u/\RelV x u
 | _,_,_,_,.nil,e=>by simp at e
 | _,_,0,_,.cons r _,e=>by simp at e;subst e;exact ⟨_,rfl,r⟩
 | _,_,i+1,x,.cons _ t,e=>by
  obtain ⟨u,h1,h2⟩:=Vals.get (i:=i) (x:=x) t (by simpa using e)
  exact ⟨u,by simpa using h1,h2⟩
theorem Vals.set {x:V} {u:Value} (r:RelV x u):∀ {xs:List V} {us:List Value} (i:Nat),Vals xs us->Vals (xs.set i x) (us.set i u)
 | _,_,_,.nil=>.nil
 | _,_,0,.cons _ t=>.cons r t
 | _,_,i+1,.cons q t=>.cons q (Vals.set r i t)
theorem Vals.append:∀ {xs ys:List V} {us ws:List Value},Vals xs us->Vals ys ws->Vals (xs++ys) (us++ws)
 | _,_,_,_,.nil,s=>s
 | _,_,_,_,.cons r t,s=>.cons r (Vals.append t s)
theorem Vals.take:∀ {xs:List V} {us:List Value} (n:Nat),Vals xs us->Vals (xs.take n) (us.take n)
 | _,_,0,_=>.nil
 | _,_,_+1,.nil=>.nil
 | _,_,n+1,.cons r t=>.cons r (Vals.take n t)
theorem Vals.drop:∀ {xs:List V} {us:List Value} (n:Nat),Vals xs us->Vals (xs.drop n) (us.drop n)
 | _,_,0,r=>r
 | _,_,_+1,.nil=>.nil
 | _,_,n+1,.cons _ t=>Vals.drop n t
def RelO:Option V->Option Value->Prop
 | some v,some u=>RelV v u
 | none,none=>True
 | _,_=>False
def KV {κ:Type}:List (κ × V)->List (κ × Value)->Prop:=Paired fun (p:κ × V) (q:κ × Value)=>p.1=q.1/\RelV p.2 q.2

def kV:Key->V
 | .inl i=>.int i
 | .inr x=>.str x

inductive HO where
 /-- a list -/
 | lst (xs:List V)
 /-- a tuple (never changes) -/
 | tup (xs:List V)
 /-- a dict whose keys are ints and texts;one whose keys are tuples of ints and texts (the empty one is both) -/
 | dK (kvs:List (Key × V)) | dT (kvs:List (List Key × V))
 /-- a set of ints: its members,its size -/
 | set (S:Int->Bool) (n:Nat)
 /-- an instance of the class at C,its dict at dx,its attributes -/
 | ins (C dx:Addr) (fs:List (Str × V))
 /-- the dict of the instance at x -/
 | own (x:Addr)
 /-- the dict of an exception -/
 | xd (fs:List (Str × V))
 /-- a bound method,f of x -/
 | met (f x:Addr)
 /-- a range object lo,lo+1,.. below hi -/
 | rng (lo hi:Int)
 /-- a thing that is known to the object (the script;a dict while a loop walks it): read,never written while it is so -/
 | frz (o:Obj) (u:HO)
 /-- a code object's table -/
 | tbl (ps:Array Value)
 /-- any other thing,by what is true of its one object (a def of one's own: SetO a S n:=HO.ext fun h=>..) -/
 | ext (φ:Heap->Prop)

abbrev Hp:=Addr->Option HO
def upd (H:Hp) (a:Addr) (o:HO):Hp:=fun b=>if b=a then some o else H b
theorem zA2 {H:Hp} {a:Addr} {o:HO}:upd H a o a=some o:=by unfold upd;rw[if_pos rfl]
theorem zA8 {H:Hp} {a b:Addr} {o:HO} (h:b≠a):upd H a o b=H b:=by unfold upd;rw[if_neg h]
theorem upd_upd {H:Hp} {a:Addr} {o u:HO}:upd (upd H a o) a u=upd H a u:=by
 funext b;unfold upd;split <;> rfl
theorem ne_of {H:Hp} {a b:Addr} {o u:HO} (h:H a=some o) (h':H b=some u) (d:o≠u):a≠b:=by
 intro e;subst e;rw[h]at h';exact d (Option.some.inj h')
theorem zA4 {H:Hp} {a b:Addr} {o:HO} (h:H a=some o) (h':H b=none):a≠b:=by
 intro e;subst e;rw[h]at h';cases h'

def IsTq (h:Heap) (a:Addr) (items:Array Value):Prop:=IsTup h a items/\∃ o,h.get? a=some o/\o.dict=none
theorem IsTq.new (h:Heap) (items:Array Value):IsTq (h.push { cls:=.type "tuple",data:=.seq items }) h.objs.size items:=⟨IsTup.new _ _,_,Heap.get?_push_size _ rfl,rfl⟩
section
variable (P:Program) (w:World)
def ObjOk (H:Hp) (h:Heap) (a:Addr):HO->Prop
 | .lst xs=>xs.length<=sizeLine/\∃ (its:List Value) (n:Nat),Vals xs its/\h.get? a=some { cls:=.type "list",data:=.seq its.toArray n }
 | .tup xs=>xs.length<=sizeLine/\∃ its:List Value,Vals xs its/\IsTq h a its.toArray
 | .dK kvs=>kvs.length<=sizeLine/\(a == sysModules)=false/\∃ vs,KV kvs vs/\h.DictOf (zCm P w) a vs
 | .dT kvs=>kvs.length<=sizeLine/\(a == sysModules)=false/\∃ xs:List (List Key × Addr × Value),
   Paired (fun (p:List Key × V) (q:List Key × Addr × Value)=>p.1=q.1/\H q.2.1=some (.tup (p.1.map kV))/\RelV p.2 q.2.2) kvs xs /\
   ∃ o es ep,h.get? a=some o/\o.ExactDict/\o.data=.dict es ep/\es.toList=xs.map (entryOfKey (tupleKind (zCm P w)))/\(xs.map (·.1)).Nodup
 | .set S n=>h.SetOf (intKind P w) a S n
 | .ins C dx fs=>H dx=some (.own a)/\fs.length<=1000/\dx≠a/\h.get? a=some (PySem.W.instObj C dx) /\
   ∃ mA,h.Ns1 dx mA/\(∀ f,RelO (fs.lookup f) (mA f))/\PySem.Within mA (fs.map (·.1))
 | .own _=>∃ o,h.get? a=some o
 | .xd fs=>∃ mA,h.Ns1 a mA/\∀ f,RelO (fs.lookup f) (mA f)
 | .rng lo hi=>∃ t u v,h.get? a=some { cls:=.type "range",data:=.fields #[.int lo t,.int hi u,.int 1 v] }
 | .frz o u=>h.get? a=some o/\ObjOk H h a u
 | .tbl ps=>h.get? a=some { cls:=.none,data:=.fields ps }
 | .met f x=>h.get? a=some (PySem.W.methodObj (.ref f) (.ref x))
 | .ext φ=>φ h/\(∃ o,h.get? a=some o)/\∀ h1 h2:Heap,φ h1->(∀ o,h1.get? a=some o->h2.get? a=some o)->φ h2
def HOk (H:Hp) (h:Heap):Prop:=∀ a o,H a=some o->ObjOk P w H h a o
end

section
variable {P:Program} {w:World} {H H':Hp} {h h':Heap} {a:Addr} {o:HO}
theorem ObjOk.lt (x:ObjOk P w H h a o):a < h.objs.size:=by
 cases o with
 | lst xs=>obtain ⟨_,_,_,_,e⟩:=x;exact Heap.lt_size e
 | tup xs=>obtain ⟨_,_,_,p⟩:=x;exact p.1.lt
 | dK kvs=>obtain ⟨_,_,_,_,o,_,_,e,_⟩:=x;exact Heap.lt_size e
 | dT kvs=>obtain ⟨_,_,_,_,o,_,_,e,_⟩:=x;exact Heap.lt_size e
 | set S n=>obtain ⟨o,_,_,_,e,_⟩:=x;exact Heap.lt_size e
 | ins C dx fs=>obtain ⟨_,_,_,e,_⟩:=x;exact Heap.lt_size e
 | own y=>obtain ⟨_,e⟩:=x;exact Heap.lt_size e
 | xd fs=>obtain ⟨_,⟨_,_,_,e,_⟩,_⟩:=x;exact Heap.lt_size e
 | rng lo hi=>obtain ⟨_,_,_,e⟩:=x;exact Heap.lt_size e
 | frz ob u=>obtain ⟨e,_⟩:=x;exact Heap.lt_size e
 | tbl ps=>exact Heap.lt_size (show h.get? a=some _ from x)
 | met f y=>exact Heap.lt_size (show h.get? a=some _ from x)
 | ext φ=>obtain ⟨_,⟨_,e⟩,_⟩:=x;exact Heap.lt_size e
theorem Paired.mapP {α β:Type} {F G:α->β->Prop}:∀ {l₁:List α} {l₂:List β},Paired F l₁ l₂->(∀ a b,F a b->G a b)->Paired G l₁ l₂
 | _,_,.nil,_=>.nil
 | _,_,.cons r t,f=>.cons (f _ _ r) (Paired.mapP t f)
theorem ObjOk.stay (x:ObjOk P w H h a o) (k:∀ b u,(b=a\/H b=some (.own a))->h.get? b=some u->h'.get? b=some u)
  (ho:∀ b,H b=some (.own a)->H' b=some (.own a)) (ht:∀ b xs,H b=some (.tup xs)->H' b=some (.tup xs)):ObjOk P w H' h' a o:=by
 induction o with
 | lst xs=>obtain ⟨z,its,n,r,e⟩:=x;exact ⟨z,its,n,r,k _ _ (.inl rfl) e⟩
 | tup xs=>obtain ⟨z,its,r,⟨ob,e,c⟩,ob2,e2,c2⟩:=x;exact ⟨z,its,r,⟨ob,k _ _ (.inl rfl) e,c⟩,ob2,k _ _ (.inl rfl) e2,c2⟩
 | dK kvs=>obtain ⟨z,y,vs,r,ob,es,ep,e,c⟩:=x;exact ⟨z,y,vs,r,ob,es,ep,k _ _ (.inl rfl) e,c⟩
 | dT kvs =>
  obtain ⟨z,y,xs,r,ob,es,ep,e,c⟩:=x
  exact ⟨z,y,xs,Paired.mapP r fun p q z=>⟨z.1,ht _ _ z.2.1,z.2.2⟩,ob,es,ep,k _ _ (.inl rfl) e,c⟩
 | set S n=>obtain ⟨ob,es,ep,t,e,c⟩:=x;exact ⟨ob,es,ep,t,k _ _ (.inl rfl) e,c⟩
 | ins C dx fs =>
  obtain ⟨d,z,ne,e,mA,⟨od,es,ep,e2,c⟩,r⟩:=x
  exact ⟨ho _ d,z,ne,k _ _ (.inl rfl) e,mA,⟨od,es,ep,k _ _ (.inr d) e2,c⟩,r⟩
 | own y=>obtain ⟨ob,e⟩:=x;exact ⟨ob,k _ _ (.inl rfl) e⟩
 | xd fs=>obtain ⟨mA,⟨od,es,ep,e,c⟩,r⟩:=x;exact ⟨mA,⟨od,es,ep,k _ _ (.inl rfl) e,c⟩,r⟩
 | rng lo hi=>obtain ⟨t,u,v,e⟩:=x;exact ⟨t,u,v,k _ _ (.inl rfl) e⟩
 | frz ob u ih=>obtain ⟨e,q⟩:=x;exact ⟨k _ _ (.inl rfl) e,ih q⟩
 | tbl ps =>
  have e:h.get? a=some { cls:=.none,data:=.fields ps }:=x
  show h'.get? a=some { cls:=.none,data:=.fields ps }
  exact k a _ (.inl rfl) e
 | met f y =>
  have e:h.get? a=some (PySem.W.methodObj (.ref f) (.ref y)):=x
  show h'.get? a=some (PySem.W.methodObj (.ref f) (.ref y))
  exact k a _ (.inl rfl) e
 | ext φ=>obtain ⟨p,⟨o,e⟩,st⟩:=x;exact ⟨st _ _ p fun o q=>k _ _ (.inl rfl) q,⟨o,k _ _ (.inl rfl) e⟩,st⟩
theorem HOk.lt (x:HOk P w H h) (e:H a=some o):a < h.objs.size:=(x a o e).lt
theorem HOk.fresh (x:HOk P w H h) (e:h.objs.size<=a):H a=none:=by
 cases q:H a with
 | none=>rfl
 | some u=>exact absurd (Nat.lt_of_lt_of_le (x.lt q) e) (Nat.lt_irrefl _)
theorem HOk.kept (x:HOk P w H h) (k:∀ b u,h.get? b=some u->h'.get? b=some u):HOk P w H h':=fun a o e =>
 (x a o e).stay (fun b u _ q=>k b u q) (fun _ q=>q) fun _ _ q=>q
theorem HOk.laid (x:HOk P w H h) (k:∀ b u,h.get? b=some u->h'.get? b=some u) (hp:h.objs.size<=a) (new:ObjOk P w (upd H a o) h' a o):HOk P w (upd H a o) h':=fun b u e=>by
 have hn:=x.fresh hp
 by_cases hb:b=a
 ·subst hb;rw[zA2]at e;cases e;exact new
 ·rw[zA8 hb]at e
  exact (x b u e).stay (fun c v _ q=>k c v q) (fun c q=>by rw[zA8 (zA4 q hn)];exact q) fun c xs q=>by rw[zA8 (zA4 q hn)];exact q
end

def Rd (H:Hp) (a:Addr) (u:HO):Prop:=H a=some u\/∃ o,H a=some (.frz o u)
theorem Rd.of {H:Hp} {a:Addr} {u:HO} (h:H a=some u):Rd H a u:=.inl h
theorem Rd.ok {P:Program} {w:World} {H:Hp} {h:Heap} {a:Addr} {u:HO} (r:Rd H a u) (x:HOk P w H h):ObjOk P w H h a u:=by
 rcases r with r | ⟨o,r⟩
 ·exact x a u r
 ·obtain ⟨_,q⟩:=x a _ r
  exact q
def Mut:Option HO->Prop
 | some (.lst _)=>True
 | some (.dK _)=>True
 | some (.dT _)=>True
 | some (.set _ _)=>True
 | some (.ins _ _ _)=>True
 | some (.ext _)=>True
 | _=>False
section
variable {P:Program} {w:World} {H:Hp} {h h':Heap} {x e:Addr} {o':HO}
theorem HOk.write (ok:HOk P w H h) (mu:Mut (H x)) (he:e=x\/H e=some (.own x)) (k:∀ b u,b≠e->h.get? b=some u->h'.get? b=some u) (heo:∃ u,h'.get? e=some u)
  (new:ObjOk P w (upd H x o') h' x o'):HOk P w (upd H x o') h':=fun b u q=>by
 have nown:∀ c y,H c=some (.own y)->c≠x:=fun c y r z=>by subst z;rw[r]at mu;exact mu
 have ntup:∀ c xs,H c=some (.tup xs)->c≠x:=fun c xs r z=>by subst z;rw[r]at mu;exact mu
 by_cases hb:b=x
 ·subst hb;rw[zA2]at q;cases q;exact new
 ·rw[zA8 hb]at q
  by_cases hbe:b=e
  ·have q':H b=some (.own x):=by
    rcases he with z | z
    ·exact absurd (hbe.trans z) hb
    ·rw[hbe];exact z
   rw[q]at q';cases q'
   obtain ⟨v,hv⟩:=heo
   exact ⟨v,by rw[hbe];exact hv⟩
  ·refine (ok b u q).stay (fun c v hc r=>k c v ?_ r) (fun c r=>by rw[zA8 (nown c b r)];exact r) fun c xs r=>by rw[zA8 (ntup c xs r)];exact r
   rcases hc with rfl | hc
   ·exact hbe
   ·rintro rfl
    rcases he with z | z
    ·exact nown c b hc z
    ·rw[hc]at z;cases z;exact hb rfl
end


structure Un (fs ex:List Addr) (H H':Hp) (h h':Heap):Prop where
 keep:∀ b o,h.get? b=some o->H b=none->b∉fs->b∉ex->h'.get? b=some o
 slot:∀ b o,h.get? b=some o->H b=none->b∈fs->b∉ex->∃ sl,h'.get? b=some { o with slots:=sl }
 free:∀ b o,h.get? b=some o->H b=none->b∉ex->H' b=none
 there:∀ b o,h.get? b=some o->b∉ex->∃ o',h'.get? b=some o'
 tups:∀ b xs,H b=some (.tup xs)->H' b=some (.tup xs)
 frzs:∀ b o u,H b=some (.frz o u)->H' b=some (.frz o u)
 tbls:∀ b ps,H b=some (.tbl ps)->∃ more,H' b=some (.tbl (ps++more))
section
variable {fs fs' ex ex':List Addr} {H H1 H2:Hp} {h h1 h2 h':Heap} {a x e:Addr} {o:HO}
theorem Un.any (u:Un fs ex H H1 h h1) {b:Addr} {ob:Obj} (q:h.get? b=some ob) (n:H b=none) (hx:b∉ex):∃ sl,h1.get? b=some { ob with slots:=sl }:=by
 by_cases hb:b∈fs
 ·exact u.slot b ob q n hb hx
 ·exact ⟨ob.slots,u.keep b ob q n hb hx⟩
theorem Un.trans (a:Un fs ex H H1 h h1) (b:Un fs ex H1 H2 h1 h2):Un fs ex H H2 h h2 where
 keep:=fun c ob q n hc hx=>b.keep c ob (a.keep c ob q n hc hx) (a.free c ob q n hx) hc hx
 slot:=fun c ob q n hc hx=>by
  obtain ⟨sl,e1⟩:=a.slot c ob q n hc hx
  obtain ⟨sl',e2⟩:=b.slot c _ e1 (a.free c ob q n hx) hc hx
  exact ⟨sl',e2⟩
 free:=fun c ob q n hx=>by
  obtain ⟨o',e1⟩:=a.there c ob q hx
  exact b.free c o' e1 (a.free c ob q n hx) hx
 there:=fun c ob q hx=>by
  obtain ⟨o',e1⟩:=a.there c ob q hx
  exact b.there c o' e1 hx
 tups:=fun c xs q=>b.tups c xs (a.tups c xs q)
 frzs:=fun c ob xs q=>b.frzs c ob xs (a.frzs c ob xs q)
 tbls:=fun c ps q=>by
  obtain ⟨m1,e1⟩:=a.tbls c ps q
  obtain ⟨m2,e2⟩:=b.tbls c _ e1
  exact ⟨m1++m2,by rw[e2,Array.append_assoc]⟩
theorem Un.kept (k:∀ b u,h.get? b=some u->h'.get? b=some u):Un fs ex H H h h' :=
 ⟨fun b ob q _ _ _=>k b ob q,fun b ob q _ _ _=>⟨ob.slots,k b ob q⟩,fun _ _ _ n _=>n,fun b ob q _=>⟨ob,k b ob q⟩,fun _ _ q=>q,fun _ _ _ q=>q,fun _ ps q=>⟨#[],by rw[q];simp⟩⟩
theorem Un.refl:Un fs ex H H h h:=Un.kept fun _ _ q=>q
theorem Un.laid (k:∀ b u,h.get? b=some u->h'.get? b=some u) (hp:h.objs.size<=a) (hn:H a=none):Un fs ex H (upd H a o) h h' where
 keep:=fun b u q _ _ _=>k b u q
 slot:=fun b u q _ _ _=>⟨u.slots,k b u q⟩
 free:=fun b u q n _=>by rw[zA8 (Nat.ne_of_lt (Nat.lt_of_lt_of_le (Heap.lt_size q) hp))];exact n
 there:=fun b u q _=>⟨u,k b u q⟩
 tups:=fun b xs q=>by rw[zA8 (zA4 q hn)];exact q
 frzs:=fun b u xs q=>by rw[zA8 (zA4 q hn)];exact q
 tbls:=fun b ps q=>⟨#[],by rw[zA8 (zA4 q hn),q];simp⟩
theorem Un.write (mu:Mut (H x)) (he:e=x\/H e=some (.own x)) (k:∀ b u,b≠e->h.get? b=some u->h'.get? b=some u) (heo:∃ u,h'.get? e=some u):Un fs ex H (upd H x o) h h':=by
 have hx:∀ b,H b=none->b≠x:=fun b n z=>by subst z;rw[n]at mu;exact mu
 have hb:∀ b,H b=none->b≠e:=fun b n z=>by
  subst z
  rcases he with r | r
  ·exact hx b n r
  ·rw[n]at r;cases r
 have hm:∀ b u,H b=some u->¬ Mut (some u)->b≠x:=fun b u q nm z=>by subst z;rw[q]at mu;exact nm mu
 refine ⟨fun b u q n _ _=>k b u (hb b n) q,fun b u q n _ _=>⟨u.slots,k b u (hb b n) q⟩,fun b u q n _=>by rw[zA8 (hx b n)];exact n,fun b u q _=>?_,
  fun b xs q=>by rw[zA8 (hm b _ q fun z=>z)];exact q,fun b u xs q=>by rw[zA8 (hm b _ q fun z=>z)];exact q,fun b ps q=>⟨#[],by rw[zA8 (hm b _ q fun z=>z),q];simp⟩⟩
 by_cases hbe:b=e
 ·subst hbe;exact heo
 ·exact ⟨u,k b u hbe q⟩
end


def trk (h:Heap) (H:Hp):List Addr:=(List.range h.objs.size).filter fun a=>(H a).isSome
def hidT (h:Heap) (H:Hp):Heap:=PySem.W.hideAll h (trk h H)
theorem hidT_size (h:Heap) (H:Hp):(hidT h H).objs.size=h.objs.size:=PySem.W.hideAll_size _ _
theorem hidT_get {h:Heap} {H:Hp} {b:Addr} {o:Obj} (e:h.get? b=some o) (n:H b=none):(hidT h H).get? b=some o :=
 PySem.W.hideAll_get _ e fun hm=>by
  have q:(H b).isSome=true:=(List.mem_filter.mp hm).2
  rw[n]at q;simp at q
theorem of_hidT {h:Heap} {H:Hp} {b:Addr} {o:Obj} (e:(hidT h H).get? b=some o):h.get? b=some o/\H b=none:=by
 have e':h.get? b=some o:=PySem.W.of_hideAll (trk h H) e
 refine ⟨e',?_⟩
 cases q:H b with
 | none=>rfl
 | some x =>
  have hm:b∈trk h H:=List.mem_filter.mpr ⟨List.mem_range.mpr (Heap.lt_size e'),by simp [q]⟩
  have z:(hidT h H).get? b=none:=PySem.W.hideAll_none (trk h H) hm
  rw[z]at e;cases e


def allNews (g h:Heap) (L:Addr):List (Addr × Obj):=(List.range h.objs.size).filterMap fun a=>if a=L\/(g.get? a).isSome=true then none else (h.get? a).map fun o=>(a,o)
def rest (g h:Heap) (L d:Addr):List (Addr × Obj):=(allNews g h L).filter fun p=>decide (p.1≠d)
end L2

namespace L2
open PySem PySem.Spec PyProof.Rows

structure Mod (K:PySem.W.Frag) (mg:Str->Option Value) (base:Heap):Prop where
 kin:K.In base
 glob:base.Ns mainGlobals mg
 blt:∃ mb,base.Ns builtinsNs mb/\∀ x:Str,x≠"__name__"->mb x=bootBuiltins x
 nolimit:base.NoLimit

structure Cx where
 prog:Program
 w:World
 K:PySem.W.Frag
 mg:Str->Option Value
 base:Heap
 A:Around
 N:List Str
 s₀:Shared
 H₀:Hp
 env:Env
 outer:List Env
 stack:List Env
 ex:List Addr
 fn:Str->Bool
 calm:Bool
 pn:List (Addr × Obj)
 xe:Value->Shared->Prop
def frs (l:List Env):List Addr:=l.filterMap (·.frame)
abbrev Cx.fs (X:Cx):List Addr:=frs X.outer

def Vis (sc:Scope) (x:Str):Prop:=sc.names.lookup x=some .local\/sc.names.lookup x=some .cell\/sc.names.lookup x=some .free
def Loc (sc:Scope) (x:Str):Prop:=sc.names.lookup x=some .local\/sc.names.lookup x=some .cell
def Look (env:Env) (h:Heap) (m:Str->Option Value) (x:Str) (u:Value):Prop :=
 (env.kindOf x=some .local/\m x=some u)\/((env.kindOf x=some .cell\/env.kindOf x=some .free)/\∃ c,env.cells.lookup x=some c/\h.IsCell c (some u))

structure Cx.Ok (X:Cx):Prop where
 mod:Mod X.K X.mg X.base
 kind:X.env.scope.kind=.function
 glob:X.env.globals=mainGlobals
 blt:X.env.builtins=builtinsNs
 above:X.s₀.heap.objs.size<=X.env.locals
 inj:∀ x y c,X.env.cells.lookup x=some c->X.env.cells.lookup y=some c->x=y
 has:∀ x,(X.env.kindOf x=some .cell\/X.env.kindOf x=some .free)->∃ c,X.env.cells.lookup x=some c
 cab:∀ x c,X.fn x=true->X.env.cells.lookup x=some c->X.s₀.heap.objs.size<=c
 hd:X.calm=true->X.A.handled=none
 frames:X.A.frames=some X.stack
 stk:X.stack=X.outer\/(X.stack=X.env::X.outer/\X.env.frame=some X.env.locals)
 exf:∀ b∈X.ex,b≠X.env.locals/\∀ x c,X.env.cells.lookup x=some c->c≠b
 bs:∀ b o,X.base.get? b=some o->X.s₀.heap.get? b=some o/\X.H₀ b=none
 bsz:X.base.objs.size<=X.s₀.heap.objs.size
 noex:∀ b o,X.base.get? b=some o->b∉X.ex
 exfs:∀ b∈X.ex,b∉X.fs
 funs:X.s₀.heap.FunFrames X.base X.outer
 frf:∀ b∈X.fs,X.H₀ b=none

structure Inv (X:Cx) (pins:List (Addr × Obj)) (σ:List (Option V)) (H:Hp) (s:Shared):Prop where
 ok:X.Ok
 os:s.os=X.s₀.os
 bare:AllBare s.gens
 base:Un X.fs X.ex X.H₀ H X.s₀.heap s.heap
 loc:∃ m,s.heap.Ns X.env.locals m/\∀ (i:Nat) (x:Str) (v:V),X.N[i]?=some x->σ[i]?=some (some v)->Vis X.env.scope x->∃ u,RelV v u/\Look X.env s.heap m x u
 cell:∀ x c,X.env.cells.lookup x=some c->∃ v,s.heap.IsCell c v
 free:H X.env.locals=none
 freeC:∀ x c,X.env.cells.lookup x=some c->H c=none
 pin:∀ p∈X.pn++pins,s.heap.get? p.1=some p.2/\H p.1=none/\p.1≠X.env.locals/\p.1∉X.fs/\∀ v,p.2.data≠.cell v
 hok:HOk X.prog X.w H s.heap
 len:σ.length=X.N.length

section
variable {X:Cx} {pins:List (Addr × Obj)} {σ:List (Option V)} {H H':Hp} {s:Shared} {h':Heap}

theorem Cx.Ok.nofr (ok:X.Ok) {b:Addr} {o:Obj} (e:X.base.get? b=some o):b∉X.fs:=fun hb=>by
 have:=(ok.funs.mem hb).1
 rw[e]at this;cases this
theorem Inv.bs (I:Inv X pins σ H s):∀ b o,X.base.get? b=some o->s.heap.get? b=some o/\H b=none:=fun b o e =>
 ⟨I.base.keep b o (I.ok.bs b o e).1 (I.ok.bs b o e).2 (I.ok.nofr e) (I.ok.noex b o e),I.base.free b o (I.ok.bs b o e).1 (I.ok.bs b o e).2 (I.ok.noex b o e)⟩
theorem Inv.bk (I:Inv X pins σ H s):∀ b o,X.base.get? b=some o->s.heap.get? b=some o:=fun b o e=>(I.bs b o e).1
theorem Inv.mod (I:Inv X pins σ H s):Mod X.K X.mg X.base:=I.ok.mod
theorem Inv.kIn (I:Inv X pins σ H s):X.K.In s.heap:=I.ok.mod.kin.keeps I.bk
theorem Inv.nolimit (I:Inv X pins σ H s):s.heap.NoLimit:=I.ok.mod.nolimit.keeps I.bk
theorem Inv.fr (I:Inv X pins σ H s):∃ m,Fr X.base X.env.locals s.heap m :=
 let ⟨m,hn,_⟩:=I.loc
 ⟨m,hn,I.bk,Nat.le_trans I.ok.bsz I.ok.above⟩
theorem Inv.lt (I:Inv X pins σ H s):X.env.locals < s.heap.objs.size:=let ⟨_,hn,_⟩:=I.loc;hn.lt
theorem Inv.sz (I:Inv X pins σ H s):X.s₀.heap.objs.size<=s.heap.objs.size:=Nat.le_trans I.ok.above (Nat.le_of_lt I.lt)
theorem Inv.nofs (I:Inv X pins σ H s) {a:Addr} (h:s.heap.objs.size<=a):a∉X.fs:=fun hb=>by
 obtain ⟨_,o,ho,_⟩:=I.ok.funs.mem hb
 exact absurd (Nat.lt_of_lt_of_le (Heap.lt_size ho) (Nat.le_trans I.sz h)) (Nat.lt_irrefl _)
theorem Inv.cne (I:Inv X pins σ H s):∀ x c,X.env.cells.lookup x=some c->c≠X.env.locals:=fun x c e z=>by
 obtain ⟨v,o,ho,hd⟩:=I.cell x c e
 obtain ⟨m,⟨o',es,ep,ho',hd',_⟩,_⟩:=I.loc
 rw[z,ho']at ho;cases ho;rw[hd']at hd;cases hd
theorem Inv.funs (I:Inv X pins σ H s):s.heap.FunFrames X.base X.outer:=by
 have all:∀ (l:List Env),(∀ b∈frs l,b∈X.fs)->X.s₀.heap.FunFrames X.base l->s.heap.FunFrames X.base l:=by
  intro l
  induction l with
  | nil=>intro _ _;trivial
  | cons env r ih =>
   intro hs hl
   obtain ⟨hk,⟨L,o,hf,hn,ho,hd⟩,hr⟩:=hl
   have hL:L∈X.fs:=hs L (by unfold frs;rw[List.filterMap_cons,hf];exact List.mem_cons_self)
   obtain ⟨sl,e⟩:=I.base.slot L o ho (I.ok.frf L hL) hL fun z=>I.ok.exfs L z hL
   exact ⟨hk,⟨L,_,hf,hn,e,hd⟩,ih (fun b hb=>hs b (by unfold frs;rw[List.filterMap_cons,hf];exact List.mem_cons_of_mem _ hb)) hr⟩
 exact all X.outer (fun _ hb=>hb) I.ok.funs

theorem Inv.stack (I:Inv X pins σ H s):s.heap.FunFrames X.base X.stack:=by
 rcases I.ok.stk with e | ⟨e,hf⟩
 ·rw[e];exact I.funs
 ·rw[e]
  obtain ⟨m,hn,_⟩:=I.loc
  refine .cons (by rw[I.ok.kind];decide) hf hn ?_ I.funs
  exact Heap.get?_none_of_le (Nat.le_trans I.ok.bsz I.ok.above)
theorem Inv.stkSub (I:Inv X pins σ H s):∀ b∈frs X.stack,b∈X.env.locals::X.fs:=fun b hb=>by
 rcases I.ok.stk with e | ⟨e,hf⟩
 ·rw[e]at hb;exact List.mem_cons_of_mem _ hb
 ·rw[e]at hb
  unfold frs at hb
  rw[List.filterMap_cons,hf]at hb
  exact hb
theorem Inv.stkFree (I:Inv X pins σ H s):∀ b∈frs X.stack,H b=none:=fun b hb=>by
 rcases List.mem_cons.mp (I.stkSub b hb) with e | hb
 ·rw[e];exact I.free
 ·obtain ⟨_,o,ho,_⟩:=I.ok.funs.mem hb
  exact I.base.free b o ho (I.ok.frf b hb) fun z=>I.ok.exfs b z hb

theorem Inv.step {g':Array GenState} {t':Nat} {d':Drawn} {ch:List Addr} (I:Inv X pins σ H s)
  (hch:∀ b∈ch,(b∈X.ex\/X.s₀.heap.objs.size<=b)/\b≠X.env.locals/\(∀ x c,X.env.cells.lookup x=some c->c≠b)/\∀ p∈X.pn++pins,p.1≠b)
  (keep:∀ b o,b≠X.env.locals->b∉X.fs->b∉ch->s.heap.get? b=some o->H b=none->h'.get? b=some o)
  (slot:∀ b o,b≠X.env.locals->b∈X.fs->b∉ch->s.heap.get? b=some o->H b=none->∃ sl,h'.get? b=some { o with slots:=sl }) (free:∀ b o,b∉ch->s.heap.get? b=some o->H b=none->H' b=none)
  (there:∀ b o,b∉ch->s.heap.get? b=some o->∃ o',h'.get? b=some o')
  (tups:∀ b xs,H b=some (.tup xs)->H' b=some (.tup xs)) (frzs:∀ b o u,H b=some (.frz o u)->H' b=some (.frz o u)) (tbls:∀ b ps,H b=some (.tbl ps)->∃ more,H' b=some (.tbl (ps++more)))
  (ns:∀ m,s.heap.Ns X.env.locals m->h'.Ns X.env.locals m) (hok:HOk X.prog X.w H' h') (hg:AllBare g') :
  Inv X pins σ H' { s with heap:=h',gens:=g',drawn:=d',toks:=t' }:=by
 have neL:∀ b o,X.s₀.heap.get? b=some o->b≠X.env.locals:=fun b o e=>Nat.ne_of_lt (Nat.lt_of_lt_of_le (Heap.lt_size e) I.ok.above)
 have neC:∀ b o,X.s₀.heap.get? b=some o->b∉X.ex->b∉ch:=fun b o e hx hb=>by
  rcases (hch b hb).1 with z | z
  ·exact hx z
  ·exact absurd (Nat.lt_of_lt_of_le (Heap.lt_size e) z) (Nat.lt_irrefl _)
 have cellK:∀ x c,X.env.cells.lookup x=some c->∀ v,s.heap.IsCell c v->h'.IsCell c v:=fun x c e v ⟨o,ho,hd⟩=>by
  have nch:c∉ch:=fun z=>(hch c z).2.2.1 x c e rfl
  by_cases hc:c∈X.fs
  ·obtain ⟨sl,q⟩:=slot c o (I.cne x c e) hc nch ho (I.freeC x c e)
   exact ⟨_,q,hd⟩
  ·exact ⟨o,keep c o (I.cne x c e) hc nch ho (I.freeC x c e),hd⟩
 refine ⟨I.ok,I.os,hg,⟨fun b o e n hb hx=>?_,fun b o e n hb hx=>?_,fun b o e n hx=>?_,fun b o e hx=>?_,fun b xs e=>tups b xs (I.base.tups b xs e),fun b o xs e=>frzs b o xs (I.base.frzs b o xs e),fun b ps e=>?_⟩,?_,fun x c e=>?_,?_,fun x c e=>?_,fun p hp=>?_,hok,I.len⟩
 ·exact keep b o (neL b o e) hb (neC b o e hx) (I.base.keep b o e n hb hx) (I.base.free b o e n hx)
 ·obtain ⟨sl,e1⟩:=I.base.slot b o e n hb hx
  obtain ⟨sl',e2⟩:=slot b _ (neL b o e) hb (neC b o e hx) e1 (I.base.free b o e n hx)
  exact ⟨sl',e2⟩
 ·obtain ⟨o',e1⟩:=I.base.there b o e hx
  exact free b o' (neC b o e hx) e1 (I.base.free b o e n hx)
 ·obtain ⟨o',e1⟩:=I.base.there b o e hx
  exact there b o' (neC b o e hx) e1
 ·obtain ⟨m1,e1⟩:=I.base.tbls b ps e
  obtain ⟨m2,e2⟩:=tbls b _ e1
  exact ⟨m1++m2,by rw[e2,Array.append_assoc]⟩
 ·obtain ⟨m,hn,hl⟩:=I.loc
  refine ⟨m,ns m hn,fun i x v e1 e2 e3=>?_⟩
  obtain ⟨u,r,l⟩:=hl i x v e1 e2 e3
  refine ⟨u,r,?_⟩
  rcases l with l | ⟨k,c,e,z⟩
  ·exact .inl l
  ·exact .inr ⟨k,c,e,cellK x c e _ z⟩
 ·obtain ⟨v,z⟩:=I.cell x c e
  exact ⟨v,cellK x c e v z⟩
 ·obtain ⟨m,⟨o,_,_,ho,_⟩,_⟩:=I.loc
  exact free _ o (fun z=>(hch _ z).2.1 rfl) ho I.free
 ·obtain ⟨v,o,ho,hd⟩:=I.cell x c e
  exact free c o (fun z=>(hch c z).2.2.1 x c e rfl) ho (I.freeC x c e)
 ·obtain ⟨e,n,ne,nf,d⟩:=I.pin p hp
  have nch:p.1∉ch:=fun z=>(hch p.1 z).2.2.2 p hp rfl
  exact ⟨keep p.1 p.2 ne nf nch e n,free p.1 p.2 nch e n,ne,nf,d⟩
theorem Inv.un {t':Nat} (I:Inv X pins σ H s) (u:Un X.fs [] H H' s.heap h') (hok:HOk X.prog X.w H' h'):Inv X pins σ H' { s with heap:=h',toks:=t' }:=by
 obtain ⟨m,⟨o,es,ep,ho,r⟩,_⟩:=id I.loc
 obtain ⟨sl,hL⟩:=u.any ho I.free (by simp)
 exact I.step (g':=s.gens) (d':=s.drawn) (ch:=[]) (fun _ z=>nomatch z) (fun b o _ hb _ e n=>u.keep b o e n hb (by simp)) (fun b o _ hb _ e n=>u.slot b o e n hb (by simp)) (fun b o _ e n=>u.free b o e n (by simp)) (fun b o _ e=>u.there b o e (by simp)) u.tups u.frzs u.tbls (fun m' hm=>by
  obtain ⟨o',es',ep',ho',r'⟩:=hm
  rw[ho]at ho';cases ho'
  exact ⟨_,es',ep',hL,r'⟩) hok I.bare
theorem Inv.call {g':Array GenState} {t':Nat} {d':Drawn} {ch:List Addr} (I:Inv X pins σ H s) (u:Un (frs X.stack) ch H H' s.heap h') (hok:HOk X.prog X.w H' h') (hg:AllBare g')
  (hch:∀ b∈ch,(b∈X.ex\/X.s₀.heap.objs.size<=b)/\b≠X.env.locals/\(∀ x c,X.env.cells.lookup x=some c->c≠b)/\∀ p∈X.pn++pins,p.1≠b) :
  Inv X pins σ H' { s with heap:=h',gens:=g',drawn:=d',toks:=t' }:=by
 obtain ⟨m,⟨o,es,ep,ho,r⟩,_⟩:=id I.loc
 obtain ⟨sl,hL⟩:=u.any ho I.free fun z=>(hch _ z).2.1 rfl
 exact I.step (ch:=ch) hch (fun b o hL hb hc e n=>u.keep b o e n (fun z=>(List.mem_cons.mp (I.stkSub b z)).elim hL hb) hc) (fun b o _ _ hc e n=>u.any e n hc) (fun b o hc e n=>u.free b o e n hc) (fun b o hc e=>u.there b o e hc) u.tups u.frzs u.tbls (fun m' hm=>by
  obtain ⟨o',es',ep',ho',r'⟩:=hm
  rw[ho]at ho';cases ho'
  exact ⟨_,es',ep',hL,r'⟩) hok hg
theorem Inv.turned {t':Nat} {it:Addr} (I:Inv X pins σ H s) (k:∀ b o,b≠it->s.heap.get? b=some o->h'.get? b=some o) (hn:H it=none) (hL:it≠X.env.locals)
  (h1:it∈X.ex\/X.s₀.heap.objs.size<=it) (h2:∀ x c,X.env.cells.lookup x=some c->c≠it) (h3:∀ p∈X.pn++pins,p.1≠it):Inv X pins σ H { s with heap:=h',toks:=t' }:=by
 have nit:∀ b u,H b=some u->b≠it:=fun b u e z=>by rw[z,hn]at e;cases e
 refine I.step (g':=s.gens) (d':=s.drawn) (ch:=[it]) (fun b hb=>?_) (fun b o _ _ hc e _=>k b o (fun z=>hc (by simp [z])) e) (fun b o _ _ hc e _=>⟨o.slots,k b o (fun z=>hc (by simp [z])) e⟩) (fun _ _ _ _ n=>n)
  (fun b o hc e=>⟨o,k b o (fun z=>hc (by simp [z])) e⟩) (fun _ _ e=>e) (fun _ _ _ e=>e) (fun b ps e=>⟨#[],by rw[e];simp⟩) (fun m hm=>?_) (fun b u e=>?_) I.bare
 ·have e:b=it:=by simpa using hb
  subst e
  exact ⟨h1,hL,h2,h3⟩
 ·obtain ⟨o,es,ep,ho,r⟩:=hm
  exact ⟨o,es,ep,k _ o (Ne.symm hL) ho,r⟩
 ·refine (I.hok b u e).stay (fun c v hc q=>k c v ?_ q) (fun _ q=>q) fun _ _ q=>q
  rcases hc with z | z
  ·rw[z];exact nit b u e
  ·exact nit c _ z
theorem Inv.tok (I:Inv X pins σ H s) (t:Nat):Inv X pins σ H { s with toks:=t }:=I.un (h':=s.heap) (t':=t) Un.refl I.hok
theorem Inv.kept {t':Nat} (I:Inv X pins σ H s) (k:∀ b u,s.heap.get? b=some u->h'.get? b=some u):Inv X pins σ H { s with heap:=h',toks:=t' }:=I.un (Un.kept k) (I.hok.kept k)
theorem Inv.laid {a:Addr} {o:HO} {t':Nat} (I:Inv X pins σ H s) (k:∀ b u,s.heap.get? b=some u->h'.get? b=some u) (hp:s.heap.objs.size<=a) (new:ObjOk X.prog X.w (upd H a o) h' a o) :
  Inv X pins σ (upd H a o) { s with heap:=h',toks:=t' }:=I.un (Un.laid k hp (I.hok.fresh hp)) (I.hok.laid k hp new)
theorem Inv.write {x e:Addr} {o:HO} {t':Nat} (I:Inv X pins σ H s) (mu:Mut (H x)) (he:e=x\/H e=some (.own x)) (k:∀ b u,b≠e->s.heap.get? b=some u->h'.get? b=some u) (heo:∃ u,h'.get? e=some u)
  (new:ObjOk X.prog X.w (upd H x o) h' x o):Inv X pins σ (upd H x o) { s with heap:=h',toks:=t' }:=I.un (Un.write mu he k heo) (I.hok.write mu he k heo new)
theorem Inv.weak {σ':List (Option V)} (I:Inv X pins σ H s) (hl:σ'.length=σ.length) (w:∀ (i:Nat) v,σ'[i]?=some (some v)->σ[i]?=some (some v)):Inv X pins σ' H s :=
 ⟨I.ok,I.os,I.bare,I.base,let ⟨m,hn,hl'⟩:=I.loc;⟨m,hn,fun i x v e1 e2 e3=>hl' i x v e1 (w i v e2) e3⟩,I.cell,I.free,I.freeC,I.pin,I.hok,hl.trans I.len⟩
theorem Inv.pins_of {pins':List (Addr × Obj)} (I:Inv X pins σ H s) (h:∀ p∈pins',s.heap.get? p.1=some p.2/\H p.1=none/\p.1≠X.env.locals/\p.1∉X.fs/\∀ v,p.2.data≠.cell v):Inv X pins' σ H s :=
 ⟨I.ok,I.os,I.bare,I.base,I.loc,I.cell,I.free,I.freeC,fun p hp=>(List.mem_append.mp hp).elim (fun z=>I.pin p (List.mem_append_left _ z)) (h p),I.hok,I.len⟩

theorem nodup_ix {N:List Str} (hN:N.Nodup) {i j:Nat} {x:Str} (a:N[i]?=some x) (b:N[j]?=some x):i=j:=by
 obtain ⟨h1,e1⟩:=List.getElem?_eq_some_iff.mp a
 obtain ⟨h2,e2⟩:=List.getElem?_eq_some_iff.mp b
 exact (List.getElem_inj hN).mp (e1.trans e2.symm)

theorem store_ok2 {M:Model} {A:Around} {E:Value->Shared->Prop} {i:Nat} {x:Str} {v:V} {u:Value} {Q:Unit->Shared->Prop} (I:Inv X pins σ H s) (hN:X.N.Nodup) (hi:X.N[i]?=some x) (hx:Loc X.env.scope x) (r:RelV v u)
  (h:∀ s',Inv X pins (σ.set i (some v)) H s'->(∃ a,Heap.SameBut a s.heap s'.heap/\(a=X.env.locals\/X.env.cells.lookup x=some a))->Q () s') (hf:X.fn x=true\/X.env.scope.names.lookup x=some .local:=by first | exact .inl rfl | exact .inr rfl | assumption):wpAny M A (storeName X.env x u) Q E s:=by
 obtain ⟨m,hn,hl⟩:=id I.loc
 have hcls:(X.env.scope.kind == .class || (X.env.scope.kind == .module && X.env.locals != X.env.globals))=false:=by rw[I.ok.kind];rfl
 have hiσ:i < σ.length:=by rw[I.len];exact (List.getElem?_eq_some_iff.mp hi).1
 have cne:=I.cne
 have tracked:∀ {a:Addr} {h':Heap},(∃ o,s.heap.get? a=some o/\H a=none)->Heap.SameBut a s.heap h'->HOk X.prog X.w H h':=fun {a h'} ha hs b ob e=>by
  obtain ⟨_,_,hfree⟩:=ha
  refine (I.hok b ob e).stay (fun c w' hc q=>(hs.2 c ?_).trans q) (fun _ q=>q) fun _ _ q=>q
  rintro rfl
  rcases hc with rfl | hc
  ·rw[hfree]at e;cases e
  ·rw[hfree]at hc;cases hc
 rcases hx with hk | hk
 ·refine wpAny_storeName_local hk hn (fun h' hn' hs=>?_) hcls
  obtain ⟨oL,_,_,hoL,_⟩:=id hn
  refine h _ ⟨I.ok,I.os,I.bare,⟨fun b o e n hb hx=>?_,fun b o e n hb hx=>?_,I.base.free,fun b o e hx=>?_,I.base.tups,I.base.frzs,I.base.tbls⟩,⟨_,hn',fun j y v' e1 e2 e3=>?_⟩,fun y c e=>?_,I.free,I.freeC,fun p hp=>?_,tracked ⟨oL,hoL,I.free⟩ hs,by simpa using I.len⟩ ⟨_,hs,.inl rfl⟩
  ·exact (hs.2 b (Nat.ne_of_lt (Nat.lt_of_lt_of_le (Heap.lt_size e) I.ok.above))).trans (I.base.keep b o e n hb hx)
  ·obtain ⟨sl,e1⟩:=I.base.slot b o e n hb hx
   exact ⟨sl,(hs.2 b (Nat.ne_of_lt (Nat.lt_of_lt_of_le (Heap.lt_size e) I.ok.above))).trans e1⟩
  ·obtain ⟨o',e1⟩:=I.base.there b o e hx
   exact ⟨o',(hs.2 b (Nat.ne_of_lt (Nat.lt_of_lt_of_le (Heap.lt_size e) I.ok.above))).trans e1⟩
  ·by_cases hj:j=i
   ·subst hj
    rw[hi]at e1;cases e1
    rw[List.getElem?_set_self hiσ]at e2
    cases e2
    exact ⟨u,r,.inl ⟨hk,by simp⟩⟩
   ·rw[List.getElem?_set_ne (Ne.symm hj)]at e2
    obtain ⟨u',r',q⟩:=hl j y v' e1 e2 e3
    refine ⟨u',r',?_⟩
    rcases q with ⟨k,e⟩ | ⟨k,c,e,z⟩
    ·refine .inl ⟨k,?_⟩
     have:y≠x:=fun e=>hj (nodup_ix hN e1 (e ▸ hi))
     simp [this,e]
    ·exact .inr ⟨k,c,e,z.sameBut hs (cne y c e)⟩
  ·obtain ⟨w',z⟩:=I.cell y c e
   exact ⟨w',z.sameBut hs (cne y c e)⟩
  ·obtain ⟨e,n,ne,nf,d⟩:=I.pin p hp
   exact ⟨(hs.2 p.1 ne).trans e,n,ne,nf,d⟩
 ·have hfn:X.fn x=true:=by
   rcases hf with z | z
   ·exact z
   ·rw[z]at hk;cases hk
  obtain ⟨c,hc⟩:=I.ok.has x (.inl hk)
  obtain ⟨w',z⟩:=I.cell x c hc
  refine wpAny_storeName_cell I.ok.kind hk hc z (fun h' hc' hs=>?_)
  obtain ⟨oc,hoc,hocd⟩:=id z
  refine h { s with heap:=h' } ⟨I.ok,I.os,I.bare,⟨fun b o e n hb hx=>?_,fun b o e n hb hx=>?_,I.base.free,fun b o e hx=>?_,I.base.tups,I.base.frzs,I.base.tbls⟩,⟨m,hn.sameBut hs (Ne.symm (cne x c hc)),fun j y v' e1 e2 e3=>?_⟩,fun y c' e=>?_,I.free,I.freeC,fun p hp=>?_,tracked ⟨oc,hoc,I.freeC x c hc⟩ hs,by simpa using I.len⟩ ⟨c,hs,.inr hc⟩
  ·exact (hs.2 b (Nat.ne_of_lt (Nat.lt_of_lt_of_le (Heap.lt_size e) (I.ok.cab x c hfn hc)))).trans (I.base.keep b o e n hb hx)
  ·obtain ⟨sl,e1⟩:=I.base.slot b o e n hb hx
   exact ⟨sl,(hs.2 b (Nat.ne_of_lt (Nat.lt_of_lt_of_le (Heap.lt_size e) (I.ok.cab x c hfn hc)))).trans e1⟩
  ·obtain ⟨o',e1⟩:=I.base.there b o e hx
   exact ⟨o',(hs.2 b (Nat.ne_of_lt (Nat.lt_of_lt_of_le (Heap.lt_size e) (I.ok.cab x c hfn hc)))).trans e1⟩
  ·by_cases hj:j=i
   ·subst hj
    rw[hi]at e1;cases e1
    rw[List.getElem?_set_self hiσ]at e2
    cases e2
    exact ⟨u,r,.inr ⟨.inl hk,c,hc,hc'⟩⟩
   ·rw[List.getElem?_set_ne (Ne.symm hj)]at e2
    obtain ⟨u',r',q⟩:=hl j y v' e1 e2 e3
    refine ⟨u',r',?_⟩
    rcases q with q | ⟨k,c',e,z'⟩
    ·exact .inl q
    ·refine .inr ⟨k,c',e,z'.sameBut hs ?_⟩
     rintro rfl
     exact hj (nodup_ix hN e1 (I.ok.inj _ _ _ e hc ▸ hi))
  ·by_cases hcc:c'=c
   ·subst hcc;exact ⟨_,hc'⟩
   ·obtain ⟨w2,z2⟩:=I.cell y c' e
    exact ⟨w2,z2.sameBut hs hcc⟩
  ·obtain ⟨e,n,ne,nf,d⟩:=I.pin p hp
   refine ⟨(hs.2 p.1 ?_).trans e,n,ne,nf,d⟩
   intro q
   rw[q,hoc]at e
   have q':oc=p.2:=Option.some.inj e
   exact d w' (by rw[<- q'];exact hocd)
theorem store_ok {M:Model} {A:Around} {E:Value->Shared->Prop} {i:Nat} {x:Str} {v:V} {u:Value} {Q:Unit->Shared->Prop} (I:Inv X pins σ H s) (hN:X.N.Nodup) (hi:X.N[i]?=some x) (hx:Loc X.env.scope x) (r:RelV v u)
  (h:∀ s',Inv X pins (σ.set i (some v)) H s'->Q () s') (hf:X.fn x=true\/X.env.scope.names.lookup x=some .local:=by first | exact .inl rfl | exact .inr rfl | assumption):wpAny M A (storeName X.env x u) Q E s :=
 store_ok2 I hN hi hx r (fun s' I' _=>h s' I') hf
theorem Inv.call' {s':Shared} {ch:List Addr} (I:Inv X pins σ H s) (ho:s'.os=s.os) (u:Un (frs X.stack) ch H H' s.heap s'.heap) (hok:HOk X.prog X.w H' s'.heap) (hg:AllBare s'.gens)
  (hch:∀ b∈ch,(b∈X.ex\/X.s₀.heap.objs.size<=b)/\b≠X.env.locals/\(∀ x c,X.env.cells.lookup x=some c->c≠b)/\∀ p∈X.pn++pins,p.1≠b):Inv X pins σ H' s':=by
 obtain ⟨h',g',d',t',o'⟩:=s'
 have e:o'=s.os:=ho
 subst e
 exact I.call (g':=g') (t':=t') (d':=d') u hok hg hch
end


abbrev XK:=Value->Option Addr->Hp->Prop
abbrev St:=List (Option V)
abbrev VK:=V->Hp->Prop
abbrev TE:=St->Hp->VK->Prop
abbrev TT:=St->Hp->(Bool->Hp->Prop)->Prop
abbrev TA:=St->Hp->(List V->Hp->Prop)->Prop
structure Ends where
 nx:St->Hp->Prop
 rt:VK
 bk:St->Hp->Prop:=fun _ _=>False
 ct:St->Hp->Prop:=fun _ _=>False
abbrev TS:=Ends->St->Hp->Prop

def EP (X:Cx) (pins:List (Addr × Obj)) (σ:St) (Q:VK) (u:Value) (s':Shared):Prop:=∃ v H',Inv X pins σ H' s'/\RelV v u/\Q v H'
def TP (X:Cx) (pins:List (Addr × Obj)) (σ:St) (Q:Bool->Hp->Prop) (b:Bool) (s':Shared):Prop:=∃ H',Inv X pins σ H' s'/\Q b H'
def AP (X:Cx) (pins:List (Addr × Obj)) (σ:St) (Q:List V->Hp->Prop) (us:List Value) (s':Shared):Prop:=∃ vs H',Inv X pins σ H' s'/\Vals vs us/\Q vs H'
def SP (X:Cx) (pins:List (Addr × Obj)) (D:Ends) (f:Flow) (s':Shared):Prop :=
 match f with
 | .next=>∃ σ' H',Inv X pins σ' H' s'/\D.nx σ' H'
 | .brk=>∃ σ' H',Inv X pins σ' H' s'/\D.bk σ' H'
 | .cont=>∃ σ' H',Inv X pins σ' H' s'/\D.ct σ' H'
 | .ret u=>∃ v σ' H',Inv X pins σ' H' s'/\RelV v u/\D.rt v H'

def PE (X:Cx) (e:Expr) (t:TE):Prop :=
 ∀ (pins:List (Addr × Obj)) (s:Shared) (σ:St) (H:Hp) (Q:VK),Inv X pins σ H s->t σ H Q->wpAny (model X.prog X.w) X.A (eval e X.env) (EP X pins σ Q) X.xe s
def PT (X:Cx) (e:Expr) (t:TT):Prop :=
 ∀ (pins:List (Addr × Obj)) (s:Shared) (σ:St) (H:Hp) (Q:Bool->Hp->Prop),Inv X pins σ H s->t σ H Q->wpAny (model X.prog X.w) X.A (isTrue e X.env (eval e X.env)) (TP X pins σ Q) X.xe s
def PW (X:Cx) (e:Expr) (t:TT):Prop :=
 ∀ (whole:Sem Value) (pins:List (Addr × Obj)) (s:Shared) (σ:St) (H:Hp) (Q:Bool->Hp->Prop),Inv X pins σ H s->t σ H Q->wpAny (model X.prog X.w) X.A (isTrue e X.env whole) (TP X pins σ Q) X.xe s
theorem PW.pt {X:Cx} {e:Expr} {t:TT} (h:PW X e t):PT X e t:=h _
def PA (X:Cx) (es:List Expr) (t:TA):Prop :=
 ∀ (pos:Pos) (pins:List (Addr × Obj)) (s:Shared) (σ:St) (H:Hp) (Q:List V->Hp->Prop),Inv X pins σ H s->t σ H Q->wpAny (model X.prog X.w) X.A (spliced (backTo pos (starEach es X.env))) (AP X pins σ Q) X.xe s
def PS (X:Cx) (st:Stmt) (t:TS):Prop :=
 ∀ (pins:List (Addr × Obj)) (s:Shared) (σ:St) (H:Hp) (D:Ends),Inv X pins σ H s->t D σ H->wpAny (model X.prog X.w) X.A (exec st X.env) (SP X pins D) X.xe s
def PSs (X:Cx) (st:List Stmt) (t:TS):Prop :=
 ∀ (pins:List (Addr × Obj)) (s:Shared) (σ:St) (H:Hp) (D:Ends),Inv X pins σ H s->t D σ H->wpAny (model X.prog X.w) X.A (execs st X.env) (SP X pins D) X.xe s
theorem thn {α:Type} {t:Sem α} {Q Q':α->Shared->Prop} {M:Model} {A:Around} {E:Value->Shared->Prop} {s:Shared} (h:wpAny M A t Q E s) (hQ:∀ a s,Q a s->Q' a s):wpAny M A t Q' E s:=wpAny_mono h hQ fun _ _ x=>x
end L2

namespace L2
open PySem PySem.Spec PyProof.Rows
section
variable {X:Cx}

theorem bin {a b:Expr} {ta tb:TE} (ha:PE X a ta) (hb:PE X b tb) {pins:List (Addr × Obj)} {s:Shared} {σ:St} {H:Hp} {R:V->V->Hp->Prop} (I:Inv X pins σ H s) (h:ta σ H fun x H1=>tb σ H1 fun y H2=>R x y H2)
  {α:Type} {Q:α->Shared->Prop} {f:Value->Value->Sem α}
  (hf:∀ v u s2 x y H2,Inv X pins σ H2 s2->RelV x v->RelV y u->R x y H2->wpAny (model X.prog X.w) X.A (f v u) Q X.xe s2) :
  wpAny (model X.prog X.w) X.A (eval a X.env) (fun v s₁=>wpAny (model X.prog X.w) X.A (eval b X.env) (fun u s₂=>wpAny (model X.prog X.w) X.A (f v u) Q X.xe s₂) X.xe s₁) X.xe s:=by
 refine thn (ha pins s σ H _ I h) fun v s1 ⟨x,H1,I1,r1,q1⟩=>?_
 refine thn (hb pins s1 σ H1 _ I1 q1) fun u s2 ⟨y,H2,I2,r2,q2⟩=>?_
 exact hf v u s2 x y H2 I2 r1 r2 q2


def tVar (i:Nat):TE:=fun σ H Q=>∃ v,σ[i]?=some (some v)/\Q v H
def tC (v:V):TE:=fun _ H Q=>Q v H
theorem pe_var {i:Nat} {x:Str} {pos:Pos} (hN:X.N[i]?=some x) (hv:Vis X.env.scope x) (hd:(x == ("__debug__":Str))=false:=by decide) (hcd:(x == ("__classdict__":Str))=false:=by decide):PE X (.Name x pos) (tVar i):=by
 intro pins s σ H Q I h
 obtain ⟨v,e,h⟩:=h
 obtain ⟨m,hn,hl⟩:=I.loc
 obtain ⟨u,r,l⟩:=hl i x v hN e hv
 have fin:EP X pins σ Q u s:=⟨v,H,I,r,h⟩
 rcases l with ⟨hk,hm⟩ | ⟨hk,c,hc,hcell⟩
 ·exact wpAny_Name (wpAny_loadName_local I.ok.kind hk hn hm fin) hd
 ·rcases hk with hk | hk
  ·exact wpAny_Name (wpAny_loadName_cell I.ok.kind hk hc hcell fin) hd
  ·exact wpAny_Name (wpAny_loadName_free I.ok.kind hk hc hcell fin hcd) hd
theorem zA9 {i j pos}:PE X (.Constant (.int i) j pos) (tC (.int i)):=fun _ _ _ H _ I h=>wpAny_Constant_int ⟨.int i,H,I.tok _,⟨_,rfl⟩,h⟩
theorem pe_bl {b j pos}:PE X (.Constant (.bool b) j pos) (tC (.bl b)):=fun _ _ _ H _ I h=>Constant_bool ⟨.bl b,H,I,rfl,h⟩
theorem zB9 {x j pos}:PE X (.Constant (.str x) j pos) (tC (.str x)):=fun _ _ _ H _ I h=>Calls.Constant_str ⟨.str x,H,I.tok _,⟨_,rfl⟩,h⟩

def Gl (X:Cx) (x:Str):Prop:=X.env.kindOf x=some .globalImplicit
theorem ld_glob {E:Value->Shared->Prop} {pins:List (Addr × Obj)} {s:Shared} {σ:St} {H:Hp} {x:Str} {u:Value} {pos:Pos} {Q:Value->Shared->Prop} (I:Inv X pins σ H s) (hg:Gl X x) (hm:X.mg x=some u) (h:Q u s)
  (hd:(x == ("__debug__":Str))=false:=by decide):wpAny (model X.prog X.w) X.A (eval (.Name x pos) X.env) Q E s :=
 Calls.Name_function_global I.ok.kind hg (Calls.loadGlobal_global (by rw[I.ok.glob];exact I.mod.glob.keeps I.bk) hm h) hd
theorem ld_blt {E:Value->Shared->Prop} {pins:List (Addr × Obj)} {s:Shared} {σ:St} {H:Hp} {x:Str} {u:Value} {pos:Pos} {Q:Value->Shared->Prop} (I:Inv X pins σ H s) (hg:Gl X x) (hm:X.mg x=none) (hv:bootBuiltins x=some u) (h:Q u s)
  (hn:x≠"__name__":=by decide) (hd:(x == ("__debug__":Str))=false:=by decide):wpAny (model X.prog X.w) X.A (eval (.Name x pos) X.env) Q E s:=by
 obtain ⟨mb,h1,h2⟩:=I.mod.blt
 exact Calls.Name_function_global I.ok.kind hg (Calls.loadGlobal_builtin (by rw[I.ok.glob];exact I.mod.glob.keeps I.bk) hm (by rw[I.ok.blt];exact h1.keeps I.bk) ((h2 x hn).trans hv) h) hd
theorem pe_glob {x:Str} {v:V} {u:Value} {pos:Pos} (hg:Gl X x) (hm:X.mg x=some u) (r:RelV v u) (hd:(x == ("__debug__":Str))=false:=by decide):PE X (.Name x pos) (tC v) :=
 fun _ _ _ H _ I h=>ld_glob I hg hm ⟨v,H,I,r,h⟩ hd
theorem pe_bltn {x:Str} {v:V} {u:Value} {pos:Pos} (hg:Gl X x) (hm:X.mg x=none) (hv:bootBuiltins x=some u) (r:RelV v u) (hn:x≠"__name__":=by decide) (hd:(x == ("__debug__":Str))=false:=by decide):PE X (.Name x pos) (tC v) :=
 fun _ _ _ H _ I h=>ld_blt I hg hm hv ⟨v,H,I,r,h⟩ hn hd


variable {a b:Expr} {ta tb:TE} {pos:Pos}

def PC (X:Cx) (op:CmpOp) (a b:Expr) (t:TE):Prop :=
 ∀ (pins:List (Addr × Obj)) (s:Shared) (σ:St) (H:Hp) (Q:VK),Inv X pins σ H s->t σ H Q ->
  wpAny (model X.prog X.w) X.A (eval a X.env) (fun v s₁=>wpAny (model X.prog X.w) X.A (eval b X.env) (fun u s₂=>wpAny (model X.prog X.w) X.A (compareOp op v u) (EP X pins σ Q) X.xe s₂) X.xe s₁) X.xe s
theorem nobehind (b:Expr) {op:CmpOp} (h:op≠.In) (h2:op≠.NotIn):behindInMarks op b=false:=by
 have e1:(op == CmpOp.In)=false:=by cases op <;> first | rfl | exact absurd rfl h
 have e2:(op == CmpOp.NotIn)=false:=by cases op <;> first | rfl | exact absurd rfl h2
 cases b <;> simp [behindInMarks,e1,e2]
def tB (t:TE):TT:=fun σ H Q=>t σ H fun x H1=>∃ c,x=.bl c/\Q c H1
theorem pt_cmp {op:CmpOp} {t:TE} (h:PC X op a b t) (h1:behindInMarks op b=false:=by first | exact nobehind _ (by decide) (by decide) | rfl):PT X (.Compare a [op] [b] pos) (tB t):=by
 intro pins s σ H Q I hw
 refine wpAny_isTrue_Compare1 (thn (h pins s σ H _ I hw) fun v s1 h1=>thn h1 fun u s2 h2=>thn h2 fun c s3 ⟨x,H1,I1,r1,q1⟩=>?_) h1
 obtain ⟨d,rfl,q⟩:=q1
 cases r1
 exact wpAny_truthy_bool ⟨H1,I1,q⟩
theorem pt_val {e:Expr} {t:TE} (h:PE X e t) (he:∀ whole,isTrue e X.env whole=(do let v <- whole;standAt e.pos;holding [v] (truthy v)):=by intro _;rfl):PT X e (tB t):=by
 intro pins s σ H Q I hw
 refine isTrue_plain (thn (h pins s σ H _ I hw) fun v s1 ⟨x,H1,I1,r1,q1⟩=>?_) (he _)
 obtain ⟨d,rfl,q⟩:=q1
 cases r1
 exact wpAny_truthy_bool ⟨H1,I1,q⟩


variable {tA tB':TT} {rest:List Expr}
def tAnd (t u:TT):TT:=fun σ H Q=>t σ H fun c H1=>if c=true then u σ H1 Q else Q false H1
def tOr (t u:TT):TT:=fun σ H Q=>t σ H fun c H1=>if c=true then Q true H1 else u σ H1 Q
def tNot (t:TT):TT:=fun σ H Q=>t σ H fun c H1=>Q (!c) H1
theorem pw_and1 (ha:PT X a tA):PW X (.BoolOp .And [a] pos) tA:=by
 intro wh pins s σ H Q I h
 refine isTrue_and (thn (ha pins s σ H Q I h) fun c s1 e=>?_)
 cases c with
 | true=>exact isTrue_and_nil e
 | false=>exact e
theorem pw_and (ha:PT X a tA) (hb:PW X (.BoolOp .And (b::rest) pos) tB'):PW X (.BoolOp .And (a::b::rest) pos) (tAnd tA tB'):=by
 intro wh pins s σ H Q I h
 refine isTrue_and (thn (ha pins s σ H _ I h) fun c s1 ⟨H1,I1,q1⟩=>?_)
 cases c with
 | true=>exact hb wh pins s1 σ H1 Q I1 q1
 | false=>exact ⟨H1,I1,q1⟩
theorem pt_not (ha:PT X a tA):PT X (.UnaryOp .Not a pos) (tNot tA):=by
 intro pins s σ H Q I h
 exact isTrue_not (ha pins s σ H (fun c H1=>Q (!c) H1) I h)
def tAndV (ta tb:TE):TE:=fun σ H Q=>ta σ H fun x H1=>∃ c,x=.bl c/\if c=true then tb σ H1 Q else Q (.bl false) H1
def tOrV (ta tb:TE):TE:=fun σ H Q=>ta σ H fun x H1=>∃ c,x=.bl c/\if c=true then Q (.bl true) H1 else tb σ H1 Q
def tNotV (ta:TE):TE:=fun σ H Q=>ta σ H fun x H1=>∃ c,x=.bl c/\Q (.bl (!c)) H1
theorem pe_not (ha:PE X a ta):PE X (.UnaryOp .Not a pos) (tNotV ta):=by
 intro pins s σ H Q I h
 refine UnaryOp_ (thn (ha pins s σ H _ I h) fun v s1 ⟨x,H1,I1,r1,q1⟩=>?_)
 obtain ⟨c,rfl,q1⟩:=q1
 cases r1
 exact not_of (wpAny_truthy_bool ⟨.bl (!c),H1,I1,rfl,q1⟩)
def tIf (t:TT) (ta tb:TE):TE:=fun σ H Q=>t σ H fun c H1=>if c=true then ta σ H1 Q else tb σ H1 Q
end
end L2

namespace L2
open PySem PySem.Spec PyProof.Rows


def SqL (K:PySem.W.Frag) (H:Hp) (a:Addr) (xs:List V):Prop :=
 Rd H a (.lst xs) \/
  ∃ (o:Obj) (its:Array Value) (n:Nat),K.lookup a=some o/\o.cls=.type "list"/\o.dict=none/\o.data=.seq its n/\its.size<=sizeLine/\Vals xs its.toList
def SqT (K:PySem.W.Frag) (H:Hp) (a:Addr) (xs:List V):Prop :=
 Rd H a (.tup xs) \/
  ∃ (o:Obj) (its:Array Value) (n:Nat),K.lookup a=some o/\o.cls=.type "tuple"/\o.data=.seq its n/\its.size<=sizeLine/\Vals xs its.toList
def absV:Value->Option V
 | .none=>some .non
 | .bool b=>some (.bl b)
 | .int i _=>some (.int i)
 | .str x _=>some (.str x)
 | .bytes b _=>some (.byt b)
 | .float b _=>some (.flt b)
 | .ref a=>some (.ref a)
 | .type n=>some (.ty n)
 | _=>none
theorem RelV.abs {x:V} {u:Value} (r:RelV x u):absV u=some x:=by
 cases x with
 | non=>cases r;rfl
 | bl _=>cases r;rfl
 | int _=>obtain ⟨t,rfl⟩:=r;rfl
 | str _=>obtain ⟨t,rfl⟩:=r;rfl
 | byt _=>obtain ⟨t,rfl⟩:=r;rfl
 | flt _=>obtain ⟨t,rfl⟩:=r;rfl
 | ref _=>cases r;rfl
 | ty _=>cases r;rfl
theorem RelV.inj {x y:V} {u:Value} (r:RelV x u) (q:RelV y u):x=y:=Option.some.inj (r.abs.symm.trans q.abs)
theorem Vals.inj:∀ {xs ys:List V} {us:List Value},Vals xs us->Vals ys us->xs=ys
 | _,_,_,.nil,.nil=>rfl
 | _,_,_,.cons r t,.cons r' t'=>by rw[r.inj r',Vals.inj t t']
section
variable {X:Cx} {pins:List (Addr × Obj)} {σ:St} {H:Hp} {s:Shared} {a:Addr} {xs ys:List V}
theorem SqL.of {K:PySem.W.Frag} (h:H a=some (.lst xs)):SqL K H a xs:=.inl (.inl h)
theorem SqT.of {K:PySem.W.Frag} (h:H a=some (.tup xs)):SqT K H a xs:=.inl (.inl h)
theorem Inv.list (I:Inv X pins σ H s) (h:SqL X.K H a xs):∃ its:List Value,Vals xs its/\PlainL s.heap a its.toArray/\xs.length<=sizeLine:=by
 rcases h with h | ⟨o,its,n,hk,hc,hd,hs,hz,r⟩
 ·obtain ⟨z,its,n,r,e⟩:=h.ok I.hok
  exact ⟨its,r,⟨_,n,e,rfl,rfl,rfl⟩,z⟩
 ·refine ⟨its.toList,r,⟨o,n,I.kIn a o hk,hc,hd,by simpa using hs⟩,?_⟩
  have e:=r.length
  simp only[Array.length_toList]at e
  omega
theorem Inv.tuple (I:Inv X pins σ H s) (h:SqT X.K H a xs):∃ its:List Value,Vals xs its/\IsTup s.heap a its.toArray/\xs.length<=sizeLine:=by
 rcases h with h | ⟨o,its,n,hk,hc,hs,hz,r⟩
 ·obtain ⟨z,its,r,p⟩:=h.ok I.hok
  exact ⟨its,r,p.1,z⟩
 ·refine ⟨its.toList,r,⟨o,I.kIn a o hk,hc,n,by simpa using hs⟩,?_⟩
  have e:=r.length
  simp only[Array.length_toList]at e
  omega
theorem Inv.list_inj (I:Inv X pins σ H s) (h:SqL X.K H a xs) (h':SqL X.K H a ys):xs=ys:=by
 obtain ⟨its,r,⟨o,n,e,_,_,d⟩,_⟩:=I.list h
 obtain ⟨its',r',⟨o',n',e',_,_,d'⟩,_⟩:=I.list h'
 rw[e]at e';cases e'
 rw[d]at d'
 injection d' with d1 _
 have:its=its':=by simpa using congrArg Array.toList d1
 subst this
 exact r.inj r'
theorem Inv.tuple_inj (I:Inv X pins σ H s) (h:SqT X.K H a xs) (h':SqT X.K H a ys):xs=ys:=by
 obtain ⟨its,r,⟨o,e,_,n,d⟩,_⟩:=I.tuple h
 obtain ⟨its',r',⟨o',e',_,n',d'⟩,_⟩:=I.tuple h'
 rw[e]at e';cases e'
 rw[d]at d'
 injection d' with d1 _
 have:its=its':=by simpa using congrArg Array.toList d1
 subst this
 exact r.inj r'
end


abbrev Cx.wish (X:Cx) (E:Value->Shared->Prop):Cx:={ X with xe:=E }
abbrev Cx.nox (X:Cx):Cx:=X.wish fun _ _=>False
theorem Cx.Ok.wish {X:Cx} (ok:X.Ok) (E:Value->Shared->Prop):(X.wish E).Ok :=
 ⟨ok.mod,ok.kind,ok.glob,ok.blt,ok.above,ok.inj,ok.has,ok.cab,ok.hd,ok.frames,ok.stk,ok.exf,ok.bs,ok.bsz,ok.noex,ok.exfs,ok.funs,ok.frf⟩
theorem Cx.Ok.unwish {X:Cx} {E:Value->Shared->Prop} (ok:(X.wish E).Ok):X.Ok :=
 ⟨ok.mod,ok.kind,ok.glob,ok.blt,ok.above,ok.inj,ok.has,ok.cab,ok.hd,ok.frames,ok.stk,ok.exf,ok.bs,ok.bsz,ok.noex,ok.exfs,ok.funs,ok.frf⟩
section
variable {X:Cx} {pins:List (Addr × Obj)} {σ:St} {H:Hp} {s:Shared} {E:Value->Shared->Prop}
theorem Inv.wish (I:Inv X pins σ H s) (E:Value->Shared->Prop):Inv (X.wish E) pins σ H s:=⟨I.ok.wish E,I.os,I.bare,I.base,I.loc,I.cell,I.free,I.freeC,I.pin,I.hok,I.len⟩
theorem Inv.unwish (I:Inv (X.wish E) pins σ H s):Inv X pins σ H s:=⟨I.ok.unwish,I.os,I.bare,I.base,I.loc,I.cell,I.free,I.freeC,I.pin,I.hok,I.len⟩
theorem SP.unwish {D:Ends} {f:Flow} {s':Shared} (h:SP (X.wish E) pins D f s'):SP X pins D f s':=by
 cases f with
 | next=>obtain ⟨σ',H',I,q⟩:=h;exact ⟨σ',H',I.unwish,q⟩
 | brk=>obtain ⟨σ',H',I,q⟩:=h;exact ⟨σ',H',I.unwish,q⟩
 | cont=>obtain ⟨σ',H',I,q⟩:=h;exact ⟨σ',H',I.unwish,q⟩
 | ret u=>obtain ⟨v,σ',H',I,r,q⟩:=h;exact ⟨v,σ',H',I.unwish,r,q⟩
theorem PSs.nox {st:List Stmt} {t:TS} (h:PSs X.nox st t):PSs X st t:=fun pins s σ H D I hw =>
 wpAny_mono (h pins s σ H D (I.wish _) hw) (fun _ _ q=>q.unwish) fun _ _ z=>False.elim z
end


section
variable {X:Cx} {st:Stmt} {rest:List Stmt} {t u:TS} {e:Expr} {te:TE} {pos:Pos}
def tNext:TS:=fun D σ H=>D.nx σ H
def tSeq (t u:TS):TS:=fun D σ H=>t { D with nx:=u D } σ H
theorem zAz:PSs X [] tNext:=fun _ _ σ H _ I h=>wpAny_execs_nil ⟨σ,H,I,h⟩
theorem zA5 (h1:PS X st t) (h2:PSs X rest u):PSs X (st::rest) (tSeq t u):=by
 intro pins s σ H D I h
 refine wpAny_execs_cons (thn (h1 pins s σ H { D with nx:=u D } I h) fun f s1 q=>?_)
 cases f with
 | next =>
  obtain ⟨σ',H',I',q⟩:=q
  exact h2 pins s1 σ' H' D I' q
 | ret v=>exact q
 | brk=>exact q
 | cont=>exact q
theorem zA3 (h1:PS X st t):PSs X [st] t:=by
 intro pins s σ H D I h
 refine wpAny_execs_cons (thn (h1 pins s σ H D I h) fun f s1 q=>?_)
 cases f with
 | next=>exact wpAny_execs_nil q
 | ret v=>exact q
 | brk=>exact q
 | cont=>exact q
def tBreak:TS:=fun D σ H=>D.bk σ H
def tCont:TS:=fun D σ H=>D.ct σ H
theorem Inv.quiet {pins:List (Addr × Obj)} {σ:St} {H:Hp} {s:Shared} (I:Inv X pins σ H s):interactive X.env=false:=by simp [interactive,I.ok.kind]
def tDrop (te:TE):TS:=fun D σ H=>te σ H fun _ H1=>D.nx σ H1
theorem zAb (he:PE X e te) (hs:swapsWith e none pos.line X.env=pure false:=by rfl):PS X (.Expr e pos) (tDrop te):=by
 intro pins s σ H D I h
 exact wpAny_Expr_any (thn (he pins s σ H _ I h) fun v s1 ⟨x,H1,I1,r1,q1⟩=>⟨σ,H1,I1,q1⟩) I.quiet hs
def tRet (te:TE):TS:=fun D σ H=>te σ H D.rt
theorem zB6 (he:PE X e te):PS X (.Return (some e) pos) (tRet te):=by
 intro pins s σ H D I h
 exact wpAny_Return_some (thn (he pins s σ H _ I h) fun v s1 ⟨x,H1,I1,r1,q1⟩=>⟨x,σ,H1,I1,r1,q1⟩)
def tRetN:TS:=fun D _ H=>D.rt .non H
def tIfS (c:TT) (t u:TS):TS:=fun D σ H=>c σ H fun b H1=>if b=true then t D σ H1 else u D σ H1
theorem ps_if {c:Expr} {a b:List Stmt} {tc:TT} (hc:PT X c tc) (ha:PSs X a t) (hb:PSs X b u):PS X (.If c a b pos) (tIfS tc t u):=by
 intro pins s σ H D I h
 refine wpAny_If (thn (hc pins s σ H _ I h) fun d s1 ⟨H1,I1,q1⟩=>?_)
 cases d with
 | true=>exact ha pins s1 σ H1 D I1 q1
 | false=>exact hb pins s1 σ H1 D I1 q1
def tNever:TS:=fun _ _ _=>False
end


abbrev TG:=V->St->Hp->(St->Hp->Prop)->Prop
abbrev TGs:=List V->St->Hp->(St->Hp->Prop)->Prop
def PG (X:Cx) (target:Expr) (t:TG):Prop :=
 ∀ (pins:List (Addr × Obj)) (s:Shared) (σ:St) (H:Hp) (v:V) (u:Value) (Q:St->Hp->Prop),Inv X pins σ H s->RelV v u->t v σ H Q ->
  wpAny (model X.prog X.w) X.A (assign target X.env u) (fun _ s'=>∃ σ' H',Inv X pins σ' H' s'/\Q σ' H') X.xe s
def PGs (X:Cx) (ts:List Expr) (t:TGs):Prop :=
 ∀ (pins:List (Addr × Obj)) (s:Shared) (σ:St) (H:Hp) (vs:List V) (us:List Value) (Q:St->Hp->Prop),Inv X pins σ H s->Vals vs us->t vs σ H Q ->
  wpAny (model X.prog X.w) X.A (assignInOrder ((assignEach ts X.env).map (·.2)) us) (fun _ s'=>∃ σ' H',Inv X pins σ' H' s'/\Q σ' H') X.xe s
abbrev TSet:=V->V->V->Hp->(Hp->Prop)->Prop
def PSet (X:Cx) (t:TSet):Prop :=
 ∀ (pins:List (Addr × Obj)) (s:Shared) (σ:St) (H:Hp) (o i v:V) (ov iv u:Value) (Q:Hp->Prop),Inv X pins σ H s->RelV o ov->RelV i iv->RelV v u->t o i v H Q ->
  wpAny (model X.prog X.w) X.A (setItem ov iv u) (fun _ s'=>∃ H',Inv X pins σ H' s'/\Q H') X.xe s
section
variable {X:Cx} {pos:Pos}
def gName (i:Nat):TG:=fun v σ H Q=>Q (σ.set i (some v)) H
theorem zBo {i:Nat} {x:Str} (hN:X.N.Nodup) (hi:X.N[i]?=some x) (hx:Loc X.env.scope x) (hf:X.fn x=true\/X.env.scope.names.lookup x=some .local:=by first | exact .inl rfl | exact .inr rfl | assumption):PG X (.Name x pos) (gName i):=by
 intro pins s σ H v u Q I r h
 exact wpAny_assign_Name (store_ok I hN hi hx r (fun s' I'=>⟨_,H,I',h⟩) hf)
def gNil:TGs:=fun vs σ H Q=>vs=[]/\Q σ H
def gCons (t:TG) (u:TGs):TGs:=fun vs σ H Q=>∃ v r,vs=v::r/\t v σ H fun σ' H'=>u r σ' H' Q
theorem pgs_nil:PGs X [] gNil:=by
 intro pins s σ H vs us Q I r h
 obtain ⟨e,h⟩:=h
 subst e
 cases r
 exact assignInOrder_nil ⟨σ,H,I,h⟩
theorem pgs_cons {e:Expr} {es:List Expr} {t:TG} {u:TGs} (h1:PG X e t) (h2:PGs X es u)
  (hs:(assignEach (e::es) X.env).map (·.2)=assign e X.env::(assignEach es X.env).map (·.2):=by rfl):PGs X (e::es) (gCons t u):=by
 intro pins s σ H vs us Q I r h
 obtain ⟨v,vr,e1,h⟩:=h
 subst e1
 cases r with
 | cons r rr =>
  rw[hs]
  refine assignInOrder_cons (thn (h1 pins s σ H _ _ _ I r h) fun _ s1 ⟨σ1,H1,I1,q1⟩=>?_)
  exact h2 pins s1 σ1 H1 _ _ Q I1 rr q1
def gTup (K:PySem.W.Frag) (n:Nat) (t:TGs):TG:=fun v σ H Q=>∃ a xs,v=.ref a/\SqT K H a xs/\xs.length=n/\t xs σ H Q
theorem pg_tup {es:List Expr} {k:Nat} {t:TGs} {n:Nat} (hc:X.calm=true) (h:PGs X es t)
  (hn:(assignEach es X.env).length=n:=by rfl) (hst:(assignEach es X.env).findIdx? (·.1)=none:=by rfl):PG X (.Tuple es k pos) (gTup X.K n t):=by
 intro pins s σ H v u Q I r hw
 obtain ⟨a,xs,e1,hq,hl,hw⟩:=hw
 subst e1
 cases r
 obtain ⟨its,rv,ht,hz⟩:=I.tuple hq
 refine assign_Tuple_tuple (I.ok.hd hc) ht (by simp [hn,<- hl,rv.length]) hst fun h' hx=>?_
 have I1:Inv X pins σ H { s with heap:=h' }:=I.kept (t':=s.toks) fun b o e=>hx b o (Nat.ne_of_lt (Heap.lt_size e)) e
 exact h pins _ σ H xs _ Q I1 (by simpa using rv) hw
def gSub (to ti:TE) (t:TSet):TG:=fun v σ H Q=>to σ H fun o H1=>ti σ H1 fun i H2=>t o i v H2 fun H3=>Q σ H3
theorem pg_sub {o i:Expr} {to ti:TE} {t:TSet} (ho:PE X o to) (hi:PE X i ti) (hs:PSet X t)
  (ha:∀ v,assign (.Subscript o i pos) X.env v=(do
   let ov <- holding [v] (eval o X.env)
   let iv <- holding [v,ov] (eval i X.env)
   standAt pos
   holding [v,ov,iv] (setItem ov iv v)
   release [v,ov,iv] []):=by intro _;rfl):PG X (.Subscript o i pos) (gSub to ti t):=by
 intro pins s σ H v u Q I r h
 rw[ha]
 refine wpAny_bind (wpAny_holding (thn (ho pins s σ H _ I h) fun ov s1 ⟨x,H1,I1,r1,q1⟩=>?_))
 refine wpAny_bind (wpAny_holding (thn (hi pins s1 σ H1 _ I1 q1) fun iv s2 ⟨y,H2,I2,r2,q2⟩=>?_))
 refine wpAny_bind (wpAny_standAt (wpAny_bind (wpAny_holding (thn (hs pins s2 σ H2 x y v ov iv u _ I2 r1 r2 r q2) fun _ s3 ⟨H3,I3,q3⟩=>?_))))
 exact wpAny_release ⟨σ,H3,I3,q3⟩
def tAsg (te:TE) (g:TG):TS:=fun D σ H=>te σ H fun x H1=>g x σ H1 D.nx
theorem ps_asg {tg e:Expr} {te:TE} {g:TG} (he:PE X e te) (hg:PG X tg g) (hs:swapsWithSole [tg] e pos.line X.env=pure false:=by rfl) (hw:swappedStores [tg] e X.env=pure none:=by rfl)
  (h1:(assignEach [tg] X.env).map (·.2)=[assign tg X.env]:=by rfl):PS X (.Assign [tg] e pos) (tAsg te g):=by
 intro pins s σ H D I h
 refine wpAny_Assign_stores (thn (he pins s σ H _ I h) fun v s1 ⟨x,H1,I1,r1,q1⟩=>?_) hs hw
 rw[h1]
 exact thn (hg pins s1 σ H1 x v _ I1 r1 q1) fun _ s2 q=>q
theorem zAp {i:Nat} {x:Str} {e:Expr} {te:TE} {pos':Pos} (hN:X.N.Nodup) (hi:X.N[i]?=some x) (hx:Loc X.env.scope x) (he:PE X e te) (hs:swapsWith e (some (.Name x pos')) pos.line X.env=pure false:=by rfl) (hf:X.fn x=true\/X.env.scope.names.lookup x=some .local:=by first | exact .inl rfl | exact .inr rfl | assumption) :
  PS X (.Assign [.Name x pos'] e pos) (tAsg te (gName i)):=by
 intro pins s σ H D I h
 refine wpAny_Assign_Name (thn (he pins s σ H _ I h) fun v s1 ⟨y,H1,I1,r1,q1⟩=>?_) hs
 exact store_ok I1 hN hi hx r1 (fun s2 I2=>⟨_,H1,I2,q1⟩) hf
end


section
variable {X:Cx} {pos:Pos}
def tWhile (c:TT) (tb:TS):TS:=fun D σ H=>∃ W:Nat->St->Hp->Prop,(∃ m,W m σ H)/\∀ m σ H,W m σ H ->
 c σ H fun b H1=>if b=true then ∃ N:St->Hp->Prop,(∀ σ' H',N σ' H'->∃ m',m' < m/\W m' σ' H')/\tb { D with nx:=N,ct:=N,bk:=D.nx } σ H1 else D.nx σ H1
theorem ps_while {c:Expr} {body:List Stmt} {tc:TT} {tb:TS} (hp:PassesOwn (model X.prog X.w) X.A X.env X.xe) (hc:PT X c tc) (hb:PSs X body tb):PS X (.While c body [] pos) (tWhile tc tb):=by
 intro pins s σ H D I h
 obtain ⟨W,⟨m0,w0⟩,turn⟩:=h
 refine wpAny_While (codeAny_whileLoop (fun n s'=>∃ σ' H',Inv X pins σ' H' s'/\W n σ' H') ?_ m0 ⟨σ,H,I,w0⟩)
 rintro n s1 ⟨σ1,H1,I1,w1⟩
 refine wpAny_passesOwn hp (thn (hc pins s1 σ1 H1 _ I1 (turn n σ1 H1 w1)) fun b s2 ⟨H2,I2,q2⟩=>?_)
 cases b with
 | true =>
  obtain ⟨N,hN,q2⟩:=q2
  rw[if_pos rfl]
  refine wpAny_passesOwn hp (thn (hb pins s2 σ1 H2 _ I2 q2) fun f s3 q3=>?_)
  cases f with
  | next =>
   obtain ⟨σ3,H3,I3,n3⟩:=q3
   obtain ⟨m',hm,w3⟩:=hN σ3 H3 n3
   exact ⟨m',hm,σ3,H3,I3,w3⟩
  | cont =>
   obtain ⟨σ3,H3,I3,n3⟩:=q3
   obtain ⟨m',hm,w3⟩:=hN σ3 H3 n3
   exact ⟨m',hm,σ3,H3,I3,w3⟩
  | brk=>exact q3
  | ret v=>exact q3
 | false =>
  rw[if_neg Bool.false_ne_true]
  exact wpAny_execs_nil ⟨σ1,H2,I2,q2⟩
end


structure It where
 go:Nat->Hp->Prop
 yld:Nat->Hp->V->Hp->Prop
 stop:Nat->Hp->Prop
def FpOk (X:Cx) (pins:List (Addr × Obj)) (H:Hp) (b:Addr):Prop :=
 H b=none/\b≠X.env.locals/\b∉X.fs/\(b∈X.ex\/X.s₀.heap.objs.size<=b)/\(∀ x c,X.env.cells.lookup x=some c->c≠b)/\∀ p∈X.pn++pins,p.1≠b
theorem Inv.fpOk {X:Cx} {pins:List (Addr × Obj)} {σ:St} {H H':Hp} {s:Shared} {b:Addr} (I:Inv X pins σ H s) (hb:s.heap.objs.size<=b) (hn:H' b=none):FpOk X pins H' b:=by
 refine ⟨hn,Nat.ne_of_gt (Nat.lt_of_lt_of_le I.lt hb),I.nofs hb,.inr (Nat.le_trans I.sz hb),fun x c e z=>?_,fun p hp z=>?_⟩
 ·obtain ⟨v,q⟩:=I.cell x c e
  exact absurd (Nat.lt_of_lt_of_le q.lt (by rw[z];exact hb)) (Nat.lt_irrefl _)
 ·exact absurd (Nat.lt_of_lt_of_le (Heap.lt_size (I.pin p hp).1) (by rw[z];exact hb)) (Nat.lt_irrefl _)
structure Turn (P:Program) (w:World) (K:PySem.W.Frag) (tg:Expr) (J:It) (fp:List Addr) (it:Addr) (tn:Nat->Heap->Prop):Prop where
 mem:it∈fp
 obj:∀ i h,tn i h->∀ b∈fp,∃ o,h.get? b=some o/\∀ v,o.data≠.cell v
 keep:∀ i h h',tn i h->(∀ b∈fp,∀ o,h.get? b=some o->h'.get? b=some o)->tn i h'
 item:∀ (X:Cx),X.prog=P->X.w=w->X.K=K->X.calm=true->∀ (i:Nat) (pins:List (Addr × Obj)) (s:Shared) (σ:St) (H:Hp) (E:Value->Shared->Prop),Inv X pins σ H s->(∀ b∈fp,FpOk X pins H b)->tn i s.heap->J.go i H ->
  wpAny (model P w) X.A (pyNext (.ref it)) (fun r s1=>∃ u,r=some u /\
   wpAny (model P w) X.A (letOwnedTupleGo tg (.ref it) u) (fun _ s2=>∃ x H',Inv X pins σ H' s2/\RelV x u/\J.yld i H x H'/\tn (i+1) s2.heap/\∀ b∈fp,H' b=none) E s1) E s
 done:∀ (X:Cx),X.prog=P->X.w=w->X.K=K->X.calm=true->∀ (i:Nat) (pins:List (Addr × Obj)) (s:Shared) (σ:St) (H:Hp) (E:Value->Shared->Prop),Inv X pins σ H s->(∀ b∈fp,FpOk X pins H b)->tn i s.heap->J.stop i H ->
  wpAny (model P w) X.A (pyNext (.ref it)) (fun r s1=>r=none/\Inv X pins σ H s1) E s
 self:∀ (A:Around) (i:Nat) (s:Shared) (Q:Value->Shared->Prop) (E:Value->Shared->Prop),tn i s.heap->Q (.ref it) s->wpAny (model P w) A (pyIter (.ref it)) Q E s
abbrev TI:=St->Hp->(It->Hp->Prop)->Prop
def PIE (X:Cx) (pins:List (Addr × Obj)) (σ:St) (tg:Expr) (R:It->Hp->Prop) (itv:Value) (s2:Shared):Prop :=
 ∃ (it:Addr) (fp:List Addr) (tn:Nat->Heap->Prop) (J:It) (H':Hp),itv=.ref it/\Inv X pins σ H' s2/\Turn X.prog X.w X.K tg J fp it tn/\tn 0 s2.heap/\(∀ b∈fp,FpOk X pins H' b)/\R J H'
def PI (X:Cx) (tg iter:Expr) (wi:TI):Prop :=
 ∀ (pins:List (Addr × Obj)) (s:Shared) (σ:St) (H:Hp) (R:It->Hp->Prop),Inv X pins σ H s->wi σ H R ->
  wpAny (model X.prog X.w) X.A (eval iter X.env) (fun v s1=>wpAny (model X.prog X.w) X.A (pyIter v) (PIE X pins σ tg R) X.xe s1) X.xe s

theorem go_of {M:Model} {A:Around} {E:Value->Shared->Prop} {s:Shared} {tg:Expr} {it:Addr} {u:Value} {o:Obj} {n:String} {vs:Array Value} {Q:Unit->Shared->Prop} (ho:s.heap.get? it=some o) (hc:o.cls=.type n) (hd:o.data=.fields vs)
    (hn:["enumerate","zip","dict_itemiterator","dict_reverseitemiterator","odict_iterator","itertools.zip_longest","itertools.pairwise"].contains n=false) (hQ:Q () s):wpAny M A (letOwnedTupleGo tg (.ref it) u) Q E s:=by
  unfold letOwnedTupleGo
  cases tg <;> first
    | exact wpAny_pure hQ
    | (cases u <;> first
        | exact wpAny_pure hQ
        | (refine wpAny_bind (wpAny_load ho ?_)
           rw[hc,hd]
           show wpAny M A (if (["enumerate","zip","dict_itemiterator","dict_reverseitemiterator","odict_iterator","itertools.zip_longest","itertools.pairwise"].contains n && vs[0]? == some (rawInt _))=true then _ else _) Q E s
           rw[if_neg (by intro h;rw[hn,Bool.false_and]at h;cases h)]
           exact wpAny_pure hQ))

def Itl (K:PySem.W.Frag) (a:Addr):It :=
 ⟨fun i H=>∃ xs x,SqL K H a xs/\xs[i]?=some x,fun i H x H'=>H'=H/\∀ xs,SqL K H a xs->xs[i]?=some x,fun i H=>∃ xs,SqL K H a xs/\xs.length<=i⟩
def Itt (K:PySem.W.Frag) (a:Addr):It :=
 ⟨fun i H=>∃ xs x,SqT K H a xs/\xs[i]?=some x,fun i H x H'=>H'=H/\∀ xs,SqT K H a xs->xs[i]?=some x,fun i H=>∃ xs,SqT K H a xs/\xs.length<=i⟩
def Itr (lo:Int) (n:Nat):It:=⟨fun i _=>i < n,fun i H x H'=>H'=H/\x=.int (lo+i),fun i _=>n<=i⟩
theorem turn_list {P:Program} {w:World} {K:PySem.W.Frag} {tg:Expr} (a it:Addr):Turn P w K tg (Itl K a) [it] it (fun i h=>h.IsListIter it a i) where
 mem:=by simp
 obj:=fun i h st b hb=>by
  have e:b=it:=by simpa using hb
  subst e
  obtain ⟨o,e,c,d⟩:=st
  exact ⟨o,e,fun v z=>by rw[d]at z;cases z⟩
 keep:=fun i h h' st k=>st.at fun o e=>k it (by simp) o e
 item:=by
  intro X hP hw hK hc i pins s σ H E I hf st hg
  subst hP hw hK
  obtain ⟨xs,x,hq,hx⟩:=hg
  obtain ⟨its,rv,p,hz⟩:=I.list hq
  obtain ⟨u,hu,ru⟩:=rv.get hx
  obtain ⟨f0,f1,f2,f3,f4,f5⟩:=hf it (by simp)
  refine wpAny_pyNext_list_item st p.isList (x:=u) (by simpa using hu) fun h' st' sb=>?_
  have I1:Inv X pins σ H { s with heap:=h' }:=I.turned (t':=s.toks) (fun b o hb e=>(sb.2 b hb).trans e) f0 f1 f3 f4 f5
  obtain ⟨o,e,c,d⟩:=id st'
  exact ⟨u,rfl,go_of (s:={ s with heap:=h' }) e c d (by decide) ⟨x,H,I1,ru,⟨rfl,fun ys hy=>by rw[I.list_inj hy hq];exact hx⟩,st',fun b hb=>(hf b hb).1⟩⟩
 done:=by
  intro X hP hw hK hc i pins s σ H E I hf st hg
  subst hP hw hK
  obtain ⟨xs,hq,hx⟩:=hg
  obtain ⟨its,rv,p,hz⟩:=I.list hq
  obtain ⟨f0,f1,f2,f3,f4,f5⟩:=hf it (by simp)
  have hl:=rv.length
  exact wpAny_pyNext_list_end (I.ok.hd hc) st p.isList (by simp;omega) fun h' eb=>⟨rfl,I.turned (t':=s.toks) (fun b o hb e=>eb b o hb e) f0 f1 f3 f4 f5⟩
 self:=fun _ _ _ _ _ st h=>wpAny_pyIter_listiter st h
theorem turn_tuple {P:Program} {w:World} {K:PySem.W.Frag} {tg:Expr} (a it:Addr):Turn P w K tg (Itt K a) [it] it (fun i h=>h.IsTupleIter it a i) where
 mem:=by simp
 obj:=fun i h st b hb=>by
  have e:b=it:=by simpa using hb
  subst e
  obtain ⟨o,e,c,d⟩:=st
  exact ⟨o,e,fun v z=>by rw[d]at z;cases z⟩
 keep:=fun i h h' st k=>st.at fun o e=>k it (by simp) o e
 item:=by
  intro X hP hw hK hc i pins s σ H E I hf st hg
  subst hP hw hK
  obtain ⟨xs,x,hq,hx⟩:=hg
  obtain ⟨its,rv,p,hz⟩:=I.tuple hq
  obtain ⟨u,hu,ru⟩:=rv.get hx
  obtain ⟨f0,f1,f2,f3,f4,f5⟩:=hf it (by simp)
  refine wpAny_pyNext_tuple_item st (show s.heap.IsTuple a its.toArray from p) (x:=u) (by simpa using hu) fun h' st' sb=>?_
  have I1:Inv X pins σ H { s with heap:=h' }:=I.turned (t':=s.toks) (fun b o hb e=>(sb.2 b hb).trans e) f0 f1 f3 f4 f5
  obtain ⟨o,e,c,d⟩:=id st'
  exact ⟨u,rfl,go_of (s:={ s with heap:=h' }) e c d (by decide) ⟨x,H,I1,ru,⟨rfl,fun ys hy=>by rw[I.tuple_inj hy hq];exact hx⟩,st',fun b hb=>(hf b hb).1⟩⟩
 done:=by
  intro X hP hw hK hc i pins s σ H E I hf st hg
  subst hP hw hK
  obtain ⟨xs,hq,hx⟩:=hg
  obtain ⟨its,rv,p,hz⟩:=I.tuple hq
  obtain ⟨f0,f1,f2,f3,f4,f5⟩:=hf it (by simp)
  have hl:=rv.length
  exact wpAny_pyNext_tuple_end (I.ok.hd hc) st (show s.heap.IsTuple a its.toArray from p) (by simp;omega) fun h' eb=>⟨rfl,I.turned (t':=s.toks) (fun b o hb e=>eb b o hb e) f0 f1 f3 f4 f5⟩
 self:=fun _ _ _ _ _ st h=>wpAny_pyIter_tupleiter st h
theorem turn_range {P:Program} {w:World} {K:PySem.W.Frag} {tg:Expr} (it:Addr) (lo:Int) (n:Nat):Turn P w K tg (Itr lo n) [it] it (fun i h=>IsRangeIter h it (lo+(i:Nat)*1) ((n:Int)-(i:Nat)) 1) where
 mem:=by simp
 obj:=fun i h st b hb=>by
  have e:b=it:=by simpa using hb
  subst e
  exact ⟨_,st,fun v z=>by
   have z':Data.fields _=Data.cell v:=z
   cases z'⟩
 keep:=fun i h h' st k=>k it (by simp) _ st
 item:=by
  intro X hP hw hK hc i pins s σ H E I hf st hg
  subst hP hw hK
  obtain ⟨f0,f1,f2,f3,f4,f5⟩:=hf it (by simp)
  have W:=Walks.range (prog:=X.prog) (w:=X.w) (I.ok.hd hc) it lo 1 n
  refine W.item i s _ _ hg st fun v h' tk hv st' kk=>?_
  obtain ⟨t,rfl⟩:=hv
  have I1:Inv X pins σ H { s with heap:=h',toks:=tk }:=I.turned (fun b o hb e=>kk b o (by simpa using hb) e) f0 f1 f3 f4 f5
  refine ⟨_,rfl,go_of (s:={ s with heap:=h',toks:=tk }) (n:="range_iterator") st' rfl rfl (by decide) ⟨.int (lo+i),H,I1,⟨t,?_⟩,⟨rfl,rfl⟩,st',fun b hb=>(hf b hb).1⟩⟩
  rw[Int.mul_one]
 done:=by
  intro X hP hw hK hc i pins s σ H E I hf st hg
  subst hP hw hK
  obtain ⟨f0,f1,f2,f3,f4,f5⟩:=hf it (by simp)
  exact wpAny_pyNext_range_end (I.ok.hd hc) st (by have:n<=i:=hg;omega) fun h' eb=>⟨rfl,I.turned (t':=s.toks) (fun b o hb e=>eb b o hb e) f0 f1 f3 f4 f5⟩
 self:=fun _ _ _ _ _ st h=>wpAny_pyIter_rangeiter st h
end L2

namespace L2
open PySem PySem.Spec PyProof.Rows
section
variable {X:Cx} {tg:Expr}
def iList (K:PySem.W.Frag) (tl:TE):TI:=fun σ H R=>tl σ H fun x H1=>∃ a,x=.ref a/\(∃ xs,SqL K H1 a xs)/\R (Itl K a) H1
def iTup (K:PySem.W.Frag) (tl:TE):TI:=fun σ H R=>tl σ H fun x H1=>∃ a,x=.ref a/\(∃ xs,SqT K H1 a xs)/\R (Itt K a) H1
theorem pi_list {l:Expr} {tl:TE} (hl:PE X l tl):PI X tg l (iList X.K tl):=by
 intro pins s σ H R I h
 refine thn (hl pins s σ H _ I h) fun v s1 ⟨x,H1,I1,r1,q1⟩=>?_
 obtain ⟨a,e,⟨xs,hq⟩,q⟩:=q1
 subst e
 cases r1
 obtain ⟨its,rv,p,hz⟩:=I1.list hq
 refine wpAny_pyIter_list p.isList ?_
 refine ⟨s1.heap.objs.size,[s1.heap.objs.size],_,_,H1,rfl,I1.kept (t':=s1.toks) fun b o e=>Heap.get?_push_of_some _ e,turn_list a _,⟨_,Heap.get?_push_size _ rfl,rfl,rfl⟩,fun b hb=>?_,q⟩
 have e:b=s1.heap.objs.size:=by simpa using hb
 subst e
 exact I1.fpOk (Nat.le_refl _) (I1.hok.fresh (Nat.le_refl _))
theorem pi_tup {l:Expr} {tl:TE} (hl:PE X l tl):PI X tg l (iTup X.K tl):=by
 intro pins s σ H R I h
 refine thn (hl pins s σ H _ I h) fun v s1 ⟨x,H1,I1,r1,q1⟩=>?_
 obtain ⟨a,e,⟨xs,hq⟩,q⟩:=q1
 subst e
 cases r1
 obtain ⟨its,rv,p,hz⟩:=I1.tuple hq
 refine wpAny_pyIter_tuple (show s1.heap.IsTuple a its.toArray from p) ?_
 refine ⟨s1.heap.objs.size,[s1.heap.objs.size],_,_,H1,rfl,I1.kept (t':=s1.toks) fun b o e=>Heap.get?_push_of_some _ e,turn_tuple a _,⟨_,Heap.get?_push_size _ rfl,rfl,rfl⟩,fun b hb=>?_,q⟩
 have e:b=s1.heap.objs.size:=by simpa using hb
 subst e
 exact I1.fpOk (Nat.le_refl _) (I1.hok.fresh (Nat.le_refl _))
theorem range_it {pins:List (Addr × Obj)} {σ:St} {H:Hp} {s:Shared} {R:It->Hp->Prop} {E:Value->Shared->Prop} {lo hi:Int} {t u v:Tok} {tk:Nat} (I:Inv X pins σ H s) (h1:-(2 ^ 62)<=lo) (h2:lo < 2 ^ 62) (h3:-(2 ^ 62)<=hi) (h4:hi < 2 ^ 62)
  (q:R (Itr lo (hi-lo).toNat) H):wpAny (model X.prog X.w) X.A (pyIter (.ref s.heap.objs.size)) (PIE X pins σ tg R) E { s with heap:=s.heap.push { cls:=.type "range",data:=.fields #[.int lo t,.int hi u,.int 1 v] },toks:=tk }:=by
 refine wpAny_pyIter_range (IsRange.new ..) (small_one h1 h2 h3 h4) ?_
 have I1:Inv X pins σ H { s with heap:=s.heap.push { cls:=.type "range",data:=.fields #[.int lo t,.int hi u,.int 1 v] },toks:=tk }:=I.kept fun b o e=>Heap.get?_push_of_some _ e
 refine ⟨(s.heap.push { cls:=.type "range",data:=.fields #[.int lo t,.int hi u,.int 1 v] }).objs.size,[(s.heap.push { cls:=.type "range",data:=.fields #[.int lo t,.int hi u,.int 1 v] }).objs.size],_,_,H,rfl,
  I1.kept (t':=tk) fun b o e=>Heap.get?_push_of_some _ e,turn_range _ lo (hi-lo).toNat,?_,fun b hb=>?_,q⟩
 ·have e1:lo+((0:Nat):Int)*1=lo:=by simp
  have e2:(((hi-lo).toNat:Nat):Int)-((0:Nat):Int)=Builtin.Range.rangeSize lo hi 1:=by rw[rangeSize_one];split <;> omega
  show IsRangeIter _ _ (lo+((0:Nat):Int)*1) ((((hi-lo).toNat:Nat):Int)-((0:Nat):Int)) 1
  rw[e1,e2]
  exact Heap.get?_push_size _ rfl
 ·have e:b=(s.heap.push { cls:=.type "range",data:=.fields #[.int lo t,.int hi u,.int 1 v] }).objs.size:=by simpa using hb
  subst e
  exact I1.fpOk (Nat.le_refl _) (I1.hok.fresh (Nat.le_refl _))
def iRng1 (ta:TA):TI:=fun σ H R=>ta σ H fun vs H1=>∃ j:Int,vs=[.int j]/\-(2 ^ 62)<=j/\j < 2 ^ 62/\R (Itr 0 j.toNat) H1
def iRng2 (ta:TA):TI:=fun σ H R=>ta σ H fun vs H1=>∃ i j:Int,vs=[.int i,.int j]/\(-(2 ^ 62)<=i/\i < 2 ^ 62/\-(2 ^ 62)<=j/\j < 2 ^ 62)/\R (Itr i (j-i).toNat) H1
theorem pi_range1 {a:Expr} {ta:TA} {p pos:Pos} (hg:Gl X "range") (hm:X.mg "range"=none) (ha:PA X [a] ta) (hs:starEach [a] X.env=[(false,eval a X.env)]:=by rfl):PI X tg (.Call (.Name "range" p) [a] [] pos) (iRng1 ta):=by
 intro pins s σ H R I h
 refine Call_ (ld_blt I hg hm boot_range (PyProof.Rows.callWith_type1 (thn (ha pos pins s σ H _ I h) fun us s1 ⟨vs,H1,I1,r1,q1⟩=>?_) hs rfl))
 obtain ⟨j,e,q1,q2,q⟩:=q1
 subst e
 cases r1 with
 | cons r rr =>
  cases rr
  obtain ⟨t,rfl⟩:=r
  exact call_range_1 (range_it I1 (by omega) (by omega) q1 q2 (by simpa using q))

def tFor (wi:TI) (g:TG) (tb:TS):TS:=fun D σ H=>wi σ H fun J H1=>∃ W:Nat->Nat->St->Hp->Prop,(∃ m,W 0 m σ H1)/\∀ i m σ H,W i m σ H ->
 (J.stop i H/\D.nx σ H)\/(J.go i H/\∃ N:St->Hp->Prop,(∀ σ' H',N σ' H'->∃ m',m' < m/\W (i+1) m' σ' H')/\∀ x H',J.yld i H x H'->g x σ H' fun σ2 H2=>tb { D with nx:=N,ct:=N,bk:=D.nx } σ2 H2)
def pinsAt (fp:List Addr) (h:Heap):List (Addr × Obj):=fp.filterMap fun b=>(h.get? b).map fun o=>(b,o)
theorem mem_pinsAt {fp:List Addr} {h:Heap} {b:Addr} {o:Obj} (hb:b∈fp) (e:h.get? b=some o):(b,o)∈pinsAt fp h:=List.mem_filterMap.mpr ⟨b,hb,by rw[e];rfl⟩
theorem of_pinsAt {fp:List Addr} {h:Heap} {p:Addr × Obj} (hp:p∈pinsAt fp h):p.1∈fp/\h.get? p.1=some p.2:=by
 obtain ⟨b,hb,e⟩:=List.mem_filterMap.mp hp
 cases q:h.get? b with
 | none=>rw[q]at e;cases e
 | some o =>
  rw[q]at e
  have e':(b,o)=p:=Option.some.inj e
  subst e'
  exact ⟨hb,q⟩
theorem Inv.pinned {pins:List (Addr × Obj)} {σ:St} {H:Hp} {s:Shared} {fp:List Addr} (I:Inv X pins σ H s) (hf:∀ b∈fp,FpOk X pins H b) (ho:∀ b∈fp,∃ o,s.heap.get? b=some o/\∀ v,o.data≠.cell v):Inv X (pins++pinsAt fp s.heap) σ H s :=
 I.pins_of fun p hp=>(List.mem_append.mp hp).elim (fun z=>I.pin p (List.mem_append_right _ z)) fun z=>by
  obtain ⟨hb,e⟩:=of_pinsAt z
  obtain ⟨f0,f1,f2,_⟩:=hf p.1 hb
  obtain ⟨o,e',d⟩:=ho p.1 hb
  rw[e]at e';cases e'
  exact ⟨e,f0,f1,f2,d⟩
theorem Inv.unpinned {pins pl:List (Addr × Obj)} {σ:St} {H:Hp} {s:Shared} (I:Inv X (pins++pl) σ H s):Inv X pins σ H s:=I.pins_of fun p hp=>I.pin p (List.mem_append_right _ (List.mem_append_left _ hp))
theorem ps_for {iter:Expr} {body:List Stmt} {wi:TI} {g:TG} {tb:TS} {pos:Pos} (hp:PassesOwn (model X.prog X.w) X.A X.env X.xe) (hc:X.calm=true) (hi:PI X tg iter wi) (hg:PG X tg g) (hb:PSs X body tb)
  (hs:∀ x,foldedSetIterable iter X.env x=pure x:=by intro _;rfl):PS X (.For tg iter body [] pos) (tFor wi g tb):=by
 intro pins s σ H D I h
 refine wpAny_For (thn (hi pins s σ H _ I h) fun v s1 h1=>thn h1 fun itv s2 h2=>?_) hs
 obtain ⟨it,fp,tn,J,H2,e,I2,T,st2,f2,W,⟨m0,w0⟩,turn⟩:=h2
 subst e
 have stat:∀ {H':Hp},(∀ b∈fp,H' b=none)->∀ b∈fp,FpOk X pins H' b:=fun hn b hb=>⟨hn b hb,(f2 b hb).2⟩
 refine codeAny_forLoop_any (fun n s'=>∃ i σ' H',Inv X pins σ' H' s'/\tn i s'.heap/\(∀ b∈fp,H' b=none)/\W i n σ' H') ?_ m0 ⟨0,σ,H2,I2,st2,fun b hb=>(f2 b hb).1,w0⟩
 rintro n s3 ⟨i,σ3,H3,I3,st3,fr3,w3⟩
 rcases turn i n σ3 H3 w3 with ⟨stop,qn⟩ | ⟨go,N,hN,step⟩
 ·refine wpAny_passesOwn hp (thn (T.done X rfl rfl rfl hc i pins s3 σ3 H3 X.xe I3 (stat fr3) st3 stop) fun r s4 ⟨hr,I4⟩=>?_)
  subst hr
  exact wpAny_execs_nil ⟨σ3,H3,I4,qn⟩
 ·refine wpAny_passesOwn hp (thn (T.item X rfl rfl rfl hc i pins s3 σ3 H3 X.xe I3 (stat fr3) st3 go) fun r s4 ⟨u,hr,h4⟩=>?_)
  subst hr
  refine wpAny_passesOwn hp (thn h4 fun _ s5 ⟨x,H5,I5,r5,y5,st5,fr5⟩=>?_)
  have I5':=I5.pinned (stat fr5) (T.obj _ _ st5)
  refine wpAny_passesOwn hp (thn (hg _ s5 σ3 H5 x u _ I5' r5 (step x H5 y5)) fun _ s6 ⟨σ6,H6,I6,q6⟩=>?_)
  refine wpAny_passesOwn hp (thn (hb _ s6 σ6 H6 _ I6 q6) fun f s7 q7=>?_)
  have again:∀ {σ7:St} {H7:Hp},Inv X (pins++pinsAt fp s5.heap) σ7 H7 s7->N σ7 H7->∃ m,m < n/\∃ i σ' H',Inv X pins σ' H' s7/\tn i s7.heap/\(∀ b∈fp,H' b=none)/\W i m σ' H':=fun {σ7 H7} I7 n7=>by
   obtain ⟨m',hm,w7⟩:=hN σ7 H7 n7
   refine ⟨m',hm,i+1,σ7,H7,I7.unpinned,T.keep _ _ _ st5 fun b hb o e=>(I7.pin (b,o) (List.mem_append_right _ (List.mem_append_right _ (mem_pinsAt hb e)))).1,fun b hb=>?_,w7⟩
   obtain ⟨o,e,d⟩:=T.obj _ _ st5 b hb
   exact (I7.pin (b,o) (List.mem_append_right _ (List.mem_append_right _ (mem_pinsAt hb e)))).2.1
  cases f with
  | next=>obtain ⟨σ7,H7,I7,n7⟩:=q7;exact again I7 n7
  | cont=>obtain ⟨σ7,H7,I7,n7⟩:=q7;exact again I7 n7
  | brk=>obtain ⟨σ7,H7,I7,q7⟩:=q7;exact ⟨σ7,H7,I7.unpinned,q7⟩
  | ret v=>obtain ⟨x7,σ7,H7,I7,r7,q7⟩:=q7;exact ⟨x7,σ7,H7,I7.unpinned,r7,q7⟩
end


theorem for_list {K:PySem.W.Frag} {a:Addr} {xs:List V} {g:TG} {tb:TS} {D:Ends} {σ:St} {H:Hp} (Pv:Nat->St->Hp->Prop) (h0:Pv 0 σ H) (hl:∀ i σ H,i<=xs.length->Pv i σ H->SqL K H a xs)
  (hs:∀ i x σ H,xs[i]?=some x->Pv i σ H->g x σ H fun σ2 H2=>tb { D with nx:=Pv (i+1),ct:=Pv (i+1),bk:=D.nx } σ2 H2) (hd:∀ σ H,Pv xs.length σ H->D.nx σ H) :
  ∃ W:Nat->Nat->St->Hp->Prop,(∃ m,W 0 m σ H)/\∀ i m σ H,W i m σ H ->
   ((Itl K a).stop i H/\D.nx σ H)\/((Itl K a).go i H/\∃ N:St->Hp->Prop,(∀ σ' H',N σ' H'->∃ m',m' < m/\W (i+1) m' σ' H')/\∀ x H',(Itl K a).yld i H x H'->g x σ H' fun σ2 H2=>tb { D with nx:=N,ct:=N,bk:=D.nx } σ2 H2):=by
 refine ⟨fun i m σ H=>m=xs.length-i/\i<=xs.length/\Pv i σ H,⟨xs.length,by simp,Nat.zero_le _,h0⟩,?_⟩
 rintro i m σ H ⟨rfl,hi,p⟩
 have q:=hl i σ H hi p
 by_cases hlt:i < xs.length
 ·refine .inr ⟨⟨xs,xs[i],q,by simp [hlt]⟩,Pv (i+1),fun σ' H' p'=>⟨xs.length-(i+1),by omega,rfl,hlt,p'⟩,fun x H' y=>?_⟩
  obtain ⟨e,y⟩:=y
  subst e
  exact hs i x σ _ (y xs q) p
 ·have e:i=xs.length:=by omega
  subst e
  exact .inl ⟨⟨xs,q,Nat.le_refl _⟩,hd σ H p⟩
theorem for_range {lo:Int} {n:Nat} {g:TG} {tb:TS} {D:Ends} {σ:St} {H:Hp} (Pv:Nat->St->Hp->Prop) (h0:Pv 0 σ H)
  (hs:∀ i σ H,i < n->Pv i σ H->g (.int (lo+i)) σ H fun σ2 H2=>tb { D with nx:=Pv (i+1),ct:=Pv (i+1),bk:=D.nx } σ2 H2) (hd:∀ σ H,Pv n σ H->D.nx σ H) :
  ∃ W:Nat->Nat->St->Hp->Prop,(∃ m,W 0 m σ H)/\∀ i m σ H,W i m σ H ->
   ((Itr lo n).stop i H/\D.nx σ H)\/((Itr lo n).go i H/\∃ N:St->Hp->Prop,(∀ σ' H',N σ' H'->∃ m',m' < m/\W (i+1) m' σ' H')/\∀ x H',(Itr lo n).yld i H x H'->g x σ H' fun σ2 H2=>tb { D with nx:=N,ct:=N,bk:=D.nx } σ2 H2):=by
 refine ⟨fun i m σ H=>m=n-i/\i<=n/\Pv i σ H,⟨n,by simp,Nat.zero_le _,h0⟩,?_⟩
 rintro i m σ H ⟨rfl,hi,p⟩
 by_cases hlt:i < n
 ·refine .inr ⟨hlt,Pv (i+1),fun σ' H' p'=>⟨n-(i+1),by omega,rfl,hlt,p'⟩,fun x H' y=>?_⟩
  obtain ⟨e,y⟩:=y
  subst e y
  exact hs i σ _ hlt p
 ·have e:i=n:=by omega
  subst e
  exact .inl ⟨Nat.le_refl _,hd σ H p⟩
end L2

namespace L2
open PySem PySem.Spec PyProof.Rows

abbrev R2:=V->V->Hp->VK->Prop
def OpR (X:Cx) (f:Value->Value->Sem Value) (r:R2):Prop :=
 ∀ (pins:List (Addr × Obj)) (s:Shared) (σ:St) (H:Hp) (x y:V) (v u:Value) (Q:VK),Inv X pins σ H s->RelV x v->RelV y u->r x y H Q ->
  wpAny (model X.prog X.w) X.A (f v u) (EP X pins σ Q) X.xe s
def UnR (X:Cx) (f:Value->Sem Value) (r:V->Hp->VK->Prop):Prop :=
 ∀ (pins:List (Addr × Obj)) (s:Shared) (σ:St) (H:Hp) (x:V) (v:Value) (Q:VK),Inv X pins σ H s->RelV x v->r x H Q ->
  wpAny (model X.prog X.w) X.A (f v) (EP X pins σ Q) X.xe s
def CallR (X:Cx) (f:Value) (r:List V->Hp->VK->Prop):Prop :=
 ∀ (pins:List (Addr × Obj)) (s:Shared) (σ:St) (H:Hp) (xs:List V) (us:List Value) (Q:VK),Inv X pins σ H s->Vals xs us->r xs H Q ->
  wpAny (model X.prog X.w) X.A (call f us) (EP X pins σ Q) X.xe s
def tOp (r:R2) (ta tb:TE):TE:=fun σ H Q=>ta σ H fun x H1=>tb σ H1 fun y H2=>r x y H2 Q
def tUn (r:V->Hp->VK->Prop) (ta:TE):TE:=fun σ H Q=>ta σ H fun x H1=>r x H1 Q
def rI (C:Int->Int->Prop) (g:Int->Int->V):R2:=fun x y H Q=>∃ i j,x=.int i/\y=.int j/\C i j/\Q (g i j) H
def rI0 (g:Int->Int->V):R2:=fun x y H Q=>∃ i j,x=.int i/\y=.int j/\Q (g i j) H
def rU (g:Int->V):V->Hp->VK->Prop:=fun x H Q=>∃ i,x=.int i/\Q (g i) H

section
variable {X:Cx} {a b c:Expr} {ta tb tc:TE} {pos:Pos}

theorem binT (ha:PE X a ta) (hb:PE X b tb) {pins:List (Addr × Obj)} {s:Shared} {σ:St} {H:Hp} {R:V->V->Hp->Prop} (I:Inv X pins σ H s)
  (h:ta σ H fun x H1=>tb σ H1 fun y H2=>R x y H2) {Q:Value->Shared->Prop} {f:Value->Value->Sem Value}
  (hf:∀ v u s2 x y H2,Inv X pins σ H2 s2->RelV x v->RelV y u->R x y H2->wpAny (model X.prog X.w) X.A (f v u) Q X.xe s2) :
  wpAny (model X.prog X.w) X.A (eval a X.env) (fun v s₁=>wpAny (model X.prog X.w) X.A (eval b X.env) (fun u s₂=>wpAny (model X.prog X.w) X.A (f v u) Q X.xe s₂) X.xe s₁) X.xe s:=by
 refine thn (ha pins s σ H _ I h) fun v s1 ⟨x,H1,I1,r1,q1⟩=>?_
 refine thn (hb pins s1 σ H1 _ I1 q1) fun u s2 ⟨y,H2,I2,r2,q2⟩=>?_
 exact hf v u s2 x y H2 I2 r1 r2 q2

theorem pe_op {op:Operator} {r:R2} (ho:OpR X (binaryOp op) r) (ha:PE X a ta) (hb:PE X b tb):PE X (.BinOp a op b pos) (tOp r ta tb):=by
 intro pins s σ H Q I h
 exact wpAny_BinOp (binT ha hb I h fun v u s2 x y H2 I2 rx ry q=>ho pins s2 σ H2 x y v u Q I2 rx ry q)
theorem pe_un {op:UnaryOp} {r:V->Hp->VK->Prop} (ho:UnR X (unaryOp op) r) (ha:PE X a ta):PE X (.UnaryOp op a pos) (tUn r ta):=by
 intro pins s σ H Q I h
 exact UnaryOp_ (thn (ha pins s σ H _ I h) fun v s1 ⟨x,H1,I1,r1,q1⟩=>ho pins s1 σ H1 x v Q I1 r1 q1)

theorem opI {f:Value->Value->Sem Value} {C:Int->Int->Prop} {g:Int->Int->Int}
  (rule:∀ (i j:Int) (t u:Tok) (s:Shared) (Q:Value->Shared->Prop) (E:Value->Shared->Prop),C i j->Q (.int (g i j) s.toks) { s with toks:=s.toks+1 }->wpAny (model X.prog X.w) X.A (f (.int i t) (.int j u)) Q E s) :
  OpR X f (rI C fun i j=>.int (g i j)):=by
 intro pins s σ H x y v u Q I rx ry h
 obtain ⟨i,j,rfl,rfl,hc,q⟩:=h
 obtain ⟨t,rfl⟩:=rx
 obtain ⟨t',rfl⟩:=ry
 exact rule i j t t' s _ _ hc ⟨.int (g i j),H,I.tok _,⟨_,rfl⟩,q⟩
theorem opI0 {f:Value->Value->Sem Value} {g:Int->Int->Int}
  (rule:∀ (i j:Int) (t u:Tok) (s:Shared) (Q:Value->Shared->Prop) (E:Value->Shared->Prop),Q (.int (g i j) s.toks) { s with toks:=s.toks+1 }->wpAny (model X.prog X.w) X.A (f (.int i t) (.int j u)) Q E s) :
  OpR X f (rI0 fun i j=>.int (g i j)):=by
 intro pins s σ H x y v u Q I rx ry h
 obtain ⟨i,j,rfl,rfl,q⟩:=h
 obtain ⟨t,rfl⟩:=rx
 obtain ⟨t',rfl⟩:=ry
 exact rule i j t t' s _ _ ⟨.int (g i j),H,I.tok _,⟨_,rfl⟩,q⟩
theorem opB0 {f:Value->Value->Sem Value} {g:Int->Int->Bool}
  (rule:∀ (i j:Int) (t u:Tok) (s:Shared) (Q:Value->Shared->Prop) (E:Value->Shared->Prop),Q (.bool (g i j)) s->wpAny (model X.prog X.w) X.A (f (.int i t) (.int j u)) Q E s) :
  OpR X f (rI0 fun i j=>.bl (g i j)):=by
 intro pins s σ H x y v u Q I rx ry h
 obtain ⟨i,j,rfl,rfl,q⟩:=h
 obtain ⟨t,rfl⟩:=rx
 obtain ⟨t',rfl⟩:=ry
 exact rule i j t t' s _ _ ⟨.bl (g i j),H,I,rfl,q⟩

def CDiv (i j:Int):Prop:=0 < j/\j < 1073741824
def CPow (i j:Int):Prop:=0<=j/\j<=1000000/\i.natAbs < 2 ^ 64
def CMul (i j:Int):Prop:=(-(2 ^ 64) < i/\i < 2 ^ 64)\/(-(2 ^ 64) < j/\j < 2 ^ 64)
theorem CMul.ok {i j:Int} (h:CMul i j):IntMulOk i j:=by
 rcases h with ⟨h1,h2⟩ | ⟨h1,h2⟩
 ·exact .of_left (intBits_le_64 h1 h2)
 ·exact .of_right (intBits_le_64 h1 h2)
theorem op_add:OpR X (binaryOp .Add) (rI0 fun i j=>.int (i+j)):=opI0 fun _ _ _ _ _ _ _ q=>add_int q
theorem op_sub:OpR X (binaryOp .Sub) (rI0 fun i j=>.int (i-j)):=opI0 fun _ _ _ _ _ _ _ q=>sub_int q
theorem op_mul:OpR X (binaryOp .Mult) (rI CMul fun i j=>.int (i*j)):=opI fun _ _ _ _ _ _ _ hc q=>mul_int q hc.ok
theorem op_fdiv:OpR X (binaryOp .FloorDiv) (rI CDiv fun i j=>.int (i / j)):=opI fun i j _ _ _ _ _ hc q=>by
 have h1:(0:Int) < j:=hc.1
 have h2:j < 1073741824:=hc.2
 exact floordiv_int (by omega) (by rw[Int.fdiv_eq_ediv_of_nonneg i (by omega)];exact q) (.inl (PyProof.noPylong_small (by omega)))
theorem zBp:OpR X (binaryOp .Mod) (rI (fun _ j=>0 < j) fun i j=>.int (i % j)):=opI fun i j _ _ _ _ _ hc q=>by
 have h1:(0:Int) < j:=hc
 exact mod_int' (by omega) (by rw[Int.fmod_eq_emod_of_nonneg i (by omega)];exact q)
theorem op_pow:OpR X (binaryOp .Pow) (rI CPow fun i j=>.int (i ^ j.toNat)):=opI fun _ _ _ _ _ _ _ hc q=>pow_int_small hc.1 hc.2.1 hc.2.2 q
theorem unI {f:Value->Sem Value} {g:Int->Int}
  (rule:∀ (i:Int) (t:Tok) (s:Shared) (Q:Value->Shared->Prop) (E:Value->Shared->Prop),Q (.int (g i) s.toks) { s with toks:=s.toks+1 }->wpAny (model X.prog X.w) X.A (f (.int i t)) Q E s) :
  UnR X f (rU fun i=>.int (g i)):=by
 intro pins s σ H x v Q I rx h
 obtain ⟨i,rfl,q⟩:=h
 obtain ⟨t,rfl⟩:=rx
 exact rule i t s _ _ ⟨.int (g i),H,I.tok _,⟨_,rfl⟩,q⟩
theorem un_neg:UnR X (unaryOp .USub) (rU fun i=>.int (-i)):=unI fun _ _ _ _ _ q=>neg_int q

end


def scal:V->V->Bool
 | .non,.non=>true | .non,.int _=>true | .int _,.non=>true | .non,.bl _=>true | .bl _,.non=>true | .non,.str _=>true | .str _,.non=>true
 | .int _,.int _=>true | .bl _,.bl _=>true | .str _,.str _=>true | .byt _,.byt _=>true
 | .int _,.str _=>true | .str _,.int _=>true | .bl _,.str _=>true | .str _,.bl _=>true
 | _,_=>false
def rEq:R2:=fun x y H Q=>scal x y=true/\Q (.bl (decide (x=y))) H
def rNe:R2:=fun x y H Q=>scal x y=true/\Q (.bl (!decide (x=y))) H

theorem dec_int {i j:Int}:decide (V.int i=V.int j)=(i == j):=by
 rw[Bool.eq_iff_iff]
 simp
theorem dec_bl {i j:Bool}:decide (V.bl i=V.bl j)=(i == j):=by
 rw[Bool.eq_iff_iff]
 simp
theorem dec_str {i j:Str}:decide (V.str i=V.str j)=(i == j):=by
 rw[Bool.eq_iff_iff]
 simp
theorem dec_byt {i j:Array UInt8}:decide (V.byt i=V.byt j)=(i.toList == j.toList):=by
 rw[Bool.eq_iff_iff]
 cases i
 cases j
 simp

section
variable {X:Cx} {a b c:Expr} {ta tb tc:TE} {pos:Pos}
theorem zBa {pins:List (Addr × Obj)} {σ:St} {H:Hp} {s:Shared} {Q:VK} {k k':Bool} (I:Inv X pins σ H s) (q:Q (.bl k) H) (e:k=k'):EP X pins σ Q (.bool k') s:=by
 subst e
 exact ⟨.bl k,H,I,rfl,q⟩
theorem op_eq:OpR X (compareOp .Eq) rEq:=by
 intro pins s σ H x y v u Q I rx ry h
 obtain ⟨hs,q⟩:=h
 cases x with
 | non =>
  cases rx
  cases y with
  | non=>cases ry;exact PySem.EqNone.eq_none_none (zBa I q (by simp))
  | bl j=>cases ry;exact PySem.EqNone.eq_none_bool (zBa I q (by simp))
  | int j=>obtain ⟨t',rfl⟩:=ry;exact PySem.EqNone.eq_none_int (zBa I q (by simp))
  | str j=>obtain ⟨t',rfl⟩:=ry;exact PySem.EqNone.eq_none_str (zBa I q (by simp))
  | _=>exact absurd (show false=true from hs) Bool.false_ne_true
 | bl i =>
  cases rx
  cases y with
  | non=>cases ry;exact PySem.EqNone.eq_bool_none (zBa I q (by simp))
  | bl j=>cases ry;exact eq_bool (zBa I q dec_bl)
  | str j=>obtain ⟨t',rfl⟩:=ry;exact PySem.EqMixed.eq_bool_str (zBa I q (by simp))
  | _=>exact absurd (show false=true from hs) Bool.false_ne_true
 | int i =>
  obtain ⟨t,rfl⟩:=rx
  cases y with
  | non=>cases ry;exact PySem.EqNone.eq_int_none (zBa I q (by simp))
  | int j=>obtain ⟨t',rfl⟩:=ry;exact eq_int (zBa I q dec_int)
  | str j=>obtain ⟨t',rfl⟩:=ry;exact PySem.EqMixed.eq_int_str (zBa I q (by simp))
  | _=>exact absurd (show false=true from hs) Bool.false_ne_true
 | str i =>
  obtain ⟨t,rfl⟩:=rx
  cases y with
  | non=>cases ry;exact PySem.EqNone.eq_str_none (zBa I q (by simp))
  | bl j=>cases ry;exact PySem.EqMixed.eq_str_bool (zBa I q (by simp))
  | int j=>obtain ⟨t',rfl⟩:=ry;exact PySem.EqMixed.eq_str_int (zBa I q (by simp))
  | str j=>obtain ⟨t',rfl⟩:=ry;exact eq_str (zBa I q dec_str)
  | _=>exact absurd (show false=true from hs) Bool.false_ne_true
 | byt i =>
  obtain ⟨t,rfl⟩:=rx
  cases y with
  | byt j=>obtain ⟨t',rfl⟩:=ry;exact PySem.W.eq_bytes (zBa I q dec_byt)
  | _=>exact absurd (show false=true from hs) Bool.false_ne_true
 | _=>cases y <;> exact absurd (show false=true from hs) Bool.false_ne_true
theorem op_ne:OpR X (compareOp .NotEq) rNe:=by
 intro pins s σ H x y v u Q I rx ry h
 obtain ⟨hs,q⟩:=h
 cases x with
 | non =>
  cases rx
  cases y with
  | non=>cases ry;exact PySem.EqNone.ne_none_none (zBa I q (by simp))
  | bl j=>cases ry;exact PySem.EqNone.ne_none_bool (zBa I q (by simp))
  | int j=>obtain ⟨t',rfl⟩:=ry;exact PySem.EqNone.ne_none_int (zBa I q (by simp))
  | str j=>obtain ⟨t',rfl⟩:=ry;exact PySem.EqNone.ne_none_str (zBa I q (by simp))
  | _=>exact absurd (show false=true from hs) Bool.false_ne_true
 | bl i =>
  cases rx
  cases y with
  | non=>cases ry;exact PySem.EqNone.ne_bool_none (zBa I q (by simp))
  | bl j=>cases ry;exact ne_bool (zBa I q (congrArg not dec_bl))
  | str j=>obtain ⟨t',rfl⟩:=ry;exact PySem.EqMixed.ne_bool_str (zBa I q (by simp))
  | _=>exact absurd (show false=true from hs) Bool.false_ne_true
 | int i =>
  obtain ⟨t,rfl⟩:=rx
  cases y with
  | non=>cases ry;exact PySem.EqNone.ne_int_none (zBa I q (by simp))
  | int j=>obtain ⟨t',rfl⟩:=ry;exact ne_int (zBa I q (congrArg not dec_int))
  | str j=>obtain ⟨t',rfl⟩:=ry;exact PySem.EqMixed.ne_int_str (zBa I q (by simp))
  | _=>exact absurd (show false=true from hs) Bool.false_ne_true
 | str i =>
  obtain ⟨t,rfl⟩:=rx
  cases y with
  | non=>cases ry;exact PySem.EqNone.ne_str_none (zBa I q (by simp))
  | bl j=>cases ry;exact PySem.EqMixed.ne_str_bool (zBa I q (by simp))
  | int j=>obtain ⟨t',rfl⟩:=ry;exact PySem.EqMixed.ne_str_int (zBa I q (by simp))
  | str j=>obtain ⟨t',rfl⟩:=ry;exact ne_str (zBa I q (congrArg not dec_str))
  | _=>exact absurd (show false=true from hs) Bool.false_ne_true
 | byt i =>
  obtain ⟨t,rfl⟩:=rx
  cases y with
  | byt j=>obtain ⟨t',rfl⟩:=ry;exact PySem.W.ne_bytes (zBa I q (congrArg not dec_byt))
  | _=>exact absurd (show false=true from hs) Bool.false_ne_true
 | _=>cases y <;> exact absurd (show false=true from hs) Bool.false_ne_true

theorem op_lt:OpR X (compareOp .Lt) (rI0 fun i j=>.bl (decide (i < j))):=opB0 fun _ _ _ _ _ _ _ q=>lt_int q
theorem op_le:OpR X (compareOp .LtE) (rI0 fun i j=>.bl (decide (i<=j))):=opB0 fun _ _ _ _ _ _ _ q=>le_int q
theorem op_gt:OpR X (compareOp .Gt) (rI0 fun i j=>.bl (decide (j < i))):=opB0 fun _ _ _ _ _ _ _ q=>gt_int q
theorem op_ge:OpR X (compareOp .GtE) (rI0 fun i j=>.bl (decide (j<=i))):=opB0 fun _ _ _ _ _ _ _ q=>ge_int q
theorem zAi (b:Expr) {op:CmpOp} (h:op≠.In:=by decide) (h2:op≠.NotIn:=by decide):behindInMarks op b=false:=by
 have e1:(op == CmpOp.In)=false:=by cases op <;> first | rfl | exact absurd rfl h
 have e2:(op == CmpOp.NotIn)=false:=by cases op <;> first | rfl | exact absurd rfl h2
 cases b <;> simp [behindInMarks,e1,e2]
theorem pe_cmpR {op:CmpOp} {r:R2} (ho:OpR X (compareOp op) r) (ha:PE X a ta) (hb:PE X b tb) (hm:behindInMarks op b=false):PE X (.Compare a [op] [b] pos) (tOp r ta tb):=by
 intro pins s σ H Q I h
 exact wpAny_Compare1 (binT ha hb I h fun v u s2 x y H2 I2 rx ry q=>ho pins s2 σ H2 x y v u Q I2 rx ry q) hm
def tTest (t:TE):TT:=fun σ H Q=>t σ H fun x H'=>∃ k,x=.bl k/\Q k H'
theorem zAe {op:CmpOp} {r:R2} (ho:OpR X (compareOp op) r) (ha:PE X a ta) (hb:PE X b tb) (hm:behindInMarks op b=false):PT X (.Compare a [op] [b] pos) (tTest (tOp r ta tb)):=by
 intro pins s σ H Q I h
 refine wpAny_isTrue_Compare1 (thn (ha pins s σ H _ I h) fun v s1 ⟨x,H1,I1,r1,q1⟩=>thn (hb pins s1 σ H1 _ I1 q1) fun u s2 ⟨y,H2,I2,r2,q2⟩ =>
  thn (ho pins s2 σ H2 x y v u _ I2 r1 r2 q2) fun c s3 ⟨z,H3,I3,r3,k,e,q3⟩=>?_) hm
 subst e
 cases r3
 exact wpAny_truthy_bool ⟨H3,I3,q3⟩
def tChain (r r':R2) (ta tb tc:TE):TE:=fun σ H Q=>ta σ H fun x H1=>tb σ H1 fun y H2=>r x y H2 fun z H3=>∃ k,z=.bl k /\
 (if k=true then tc σ H3 fun w' H4=>r' y w' H4 Q else Q (.bl false) H3)
theorem pe_chain {op op':CmpOp} {r r':R2} (ho:OpR X (compareOp op) r) (ho':OpR X (compareOp op') r') (ha:PE X a ta) (hb:PE X b tb) (hc:PE X c tc)
  (hm:lastMarks [op,op'] [b,c]=false:=by with_unfolding_all rfl):PE X (.Compare a [op,op'] [b,c] pos) (tChain r r' ta tb tc):=by
 intro pins s σ H Q I h
 refine Compare_chain (thn (ha pins s σ H _ I h) fun v s1 ⟨x,H1,I1,r1,q1⟩=>chain_link (thn (hb pins s1 σ H1 _ I1 q1) fun u s2 ⟨y,H2,I2,r2,q2⟩ =>
  thn (ho pins s2 σ H2 x y v u _ I2 r1 r2 q2) fun d s3 ⟨z,H3,I3,r3,k,e,q3⟩=>?_)) hm
 subst e
 cases r3
 refine wpAny_truthy_bool ?_
 cases k with
 | false=>exact ite_ff ⟨.bl false,H3,I3,rfl,q3⟩
 | true=>exact ite_tt (chain_last (thn (hc pins s3 σ H3 _ I3 q3) fun w' s4 ⟨z',H4,I4,r4,q4⟩=>ho' pins s4 σ H4 y z' u w' Q I4 r2 r4 q4))
theorem pt_chain {op op':CmpOp} {r r':R2} (ho:OpR X (compareOp op) r) (ho':OpR X (compareOp op') r') (ha:PE X a ta) (hb:PE X b tb) (hc:PE X c tc)
  (hm:lastMarks [op,op'] [b,c]=false:=by with_unfolding_all rfl):PT X (.Compare a [op,op'] [b,c] pos) (tTest (tChain r r' ta tb tc)):=by
 intro pins s σ H Q I h
 refine isTrue_chain (thn (ha pins s σ H _ I h) fun v s1 ⟨x,H1,I1,r1,q1⟩=>test_link (thn (hb pins s1 σ H1 _ I1 q1) fun u s2 ⟨y,H2,I2,r2,q2⟩ =>
  thn (ho pins s2 σ H2 x y v u _ I2 r1 r2 q2) fun d s3 ⟨z,H3,I3,r3,k,e,q3⟩=>?_)) hm
 subst e
 cases r3
 refine wpAny_truthy_bool ?_
 cases k with
 | false =>
  obtain ⟨k',e',q'⟩:=q3
  cases e'
  exact ite_ff ⟨H3,I3,q'⟩
 | true =>
  refine ite_tt (test_last (thn (hc pins s3 σ H3 _ I3 q3) fun w' s4 ⟨z',H4,I4,r4,q4⟩=>thn (ho' pins s4 σ H4 y z' u w' _ I4 r2 r4 q4) fun d' s5 ⟨z2,H5,I5,r5,k2,e2,q5⟩=>?_))
  subst e2
  cases r5
  exact wpAny_truthy_bool ⟨H5,I5,q5⟩


theorem line63:(sizeLine:Nat) < 2 ^ 63:=by rw[sizeLine_eq];decide


theorem vals1 {x:V} {us:List Value} (r:Vals [x] us):∃ u,us=[u]/\RelV x u:=by
 cases r with
 | cons r1 r2=>cases r2;exact ⟨_,rfl,r1⟩
theorem vals2 {x y:V} {us:List Value} (r:Vals [x,y] us):∃ u w',us=[u,w']/\RelV x u/\RelV y w':=by
 cases r with
 | cons r1 r2 =>
  cases r2 with
  | cons r3 r4=>cases r4;exact ⟨_,_,rfl,r1,r3⟩
theorem call_str_int:CallR X (.type "str") (fun xs H Q=>∃ i,xs=[.int i]/\i.natAbs.log2 < 1920/\Q (.str (toString i)) H):=by
 intro pins s σ H xs us Q I r h
 obtain ⟨i,rfl,hz,q⟩:=h
 obtain ⟨u,rfl,t,rfl⟩:=vals1 r
 exact PySem.P.str_of_int hz ⟨.str _,H,I.tok _,⟨_,rfl⟩,q⟩
end
end L2

namespace L2
open PySem PySem.Spec PyProof.Rows


structure ObjM (h:Heap) (x dx C:Addr) (mA:Str->Option Value):Prop where
 obj:h.get? x=some (PySem.W.instObj C dx)
 ns:h.Ns1 dx mA
 ne:dx≠x

theorem lookIn_ns {h:Heap} {dx:Addr} {mA:Str->Option Value} (n:h.Ns1 dx mA):∃ od,h.get? dx=some od/\∀ name,PySem.W.lookIn name od=some (mA name):=by
 obtain ⟨o,es,ep,ho,hd,hk,_,hm⟩:=n
 refine ⟨o,ho,fun name=>?_⟩
 have e:=hm name
 unfold nsFind findBy at e
 rw[<- Array.find?_toList]at e
 unfold PySem.W.lookIn
 rw[hd]
 dsimp only
 split
 ·rename_i y q
  rw[q]at e
  exact congrArg some e
 ·rename_i q
  rw[q]at e
  have a:es.toList.any (·.refKey)=false:=by
   rw[List.any_eq_false]
   intro y hy
   obtain ⟨z,t,hkey⟩:=hk y (Array.mem_toList_iff.mp hy)
   simp [DictEntry.refKey,hkey]
  have a':¬ es.toList.any (·.refKey)=true:=by rw[a];exact Bool.false_ne_true
  rw[if_neg a']
  exact congrArg some e

theorem ObjM.look {h:Heap} {x dx C:Addr} {mA:Str->Option Value} (I:ObjM h x dx C mA):∃ od,PySem.W.InstAt h x (PySem.W.instObj C dx) C (some od)/\∀ name,PySem.W.lookIn name od=some (mA name) :=
 let ⟨od,ho,hl⟩:=lookIn_ns I.ns
 ⟨od,⟨I.obj,rfl,rfl,ho⟩,hl⟩

section
variable {prog:Program} {w:World} {A:Around} {E:Value->Shared->Prop} {s:Shared} {K:PySem.W.Frag} {x dx C f:Addr} {mA:Str->Option Value} {name:Str} {v:Value}

theorem get_map {expr:Bool} {Q:Value->Shared->Prop} (X:K.In s.heap) (I:ObjM s.heap x dx C mA) (hg:PySem.W.plainGet K C name=true) (hh:PySem.W.hasDictIn K C=true)
  (ha:PySem.W.findIn K (.ref C) name=some none) (hv:mA name=some v) (hv':PySem.W.handedIn v=true) (h:Q v { s with toks:=s.toks+1 }) :
  wpAny (model prog w) A (getAttr (.ref x) name expr) Q E s:=by
 obtain ⟨od,J,hl⟩:=I.look
 exact PySem.W.get_value X J (PySem.W.plainGet_of hg).1 (PySem.W.findObj_own hh ha rfl (by rw[hl,hv])) hv' h

theorem get_meth {pl:Sem Bool} {Q:Value × List Value->Shared->Prop} (X:K.In s.heap) (I:ObjM s.heap x dx C mA) (hg:PySem.W.plainGet K C name=true)
  (hf:PySem.W.findIn K (.ref C) name=some (some (.ref f))) (ht:PySem.W.isFn K (.ref f)=true) (hv:mA name=none) (h:Q (.ref f,[.ref x]) s) :
  wpAny (model prog w) A (getMethod (.ref x) name pl) Q E s:=by
 obtain ⟨od,J,hl⟩:=I.look
 exact PySem.W.method_fn X J (PySem.W.plainGet_of hg).1 (PySem.W.plainGet_of hg).2 hf (beq_iff_eq.mp ht) (by show (PySem.W.lookIn name od).map (·.isSome)=some false;rw[hl,hv];rfl) h

theorem set_map {ns:List Str} {Q:Unit->Shared->Prop} (X:K.In s.heap) (I:ObjM s.heap x dx C mA)
  (hs:PySem.W.findIn K (.ref C) "__setattr__"=some (some (.builtin "object.__setattr__"))) (hp:PySem.W.plainOver K C=true) (ht:PySem.W.takerIn K C name=some none) (hh:PySem.W.hasDictIn K C=true)
  (hw:PySem.Within mA ns) (hsz:ns.length<=sizeLine)
  (h:∀ h',ObjM h' x dx C (fun y=>if y=name then some v else mA y)->Heap.SameBut dx s.heap h'->Q () { s with heap:=h',toks:=s.toks+2 }) :
  wpAny (model prog w) A (setAttr (.ref x) name v) Q E s:=by
 obtain ⟨od,J,hl⟩:=I.look
 refine PySem.W.set_plain X J hs (PySem.W.osa_open (s:={ s with toks:=s.toks+1 }) (r:=none) X J hp ht fun b=>?_)
 obtain ⟨cd,hc,hd'⟩:=PySem.W.any_some hh
 have hx:s.heap.get? x=some ⟨.ref C,some dx,.plain,#[]⟩:=I.obj
 refine wpAny_bind (wpAny_pure (wpAny_bind (wpAny_bind (wpAny_loadPart hx (wpAny_bind (PySem.W.Looks.here (s:={ s with toks:=s.toks+1 }) (PySem.W.looks_clsIn X hc) ?_))))))
 rw[hd']
 refine wpAny_pure (a:=some dx) (wpAny_bind (wpAny_pure (wpAny_bind ?_)))
 refine wpAny_nsSet1 (s:={ s with toks:=s.toks+1 }) I.ns fun h' hn2 hs2=>?_
 obtain ⟨oD,esD,epD,hoD,hdD,hcD⟩:=hn2.count (PySem.Within.cons name v hw)
 refine wpAny_bind (wpAny_lookBehind hoD (by rw[hdD];exact pastItsLine_dict (Nat.le_trans hcD (by rw[List.length_cons];omega))) ?_)
 exact wpAny_pure (h _ ⟨(hs2.2 _ (Ne.symm I.ne)).trans I.obj,hn2,I.ne⟩ hs2)

theorem make_map {R:Result->Shared->Prop} {vs:List Value} {kw:List (Str × Value)} (X:K.In s.heap) (hm:PySem.W.makesIn K C=true)
  (hi:PySem.W.findIn K (.ref C) "__init__"=some (some (.ref f))) (hf:PySem.W.typeIn K (.ref f)=some (.type "function"))
  (h:codeAny (model prog w) (A.under (.builtin "type.__call__" ⟨.ref C::vs,kw⟩)) (.call (.ref f) ⟨.ref (s.heap.objs.size+1)::vs,kw⟩) (PySem.W.InitBack (s.heap.objs.size+1) R)
   { s with heap:=(s.heap.push PySem.W.emptyDict).push (PySem.W.instObj C s.heap.objs.size) }) :
  codeAny (model prog w) A (.call (.ref C) ⟨vs,kw⟩) R s:=by
 obtain ⟨hh,g,d,t,os⟩:=s
 exact PySem.W.make_core (PySem.W.makes_of X hm) (PySem.W.looks_findIn X hi) (fun self=>PySem.W.bind_fn X self hf) (.inl rfl) h
end


def putF (f:Str) (v:V):List (Str × V)->List (Str × V)
 | []=>[(f,v)]
 | (g,x)::r=>if g=f then (g,v)::r else (g,x)::putF f v r
theorem lookup_putF (f g:Str) (v:V):∀ fs:List (Str × V),(putF f v fs).lookup g=if g=f then some v else fs.lookup g
 | []=>by
  show List.lookup g [(f,v)]=_
  by_cases h:g=f
  ·have hb:(g == f)=true:=beq_iff_eq.mpr h
   simp only[List.lookup,hb,if_pos h]
  ·have hb:(g == f)=false:=beq_eq_false_iff_ne.mpr h
   simp only[List.lookup,hb,if_neg h]
 | (k,x)::r=>by
  have ih:=lookup_putF f g v r
  rw[show putF f v ((k,x)::r)=(if k=f then (k,v)::r else (k,x)::putF f v r) from rfl]
  by_cases hk:k=f
  ·rw[if_pos hk]
   by_cases h:g=k
   ·have hb:(g == k)=true:=beq_iff_eq.mpr h
    simp only[List.lookup,hb,if_pos (h.trans hk)]
   ·have hb:(g == k)=false:=beq_eq_false_iff_ne.mpr h
    simp only[List.lookup,hb,if_neg (fun e:g=f=>h (e.trans hk.symm))]
  ·rw[if_neg hk]
   by_cases h:g=k
   ·have hb:(g == k)=true:=beq_iff_eq.mpr h
    simp only[List.lookup,hb,if_neg (fun e:g=f=>hk (h.symm.trans e))]
   ·have hb:(g == k)=false:=beq_eq_false_iff_ne.mpr h
    simp only[List.lookup,hb]
    exact ih
theorem keys_putF (f:Str) (v:V):∀ fs:List (Str × V),f∈(putF f v fs).map (·.1)/\∀ g,g∈fs.map (·.1)->g∈(putF f v fs).map (·.1)
 | []=>⟨by simp [putF],fun g h=>by simp at h⟩
 | (k,x)::r=>by
  obtain ⟨i1,i2⟩:=keys_putF f v r
  rw[show putF f v ((k,x)::r)=(if k=f then (k,v)::r else (k,x)::putF f v r) from rfl]
  by_cases hk:k=f
  ·rw[if_pos hk]
   subst hk
   exact ⟨by simp,fun g h=>by simpa using h⟩
  ·rw[if_neg hk]
   refine ⟨?_,fun g h=>?_⟩
   ·rw[List.map_cons]
    exact List.mem_cons_of_mem _ i1
   ·rw[List.map_cons]at h ⊢
    rcases List.mem_cons.mp h with e | e
    ·exact List.mem_cons.mpr (.inl e)
    ·exact List.mem_cons_of_mem _ (i2 g e)
theorem length_putF (f:Str) (v:V):∀ fs:List (Str × V),(putF f v fs).length<=fs.length+1
 | []=>by simp [putF]
 | (k,x)::r=>by
  have ih:=length_putF f v r
  rw[show putF f v ((k,x)::r)=(if k=f then (k,v)::r else (k,x)::putF f v r) from rfl]
  by_cases hk:k=f
  ·rw[if_pos hk,List.length_cons,List.length_cons];omega
  ·rw[if_neg hk,List.length_cons,List.length_cons];omega

theorem RelO.some_of {v:V} {o:Option Value} (r:RelO (some v) o):∃ u,o=some u/\RelV v u:=by
 cases o with
 | none=>exact (show False from r).elim
 | some u=>exact ⟨u,rfl,r⟩
theorem RelO.none_of {o:Option Value} (r:RelO none o):o=none:=by
 cases o with
 | none=>rfl
 | some u=>exact (show False from r).elim
theorem handed_of {v:V} {u:Value} (r:RelV v u):PySem.W.handedIn u=true:=by
 cases v with
 | non=>cases (show u=Value.none from r);rfl
 | bl b=>cases (show u=Value.bool b from r);rfl
 | int i=>obtain ⟨t,e⟩:=(show ∃ t,u=Value.int i t from r);cases e;rfl
 | str x=>obtain ⟨t,e⟩:=(show ∃ t,u=Value.str x t from r);cases e;rfl
 | byt b=>obtain ⟨t,e⟩:=(show ∃ t,u=Value.bytes b t from r);cases e;rfl
 | flt b=>obtain ⟨t,e⟩:=(show ∃ t,u=Value.float b t from r);cases e;rfl
 | ref a=>cases (show u=Value.ref a from r);rfl
 | ty n=>cases (show u=Value.type n from r);rfl

section
variable {P:Program} {w:World} {H H':Hp} {h h':Heap} {a C dx:Addr} {fs fs':List (Str × V)}
theorem ins_get (hok:HOk P w H h) (e:H a=some (.ins C dx fs)):∃ mA,ObjM h a dx C mA/\(∀ f,RelO (fs.lookup f) (mA f))/\PySem.Within mA (fs.map (·.1))/\fs.length<=1000/\H dx=some (.own a):=by
 obtain ⟨d,z,ne,ob,mA,n,r,q⟩:=(show ObjOk P w H h a (.ins C dx fs) from hok a _ e)
 exact ⟨mA,⟨ob,n,ne⟩,r,q,z,d⟩
end


structure Cls (K:PySem.W.Frag) (C:Addr):Prop where
 pg:PySem.W.plainGet K C Str.empty=true
 hd:PySem.W.hasDictIn K C=true
 po:PySem.W.plainOver K C=true
 sa:PySem.W.findIn K (.ref C) "__setattr__"=some (some (.builtin "object.__setattr__"))
theorem Cls.get {K:PySem.W.Frag} {C:Addr} (c:Cls K C) (f:Str):PySem.W.plainGet K C f=true:=c.pg
def NoAttr (K:PySem.W.Frag) (C:Addr) (f:Str):Prop:=PySem.W.findIn K (.ref C) f=some none
theorem NoAttr.taker {K:PySem.W.Frag} {C:Addr} {f:Str} (n:NoAttr K C f):PySem.W.takerIn K C f=some none:=by
 unfold PySem.W.takerIn
 rw[show PySem.W.findIn K (.ref C) f=some none from n]
 rfl
structure Con (K:PySem.W.Frag) (C:Addr) (f:Str) (v:V) (u:Value):Prop where
 at_:PySem.W.findIn K (.ref C) f=some (some u)
 rel:RelV v u
 get:PySem.W.specialIn K u "__get__"=some none
 cp:PySem.W.copiedNames.contains f=false
structure Meth (K:PySem.W.Frag) (C:Addr) (m:Str) (f:Addr):Prop where
 at_:PySem.W.findIn K (.ref C) m=some (some (.ref f))
 fn:PySem.W.isFn K (.ref f)=true
 kp:PySem.W.keepIn K (.ref f)=true

section
variable {X:Cx} {pins:List (Addr × Obj)} {σ:St} {H:Hp} {s:Shared} {a C dx:Addr} {fs:List (Str × V)} {f:Str} {v:V} {A:Around} {E:Value->Shared->Prop}

theorem getattr_ok {b:Bool} {Q:Value->Shared->Prop} (I:Inv X pins σ H s) (e:H a=some (.ins C dx fs)) (c:Cls X.K C) (n:NoAttr X.K C f) (l:fs.lookup f=some v)
  (h:∀ u s',Inv X pins σ H s'->RelV v u->Q u s'):wpAny (model X.prog X.w) A (getAttr (.ref a) f b) Q E s:=by
 obtain ⟨mA,O,r,_,_,_⟩:=ins_get I.hok e
 obtain ⟨u,hu,ru⟩:=RelO.some_of (v:=v) (o:=mA f) (by rw[<- l];exact r f)
 exact get_map I.kIn O (c.get f) c.hd n hu (handed_of ru) (h u _ (I.tok _) ru)

theorem getmeth_ok {m:Str} {g:Addr} {pl:Sem Bool} {Q:Value × List Value->Shared->Prop} (I:Inv X pins σ H s) (e:H a=some (.ins C dx fs)) (c:Cls X.K C) (k:Meth X.K C m g) (l:fs.lookup m=none)
  (h:Q (.ref g,[.ref a]) s):wpAny (model X.prog X.w) A (getMethod (.ref a) m pl) Q E s:=by
 obtain ⟨mA,O,r,_,_,_⟩:=ins_get I.hok e
 have hn:mA m=none:=RelO.none_of (by rw[<- l];exact r m)
 exact get_meth I.kIn O (c.get m) k.at_ k.fn hn h

theorem setattr_ok {y:V} {u:Value} {Q:Unit->Shared->Prop} (I:Inv X pins σ H s) (e:H a=some (.ins C dx fs)) (c:Cls X.K C) (n:NoAttr X.K C f) (hl:fs.length < 1000) (ry:RelV y u)
  (h:∀ s',Inv X pins σ (upd H a (.ins C dx (putF f y fs))) s'->Q () s'):wpAny (model X.prog X.w) A (setAttr (.ref a) f u) Q E s:=by
 obtain ⟨mA,O,r,wi,_,ho⟩:=ins_get I.hok e
 have hz:(fs.map (·.1)).length<=sizeLine:=by rw[List.length_map,sizeLine_eq];omega
 refine set_map I.kIn O c.sa c.po n.taker c.hd wi hz fun h' O' sb=>h _ ?_
 have hd:∃ o,h'.get? dx=some o:=let ⟨o,_,_,e',_⟩:=O'.ns;⟨o,e'⟩
 refine I.write (x:=a) (e:=dx) (by rw[e];exact True.intro) (.inr ho) (fun b q hb z=>(sb.2 b hb).trans z) hd ?_
 refine ⟨by rw[zA8 O.ne];exact ho,?_,O.ne,O'.obj,_,O'.ns,fun g=>?_,fun g hg=>?_⟩
 ·have:=length_putF f y fs;omega
 ·show RelO ((putF f y fs).lookup g) (if g=f then some u else mA g)
  rw[lookup_putF]
  by_cases q:g=f
  ·rw[if_pos q,if_pos q];exact ry
  ·rw[if_neg q,if_neg q];exact r g
 ·by_cases q:g=f
  ·rw[q];exact (keys_putF f y fs).1
  ·refine (keys_putF f y fs).2 g (wi g fun z=>hg ?_)
   show (if g=f then some u else mA g)=none
   rw[if_neg q];exact z

theorem Inv.made (I:Inv X pins σ H s):Inv X pins σ (upd (upd H s.heap.objs.size (.own (s.heap.objs.size+1))) (s.heap.objs.size+1) (.ins C s.heap.objs.size []))
  { s with heap:=(s.heap.push PySem.W.emptyDict).push (PySem.W.instObj C s.heap.objs.size) }:=by
 have e1:(s.heap.push PySem.W.emptyDict).get? s.heap.objs.size=some PySem.W.emptyDict:=Heap.get?_push_size s.heap rfl
 have e2:((s.heap.push PySem.W.emptyDict).push (PySem.W.instObj C s.heap.objs.size)).get? (s.heap.objs.size+1)=some (PySem.W.instObj C s.heap.objs.size):=by
  have:=Heap.get?_push_size (s.heap.push PySem.W.emptyDict) (o:=PySem.W.instObj C s.heap.objs.size) rfl
  rwa [Heap.size_push]at this
 have e3:(s.heap.push PySem.W.emptyDict).Ns s.heap.objs.size (fun _=>none):=⟨PySem.W.emptyDict,#[],_,e1,rfl,(fun e he=>absurd he (by simp)),fun _=>rfl⟩
 have I1:=I.laid (a:=s.heap.objs.size) (o:=.own (s.heap.objs.size+1)) (h':=s.heap.push PySem.W.emptyDict) (t':=s.toks) (fun b u q=>Heap.get?_push_of_some _ q) (Nat.le_refl _) ⟨_,e1⟩
 refine I1.laid (a:=s.heap.objs.size+1) (o:=.ins C s.heap.objs.size []) (t':=s.toks) (fun b u q=>Heap.get?_push_of_some _ q) (Nat.le_of_eq (Heap.size_push _ _)) ?_
 have ne:s.heap.objs.size≠s.heap.objs.size+1:=Nat.ne_of_lt (Nat.lt_succ_self _)
 refine ⟨by rw[zA8 ne,zA2],Nat.zero_le _,ne,e2,fun _=>none,(Heap.Ns1.of_empty e3).at fun o q=>Heap.get?_push_of_some _ q,fun _=>True.intro,fun y hy=>absurd rfl hy⟩

theorem attr_of {prog:Program} {w:World} {env:Env} {e:Expr} {f:Str} {pos:Pos} {s:Shared} {Q:Value->Shared->Prop} (hb:attributeBase e f env (eval e env)=eval e env)
  (h:wpAny (model prog w) A (eval e env) (fun o s₁=>wpAny (model prog w) A (getAttr o f true) Q E s₁) E s):wpAny (model prog w) A (eval (.Attribute e f pos) env) Q E s :=
 Attribute_any_ h (by rw[arm_eval_Attribute,hb])
end


section
variable {X:Cx} {o e value:Expr} {f:Str} {pos pos' tpos:Pos} {ta tv:TE}
end


section
variable {X:Cx} {pins:List (Addr × Obj)} {σ:St} {H:Hp} {s:Shared} {A:Around} {E:Value->Shared->Prop} {Q:Value->Shared->Prop} {c:Value} {b:Bool}
inductive TyOf (K:PySem.W.Frag) (H:Hp):V->Value->Prop where
 | non:TyOf K H .non (.type "NoneType")
 | bl (x:Bool):TyOf K H (.bl x) (.type "bool")
 | int (i:Int):TyOf K H (.int i) (.type "int")
 | str (x:Str):TyOf K H (.str x) (.type "str")
 | flt (x:UInt64):TyOf K H (.flt x) (.type "float")
 | lst {a:Addr} {xs:List V} (e:H a=some (.lst xs)):TyOf K H (.ref a) (.type "list")
 | frz {a:Addr} {o:Obj} {xs:List V} (e:H a=some (.frz o (.lst xs))):TyOf K H (.ref a) (.type "list")
 | tup {a:Addr} {xs:List V} (e:H a=some (.tup xs)):TyOf K H (.ref a) (.type "tuple")
 | dK {a:Addr} {kvs:List (Key × V)} (e:H a=some (.dK kvs)):TyOf K H (.ref a) (.type "dict")
 | dT {a:Addr} {kvs:List (List Key × V)} (e:H a=some (.dT kvs)):TyOf K H (.ref a) (.type "dict")
 | ins {a C dx:Addr} {fs:List (Str × V)} (e:H a=some (.ins C dx fs)) (cl:Cls K C) (ha:PySem.W.findIn K (.ref C) "__class__"=some (some (.builtin "object.__class__")))
   (hn:PySem.W.specialIn K (.builtin "object.__class__") "__get__"=some (some (.builtin "getset_descriptor.__get__"))) (htk:PySem.W.takesIn K (.builtin "object.__class__")=some true)
   (hm:PySem.W.mroIn K C (.type "object")=some true):TyOf K H (.ref a) (.ref C)
end
end L2

namespace L2
open PySem PySem.Spec PyProof.Rows


structure Room (k:Nat) (A:Around):Prop where
 hd:A.handled=none
 dp:A.depth+3*k+5 < recursionLimit
 un:A.units+16*k+200 < cLine
theorem Room.mono {j k:Nat} {A:Around} (r:Room k A) (h:j<=k):Room j A:=⟨r.hd,by have:=r.dp;omega,by have:=r.un;omega⟩
theorem Room.deeper {k:Nat} {A:Around} (r:Room (k+1) A) (env:Env):Room k (A.deeper env) :=
 ⟨r.hd,by have:=r.dp;show A.depth+1+3*k+5 < _;omega,by have:=r.un;show A.units+3+16*k+200 < _;omega⟩
theorem make_depth {A:Around} {C:Addr} {us:List Value} {kw:List (Str × Value)}:(A.under (.builtin "type.__call__" ⟨.ref C::us,kw⟩)).depth=A.depth+1:=by
 first | rfl | simp [Around.under,Code.weight,Code.isCreation,Code.isGuard,Code.isCaller,Code.frames,Code.isFrame,guardIds]
theorem make_units {A:Around} {C:Addr} {us:List Value} {kw:List (Str × Value)}:(A.under (.builtin "type.__call__" ⟨.ref C::us,kw⟩)).units=A.units+1:=by
 first | rfl | simp [Around.under,Code.cUnits,Code.frames,Code.isFrame]
theorem Room.make {k:Nat} {A:Around} (r:Room (k+1) A) (C:Addr) (us:List Value) (kw:List (Str × Value)):Room k (A.under (.builtin "type.__call__" ⟨.ref C::us,kw⟩)) :=
 ⟨r.hd,by have:=r.dp;rw[make_depth];omega,by have:=r.un;rw[make_units];omega⟩
theorem Room.depth {k:Nat} {A:Around} (r:Room k A):A.depth < recursionLimit:=by have:=r.dp;omega
theorem Room.units {k:Nat} {A:Around} (r:Room k A):A.units+64 < cLine:=by have:=r.un;omega
theorem Room.units0 {k:Nat} {A:Around} (r:Room k A):A.units < cLine:=by have:=r.un;omega


def tNil:TA:=fun _ H Q=>Q [] H
def tCons (ta:TE) (tr:TA):TA:=fun σ H Q=>ta σ H fun x H1=>tr σ H1 fun xs H2=>Q (x::xs) H2
section
variable {X:Cx} {e:Expr} {es:List Expr} {te:TE} {t:TA} {pos:Pos}
theorem zA1:PA X [] tNil:=fun _ _ _ _ H Q I h=>Calls.spliced_nil ⟨[],H,I,.nil,h⟩
theorem zA0 (ha:PE X e te) (hr:PA X es t) (hs:starEach (e::es) X.env=(false,eval e X.env)::starEach es X.env:=by rfl):PA X (e::es) (tCons te t):=by
 intro pos pins s σ H Q I h
 rw[hs]
 show wpAny _ _ (spliced ((false,eval e X.env)::backTo pos (starEach es X.env))) _ _ s
 refine Calls.spliced_cons (thn (ha pins s σ H _ I h) fun u s1 ⟨x,H1,I1,r1,q1⟩=>?_)
 exact thn (hr pos pins s1 σ H1 _ I1 q1) fun us s2 ⟨xs,H2,I2,r2,q2⟩=>⟨x::xs,H2,I2,.cons r1 r2,q2⟩

def tTup (t:TA):TE:=fun σ H Q=>t σ H fun xs H1=>xs.length<=sizeLine/\∀ p,H1 p=none->Q (.ref p) (upd H1 p (.tup xs))
def tLst (t:TA):TE:=fun σ H Q=>t σ H fun xs H1=>xs.length<=sizeLine/\∀ p,H1 p=none->Q (.ref p) (upd H1 p (.lst xs))
theorem pe_tup {x1} (h:PA X es t):PE X (.Tuple es x1 pos) (tTup t):=by
 intro pins s σ H Q I hq
 refine wpAny_Tuple_spliced (thn (h pos pins s σ H _ I hq) fun us s1 ⟨xs,H1,I1,r,z,q⟩=>⟨by rw[<- r.length];exact z,?_⟩)
 have hf:H1 s1.heap.objs.size=none:=I1.hok.fresh (Nat.le_refl _)
 refine ⟨.ref s1.heap.objs.size,upd H1 s1.heap.objs.size (.tup xs),I1.laid (t':=s1.toks) (fun b u e=>Heap.get?_push_of_some _ e) (Nat.le_refl _) ?_,rfl,q _ hf⟩
 exact ⟨z,us,r,⟨_,Heap.get?_push_size _ rfl,rfl,_,rfl⟩,_,Heap.get?_push_size _ rfl,rfl⟩
theorem zCu (h:PA X es t):PE X (.List es pos) (tLst t):=by
 intro pins s σ H Q I hq
 refine wpAny_List_spliced (thn (h pos pins s σ H _ I hq) fun us s1 ⟨xs,H1,I1,r,z,q⟩=>⟨by rw[<- r.length];exact z,?_⟩)
 have hf:H1 s1.heap.objs.size=none:=I1.hok.fresh (Nat.le_refl _)
 refine ⟨.ref s1.heap.objs.size,upd H1 s1.heap.objs.size (.lst xs),I1.laid (t':=s1.toks) (fun b u e=>Heap.get?_push_of_some _ e) (Nat.le_refl _) ?_,rfl,q _ hf⟩
 exact ⟨z,us,0,r,Heap.get?_push_size _ rfl⟩
end


abbrev Sp:=List V->Hp->VK->XK->Prop
abbrev CXT:=List Env->Hp->Shared->XK->Value->Shared->Prop

structure Env0 (P:Program) (w:World) (K:PySem.W.Frag) (mg:Str->Option Value) (base:Heap) (A:Around) (outer:List Env) (s:Shared) (H:Hp):Prop where
 frames:A.frames=some outer
 mod:Mod K mg base
 bs:∀ b o,base.get? b=some o->s.heap.get? b=some o/\H b=none
 bsz:base.objs.size<=s.heap.objs.size
 funs:s.heap.FunFrames base outer
 frf:∀ b∈frs outer,H b=none
 hok:HOk P w H s.heap
 bare:AllBare s.gens
def CE (outer:List Env) (P:Program) (w:World) (H:Hp) (s:Shared) (Q:VK) (u:Value) (s':Shared):Prop :=
 ∃ v H',s'.os=s.os/\AllBare s'.gens/\Un (frs outer) [] H H' s.heap s'.heap/\HOk P w H' s'.heap/\RelV v u/\Q v H'
def CR (CX:CXT) (outer:List Env) (P:Program) (w:World) (H:Hp) (s:Shared) (Q:VK) (E:XK) (r:Result) (s':Shared):Prop :=
 match r with
 | .ok (.ret u)=>CE outer P w H s Q u s'
 | .ok _=>False
 | .error e=>CX outer H s E e s'
structure FnOk (P:Program) (w:World) (K:PySem.W.Frag) (mg:Str->Option Value) (base:Heap) (CX:CXT) (k:Nat) (f:Addr) (fd:FuncData) (ps:List Str) (sp:Sp):Prop where
 len:∀ vs H Q E,sp vs H Q E->vs.length=ps.length
 run:∀ (A:Around) (outer:List Env) (s:Shared) (H:Hp) (args:Args) (us:List Value) (vs:List V) (Q:VK) (E:XK),Room k A->Env0 P w K mg base A outer s H->BindsTo s fd args (ps.zip us)->Vals vs us->sp vs H Q E ->
  codeAny (model P w) A (.call (.ref f) args) (CR CX outer P w H s Q E) s
theorem FnOk.imp {P:Program} {w:World} {K:PySem.W.Frag} {mg:Str->Option Value} {base:Heap} {CX:CXT} {k:Nat} {f:Addr} {fd:FuncData} {ps:List Str} {sp sp':Sp} (F:FnOk P w K mg base CX k f fd ps sp)
  (h:∀ vs H Q E,sp' vs H Q E->sp vs H Q E):FnOk P w K mg base CX k f fd ps sp' :=
 ⟨fun vs H Q E q=>F.len vs H Q E (h _ _ _ _ q),fun A outer s H args us vs Q E hr he hb hv hs=>F.run A outer s H args us vs Q E hr he hb hv (h _ _ _ _ hs)⟩

theorem Env0.make {P:Program} {w:World} {K:PySem.W.Frag} {mg:Str->Option Value} {base:Heap} {A:Around} {outer:List Env} {s:Shared} {H:Hp} (e:Env0 P w K mg base A outer s H) (C:Addr) (us:List Value) (kw:List (Str × Value)) :
  Env0 P w K mg base (A.under (.builtin "type.__call__" ⟨.ref C::us,kw⟩)) outer s H:=⟨by first | exact e.frames | (simpa [Around.under,Code.envs,Code.isFrame,pushEnvs] using e.frames),e.mod,e.bs,e.bsz,e.funs,e.frf,e.hok,e.bare⟩
section
variable {X:Cx} {pins:List (Addr × Obj)} {σ:St} {H:Hp} {s s':Shared}
theorem Inv.env0 (I:Inv X pins σ H s):Env0 X.prog X.w X.K X.mg X.base X.A X.stack s H :=
 ⟨I.ok.frames,I.ok.mod,I.bs,Nat.le_trans I.ok.bsz I.sz,I.stack,I.stkFree,I.hok,I.bare⟩
theorem Inv.after {Q:VK} {u:Value} (I:Inv X pins σ H s) (h:CE X.stack X.prog X.w H s Q u s'):EP X pins σ Q u s':=by
 obtain ⟨v,H',os,bare,un,hok,r,q⟩:=h
 obtain ⟨hh,g,d,t,os'⟩:=s'
 obtain rfl:os'=s.os:=os
 exact ⟨v,H',I.call (h':=hh) (g':=g) (d':=d) (t':=t) (ch:=[]) un hok bare (fun b z=>absurd z (by simp)),r,q⟩
end


def tCall (sp:Sp) (dvs:List V) (E:XK) (t:TA):TE:=fun σ H Q=>t σ H fun vs H1=>sp (vs++dvs) H1 Q E
def Binds (K:PySem.W.Frag) (fd:FuncData) (ps:List Str) (ds:List Value):Prop :=
 ∀ (s:Shared) (us:List Value),K.In s.heap->(us++ds).length=ps.length->BindsTo s fd ⟨us,[]⟩ (ps.zip (us++ds))
theorem Binds.all {K:PySem.W.Frag} {fd:FuncData} {ps:List Str} (h:∀ us:List Value,us.length=ps.length->bindArgs fd ⟨us,[]⟩=pure (ps.zip us)):Binds K fd ps []:=fun s us _ hl=>by
 rw[List.append_nil]at hl ⊢
 exact .of_eq (h us hl)

def Passes (CX:CXT) (X:Cx) (E:XK):Prop:=∀ (pins:List (Addr × Obj)) (σ:St) (H:Hp) (s:Shared) (e:Value) (s':Shared),Inv X pins σ H s->CX X.stack H s E e s'->X.xe e s'

section
variable {X:Cx} {CX:CXT} {k:Nat} {f C:Addr} {fd:FuncData} {ps:List Str} {sp:Sp} {dvs:List V} {ds:List Value} {E:XK} {x m:Str} {p pos apos:Pos} {e o:Expr} {es:List Expr} {ta:TE} {t:TA}

theorem run_fn {pins:List (Addr × Obj)} {σ:St} {H:Hp} {s:Shared} {Q:VK} {us:List Value} {vs:List V} (F:FnOk X.prog X.w X.K X.mg X.base CX k f fd ps sp) (hr:Room k X.A) (hb:Binds X.K fd ps ds) (hd:Vals dvs ds) (hx:Passes CX X E)
  (I:Inv X pins σ H s) (r:Vals vs us) (h:sp (vs++dvs) H Q E):wpAny (model X.prog X.w) X.A (call (.ref f) us) (EP X pins σ Q) X.xe s:=by
 have r2:Vals (vs++dvs) (us++ds):=r.append hd
 have hl:(us++ds).length=ps.length:=by rw[<- r2.length];exact F.len _ _ _ _ h
 refine wpAny_call (codeAny_mono (F.run X.A X.stack s H ⟨us,[]⟩ (us++ds) (vs++dvs) Q E hr I.env0 (hb s us I.kIn hl) r2 h) fun r s' hq=>?_)
 cases r with
 | error e=>exact hx pins σ H s e s' I hq
 | ok fl =>
  cases fl with
  | ret u=>exact I.after hq
  | next=>exact False.elim hq
  | brk=>exact False.elim hq
  | cont=>exact False.elim hq

theorem zAc (F:FnOk X.prog X.w X.K X.mg X.base CX k f fd ps sp) (hr:Room k X.A) (hg:Gl X x) (hm:X.mg x=some (.ref f)) (hk:PySem.W.keepIn X.K (.ref f)=true) (hb:Binds X.K fd ps ds) (hd:Vals dvs ds) (hx:Passes CX X E)
  (ha:PA X (e::es) t) (hdb:(x == ("__debug__":Str))=false:=by decide) (he:starEach (e::es) X.env=(false,eval e X.env)::starEach es X.env:=by rfl) (hpl:(backTo pos (starEach es X.env)).any (·.1)=false:=by rfl) :
  PE X (.Call (.Name x p) (e::es) [] pos) (tCall sp dvs E t):=by
 intro pins s σ H Q I h
 refine wpAny_Call_Name_kw (ld_glob I hg hm ?_ hdb)
 refine PySem.W.callWith_K (h₀:=X.base) I.ok.mod.kin hk (thn (ha pos pins s σ H _ I h) fun us s1 ⟨vs,H1,I1,r,q⟩=>⟨I1.kIn,?_⟩) he hpl
 exact run_fn F hr hb hd hx I1 r q
theorem pe_call0 (F:FnOk X.prog X.w X.K X.mg X.base CX k f fd ps sp) (hr:Room k X.A) (hg:Gl X x) (hm:X.mg x=some (.ref f)) (hk:PySem.W.keepIn X.K (.ref f)=true) (hb:Binds X.K fd ps ds) (hd:Vals dvs ds) (hx:Passes CX X E)
  (hdb:(x == ("__debug__":Str))=false:=by decide):PE X (.Call (.Name x p) [] [] pos) (tCall sp dvs E tNil):=by
 intro pins s σ H Q I h
 refine wpAny_Call_Name_kw (ld_glob I hg hm ?_ hdb)
 exact PySem.W.callWith_K0 I.kIn hk (run_fn (us:=[]) F hr hb hd hx I .nil h)

structure Mk (K:PySem.W.Frag) (C f:Addr):Prop where
 makes:PySem.W.makesIn K C=true
 init:PySem.W.findIn K (.ref C) "__init__"=some (some (.ref f))
 fn:PySem.W.isFn K (.ref f)=true
 kp:PySem.W.keepIn K (.ref C)=true

theorem run_make {pins:List (Addr × Obj)} {σ:St} {H:Hp} {s:Shared} {Q:VK} {us:List Value} {vs:List V} (M:Mk X.K C f) (F:FnOk X.prog X.w X.K X.mg X.base CX k f fd ps sp) (hr:Room (k+1) X.A) (hb:Binds X.K fd ps ds) (hd:Vals dvs ds)
  (hx:Passes CX X E) (I:Inv X pins σ H s) (r:Vals vs us)
  (h:∀ x dx,H x=none->H dx=none->dx≠x->sp (.ref x::(vs++dvs)) (upd (upd H dx (.own x)) x (.ins C dx [])) (fun v H2=>v=.non/\Q (.ref x) H2) E) :
  wpAny (model X.prog X.w) X.A (call (.ref C) us) (EP X pins σ Q) X.xe s:=by
 have hq:=h (s.heap.objs.size+1) s.heap.objs.size (I.hok.fresh (Nat.le_succ _)) (I.hok.fresh (Nat.le_refl _)) (Nat.ne_of_lt (Nat.lt_succ_self _))
 have I2:=Inv.made (C:=C) I
 have r2:Vals (V.ref (s.heap.objs.size+1)::(vs++dvs)) (Value.ref (s.heap.objs.size+1)::(us++ds)):=.cons rfl (r.append hd)
 have hl:(Value.ref (s.heap.objs.size+1)::us++ds).length=ps.length:=by
  have e:=r2.length
  rw[F.len _ _ _ _ hq]at e
  exact e.symm
 refine wpAny_call (make_map (f:=f) I.kIn M.makes M.init (beq_iff_eq.mp M.fn) (codeAny_mono (F.run _ X.stack _ _ ⟨Value.ref (s.heap.objs.size+1)::us,[]⟩ (Value.ref (s.heap.objs.size+1)::(us++ds)) _ _ E (hr.make C us [])
  (I2.env0.make C us []) (hb _ (Value.ref (s.heap.objs.size+1)::us) I2.kIn hl) r2 hq) fun r s' hq'=>?_))
 cases r with
 | error e=>exact hx pins σ _ _ e s' I2 hq'
 | ok fl =>
  cases fl with
  | ret u =>
   obtain ⟨v,H',I3,rv,ev,q3⟩:=I2.after hq'
   subst ev
   exact ⟨rv,⟨V.ref (s.heap.objs.size+1),H',I3,rfl,q3⟩⟩
  | next=>exact False.elim hq'
  | brk=>exact False.elim hq'
  | cont=>exact False.elim hq'
end


section
variable {X:Cx} {CX:CXT} {k:Nat} {f C:Addr} {fd:FuncData} {ps ks:List Str} {sp:Sp} {E:XK} {x m:Str} {p pos apos kpos:Pos} {e o:Expr} {es:List Expr} {kws:List Keyword} {te ta:TE} {t tk:TA} {nm:Option Str}
structure KBinds (K:PySem.W.Frag) (fd:FuncData) (ps ks:List Str) (g:List Value->List Value->List Value) (gV:List V->List V->List V):Prop where
 to:∀ (s:Shared) (us ws:List Value),K.In s.heap->(g us ws).length=ps.length->BindsTo s fd ⟨us,ks.zip ws⟩ (ps.zip (g us ws))
 rel:∀ {vs:List V} {us:List Value} {zs:List V} {ws:List Value},Vals vs us->Vals zs ws->Vals (gV vs zs) (g us ws)
variable {g:List Value->List Value->List Value} {gV:List V->List V->List V}
end


structure FnScope (N P:List Str) (sc:Scope):Prop where
 kind:sc.kind=.function
 co:sc.isCoroutine=false
 gen:sc.isGenerator=false
 nd:N.Nodup
 pre:N.take P.length=P
 par:∀ x∈P,sc.names.lookup x=some .local\/sc.names.lookup x=some .cell
 nofree:∀ y∈sc.names,y.2≠.free

theorem bindL_out {kindOf:Str->Option NameKind} {x:Str}:∀ {binds:List (Str × Value)} {m:Str->Option Value},(∀ v,(x,v)∉binds)->bindL kindOf binds m x=m x
 | [],_,_=>rfl
 | (n,v)::r,m,h=>by
  unfold bindL
  rw[bindL_out fun w hw=>h w (List.mem_cons_of_mem _ hw)]
  split
  ·have:x≠n:=by rintro rfl;exact h v List.mem_cons_self
   simp [this]
  ·rfl
theorem bindC_out {kindOf:Str->Option NameKind} {x:Str}:∀ {binds:List (Str × Value)} {m:Str->Option Value},(∀ v,(x,v)∉binds)->bindC kindOf binds m x=m x
 | [],_,_=>rfl
 | (n,v)::r,m,h=>by
  unfold bindC
  rw[bindC_out fun w hw=>h w (List.mem_cons_of_mem _ hw)]
  split
  ·rfl
  ·have:x≠n:=by rintro rfl;exact h v List.mem_cons_self
   simp [this]
theorem bindL_get {kindOf:Str->Option NameKind} {x:Str} {v:Value}:∀ {P:List Str} {vs:List Value} {i:Nat} {m:Str->Option Value},P.Nodup->P[i]?=some x->vs[i]?=some v->kindOf x=some .local ->
  bindL kindOf (P.zip vs) m x=some v
 | [],_,_,_,_,h,_,_=>by simp at h
 | _::_,[],_,_,_,_,h,_=>by simp at h
 | p::P,w::vs,0,m,nd,h1,h2,hk=>by
  simp at h1 h2;subst h1;subst h2
  show bindL kindOf ((p,w)::P.zip vs) m p=_
  unfold bindL
  rw[bindL_out fun v hv=>(List.nodup_cons.mp nd).1 (List.of_mem_zip hv).1,if_pos hk]
  simp
 | p::P,w::vs,i+1,m,nd,h1,h2,hk=>by
  show bindL kindOf ((p,w)::P.zip vs) m x=_
  unfold bindL
  exact bindL_get (i:=i) (List.nodup_cons.mp nd).2 (by simpa using h1) (by simpa using h2) hk
theorem bindC_get {kindOf:Str->Option NameKind} {x:Str} {v:Value}:∀ {P:List Str} {vs:List Value} {i:Nat} {m:Str->Option Value},P.Nodup->P[i]?=some x->vs[i]?=some v->kindOf x≠some .local ->
  bindC kindOf (P.zip vs) m x=some v
 | [],_,_,_,_,h,_,_=>by simp at h
 | _::_,[],_,_,_,_,h,_=>by simp at h
 | p::P,w::vs,0,m,nd,h1,h2,hk=>by
  simp at h1 h2;subst h1;subst h2
  show bindC kindOf ((p,w)::P.zip vs) m p=_
  unfold bindC
  rw[bindC_out fun v hv=>(List.nodup_cons.mp nd).1 (List.of_mem_zip hv).1,if_neg hk]
  simp
 | p::P,w::vs,i+1,m,nd,h1,h2,hk=>by
  show bindC kindOf ((p,w)::P.zip vs) m x=_
  unfold bindC
  exact bindC_get (i:=i) (List.nodup_cons.mp nd).2 (by simpa using h1) (by simpa using h2) hk

def start (N:List Str) (vs:List V):St:=vs.map some++List.replicate (N.length-vs.length) none

def cxOf (CX:CXT) (P:Program) (w:World) (K:PySem.W.Frag) (mg:Str->Option Value) (base:Heap) (N:List Str) (qual:Str) (scope:Scope) (f:Addr) (cd:Value) (A:Around) (outer:List Env) (s:Shared) (H:Hp) (E:XK):Cx where
 prog:=P
 w:=w
 K:=K
 mg:=mg
 base:=base
 A:=A.deeper (envOfC qual scope s.heap.objs.size f cd)
 N:=N
 s₀:=s
 H₀:=H
 env:=envOfC qual scope s.heap.objs.size f cd
 outer:=outer
 stack:=envOfC qual scope s.heap.objs.size f cd::outer
 ex:=[]
 calm:=true
 fn:=fun _=>true
 pn:=[]
 xe:=fun e s'=>wpAny (model P w) (A.deeper (envOfC qual scope s.heap.objs.size f cd)) (leaving (envOfC qual scope s.heap.objs.size f cd) e) (fun _ s''=>CX outer H s E e s'') (fun e' s''=>CX outer H s E e' s'') s'

theorem cell_has {sc:Scope} {n:Nat} {x:Str} (h:sc.names.lookup x=some .cell):∃ c,(cellsFrom n sc.names []).lookup x=some c:=by
 have q:=PySem.W.cellsFrom_some sc.names n [] (.inl h)
 exact Option.isSome_iff_exists.mp q

theorem inv_start {CX:CXT} {P:Program} {w:World} {K:PySem.W.Frag} {mg:Str->Option Value} {base:Heap} {N ps:List Str} {qual:Str} {scope:Scope} {f:Addr} {cd:Value} {A:Around} {outer:List Env} {s s1:Shared} {H:Hp} {E:XK} {us:List Value} {vs:List V}
  (S:FnScope N ps scope) (hd:A.handled=none) (e0:Env0 P w K mg base A outer s H) (hl:vs.length=ps.length) (r:Vals vs us)
  (x:InCallC s s.heap.objs.size (bindL (envOfC qual scope s.heap.objs.size f cd).kindOf (ps.zip us) fun _=>none) (cellsFrom (s.heap.objs.size+1) scope.names []) (bindC (envOfC qual scope s.heap.objs.size f cd).kindOf (ps.zip us) fun _=>none) s1) :
  Inv (cxOf CX P w K mg base N qual scope f cd A outer s H E) [] (start N vs) H s1:=by
 have hpl:ps.length<=N.length:=by have:=congrArg List.length S.pre;rw[List.length_take]at this;omega
 obtain ⟨h1,tk,rfl,hk⟩:=x.done
 have noA:∀ b:Addr,b∉(cxOf CX P w K mg base N qual scope f cd A outer s H E).ex:=fun b z=>absurd (show b∈([]:List Addr) from z) (by simp)
 refine ⟨⟨e0.mod,S.kind,rfl,rfl,Nat.le_refl _,fun y z c h1 h2=>?_,fun y hy=>?_,fun y c _ h=>?_,fun _=>hd,Around.frames_deeper e0.frames,.inr ⟨rfl,rfl⟩,fun b z=>absurd z (noA b),e0.bs,e0.bsz,fun b _ _=>noA b,fun b z=>absurd z (noA b),e0.funs,e0.frf⟩,
  rfl,e0.bare,Un.kept hk,⟨_,x.toInCall.ns,fun i y v h1 h2 h3=>?_⟩,fun y c h=>⟨_,x.cell y c h⟩,e0.hok.fresh (Nat.le_refl _),fun y c h=>?_,fun p hp=>absurd (show p∈([]:List (Addr × Obj)) from hp) (by simp),e0.hok.kept hk,?_⟩
 ·exact name_of_addr x.apart (PySem.mem_of_lookup h1) (PySem.mem_of_lookup h2)
 ·have hy:scope.names.lookup y=some .cell\/scope.names.lookup y=some .free:=hy
  rcases hy with hy | hy
  ·exact cell_has hy
  ·exact absurd rfl (S.nofree _ (PySem.mem_of_lookup hy))
 ·exact Nat.le_of_lt (x.above y c (PySem.mem_of_lookup h))
 ·have hi:i < vs.length:=by
   unfold start at h2
   by_cases hi:i < vs.length
   ·exact hi
   ·rw[List.getElem?_append_right (by simpa using hi)]at h2
    rw[List.getElem?_replicate]at h2
    split at h2 <;> cases h2
  have ha:vs[i]?=some v:=by
   unfold start at h2
   rw[List.getElem?_append_left (by simpa using hi),List.getElem?_map]at h2
   cases e:vs[i]? with
   | none=>rw[e]at h2;cases h2
   | some a=>rw[e]at h2;cases h2;rfl
  obtain ⟨u,hu,rv⟩:=r.get ha
  have hp:ps[i]?=some y:=by
   rw[<- S.pre,List.getElem?_take_of_lt (by omega)];exact h1
  have ndP:ps.Nodup:=by rw[<- S.pre];exact S.nd.sublist (List.take_sublist _ _)
  refine ⟨u,rv,?_⟩
  rcases S.par y (List.mem_of_getElem? hp) with k | k
  ·exact .inl ⟨k,bindL_get ndP hp hu k⟩
  ·obtain ⟨c,e⟩:=cell_has (n:=s.heap.objs.size+1) k
   refine .inr ⟨.inl k,c,e,?_⟩
   have q:=x.cell y c e
   rw[bindC_get ndP hp hu (by show scope.names.lookup y≠_;rw[k];decide)]at q
   exact q
 ·exact e0.hok.fresh (Nat.le_of_lt (x.above y c (PySem.mem_of_lookup h)))
 ·unfold start
  show _=N.length
  rw[List.length_append,List.length_map,List.length_replicate]
  omega

theorem fn_of {CX:CXT} {P:Program} {w:World} {K:PySem.W.Frag} {mg:Str->Option Value} {base:Heap} {k:Nat} {f:Addr} {name qual:Str} {params:Arguments} {body:List Stmt} {scope:Scope} {dV kV doc pm cdv ct oc:Value} {an od:Option Addr}
  {osl:Array (Option Value)} {N ps:List Str} {sp:Sp} (lk:K.lookup f=some ⟨oc,od,.func (PySem.W.fnOf name qual params body scope dV kV doc pm an cdv ct),osl⟩) (hcd:PySem.W.codeIn K cdv qual=true) (S:FnScope N ps scope)
  (len:∀ vs H Q E,sp vs H Q E->vs.length=ps.length)
  (hbody:∀ (A:Around) (outer:List Env) (s:Shared) (H:Hp) (vs:List V) (Q:VK) (E:XK),Room k (A.deeper (envOfC qual scope s.heap.objs.size f cdv))->sp vs H Q E ->
   ∃ t,PSs (cxOf CX P w K mg base N qual scope f cdv A outer s H E) body t/\t { nx:=fun _ H'=>Q .non H',rt:=Q } (start N vs) H) :
  FnOk P w K mg base CX (k+1) f (PySem.W.fnOf name qual params body scope dV kV doc pm an cdv ct) ps sp:=by
 refine ⟨len,fun A outer s H args us vs Q E hr e0 hb r hsp=>?_⟩
 have hl:=len _ _ _ _ hsp
 have KX:K.In s.heap:=e0.mod.kin.keeps fun b o e=>(e0.bs b o e).1
 have lim:s.heap.NoLimit:=e0.mod.nolimit.keeps fun b o e=>(e0.bs b o e).1
 have hkind:∀ y∈ps.zip us,scope.names.lookup y.1=some .local\/(scope.names.lookup y.1=some .cell/\((cellsFrom (s.heap.objs.size+1) scope.names []).lookup y.1).isSome=true):=fun ⟨n,v⟩ hy=>by
  rcases S.par n (List.of_mem_zip hy).1 with q | q
  ·exact .inl q
  ·exact .inr ⟨q,PySem.W.cellsFrom_some _ _ _ (.inl q)⟩
 refine codeAny_call_function hr.depth (KX _ _ lk) rfl S.co S.gen rfl (PySem.W.codeRec_of KX hcd) (hb _ _ _ _ ?_)
 refine wpAny_newFunctionEnv_cells S.kind hkind fun env he s1 x=>?_
 subst he
 refine ⟨lim.keeps x.toInCall.keep,codeAny_func ?_⟩
 obtain ⟨t,ht,hq⟩:=hbody A outer s H vs Q E (hr.deeper _) hsp
 have I:Inv (cxOf CX P w K mg base N qual scope f cdv A outer s H E) [] (start N vs) H s1:=inv_start S hr.hd e0 hl r x
 refine wpAny_mono (ht [] s1 (start N vs) H _ I hq) (fun fl s' hs=>?_) fun e s' hs=>hs
 have fin:∀ {σ':St} {H':Hp} {v:V} {u:Value},Inv (cxOf CX P w K mg base N qual scope f cdv A outer s H E) [] σ' H' s'->RelV v u->Q v H'->CE outer P w H s Q u s' :=
  fun {σ' H' v u} J rv q=>⟨v,H',J.os,J.bare,J.base,J.hok,rv,q⟩
 cases fl with
 | ret u =>
  obtain ⟨v,σ',H',J,rv,q⟩:=hs
  exact fin J rv q
 | next =>
  obtain ⟨σ',H',J,q⟩:=hs
  exact fin (v:=V.non) (u:=Value.none) J rfl q
 | brk =>
  obtain ⟨_,_,_,q⟩:=hs
  exact False.elim q
 | cont =>
  obtain ⟨_,_,_,q⟩:=hs
  exact False.elim q
end L2

namespace L2
open PySem PySem.Spec PyProof.Rows
section
variable {X:Cx} {x:Str} {p pos:Pos} {e:Expr} {es:List Expr} {t:TA} {id T:String} {r:List V->Hp->VK->Prop}

def tCB (r:List V->Hp->VK->Prop) (t:TA):TE:=fun σ H Q=>t σ H fun vs H1=>r vs H1 Q
theorem zAn (hc:CallR X (.builtin id) r) (hg:Gl X x) (hm:X.mg x=none) (hv:bootBuiltins x=some (.builtin id)) (ha:PA X (e::es) t) (hn:x≠"__name__":=by decide) (hdb:(x == ("__debug__":Str))=false:=by decide)
  (he:starEach (e::es) X.env=(false,eval e X.env)::starEach es X.env:=by rfl) (hpl:(backTo pos (starEach es X.env)).any (·.1)=false:=by rfl):PE X (.Call (.Name x p) (e::es) [] pos) (tCB r t):=by
 intro pins s σ H Q I h
 refine wpAny_Call_Name_kw (ld_blt I hg hm hv ?_ hn hdb)
 exact PyProof.Rows.callWith_builtin1 (thn (ha pos pins s σ H _ I h) fun us s1 ⟨vs,H1,I1,r1,q1⟩=>hc pins s1 σ H1 vs us Q I1 r1 q1) he hpl
theorem zAo (hc:CallR X (.type T) r) (hg:Gl X x) (hm:X.mg x=none) (hv:bootBuiltins x=some (.type T)) (ha:PA X (e::es) t) (hn:x≠"__name__":=by decide) (hdb:(x == ("__debug__":Str))=false:=by decide)
  (he:starEach (e::es) X.env=(false,eval e X.env)::starEach es X.env:=by rfl) (hpl:(backTo pos (starEach es X.env)).any (·.1)=false:=by rfl):PE X (.Call (.Name x p) (e::es) [] pos) (tCB r t):=by
 intro pins s σ H Q I h
 refine wpAny_Call_Name_kw (ld_blt I hg hm hv ?_ hn hdb)
 exact PyProof.Rows.callWith_type1 (thn (ha pos pins s σ H _ I h) fun us s1 ⟨vs,H1,I1,r1,q1⟩=>hc pins s1 σ H1 vs us Q I1 r1 q1) he hpl
end
end L2

namespace HT
open PySem PyProof.Rows

section
open PySem.SeqAt
open PySem.AutoSeq1 (wpAny_loadPart')
open PySem.MeetsSeq PySem.MeetsSeq2 PySem.MeetsSeq3

end

section
variable {prog:Program} {w:World} {A:Around} {E:Value->Shared->Prop} {s:Shared}


def sIx (n d:Nat):Option Int->Nat
 | none=>d
 | some v=>if v < 0 then (v+(n:Int)).toNat else min v.toNat n
end
end HT

namespace L2
open PySem PySem.Spec PyProof.Rows


abbrev TO:=St->Hp->(Option Int->Hp->Prop)->Prop
def PO (X:Cx) (e:Option Expr) (t:TO):Prop :=
 ∀ (pins:List (Addr × Obj)) (s:Shared) (σ:St) (H:Hp) (Q:Option Int->Hp->Prop),Inv X pins σ H s->t σ H Q ->
  wpAny (model X.prog X.w) X.A (evalPart e X.env) (fun u s'=>∃ o H',Inv X pins σ H' s'/\IsPart u o/\Q o H') X.xe s
def tNoPart:TO:=fun _ H Q=>Q none H
def tPart (t:TE):TO:=fun σ H Q=>t σ H fun x H1=>∃ i,x=.int i/\Q (some i) H1

theorem intsAre_of {ns:List Int}:∀ {us:List Value},Vals (ns.map V.int) us->IntsAre us ns:=by
 induction ns with
 | nil=>intro us r;rw[List.map_nil]at r;cases r;exact .nil
 | cons n ns ih =>
  intro us r
  rw[List.map_cons]at r
  cases r with
  | cons r1 r2 =>
   obtain ⟨t,e⟩:=r1
   subst e
   exact .cons n t (ih r2)

section
variable {X:Cx} {e:Expr} {te:TE} {lo hi:Option Expr} {tl th:TO} {pos p2:Pos}

theorem po_some (h:PE X e te):PO X (some e) (tPart te):=by
 intro pins s σ H Q I hw
 rw[evalPart_some]
 refine thn (h pins s σ H _ I hw) fun u s1 ⟨x,H1,I1,r1,q1⟩=>?_
 obtain ⟨i,rfl,q⟩:=q1
 obtain ⟨t,rfl⟩:=r1
 exact ⟨some i,H1,I1,.int i t,q⟩

def SlR (X:Cx) (r:V->Option Int->Option Int->Hp->VK->Prop):Prop :=
 ∀ (pins:List (Addr × Obj)) (s:Shared) (σ:St) (H:Hp) (x:V) (v vl vu:Value) (lo hi:Option Int) (sl:Addr) (Q:VK),Inv X pins σ H s->RelV x v->s.heap.IsSliceOf sl vl vu .none->IsPart vl lo->IsPart vu hi->r x lo hi H Q ->
  ∃ T id,typeLookup (.type T) "__getitem__"=pure (some (.builtin id))/\s.TypeIs v T/\wpAny (model X.prog X.w) X.A (getItem v (.ref sl)) (EP X pins σ Q) X.xe s
def tSl (r:V->Option Int->Option Int->Hp->VK->Prop) (te:TE) (tl th:TO):TE:=fun σ H Q=>te σ H fun x H1=>tl σ H1 fun l H2=>th σ H2 fun u H3=>r x l u H3 Q
theorem pe_slice {r:V->Option Int->Option Int->Hp->VK->Prop} (hr:SlR X r) (he:PE X e te) (hl:PO X lo tl) (hu:PO X hi th):PE X (.Subscript e (.Slice lo hi none p2) pos) (tSl r te tl th):=by
 intro pins s σ H Q I h
 refine Subscript_ (thn (he pins s σ H _ I h) fun v s1 ⟨x,H1,I1,r1,q1⟩=>?_)
 refine wpAny_Slice (thn (hl pins s1 σ H1 _ I1 q1) fun vl s2 ⟨l,H2,I2,pl,q2⟩=>thn (hu pins s2 σ H2 _ I2 q2) fun vu s3 ⟨u,H3,I3,pu,q3⟩=>?_)
 rw[evalPart_none]
 refine wpAny_pure ?_
 have I4:Inv X pins σ H3 { s3 with heap:=s3.heap.push { cls:=.type "slice",data:=.fields #[vl,vu,.none] } }:=I3.kept (t':=s3.toks) fun b ob q=>Heap.get?_push_of_some _ q
 obtain ⟨T,id,hT,ht,hg⟩:=hr pins { s3 with heap:=s3.heap.push { cls:=.type "slice",data:=.fields #[vl,vu,.none] } } σ H3 x v vl vu l u s3.heap.objs.size Q I4 r1 (Heap.IsSliceOf.new ..) pl pu q3
 show wpAny (model X.prog X.w) X.A (subscriptTail e (.Slice lo hi none p2) v (.ref s3.heap.objs.size)) (EP X pins σ Q) X.xe { s3 with heap:=s3.heap.push { cls:=.type "slice",data:=.fields #[vl,vu,.none] } }
 exact tail_any (ops:=[.ref s3.heap.objs.size,v]) ht hT hg (by with_unfolding_all rfl)

def cutV (xs:List V) (lo hi:Option Int):List V:=(xs.drop (HT.sIx xs.length 0 lo)).take (HT.sIx xs.length xs.length hi-HT.sIx xs.length 0 lo)
theorem cutV_length (xs:List V) (lo hi:Option Int):(cutV xs lo hi).length<=xs.length:=by
 unfold cutV
 rw[List.length_take,List.length_drop]
 omega
def rSlT (K:PySem.W.Frag):V->Option Int->Option Int->Hp->VK->Prop:=fun x lo hi H Q=>∃ a xs,x=.ref a/\SqT K H a xs /\
 ¬ (HT.sIx xs.length 0 lo=0/\HT.sIx xs.length xs.length hi=xs.length)/\∀ p,H p=none->Q (.ref p) (upd H p (.tup (cutV xs lo hi)))

end
end L2

namespace L2
open PySem PySem.Spec PyProof.Rows


def ixN (n:Nat) (i:Int):Option Nat:=if 0<=i then (if i < n then some i.toNat else none) else if -(n:Int)<=i then some (i+n).toNat else none
def atI {α:Type} (xs:List α) (i:Int):Option α:=(ixN xs.length i).bind fun j=>xs[j]?
theorem ixN_seq {n:Nat} {i:Int} {j:Nat} (h:ixN n i=some j):seqIndex? i n=some j/\j < n/\-(n:Int)<=i/\i < n:=by
 unfold ixN at h
 by_cases h0:0<=i
 ·rw[if_pos h0]at h
  by_cases h1:i < n
  ·rw[if_pos h1]at h
   have e:i.toNat=j:=Option.some.inj h
   exact ⟨by rw[seqIndex_of h0 h1,e],by omega,by omega,h1⟩
  ·rw[if_neg h1]at h;cases h
 ·rw[if_neg h0]at h
  by_cases h1:-(n:Int)<=i
  ·rw[if_pos h1]at h
   have e:(i+n).toNat=j:=Option.some.inj h
   exact ⟨by rw[seqIndex_neg (by omega) h1,e],by omega,h1,by omega⟩
  ·rw[if_neg h1]at h;cases h
theorem atI_get {α:Type} {xs:List α} {i:Int} {v:α} (h:atI xs i=some v):∃ j,seqIndex? i xs.length=some j/\xs[j]?=some v/\j < xs.length/\-(xs.length:Int)<=i/\i < xs.length:=by
 unfold atI at h
 cases e:ixN xs.length i with
 | none=>rw[e]at h;cases h
 | some j =>
  rw[e]at h
  obtain ⟨h1,h2,h3,h4⟩:=ixN_seq e
  exact ⟨j,h1,h,h2,h3,h4⟩
theorem zAs {α:Type} {xs:List α} {j:Nat} {v:α} (h:xs[j]?=some v):atI xs (j:Int)=some v:=by
 have hj:j < xs.length:=(List.getElem?_eq_some_iff.mp h).1
 have e:ixN xs.length (j:Int)=some j:=by
  unfold ixN
  rw[if_pos (by omega),if_pos (by omega)];simp
 unfold atI;rw[e];exact h
theorem atI_last {α:Type} (xs:List α) (v:α):atI (xs++[v]) (-1)=some v:=by
 have hl:(xs++[v]).length=xs.length+1:=by simp
 have e:ixN (xs++[v]).length (-1)=some xs.length:=by
  unfold ixN
  rw[hl,if_neg (by decide),if_pos (by omega)]
  congr 1
  omega
 unfold atI
 rw[e]
 show (xs++[v])[xs.length]?=some v
 simp


def PlainIx (b:Expr):Prop:=∀ o i,subscripted b false o i=operate [o,i] (getItem o i)
def IxR (X:Cx) (r:R2):Prop :=
 ∀ (value slice:Expr) (pins:List (Addr × Obj)) (s:Shared) (σ:St) (H:Hp) (x y:V) (v u:Value) (Q:VK),Inv X pins σ H s->RelV x v->RelV y u->r x y H Q ->
  subscripted slice false v u=operate [v,u] (getItem v u)->wpAny (model X.prog X.w) X.A (subscriptTail value slice v u) (EP X pins σ Q) X.xe s
def MtR (X:Cx) (id:String) (r:V->List V->Hp->VK->Prop):Prop :=
 ∀ (pins:List (Addr × Obj)) (s:Shared) (σ:St) (H:Hp) (x:V) (xs:List V) (v:Value) (us:List Value) (Q:VK),Inv X pins σ H s->RelV x v->Vals xs us->r x xs H Q ->
  wpAny (model X.prog X.w) X.A (call (.builtin id) (v::us)) (EP X pins σ Q) X.xe s
section
variable {X:Cx} {a b:Expr} {ta tb:TE} {pos:Pos}
theorem pe_ix {r:R2} (hr:IxR X r) (ha:PE X a ta) (hb:PE X b tb) (hs:PlainIx b):PE X (.Subscript a b pos) (tOp r ta tb):=by
 intro pins s σ H Q I h
 exact Subscript_ (binT ha hb I h fun v u s2 x y H2 I2 rx ry q=>hr a b pins s2 σ H2 x y v u Q I2 rx ry q (hs _ _))

def rIxL (K:PySem.W.Frag):R2:=fun x y H Q=>∃ p xs i v,x=.ref p/\y=.int i/\SqL K H p xs/\atI xs i=some v/\Q v H
def rIxT (K:PySem.W.Frag):R2:=fun x y H Q=>∃ p xs i v,x=.ref p/\y=.int i/\SqT K H p xs/\atI xs i=some v/\Q v H
theorem ix_list:IxR X (rIxL X.K):=by
 intro value slice pins s σ H x y v u Q I rx ry h hs
 obtain ⟨p,xs,i,z,rfl,rfl,hq,he,q⟩:=h
 cases rx
 obtain ⟨t,rfl⟩:=ry
 obtain ⟨its,r,pl,hz⟩:=I.list hq
 obtain ⟨j,h1,h2,h3,h4,h5⟩:=atI_get he
 obtain ⟨w,ew,rw'⟩:=r.get h2
 have hl:=r.length
 have hn:=line63
 have fin:EP X pins σ Q w s:=⟨z,H,I,rw',q⟩
 by_cases h0:0<=i
 ·have hj:i.toNat=j:=by
   rw[seqIndex_of h0 h5]at h1
   exact Option.some.inj h1
  exact item_listR pl.isList h0 (by omega) (by rw[hj];simpa using ew) fin hs
 ·have hj:(i+(its.toArray.size:Int)).toNat=j:=by
   rw[seqIndex_neg (by omega) h4]at h1
   rw[List.size_toArray,<- hl]
   exact Option.some.inj h1
  exact subscriptTail_builtinR (x:=w) pl.isList.typeIs slot_list_getitem.lookup
   (wpAny_getItem_list_neg (Q:=fun r s'=>r=w/\EP X pins σ Q r s') pl.isList (by omega) (by rw[List.size_toArray] <;> omega) (by omega) (by rw[hj];simpa using ew) ⟨rfl,fin⟩) hs
theorem ix_tup:IxR X (rIxT X.K):=by
 intro value slice pins s σ H x y v u Q I rx ry h hs
 obtain ⟨p,xs,i,z,rfl,rfl,hq,he,q⟩:=h
 cases rx
 obtain ⟨t,rfl⟩:=ry
 obtain ⟨its,r,pl,hz⟩:=I.tuple hq
 obtain ⟨j,h1,h2,h3,h4,h5⟩:=atI_get he
 obtain ⟨w,ew,rw'⟩:=r.get h2
 have hl:=r.length
 have hn:=line63
 have fin:EP X pins σ Q w s:=⟨z,H,I,rw',q⟩
 exact subscriptTail_builtinR (x:=w) pl.typeIs slot_tuple_getitem.lookup
  (getItem_tuple (j:=j) (Q:=fun r s'=>r=w/\EP X pins σ Q r s') pl (by omega) (by omega) (by rw[List.size_toArray,<- hl];exact h1) (by simpa using ew) ⟨rfl,fin⟩) hs

theorem mapSeq_set (its:List Value) (n j:Nat) (u:Value):Obj.mapSeq (·.setIfInBounds j u) { cls:=.type "list",data:=.seq its.toArray n }={ cls:=.type "list",data:=.seq (its.set j u).toArray n }:=by
 simp [Obj.mapSeq]
theorem Inv.lst {pins:List (Addr × Obj)} {σ:St} {H:Hp} {s:Shared} {p:Addr} {xs:List V} (I:Inv X pins σ H s) (h:H p=some (.lst xs)) :
  ∃ (its:List Value) (n:Nat),Vals xs its/\s.heap.get? p=some { cls:=.type "list",data:=.seq its.toArray n }/\xs.length<=sizeLine:=by
 obtain ⟨z,its,n,r,e⟩:=I.hok p _ h
 exact ⟨its,n,r,e,z⟩
theorem Inv.lstUpd {pins:List (Addr × Obj)} {σ:St} {H:Hp} {s:Shared} {p:Addr} {xs ys:List V} {its its':List Value} {n n':Nat} {f:Obj->Obj} (I:Inv X pins σ H s) (h:H p=some (.lst xs))
  (ho:s.heap.get? p=some { cls:=.type "list",data:=.seq its.toArray n }) (hf:f { cls:=.type "list",data:=.seq its.toArray n }={ cls:=.type "list",data:=.seq its'.toArray n' }) (r:Vals ys its') (hz:ys.length<=sizeLine) (t:Nat) :
  Inv X pins σ (upd H p (.lst ys)) { s with heap:=s.heap.update p f,toks:=t }:=by
 have e:(s.heap.update p f).get? p=some { cls:=.type "list",data:=.seq its'.toArray n' }:=by
  rw[Heap.get?_update_self f ho (by rw[hf] <;> rfl),hf]
 refine I.write (x:=p) (e:=p) (by rw[h];trivial) (.inl rfl) (fun b u hb q=>(Heap.get?_update_other _ _ (Ne.symm hb)).trans q) ⟨_,e⟩ ?_
 exact ⟨hz,its',n',r,e⟩
def rSetL:V->V->V->Hp->(Hp->Prop)->Prop:=fun o i v H Q=>∃ p xs k j,o=.ref p/\i=.int k/\H p=some (.lst xs)/\ixN xs.length k=some j/\Q (upd H p (.lst (xs.set j v)))
theorem set_list:PSet X rSetL:=by
 intro pins s σ H o i v ov iv u Q I ro ri rv h
 obtain ⟨p,xs,k,j,rfl,rfl,hp,hj,q⟩:=h
 cases ro
 obtain ⟨t,rfl⟩:=ri
 obtain ⟨its,n,r,ho,hz⟩:=I.lst hp
 obtain ⟨h1,h2,h3,h4⟩:=ixN_seq hj
 have hl:=r.length
 have hn:=line63
 have I':Inv X pins σ (upd H p (.lst (xs.set j v))) { s with heap:=s.heap.update p (Obj.mapSeq (·.setIfInBounds j u)) } :=
  I.lstUpd hp ho (mapSeq_set its n j u) (r.set rv j) (by rw[List.length_set];exact hz) s.toks
 by_cases h0:0<=k
 ·have hk:k.toNat=j:=by
   rw[seqIndex_of h0 h4]at h1
   exact Option.some.inj h1
  exact PySem.W.ki_setAt ho h0 (by omega) (by rw[List.size_toArray,<- hl];exact h4) (by rw[hk];exact ⟨_,I',q⟩)
 ·have hk:(k+(its.toArray.size:Int)).toNat=j:=by
   rw[seqIndex_neg (by omega) h3]at h1
   rw[List.size_toArray,<- hl]
   exact Option.some.inj h1
  exact PySem.W.ki_setBack ho (by omega) (by rw[List.size_toArray,<- hl];exact h3) (by omega) (by rw[hk];exact ⟨_,I',q⟩)


theorem slice_bounds (lo hi:Option Int) (n:Nat):(sliceBounds lo hi none n).1=((HT.sIx n 0 lo:Nat):Int)/\(sliceBounds lo hi none n).2.1=((HT.sIx n n hi:Nat):Int)/\(sliceBounds lo hi none n).2.2=1:=by
 refine ⟨?_,?_,rfl⟩
 ·cases lo with
  | none=>simp [sliceBounds,HT.sIx]
  | some i =>
   simp only[sliceBounds,HT.sIx,Option.getD_none,show (1:Int) > 0 by decide,if_true]
   by_cases h:i < 0
   ·simp only[h,if_true] <;> omega
   ·simp only[h,if_false] <;> omega
 ·cases hi with
  | none=>simp [sliceBounds,HT.sIx]
  | some i =>
   simp only[sliceBounds,HT.sIx,Option.getD_none,show (1:Int) > 0 by decide,if_true]
   by_cases h:i < 0
   ·simp only[h,if_true] <;> omega
   ·simp only[h,if_false] <;> omega
theorem slicePick_cut (its:List Value) (lo hi:Option Int):slicePick its.toArray lo hi none=((its.drop (HT.sIx its.length 0 lo)).take (HT.sIx its.length its.length hi-HT.sIx its.length 0 lo)).toArray:=by
 obtain ⟨h1,h2,h3⟩:=slice_bounds lo hi its.toArray.size
 unfold slicePick
 rw[h1,h2,h3]
 simp only[sliceRange_one,pick_run,List.size_toArray] <;> rfl
def rSlL (K:PySem.W.Frag):V->Option Int->Option Int->Hp->VK->Prop:=fun x lo hi H Q=>∃ a xs,x=.ref a/\SqL K H a xs/\∀ p,H p=none->Q (.ref p) (upd H p (.lst (cutV xs lo hi)))
theorem sl_list:SlR X (rSlL X.K):=by
 intro pins s σ H x v vl vu lo hi sl Q I rx hs pl pu h
 obtain ⟨a,xs,rfl,hx,q⟩:=h
 cases rx
 obtain ⟨its,r,ht,hz⟩:=I.list hx
 have hlen:=r.length
 refine ⟨"list",_,slot_list_getitem.lookup,ht.isList.typeIs,?_⟩
 refine wpAny_getItem_list_slice ht.isList hs pl pu .none (by simp) ?_ (by rw[List.size_toArray] <;> omega)
 rw[slicePick_cut,<- hlen]
 refine ⟨.ref s.heap.objs.size,_,I.laid (t':=s.toks) (o:=.lst (cutV xs lo hi)) (fun b ob q=>Heap.get?_push_of_some _ q) (Nat.le_refl _) ?_,rfl,q _ (I.hok.fresh (Nat.le_refl _))⟩
 exact ⟨Nat.le_trans (cutV_length xs lo hi) hz,_,0,(r.drop (HT.sIx xs.length 0 lo)).take (HT.sIx xs.length xs.length hi-HT.sIx xs.length 0 lo),Heap.get?_push_size _ rfl⟩


def flatV:V->Bool
 | .non=>true
 | .bl _=>true
 | .int _=>true
 | .str _=>true
 | _=>false
def eqV:V->V->Bool
 | .non,.non=>true
 | .bl a,.bl b=>a == b
 | .bl a,.int b=>(if a then 1 else 0) == b
 | .int a,.bl b=>a == (if b then 1 else 0)
 | .int a,.int b=>a == b
 | .str a,.str b=>a == b
 | _,_=>false
theorem eqAt_V {A:Around} {s:Shared} {y x:V} {u v:Value} (ry:RelV y u) (rx:RelV x v) (fy:flatV y=true) (fx:flatV x=true):SeqAt.EqAt A s u v (eqV y x):=by
 cases y with
 | non =>
  cases ry
  cases x with
  | non=>cases rx;exact SeqAt.EqAt.same _
  | bl b=>cases rx;exact SeqAt.EqAt.none_bool b
  | int b=>obtain ⟨t,rfl⟩:=rx;exact SeqAt.EqAt.none_int b t
  | str b=>obtain ⟨t,rfl⟩:=rx;exact SeqAt.EqAt.none_str b t
  | _=>exact absurd (show false=true from fx) Bool.false_ne_true
 | bl a =>
  cases ry
  cases x with
  | non=>cases rx;exact SeqAt.EqAt.bool_none a
  | bl b=>cases rx;exact SeqAt.EqAt.bool_bool a b
  | int b=>obtain ⟨t,rfl⟩:=rx;exact SeqAt.EqAt.bool_int a b t
  | str b=>obtain ⟨t,rfl⟩:=rx;exact SeqAt.EqAt.bool_str a b t
  | _=>exact absurd (show false=true from fx) Bool.false_ne_true
 | int a =>
  obtain ⟨t',rfl⟩:=ry
  cases x with
  | non=>cases rx;exact SeqAt.EqAt.int_none a t'
  | bl b=>cases rx;exact SeqAt.EqAt.int_bool a t' b
  | int b=>obtain ⟨t,rfl⟩:=rx;exact SeqAt.EqAt.int_int a t' b t
  | str b=>obtain ⟨t,rfl⟩:=rx;exact SeqAt.EqAt.int_str a t' b t
  | _=>exact absurd (show false=true from fx) Bool.false_ne_true
 | str a =>
  obtain ⟨t',rfl⟩:=ry
  cases x with
  | non=>cases rx;exact SeqAt.EqAt.str_none a t'
  | bl b=>cases rx;exact SeqAt.EqAt.str_bool a t' b
  | int b=>obtain ⟨t,rfl⟩:=rx;exact SeqAt.EqAt.str_int a t' b t
  | str b=>obtain ⟨t,rfl⟩:=rx;exact SeqAt.EqAt.str_str a t' b t
  | _=>exact absurd (show false=true from fx) Bool.false_ne_true
 | _=>exact absurd (show false=true from fy) Bool.false_ne_true
def eqU (x:V) (u:Value):Bool:=match u with
 | .none=>eqV .non x
 | .bool b=>eqV (.bl b) x
 | .int i _=>eqV (.int i) x
 | .str z _=>eqV (.str z) x
 | _=>false
theorem eqU_of {x y:V} {u:Value} (r:RelV y u) (f:flatV y=true):eqU x u=eqV y x:=by
 cases y with
 | non=>cases r;rfl
 | bl b=>cases r;rfl
 | int i=>obtain ⟨t,rfl⟩:=r;rfl
 | str z=>obtain ⟨t,rfl⟩:=r;rfl
 | _=>exact absurd (show false=true from f) Bool.false_ne_true
theorem any_eqU {x:V}:∀ {xs:List V} {us:List Value},Vals xs us->xs.all flatV=true->us.any (eqU x)=xs.any fun y=>eqV y x
 | _,_,.nil,_=>rfl
 | y::xs,u::us,.cons r t,f=>by
  rw[List.all_cons,Bool.and_eq_true]at f
  rw[List.any_cons,List.any_cons,eqU_of r f.1,any_eqU t f.2]
theorem mem_eqAt {A:Around} {s:Shared} {x:V} {v:Value} (rx:RelV x v) (fx:flatV x=true):∀ {xs:List V} {us:List Value},Vals xs us->xs.all flatV=true->∀ u∈us,SeqAt.EqAt A s u v (eqU x u)
 | _,_,.nil,_=>fun u hu=>by cases hu
 | y::xs,u::us,.cons r t,f=>fun u' hu=>by
  rw[List.all_cons,Bool.and_eq_true]at f
  rcases List.mem_cons.mp hu with rfl | hu
  ·rw[eqU_of r f.1];exact eqAt_V r rx f.1 fx
  ·exact mem_eqAt rx fx t f.2 u' hu
def inV (x:V) (xs:List V):Bool:=xs.any fun y=>eqV y x
def rIn (K:PySem.W.Frag) (neg:Bool):R2:=fun x y H Q=>∃ p xs,y=.ref p/\(SqL K H p xs\/SqT K H p xs)/\flatV x=true/\xs.all flatV=true/\Q (.bl (if neg then !inV x xs else inV x xs)) H
theorem op_notIn_seq:OpR X (compareOp .NotIn) (rIn X.K true):=by
 intro pins s σ H x y v u Q I rx ry h
 obtain ⟨p,xs,rfl,hq,fx,fs,q⟩:=h
 cases ry
 rcases hq with hq | hq
 ·obtain ⟨its,r,pl,hz⟩:=I.list hq
  refine SeqAt.notIn_listAt (eqU x) pl.isList (fun w hw=>mem_eqAt rx fx r fs w (by simpa using hw)) ⟨.bl _,H,I,rfl,?_⟩
  rw[show its.toArray.any (eqU x)=its.any (eqU x) by simp,any_eqU r fs]
  exact q
 ·obtain ⟨its,r,pl,hz⟩:=I.tuple hq
  refine SeqAt.notIn_tupleAt (eqU x) pl (fun w hw=>mem_eqAt rx fx r fs w (by simpa using hw)) ⟨.bl _,H,I,rfl,?_⟩
  rw[show its.toArray.any (eqU x)=its.any (eqU x) by simp,any_eqU r fs]
  exact q

theorem call_len_seq:CallR X (.builtin "len") (fun xs H Q=>∃ p ys,xs=[.ref p]/\(SqL X.K H p ys\/SqT X.K H p ys)/\Q (.int ys.length) H):=by
 intro pins s σ H xs us Q I r h
 obtain ⟨p,ys,rfl,hq,q⟩:=h
 obtain ⟨u,rfl,rx⟩:=vals1 r
 cases rx
 have hn:=line63
 rcases hq with hq | hq
 ·obtain ⟨its,r',pl,hz⟩:=I.list hq
  have hlen:=r'.length
  exact Calls.call_len_list pl.isList (by simp only[List.size_toArray] <;> omega) ⟨.int ys.length,H,I.tok _,⟨s.toks+1,by rw[List.size_toArray,hlen]⟩,q⟩
 ·obtain ⟨its,r',pl,hz⟩:=I.tuple hq
  have hlen:=r'.length
  exact len_tuple pl (by simp only[List.size_toArray] <;> omega) ⟨.int ys.length,H,I.tok _,⟨s.toks+1,by rw[List.size_toArray,hlen]⟩,q⟩
theorem call_list_of:CallR X (.type "list") (fun xs H Q=>∃ p ys,xs=[.ref p]/\(SqL X.K H p ys\/SqT X.K H p ys)/\∀ l,H l=none->Q (.ref l) (upd H l (.lst ys))):=by
 intro pins s σ H xs us Q I r h
 obtain ⟨p,ys,rfl,hq,q⟩:=h
 obtain ⟨u,rfl,rx⟩:=vals1 r
 cases rx
 have fin:∀ (its:List Value),Vals ys its->ys.length<=sizeLine->∀ (h':Heap) (c':Nat),(∀ b o',s.heap.get? b=some o'->h'.get? b=some o') ->
   h'.get? s.heap.objs.size=some { cls:=.type "list",dict:=none,data:=.seq its.toArray c',slots:=#[] }->EP X pins σ Q (.ref s.heap.objs.size) { s with heap:=h' }:=fun its r' hz h' c' kp e =>
  ⟨.ref s.heap.objs.size,_,I.laid (t':=s.toks) kp (Nat.le_refl _) (show ObjOk X.prog X.w _ h' _ (.lst ys) from ⟨hz,its,c',r',e⟩),rfl,q _ (I.hok.fresh (Nat.le_refl _))⟩
 rcases hq with hq | hq
 ·obtain ⟨its,r',pl,hz⟩:=I.list hq
  have hlen:=r'.length
  obtain ⟨o,ho,hc,n,hd⟩:=pl.isList
  exact call_list_seq p (.inl rfl) ho hc hd (fun h' c' kp e=>fin its r' hz h' c' kp e) (by simp only[List.size_toArray] <;> omega)
 ·obtain ⟨its,r',pl,hz⟩:=I.tuple hq
  have hlen:=r'.length
  obtain ⟨o,ho,hc,n,hd⟩:=pl
  exact call_list_seq p (.inr rfl) ho hc hd (fun h' c' kp e=>fin its r' hz h' c' kp e) (by simp only[List.size_toArray] <;> omega)
theorem call_tuple_of:CallR X (.type "tuple") (fun xs H Q=>∃ p ys,xs=[.ref p]/\((SqL X.K H p ys/\∀ l,H l=none->Q (.ref l) (upd H l (.tup ys)))\/(SqT X.K H p ys/\Q (.ref p) H))):=by
 intro pins s σ H xs us Q I r h
 obtain ⟨p,ys,rfl,h⟩:=h
 obtain ⟨u,rfl,rx⟩:=vals1 r
 cases rx
 rcases h with ⟨hq,q⟩ | ⟨hq,q⟩
 ·obtain ⟨its,r',pl,hz⟩:=I.list hq
  have hlen:=r'.length
  refine call_tuple_list pl.isList (fun h' kp=>?_) (by simp only[List.size_toArray] <;> omega)
  have I1:Inv X pins σ H { s with heap:=h' }:=I.kept (t':=s.toks) kp
  have I2:Inv X pins σ (upd H h'.objs.size (.tup ys)) { s with heap:=h'.push { cls:=.type "tuple",data:=.seq its.toArray } } :=
   I1.laid (t':=s.toks) (fun b o e=>Heap.get?_push_of_some _ e) (Nat.le_refl _) (show ObjOk X.prog X.w _ _ _ (.tup ys) from ⟨hz,its,r',IsTq.new _ _⟩)
  exact ⟨.ref h'.objs.size,_,I2,rfl,q _ (I1.hok.fresh (Nat.le_refl _))⟩
 ·obtain ⟨its,r',pl,hz⟩:=I.tuple hq
  exact call_tuple_same pl ⟨.ref p,H,I,rfl,q⟩


def tyV (K:PySem.W.Frag) (T:String) (x:V) (H:Hp):Prop:=match x with
 | .str _=>T="str"
 | .int _=>T="int"
 | .ref p=>(T="list"/\∃ xs,SqL K H p xs)\/(T="tuple"/\∃ o,K.lookup p=some o/\o.cls=.type "tuple"/\o.dict=none) \/
   (T="dict"/\((∃ kvs,H p=some (.dK kvs))\/∃ kvs,H p=some (.dT kvs)))\/(T="set"/\∃ S n,H p=some (.set S n))
 | _=>False
theorem tyV_is {pins:List (Addr × Obj)} {σ:St} {H:Hp} {s:Shared} {T:String} {x:V} {v:Value} (I:Inv X pins σ H s) (r:RelV x v) (ty:tyV X.K T x H) :
  s.TypeIs v T/\∀ a,v=.ref a->∃ ob,s.heap.get? a=some ob/\ob.dict=none:=by
 cases x with
 | str z =>
  obtain ⟨t,rfl⟩:=r
  cases (show T="str" from ty)
  exact ⟨typeIs_str s z t,fun _ e=>nomatch e⟩
 | int i =>
  obtain ⟨t,rfl⟩:=r
  cases (show T="int" from ty)
  exact ⟨typeIs_int s i t,fun _ e=>nomatch e⟩
 | ref p =>
  cases r
  rcases ty with ⟨rfl,xs,hq⟩ | ⟨rfl,o,hk,hc,hd⟩ | ⟨rfl,hk⟩ | ⟨rfl,S,n,hk⟩
  ·obtain ⟨its,_,pl,_⟩:=I.list hq
   refine ⟨pl.isList.typeIs,fun a e=>?_⟩
   cases e
   obtain ⟨o,n,e,c,hd,_⟩:=pl
   exact ⟨o,e,hd⟩
  ·refine ⟨⟨o,I.kIn p o hk,hc⟩,fun a e=>?_⟩
   cases e
   exact ⟨o,I.kIn _ o hk,hd⟩
  ·have z:∃ o,s.heap.get? p=some o/\o.ExactDict:=by
    rcases hk with ⟨kvs,hk⟩ | ⟨kvs,hk⟩
    ·obtain ⟨_,_,_,_,o,_,_,e,ex,_⟩:=I.hok p _ hk
     exact ⟨o,e,ex⟩
    ·obtain ⟨_,_,_,_,o,_,_,e,ex,_⟩:=I.hok p _ hk
     exact ⟨o,e,ex⟩
   obtain ⟨o,e,ex⟩:=z
   refine ⟨⟨o,e,ex.1⟩,fun a e2=>?_⟩
   cases e2
   exact ⟨o,e,ex.2.1⟩
  ·obtain ⟨o,_,_,_,e,ex,_⟩:=I.hok p _ hk
   refine ⟨⟨o,e,ex.1⟩,fun a e2=>?_⟩
   cases e2
   exact ⟨o,e,ex.2.1⟩
 | _=>exact False.elim ty
def tBM0 (K:PySem.W.Frag) (T:String) (r:V->List V->Hp->VK->Prop) (to:TE):TE:=fun σ H Q=>to σ H fun x H1=>tyV K T x H1/\r x [] H1 Q
def tBM (K:PySem.W.Frag) (T:String) (r:V->List V->Hp->VK->Prop) (to:TE) (t:TA):TE:=fun σ H Q=>to σ H fun x H1=>tyV K T x H1/\t σ H1 fun xs H2=>r x xs H2 Q
variable {o e:Expr} {es:List Expr} {to:TE} {t:TA} {name:Str} {apos cpos:Pos} {T id:String} {r:V->List V->Hp->VK->Prop}
theorem pe_bm (pa:PlainAttrs T) (slot:Slot T name id) (hty:typeOf (.builtin id)=pure (.type "method_descriptor")) (hm:MtR X id r) (ho:PE X o to) (ha:PA X (e::es) t)
  (hbase:attributeBase o name X.env (eval o X.env)=eval o X.env:=by rfl)
  (hfew:((backTo cpos (starEach (e::es) X.env)).all (fun x=>!x.1) && (backToKw cpos (keywordEach [] X.env)).all (fun x=>x.1.isSome)
   && decide ((e::es).length+([]:List Keyword).length+(if ([]:List Keyword).isEmpty then 0 else 1) < 30))=true:=by rfl)
  (hline:(apos.endLine == cpos.line)=true:=by rfl) (hs:starEach (e::es) X.env=(false,eval e X.env)::starEach es X.env:=by rfl) (hplain:(backTo cpos (starEach es X.env)).any (·.1)=false:=by rfl) :
  PE X (.Call (.Attribute o name apos) (e::es) [] cpos) (tBM X.K T r to t):=by
 intro pins s σ H Q I h
 refine wpAny_Call_method_late hbase hfew hline rfl (thn (ho pins s σ H _ I h) fun v s1 ⟨x,H1,I1,r1,ty,q1⟩=>?_)
 obtain ⟨h1,h2⟩:=tyV_is I1 r1 ty
 refine ⟨T,id,pa,slot,hty,h1,h2,?_⟩
 have hA:=ha cpos pins s1 σ H1 _ I1 q1
 rw[hs]at hA ⊢
 refine Calls.callWith_builtin (by show (false || (backTo cpos (starEach es X.env)).any (·.1))=false;rw[hplain] <;> rfl) (Calls.evalArgs_plain ?_)
 exact thn hA fun us s2 ⟨vs,H2,I2,r2,q2⟩=>hm pins s2 σ H2 x vs v us Q I2 r1 r2 q2
end
end L2

namespace L2
open PySem PySem.Spec PyProof.Rows

def MtM (X:Cx) (id:String) (r:V->List V->Hp->VK->Prop):Prop :=
 ∀ (pins:List (Addr × Obj)) (s:Shared) (σ:St) (H:Hp) (x:V) (xs:List V) (v:Value) (us:List Value) (Q:VK),Inv X pins σ H s->RelV x v->Vals xs us->r x xs H Q ->
  wpAny (model X.prog X.w) X.A (call (.builtin id) (v::us)) (EP X pins σ Q) X.xe s


theorem Vals.one:∀ {x:V} {us:List Value},Vals [x] us->∃ u,us=[u]/\RelV x u
 | _,_,.cons r .nil=>⟨_,rfl,r⟩
theorem Vals.eraseIdx:∀ {xs:List V} {us:List Value} (i:Nat),Vals xs us->Vals (xs.eraseIdx i) (us.eraseIdx i)
 | _,_,_,.nil=>.nil
 | _,_,0,.cons _ t=>t
 | _,_,i+1,.cons r t=>.cons r (Vals.eraseIdx i t)
theorem len_erase {α:Type}:∀ (l:List α) (i:Nat),(l.eraseIdx i).length<=l.length
 | [],_=>Nat.le_refl _
 | _::_,0=>Nat.le_succ _
 | _::r,i+1=>Nat.succ_le_succ (len_erase r i)
section
variable {X:Cx} {pins:List (Addr × Obj)} {σ:St} {H:Hp} {s:Shared} {l b:Addr} {xs ys zs:List V}


theorem Inv.lset {its its':List Value} {n:Nat} {f:Array Value->Array Value} {t':Nat} (I:Inv X pins σ H s) (hH:H l=some (.lst xs))
  (e:s.heap.get? l=some { cls:=.type "list",data:=.seq its.toArray n }) (hf:f its.toArray=its'.toArray) (hv:Vals ys its') (hz:ys.length<=sizeLine) :
  Inv X pins σ (upd H l (.lst ys)) { s with heap:=s.heap.update l (Obj.mapSeq f),toks:=t' }:=by
 have q:=PySem.IsL.update e f
 rw[hf]at q
 refine I.write (x:=l) (e:=l) (by rw[hH];exact trivial) (.inl rfl) (fun b' u hb hu=>(Heap.get?_update_other s.heap (Obj.mapSeq f) (Ne.symm hb)).trans hu) ⟨_,q⟩ ?_
 exact ⟨hz,its',_,hv,q⟩
theorem Inv.lnew {its:List Value} {t':Nat} (I:Inv X pins σ H s) (hv:Vals ys its) (hz:ys.length<=sizeLine) :
  Inv X pins σ (upd H s.heap.objs.size (.lst ys)) { s with heap:=s.heap.push { cls:=.type "list",data:=.seq its.toArray },toks:=t' } :=
 I.laid (fun _ _ q=>Heap.get?_push_of_some _ q) (Nat.le_refl _) ⟨hz,its,0,hv,Heap.get?_push_size _ rfl⟩
theorem Inv.fresh (I:Inv X pins σ H s):H s.heap.objs.size=none:=I.hok.fresh (Nat.le_refl _)
theorem Inv.lstM (I:Inv X pins σ H s) (hH:H l=some (.lst xs)):xs.length<=sizeLine/\∃ (its:List Value) (n:Nat),Vals xs its/\xs.length=its.length/\s.heap.get? l=some { cls:=.type "list",data:=.seq its.toArray n }:=by
 obtain ⟨z,its,n,r,e⟩:=I.hok l _ hH
 exact ⟨z,its,n,r,r.length,e⟩

theorem notLongL {n:Nat} (h:n<=sizeLine):Builtin.List.listTooLong n=false:=by
 unfold Builtin.List.listTooLong
 exact decide_eq_false (by omega)
end

section
variable {X:Cx}


def rAppend:V->List V->Hp->VK->Prop:=fun x vs H Q=>∃ l xs y,x=.ref l/\vs=[y]/\H l=some (.lst xs)/\xs.length < sizeLine/\Q .non (upd H l (.lst (xs++[y])))
theorem mt_append:MtM X "list.append" rAppend:=by
 intro pins s σ H x vs v us Q I rx rv h
 obtain ⟨l,xs,y,rfl,rfl,hH,hz,q⟩:=h
 cases rx
 obtain ⟨u,rfl,ru⟩:=rv.one
 obtain ⟨z,its,n,r,hl,e⟩:=I.lstM hH
 refine call_meets F.slot_list_append ⟨_,e,rfl⟩ F.entry_list_append (F.args_list_append_2 _ _) (PySem.list_append l its.toArray n u (by rw[List.size_toArray];omega)) ⟨e,?_⟩
 refine ⟨.non,_,I.lset (its':=its++[u]) hH e (by simp) (r.append (.cons ru .nil)) ?_,rfl,q⟩
 rw[List.length_append,List.length_singleton]
 omega

def rExtend:V->List V->Hp->VK->Prop:=fun x vs H Q=>∃ l b xs zs,x=.ref l/\vs=[.ref b]/\H l=some (.lst xs)/\H b=some (.lst zs)/\xs.length+zs.length<=sizeLine/\Q .non (upd H l (.lst (xs++zs)))
theorem mt_extend:MtM X "list.extend" rExtend:=by
 intro pins s σ H x vs v us Q I rx rv h
 obtain ⟨l,b,xs,zs,rfl,rfl,hH,hB,hz,q⟩:=h
 cases rx
 obtain ⟨u,rfl,ru⟩:=rv.one
 cases ru
 obtain ⟨z,its,n,r,hl,e⟩:=I.lstM hH
 obtain ⟨z2,its2,n2,r2,hl2,e2⟩:=I.lstM hB
 have hsz:its.toArray.size+its2.toArray.size<=sizeLine:=by rw[List.size_toArray,List.size_toArray];omega
 have hlong:¬ (!its.toArray.isEmpty && Builtin.List.listTooLong (its.toArray.size+its2.toArray.size))=true:=by
  rw[notLongL hsz,Bool.and_false]
  exact Bool.false_ne_true
 refine call_meets F.slot_list_extend ⟨_,e,rfl⟩ F.entry_list_extend (F.args_list_extend_2 _ _)
  (AutoSeq1.list_extend_list_list_0 l its.toArray n b its2.toArray n2 hlong (by rw[List.size_toArray];omega) (by omega)) ⟨e,e2,?_⟩
 refine ⟨.non,_,I.lset (its':=its++its2) hH e (by simp) (r.append r2) ?_,rfl,q⟩
 rw[List.length_append]
 omega

def rPopAt:V->List V->Hp->VK->Prop:=fun x vs H Q=>∃ l xs i k y,x=.ref l/\vs=[.int i]/\H l=some (.lst xs)/\-(2 ^ 63)<=i/\i < 2 ^ 63/\seqIndex? i xs.length=some k/\xs[k]?=some y/\Q y (upd H l (.lst (xs.eraseIdx k)))
theorem mt_popAt:MtM X "list.pop" rPopAt:=by
 intro pins s σ H x vs v us Q I rx rv h
 obtain ⟨l,xs,i,k,y,rfl,rfl,hH,h1,h2,hk,hy,q⟩:=h
 cases rx
 obtain ⟨u,rfl,ru⟩:=rv.one
 obtain ⟨t,rfl⟩:=ru
 obtain ⟨z,its,n,r,hl,e⟩:=I.lstM hH
 obtain ⟨w,hw,rw'⟩:=r.get hy
 refine call_meets F.slot_list_pop ⟨_,e,rfl⟩ F.entry_list_pop (F.args_list_pop_2 _ _)
  (MeetsSeq.list_pop_at l its.toArray n i t k w (fitsIndex_both h1 h2) (by rw[List.size_toArray,<- hl];exact hk) (by rw[<- Array.getElem?_toList];exact hw) (by rw[List.size_toArray];omega)) ⟨e,?_⟩
 refine ⟨y,_,I.lset (its':=its.eraseIdx k) hH e ?_ (r.eraseIdx k) ?_,rw',q⟩
 ·show its.toArray.eraseIdxIfInBounds k=(its.eraseIdx k).toArray
  rw[List.eraseIdxIfInBounds_toArray]
 ·have:=len_erase xs k
  omega

def rClear:V->List V->Hp->VK->Prop:=fun x vs H Q=>∃ l xs,x=.ref l/\vs=[]/\H l=some (.lst xs)/\Q .non (upd H l (.lst []))

def rCat:R2:=fun x y H Q=>∃ l b xs zs,x=.ref l/\y=.ref b/\H l=some (.lst xs)/\H b=some (.lst zs)/\xs.length+zs.length<=sizeLine/\∀ p,H p=none->Q (.ref p) (upd H p (.lst (xs++zs)))
theorem op_cat:OpR X (binaryOp .Add) rCat:=by
 intro pins s σ H x y v u Q I rx ry h
 obtain ⟨l,b,xs,zs,rfl,rfl,hH,hB,hz,q⟩:=h
 cases rx
 cases ry
 obtain ⟨z,its,n,r,hl,e⟩:=I.lstM hH
 obtain ⟨z2,its2,n2,r2,hl2,e2⟩:=I.lstM hB
 refine PySem.P.add_list e e2 ?_ (by rw[List.size_toArray,List.size_toArray];omega)
 have ea:its.toArray++its2.toArray=(its++its2).toArray:=by simp
 rw[ea]
 exact ⟨.ref _,_,I.lnew (t':=s.toks) (r.append r2) (by rw[List.length_append];omega),rfl,q _ I.fresh⟩
def rRep:R2:=fun x y H Q=>∃ l k xs,x=.ref l/\y=.int k/\H l=some (.lst xs)/\-(2 ^ 63)<=k/\k < 2 ^ 63/\xs.length*k.toNat<=sizeLine /\
 ∀ p,H p=none->Q (.ref p) (upd H p (.lst (List.replicate k.toNat xs).flatten))

end


section
variable {prog:Program} {w:World} {A:Around} {E:Value->Shared->Prop} {s:Shared}
end

section
variable {X:Cx}
end
end L2

namespace Att
open PySem PySem.W PySem.Calls PyProof.Rows


theorem ints_of_wellAll {P:Params} {h:Heap}:∀ (ns:List Int) (vs:List Value),WellAll P h vs (ns.map WData.int)->IntsAre vs ns:=by
 intro ns
 induction ns with
 | nil =>
  intro vs w
  rw[List.map_nil]at w
  cases w
  exact .nil
 | cons n ns ih =>
  intro vs w
  rw[List.map_cons]at w
  cases w with
  | cons a b =>
   cases a
   exact .cons _ _ (ih _ b)

theorem script_of {l:OpenLaw} {n:Nat} (hn:l.most=some n) {P:Params} {h:Heap} {args:List WData} {vals:List Value}
  (hpre:l.row.toRowW.claim.pre args=true) (hwl:WellAll P h vals args) :
  ∃ a vs ns,vals=[Value.ref a]/\args=[WData.list (ns.map WData.int)]/\h.get? a=some { cls:=.type "list",data:=.seq vs.toArray }/\IntsAre vs ns/\ns.length<=n:=by
 have hsh:WShape.hasAll [] args [.list .int]=true:=(pre_splitW hpre).1
 have hc:l.pre.holds [] { args:=args }=true:=(pre_splitW hpre).2
 obtain ⟨d,r,rfl,h1,h2⟩:=hasAllW_cons hsh
 obtain rfl:=hasAllW_nil h2
 obtain ⟨xs,rfl,h3⟩:=hasW_list h1
 obtain ⟨ns,rfl⟩:=items_int h3
 have hlen:ns.length<=n:=by
  unfold OpenLaw.pre at hc
  have h4:(WTm.not (.lt (.lit (.int (n:Int))) (.len (.arg 0)))).holds [] { args:=[.list (ns.map .int)] }=true:=by
   have h4:=(holds_andW hc).1
   rw[hn]at h4
   exact h4
  have h5:=condW_of h4 (w_not (w_lt w_lit (w_len_list (w_arg rfl))))
  rw[List.length_map]at h5
  refine Nat.le_of_not_lt fun q=>?_
  have q':(n:Int) < ((ns.length:Nat):Int):=by omega
  first
   | (rw[decide_eq_true q']at h5;exact absurd h5 (by decide))
   | (simp at h5;omega)
 cases hwl with
 | cons w1 w2 =>
  cases w2
  cases w1 with
  | list ho hall=>exact ⟨_,_,ns,rfl,rfl,ho,ints_of_wellAll ns _ hall,hlen⟩

theorem post_true (l:OpenLaw) (args:List WData):l.row.toRowW.claim.post args (.bool true) args=true :=
 postW_of (r:=l.row.toRowW) (X:=(true == true))
  (show WShape.has [] (.bool true) .bool=true by first | rfl | decide | simp [WShape.has,WShape.arms,WShape.armsAll])
  (show (WTm.eq .res (.lit (.bool true))).value [] { args:=args,res:=some (.bool true),after:=args }=some (.bool (true == true)) from w_eq_bool (w_res rfl) w_lit) rfl


theorem attach_call {l:OpenLaw} {n:Nat} {q:Program} {loose:List Str} {XP:(Str->Option Value)->Heap->Prop} {YP:World->Heap->Prop} {d:DefRec}
  (hn:l.most=some n) (hdf:d.params.defaults=[])
  (call:∀ (w:World) (s₀ s₁:Shared) (mg mb:Str->Option Value) (fa:Addr) (o:Obj) (pm cd doc:Value) (a:Addr) (vs:List Value) (ns:List Int),
   Ground q loose [] XP w s₀ mg mb s₁.heap->YP w s₁.heap ->
   s₁.heap.get? fa=some o->o.data=.func (docDef d.name d.params d.body d.scope pm cd doc)->s₁.heap.CodeRec cd d.name->mg d.name=some (.ref fa) ->
   s₁.heap.get? a=some { cls:=.type "list",data:=.seq vs.toArray }->IntsAre vs ns->ns.length<=n->s₁.gens=#[] ->
   codeAny (model l.prog w) callerA (.call (.ref fa) ⟨[.ref a],[]⟩) (fun r s'=>r=.ok (.ret (.bool true))/\OldK s₁.heap s'.heap/\s'.os=s₁.os/\AllBare s'.gens) s₁) :
  WalkO q loose XP YP l.row.toRowW d [] (fun f vs=>PySem.call f vs):=by
 intro w s₀ s₁ mg mb G Y fa o pm cd doc dV kV ho hd hcd hD hmg hg args vals as hpre hlay hrd hwl hlo
 obtain rfl:dV=.none:=Dflts.none hD hdf
 obtain rfl:kV=.none:=Dflts.noKw hD
 obtain ⟨a,vs,ns,rfl,rfl,hobj,hints,hlen⟩:=script_of hn hpre hwl
 refine enter_call (codeAny_mono (call w s₀ s₁ mg mb fa o pm cd doc a vs ns G Y ho (fd_plain hd) hcd hmg hobj hints hlen hg) fun r s' hq=>?_)
 obtain ⟨rfl,h2,h3,h4⟩:=hq
 exact ⟨.inl ⟨.bool true,.bool true,[],rfl,fun _=>rfl,.bool true,post_true l _,fun _=>⟨List.Pairwise.nil,fun _ hm=>(nomatch hm)⟩⟩,h2,h3,h4⟩


section
variable {prog:Program} {w:World} {A:Around} {E:Value->Shared->Prop} {s:Shared} {K:Frag}


def ledger (h:Heap) (L d:Addr):List (Addr × Obj):=(List.range h.objs.size).filterMap fun a=>if a=L\/a=d then none else (h.get? a).map fun o=>(a,o)
end
end Att

namespace L2
open PySem PySem.Spec PyProof.Rows

theorem vals_ints:∀ {vs:List Value} {ns:List Int},IntsAre vs ns->Vals (ns.map V.int) vs
 | _,_,.nil=>.nil
 | _,_,.cons n t h=>.cons ⟨t,rfl⟩ (vals_ints h)

def Only (H:Hp):Prop:=∀ b,H b=none\/∃ o xs,H b=some (.frz o (.lst xs))

theorem law_call {P:Program} {w:World} {K:PySem.W.Frag} {mg mb:Str->Option Value} {CX:CXT} {k:Nat} {fa a:Addr} {fd:FuncData} {x:Str} {sp:Sp} {s₁:Shared} {vs:List Value} {ns:List Int}
  (KX:K.In s₁.heap) (hns:s₁.heap.Ns mainGlobals mg) (hb:s₁.heap.Ns builtinsNs mb) (hbb:∀ x:Str,x≠"__name__"->mb x=bootBuiltins x) (hlim:s₁.heap.NoLimit) (hg:s₁.gens=#[])
  (ha:s₁.heap.get? a=some { cls:=.type "list",data:=.seq vs.toArray }) (hi:IntsAre vs ns) (hl:ns.length<=sizeLine) (hr:Room k callerA)
  (F:∀ base:Heap,K.In base->base.Ns mainGlobals mg->FnOk P w K mg base CX k fa fd [x] sp) (hbind:∀ (s:Shared) (u:Value),BindsTo s fd ⟨[u],[]⟩ [(x,u)])
  (hsp:∀ H:Hp,Only H->SqL K H a (ns.map V.int)->sp [.ref a] H (fun v _=>v=.bl true) fun _ _ _=>False)
  (hCX:∀ H e s',CX [] H s₁ (fun _ _ _=>False) e s'->False) :
  codeAny (model P w) callerA (.call (.ref fa) ⟨[.ref a],[]⟩) (fun r s'=>r=.ok (.ret (.bool true))/\OldK s₁.heap s'.heap/\s'.os=s₁.os/\AllBare s'.gens) s₁:=by
 have rv:=vals_ints hi
 have lenV:=hi.length
 have core:∀ H:Hp,Only H->SqL K H a (ns.map V.int)->HOk P w H s₁.heap->(∀ b,H b≠none->b=a)->(H a≠none->K.lookup a=none) ->
   codeAny (model P w) callerA (.call (.ref fa) ⟨[.ref a],[]⟩) (fun r s'=>r=.ok (.ret (.bool true))/\OldK s₁.heap s'.heap/\s'.os=s₁.os/\AllBare s'.gens) s₁:=by
  intro H hO hS hok hA hK
  have base_of:∀ {b:Addr} {o:Obj},s₁.heap.get? b=some o->H b=none->(hidT s₁.heap H).get? b=some o:=fun e n=>hidT_get e n
  have noA:∀ {b:Addr} {o:Obj} {es:Array DictEntry} {ep:Nat},s₁.heap.get? b=some o->o.data=.dict es ep->H b=none:=fun {b o es ep} e d=>by
   cases q:H b with
   | none=>rfl
   | some u =>
    have e':b=a:=hA b (by rw[q];simp)
    subst e'
    rw[ha]at e;cases e
    have d':Data.seq vs.toArray _=Data.dict es ep:=d
    cases d'
  have nsK:∀ {b:Addr} {m:Str->Option Value},s₁.heap.Ns b m->(hidT s₁.heap H).Ns b m:=fun {b m} ⟨o,es,ep,e,d,r⟩=>⟨o,es,ep,base_of e (noA e d),d,r⟩
  have hKb:K.In (hidT s₁.heap H):=fun b o e=>base_of (KX b o e) (by
   cases q:H b with
   | none=>rfl
   | some u =>
    have e':b=a:=hA b (by rw[q];simp)
    subst e'
    rw[hK (by rw[q];simp)]at e;cases e)
  have hM:Mod K mg (hidT s₁.heap H):=⟨hKb,nsK hns,⟨mb,nsK hb,hbb⟩,let ⟨mc,h1,h2⟩:=hlim;⟨mc,nsK h1,h2⟩⟩
  have e0:Env0 P w K mg (hidT s₁.heap H) callerA [] s₁ H:=⟨rfl,hM,fun b o e=>of_hidT e,Nat.le_of_eq (hidT_size _ _),trivial,fun b hb=>absurd (show b∈([]:List Addr) from hb) (by simp),hok,.of_eq hg⟩
  refine codeAny_mono ((F _ hKb (nsK hns)).run callerA [] s₁ H ⟨[.ref a],[]⟩ [.ref a] [.ref a] _ _ hr e0 (hbind s₁ (.ref a)) (.cons rfl .nil) (hsp H hO hS)) fun r s' h=>?_
  cases r with
  | error e=>exact (hCX H e s' h).elim
  | ok fl =>
   cases fl with
   | next=>exact False.elim h
   | brk=>exact False.elim h
   | cont=>exact False.elim h
   | ret u =>
    obtain ⟨v,H',os,bare,un,hok',r',q⟩:=h
    have q':v=.bl true:=q
    subst q'
    obtain rfl:u=Value.bool true:=r'
    refine ⟨rfl,OldK.of_keep fun b o e=>?_,os,bare⟩
    cases q:H b with
    | none=>exact un.keep b o e q (by intro z;exact absurd (show b∈([]:List Addr) from z) (by simp)) (by simp)
    | some u =>
     rcases hO b with z | ⟨ob,xs,z⟩
     ·rw[q]at z;cases z
     ·have z2:=un.frzs b ob _ z
      obtain ⟨e1,_⟩:=hok b _ z
      obtain ⟨e2,_⟩:=hok' b _ z2
      rw[e]at e1;cases e1
      exact e2
 cases hk:K.lookup a with
 | some o =>
  have e:=KX a o hk
  rw[ha]at e
  cases e
  refine core (fun _=>none) (fun _=>.inl rfl) (.inr ⟨_,vs.toArray,_,hk,rfl,rfl,rfl,by rw[List.size_toArray,lenV];exact hl,by simpa using rv⟩) (fun b u z=>by have z':(none:Option HO)=some u:=z;cases z') (fun b z=>absurd rfl z) fun z=>absurd rfl z
 | none =>
  refine core (fun b=>if b=a then some (.frz { cls:=.type "list",data:=.seq vs.toArray } (.lst (ns.map V.int))) else none) (fun b=>?_) (.inl (.inr ⟨{ cls:=.type "list",data:=.seq vs.toArray },if_pos rfl⟩)) (fun b u z=>?_) (fun b z=>?_) fun _=>hk
  ·by_cases hb:b=a
   ·exact .inr ⟨_,_,if_pos hb⟩
   ·exact .inl (if_neg hb)
  ·by_cases hb:b=a
   ·have z':=(if_pos hb).symm.trans z
    cases z'
    subst hb
    exact ⟨ha,by rw[List.length_map];exact hl,vs,_,rv,ha⟩
   ·have z':=(if_neg hb).symm.trans z
    cases z'
  ·by_cases hb:b=a
   ·exact hb
   ·exact absurd (if_neg hb) z
end L2

namespace L2
open PySem PySem.Spec PyProof.Rows

theorem walk_of {l:PySem.W.OpenLaw} {n k:Nat} {q:Program} {loose:List Str} {XP:(Str->Option Value)->Heap->Prop} {YP:World->Heap->Prop} {d:DefRec} {K:Params->PySem.W.Frag} {CX:World->CXT} {sp:World->Sp} {x:Str}
  (hn:l.most=some n) (hn2:n<=sizeLine) (hdf:d.params.defaults=[]) (hr:Room k callerA)
  (hY:∀ (w:World) (h:Heap),YP w h->(K w.params).In h)
  (F:∀ (w:World) (mg:Str->Option Value) (fa:Addr) (h:Heap),(K w.params).In h->h.Ns mainGlobals mg->mg d.name=some (.ref fa) ->
   ∃ fd:FuncData,(∀ (s:Shared) (u:Value),BindsTo s fd ⟨[u],[]⟩ [(x,u)]) /\
    ∀ base:Heap,(K w.params).In base->base.Ns mainGlobals mg->FnOk l.prog w (K w.params) mg base (CX w) k fa fd [x] (sp w))
  (hsp:∀ (w:World) (H:Hp) (a:Addr) (ns:List Int),ns.length<=n->Only H->SqL (K w.params) H a (ns.map V.int)->sp w [.ref a] H (fun v _=>v=.bl true) fun _ _ _=>False)
  (hCX:∀ (w:World) (H:Hp) (s:Shared) (e:Value) (s':Shared),CX w [] H s (fun _ _ _=>False) e s'->False) :
  PySem.W.WalkO q loose XP YP l.row.toRowW d [] (fun f vs=>PySem.call f vs):=by
 refine Att.attach_call hn hdf fun w s₀ s₁ mg mb fa o pm cd doc a vs ns G Y ho hd hcd hmg hobj hints hlen hg=>?_
 have KX:=hY w _ Y
 obtain ⟨fd,hb,hF⟩:=F w mg fa _ KX G.T.g hmg
 exact law_call KX G.T.g G.T.b G.T.builtins G.T.nolimit hg hobj hints (Nat.le_trans hlen hn2) hr hF hb (fun H hO hS=>hsp w H a ns hlen hO hS) fun H e s'=>hCX w H s₁ e s'
end L2


namespace L2
open PySem PySem.Spec PyProof.Rows



abbrev CX0:CXT:=fun _ _ _ _ _ _=>False
abbrev E0:XK:=fun _ _ _=>False
theorem pass0 {X:Cx}:Passes CX0 X E0:=fun _ _ _ _ _ _ _ h=>h.elim


structure Fun (K:PySem.W.Frag) (x qual:Str) (st:Stmt) (f:Addr) (fd:FuncData):Prop where
 ex:∃ (oc:Value) (od:Option Addr) (kV doc pm:Value) (an:Option Addr) (cdv ct:Value) (osl:Array (Option Value)),
  fd=PySem.W.fnOf x qual (defArgs st) (defBody st) (defScope st) .none kV doc pm an cdv ct/\K.lookup f=some ⟨oc,od,.func fd,osl⟩/\PySem.W.codeIn K cdv qual=true
 kp:PySem.W.keepIn K (.ref f)=true
section
variable {P:Program} {w:World} {K:PySem.W.Frag} {mg:Str->Option Value} {base:Heap}
theorem Fun.ok {x qual:Str} {st:Stmt} {f:Addr} {fd:FuncData} {N ps:List Str} {k:Nat} {sp:Sp} (F:Fun K x qual st f fd) (S:FnScope N ps (defScope st)) (len:∀ vs H Q E,sp vs H Q E->vs.length=ps.length)
  (hbody:∀ (cdv:Value) (A:Around) (outer:List Env) (s:Shared) (H:Hp) (vs:List V) (Q:VK) (E:XK),Room k (A.deeper (envOfC qual (defScope st) s.heap.objs.size f cdv))->sp vs H Q E ->
   ∃ t,PSs (cxOf CX0 P w K mg base N qual (defScope st) f cdv A outer s H E).nox (defBody st) t/\t { nx:=fun _ H'=>Q .non H',rt:=Q } (start N vs) H):FnOk P w K mg base CX0 (k+1) f fd ps sp:=by
 obtain ⟨oc,od,kV,doc,pm,an,cdv,ct,osl,rfl,lk,hcd⟩:=F.ex
 refine fn_of lk hcd S len fun A outer s H vs Q E hr hsp=>?_
 obtain ⟨t,h,q⟩:=hbody cdv A outer s H vs Q E hr hsp
 exact ⟨t,h.nox,q⟩
theorem Fun.binds {x qual:Str} {st:Stmt} {f:Addr} {fd:FuncData} {ps:List Str} (F:Fun K x qual st f fd)
  (h:∀ (kV doc pm:Value) (an:Option Addr) (cdv ct:Value) (us:List Value),us.length=ps.length->bindArgs (PySem.W.fnOf x qual (defArgs st) (defBody st) (defScope st) .none kV doc pm an cdv ct) ⟨us,[]⟩=pure (ps.zip us)):Binds K fd ps []:=by
 obtain ⟨oc,od,kV,doc,pm,an,cdv,ct,osl,rfl,lk,hcd⟩:=F.ex
 exact .all (h kV doc pm an cdv ct)
theorem zAg {x qual:Str} {st:Stmt} {f:Addr} {oc:Value} {od an:Option Addr} {osl:Array (Option Value)} {kV doc pm cdv ct:Value} (l:K.lookup f=some ⟨oc,od,.func (PySem.W.fnOf x qual (defArgs st) (defBody st) (defScope st) .none kV doc pm an cdv ct),osl⟩)
  (c:PySem.W.codeIn K cdv qual=true) (k:PySem.W.keepIn K (.ref f)=true):Fun K x qual st f (PySem.W.fnOf x qual (defArgs st) (defBody st) (defScope st) .none kV doc pm an cdv ct):=⟨⟨oc,od,kV,doc,pm,an,cdv,ct,osl,rfl,l,c⟩,k⟩
end
theorem hu_of {A:Around} {k:Nat} (hr:Room k A):A.units+1 < cLine:=Nat.lt_of_le_of_lt (Nat.add_le_add_left (by decide:1<=64) _) hr.units
theorem small1000 {n:Nat} (h:n<=1000):n < sizeLine:=Nat.lt_of_le_of_lt h (by decide)


section
variable {X:Cx}
theorem pv (i:Nat) {x:Str} {pos:Pos} (hN:X.N[i]?=some x:=by rfl) (hv:Vis X.env.scope x:=by first | exact Or.inl rfl | exact Or.inr (Or.inl rfl) | exact Or.inr (Or.inr rfl)) (hd:(x == ("__debug__":Str))=false:=by decide)
  (hcd:(x == ("__classdict__":Str))=false:=by decide):PE X (.Name x pos) (tVar i):=pe_var hN hv hd hcd
end



def Same (H H':Hp):Prop:=∀ b o,H b=some o->H' b=some o
theorem Same.refl (H:Hp):Same H H:=fun _ _ h=>h
theorem Same.trans {H H1 H2:Hp} (a:Same H H1) (b:Same H1 H2):Same H H2:=fun c o h=>b c o (a c o h)
theorem Same.free {H H':Hp} (e:Same H H') {l:Addr} (h:H' l=Option.none):H l=Option.none:=by
 cases q:H l with
 | none=>rfl
 | some o =>
  rw[e l o q]at h
  cases h
theorem Same.seq {K:PySem.W.Frag} {H H':Hp} {a:Addr} {xs:List V} (e:Same H H') (h:SqL K H a xs):SqL K H' a xs:=by
 rcases h with (h | ⟨o,h⟩) | h
 ·exact .inl (.inl (e _ _ h))
 ·exact .inl (.inr ⟨o,e _ _ h⟩)
 ·exact .inr h

end L2

set_option maxHeartbeats 4000000
namespace L2
open PySem PySem.Spec PyProof.Rows


theorem Inv.adopt {X:Cx} {pins:List (Addr × Obj)} {σ:St} {H:Hp} {s:Shared} {a:Addr} {o:HO} (I:Inv X pins σ H s) (hn:H a=none) (hs:X.s₀.heap.objs.size<=a) (hL:a≠X.env.locals)
  (hc:∀ x c,X.env.cells.lookup x=some c->c≠a) (hp:∀ p∈X.pn++pins,p.1≠a) (new:ObjOk X.prog X.w (upd H a o) s.heap a o):Inv X pins σ (upd H a o) s:=by
 have lt0:∀ b ob,X.s₀.heap.get? b=some ob->b≠a:=fun b ob e=>Nat.ne_of_lt (Nat.lt_of_lt_of_le (Heap.lt_size e) hs)
 refine ⟨I.ok,I.os,I.bare,⟨I.base.keep,I.base.slot,fun b ob e n hx=>?_,I.base.there,fun b xs e=>?_,fun b ob u e=>?_,fun b ps e=>?_⟩,I.loc,I.cell,?_,fun x c e=>?_,fun p hp'=>?_,fun b u e=>?_,I.len⟩
 ·rw[zA8 (lt0 b ob e)];exact I.base.free b ob e n hx
 ·have q:=I.base.tups b xs e
  rw[zA8 (zA4 q hn)];exact q
 ·have q:=I.base.frzs b ob u e
  rw[zA8 (zA4 q hn)];exact q
 ·obtain ⟨m,q⟩:=I.base.tbls b ps e
  exact ⟨m,by rw[zA8 (zA4 q hn)];exact q⟩
 ·rw[zA8 (Ne.symm hL)];exact I.free
 ·rw[zA8 (hc x c e)];exact I.freeC x c e
 ·obtain ⟨e,n,ne,nf,d⟩:=I.pin p hp'
  exact ⟨e,by rw[zA8 (hp p hp')];exact n,ne,nf,d⟩
 ·by_cases hb:b=a
  ·subst hb;rw[zA2]at e;cases e;exact new
  ·rw[zA8 hb]at e
   exact (I.hok b u e).stay (fun c v _ q=>q) (fun c q=>by rw[zA8 (zA4 q hn)];exact q) fun c xs q=>by rw[zA8 (zA4 q hn)];exact q


theorem closure_of {env:Env}:∀ (names:List (Str × NameKind)) (cs:List (Str × Addr)),(∀ y∈names,y.2=.free->∃ c,env.cells.lookup y.1=some c) ->
  ∃ cl,(forIn names cs fun (x:Str × NameKind) (r:List (Str × Addr))=>(if (x.2 == NameKind.free)=true then do let c <- cellOf env x.1;pure (ForInStep.yield ((x.1,c)::r)) else pure (ForInStep.yield r):Sem (ForInStep (List (Str × Addr)))))=pure cl /\
   (∀ y c,cl.lookup y=some c->cs.lookup y=some c\/env.cells.lookup y=some c)/\(∀ y,((y,NameKind.free)∈names\/∃ c,cs.lookup y=some c)->∃ c,cl.lookup y=some c)
 | [],cs,_=>⟨cs,rfl,fun _ _ h=>.inl h,fun y h=>h.elim (fun z=>nomatch z) fun z=>z⟩
 | (n,k)::r,cs,h=>by
  rw[List.forIn_cons]
  by_cases hk:k=.free
  ·subst hk
   obtain ⟨c,hc⟩:=h (n,.free) List.mem_cons_self rfl
   have e:cellOf env n=pure c:=by unfold cellOf;rw[hc]
   obtain ⟨cl,h1,h2,h3⟩:=closure_of (env:=env) r ((n,c)::cs) fun y hy=>h y (List.mem_cons_of_mem _ hy)
   refine ⟨cl,?_,fun y d hd=>?_,fun y hy=>?_⟩
   ·simp only[beq_self_eq_true,if_true,e,pure_bind]
    exact h1
   ·rcases h2 y d hd with q | q
    ·rw[List.lookup_cons]at q
     by_cases hy:y=n
     ·subst hy
      simp at q
      subst q
      exact .inr hc
     ·have hb:(y == n)=false:=beq_eq_false_iff_ne.mpr hy
      rw[hb]at q
      exact .inl q
    ·exact .inr q
   ·refine h3 y ?_
    rcases hy with hy | ⟨d,hd⟩
    ·rcases List.mem_cons.mp hy with q | q
     ·cases q
      exact .inr ⟨c,by simp⟩
     ·exact .inl q
    ·refine .inr ?_
     rw[List.lookup_cons]
     cases (y == n) with
     | true=>exact ⟨c,rfl⟩
     | false=>exact ⟨d,hd⟩
  ·obtain ⟨cl,h1,h2,h3⟩:=closure_of (env:=env) r cs fun y hy=>h y (List.mem_cons_of_mem _ hy)
   have hb:(k == NameKind.free)=false:=by simpa using hk
   refine ⟨cl,?_,h2,fun y hy=>h3 y ?_⟩
   ·simp only[hb,Bool.false_eq_true,if_false,pure_bind]
    exact h1
   ·rcases hy with hy | hy
    ·rcases List.mem_cons.mp hy with q | q
     ·cases q;exact absurd rfl hk
     ·exact .inl q
    ·exact .inr hy
theorem closureFor_of {env:Env} {scope:Scope} (h:∀ y∈scope.names,y.2=.free->∃ c,env.cells.lookup y.1=some c) :
  ∃ cl,closureFor scope env=pure cl/\(∀ y c,cl.lookup y=some c->env.cells.lookup y=some c)/\∀ y,(y,NameKind.free)∈scope.names->∃ c,cl.lookup y=some c:=by
 obtain ⟨cl,h1,h2,h3⟩:=closure_of (env:=env) scope.names [] h
 refine ⟨cl,?_,fun y c e=>?_,fun y hy=>h3 y (.inl hy)⟩
 ·unfold closureFor
  show (forIn scope.names [] _ >>= pure)=pure cl
  rw[show (forIn scope.names ([]:List (Str × Addr)) fun (x:Str × NameKind) (r:List (Str × Addr))=>(match x with | (name,kind)=>if (kind == NameKind.free)=true then do let c <- cellOf env name;pure (ForInStep.yield ((name,c)::r)) else pure (ForInStep.yield r):Sem (ForInStep (List (Str × Addr)))))=pure cl from h1]
  rfl
 ·rcases h2 y c e with q | q
  ·simp at q
  ·exact q
theorem zCi {scope:Scope} {env:Env} {y:Str} {k:NameKind} (h:(relabel scope env).names.lookup y=some k):scope.names.lookup y=some k\/(k=.cell/\scope.names.lookup y=some .free):=by
 have all:∀ (l:List (Str × NameKind)),(l.map fun (n,k)=>if (k == NameKind.free && env.scope.kind == .function && env.kindOf n == some .cell) then (n,NameKind.cell) else (n,k)).lookup y=some k ->
   l.lookup y=some k\/(k=.cell/\l.lookup y=some .free):=by
  intro l
  induction l with
  | nil=>intro h;simp at h
  | cons p r ih =>
   obtain ⟨n,kk⟩:=p
   intro h
   rw[List.map_cons]at h
   by_cases hc:(kk == NameKind.free && env.scope.kind == .function && env.kindOf n == some .cell)=true
   ·dsimp only at h
    rw[if_pos hc,List.lookup_cons]at h
    rw[List.lookup_cons]
    cases hy:(y == n) with
    | true =>
     rw[hy]at h
     have h':some NameKind.cell=some k:=h
     cases h'
     have hk:kk=.free:=by
      have:=(Bool.and_eq_true _ _ |>.mp (Bool.and_eq_true _ _ |>.mp hc).1).1
      simpa using this
     rw[hk]
     exact .inr ⟨rfl,rfl⟩
    | false=>rw[hy]at h;exact ih h
   ·dsimp only at h
    rw[if_neg hc,List.lookup_cons]at h
    rw[List.lookup_cons]
    cases hy:(y == n) with
    | true=>rw[hy]at h;exact .inl h
    | false=>rw[hy]at h;exact ih h
 exact all scope.names h


def PTs (X:Cx) (ifs:List Expr) (t:TT):Prop :=
 ∀ (pins:List (Addr × Obj)) (s:Shared) (σ:St) (H:Hp) (Q:Bool->Hp->Prop),Inv X pins σ H s->t σ H Q ->
  wpAny (model X.prog X.w) X.A (forIn ifs true fun c r=>if r=true then do let ok <- isTrue c X.env (eval c X.env);pure (ForInStep.yield ok) else pure (ForInStep.yield r)) (TP X pins σ Q) X.xe s
def tYes:TT:=fun _ H Q=>Q true H
theorem pts_nil {X:Cx}:PTs X [] tYes:=fun _ _ _ H _ I h=>wpAny_tests_nil ⟨H,I,h⟩
theorem pts_one {X:Cx} {c:Expr} {t:TT} (h:PT X c t):PTs X [c] t:=fun pins s σ H Q I hw=>wpAny_tests_one (h pins s σ H Q I hw)


def Cx.block (X:Cx) (M:List Str) (scope:Scope) (cl:List (Str × Addr)) (C:Addr) (s₃:Shared) (H₃:Hp) (ex:List Addr):Cx :=
 { X with N:=M++X.N,s₀:=s₃,H₀:=H₃,env:=compEnvC scope cl C X.env,outer:=X.stack,stack:=X.stack,ex:=ex,fn:=fun _=>false,xe:=fun _ _=>False }
section
variable {prog:Program} {w:World} {A:Around} {R:Result->Shared->Prop} {s:Shared}
theorem compLoop_any {elt target iter:Expr} {ifs:List Expr} {scope:Scope} {pos:Pos} {it acc:Value} {env:Env} (I:Nat->Shared->Prop)
  (turn:∀ n s,I n s->wpAny (model prog w) A (pyNext it) (fun r s₁=>match r with
   | none=>R (.ok .next) s₁
   | some v=>wpAny (model prog w) A (letOwnedTupleGo target it v) (fun _ s₁'=>wpAny (model prog w) A (assign target env v) (fun _ s₂ =>
     wpAny (model prog w) A (forIn ifs true fun c r=>if r=true then do let ok <- isTrue c env (eval c env);pure (ForInStep.yield ok) else pure (ForInStep.yield r)) (fun ok s₃ =>
      if ok=true then wpAny (model prog w) A (eval elt env) (fun x s₄ =>
       wpAny (model prog w) A (call (.builtin "list.append") [acc,x]) (fun _ s₅=>∃ m,m < n/\I m s₅) (fun _ _=>False) s₄) (fun _ _=>False) s₃
      else ∃ m,m < n/\I m s₃) (fun _ _=>False) s₂) (fun _ _=>False) s₁') (fun _ _=>False) s₁) (fun _ _=>False) s)
  (n:Nat) (h:I n s):codeAny (model prog w) A (.compLoop (.ListComp elt [⟨target,iter,ifs,0⟩] scope pos) 0 it acc env) R s:=by
 refine codeAny_loop rfl I (fun n s hI=>?_) n h
 show wpAny _ A ((compTurn (.ListComp elt [⟨target,iter,ifs,0⟩] scope pos) 0 it acc env).onRaise (fun x=>do noteFrame x env;theTreesLotGoes x)) _ _ s
 refine wpAny_noted ?_
 rw[compTurn_list]
 refine wpAny_bind (wpAny_standAt (wpAny_bind (wpAny_mono (turn n s hI) (fun r s₁ h₁=>?_) fun _ _ h'=>h'.elim)))
 cases r with
 | none=>exact wpAny_pure h₁
 | some v =>
  refine wpAny_bind (wpAny_mono h₁ (fun _ s₁' h₁'=>?_) fun _ _ h'=>h'.elim)
  refine wpAny_bind (wpAny_mono h₁' (fun _ s₂ h₂=>wpAny_bind (wpAny_mono h₂ (fun ok s₃ h₃=>?_) fun _ _ h'=>h'.elim)) fun _ _ h'=>h'.elim)
  cases ok with
  | false=>exact wpAny_pure ⟨rfl,h₃⟩
  | true =>
   exact wpAny_bind (wpAny_bind (wpAny_mono h₃ (fun x s₄ h₄=>wpAny_bind (wpAny_mono h₄ (fun _ s₅ h₅=>wpAny_pure (wpAny_pure ⟨rfl,h₅⟩)) fun _ _ h'=>h'.elim)) fun _ _ h'=>h'.elim))
end
end L2

set_option maxHeartbeats 4000000
namespace L2
open PySem PySem.Spec PyProof.Rows
section
variable {X:Cx} {elt target iter:Expr} {ifs:List Expr} {scope:Scope} {pos:Pos} {M:List Str} {wi:TI} {g:TG} {tt:TT} {te:TE}

theorem Inv.block {pins:List (Addr × Obj)} {σ:St} {H:Hp} {s:Shared} {cl:List (Str × Addr)} {fp:List Addr} {h₁:Heap} {t₁:Nat} {D:Addr} (I:Inv X pins σ H s)
  (hfree:∀ y∈scope.names,y.2=.free->(X.env.kindOf y.1=some .cell\/X.env.kindOf y.1=some .free)) (hcell:∀ y∈scope.names,y.2≠.cell) (hkind:scope.kind=.function)
  (hN:∀ y∈X.N,scope.names.lookup y≠some .local) (hcl1:∀ y c,cl.lookup y=some c->X.env.cells.lookup y=some c) (hcl2:∀ y,(y,NameKind.free)∈scope.names->∃ c,cl.lookup y=some c)
  (hfp:∀ b∈fp,FpOk X pins H b) (hlt:∀ b∈fp,b < s.heap.objs.size)
  (hD:D < s.heap.objs.size) (hDn:H D=none) (hD0:X.s₀.heap.objs.size<=D) (hDL:D≠X.env.locals) (hDs:D∉frs X.stack) (hDc:∀ x c,X.env.cells.lookup x=some c->c≠D)
  (hns:h₁.Ns s.heap.objs.size (fun _=>none)) (kp:∀ b o,s.heap.get? b=some o->h₁.get? b=some o) :
  Inv (X.block M scope cl s.heap.objs.size s H (D::fp)) pins (M.map (fun _=>none)++σ) H { s with heap:=h₁,toks:=t₁ }:=by
 have nfs:∀ b∈fp,b∉frs X.stack:=fun b hb z=>by
  obtain ⟨_,f1,f2,_⟩:=hfp b hb
  rcases List.mem_cons.mp (I.stkSub b z) with q | q
  ·exact f1 q
  ·exact f2 q
 have base0:∀ b o,X.base.get? b=some o->b < X.s₀.heap.objs.size:=fun b o e=>Heap.lt_size (I.ok.bs b o e).1
 refine ⟨⟨I.ok.mod,hkind,I.ok.glob,I.ok.blt,Nat.le_refl _,fun x y c h1 h2=>I.ok.inj x y c (hcl1 x c h1) (hcl1 y c h2),fun x hx=>?_,fun x c h=>(nomatch (show false=true from h)),I.ok.hd,I.ok.frames,.inl rfl,fun b hb=>?_,I.bs,Nat.le_trans I.ok.bsz I.sz,
  fun b o e hb=>?_,fun b hb=>?_,I.stack,I.stkFree⟩,rfl,I.bare,Un.kept kp,⟨_,hns,fun i y v h1 h2 h3=>?_⟩,fun x c h=>?_,I.hok.fresh (Nat.le_refl _),fun x c h=>I.freeC x c (hcl1 x c h),fun p hp=>?_,I.hok.kept kp,?_⟩
 ·have hx:(relabel scope X.env).names.lookup x=some .cell\/(relabel scope X.env).names.lookup x=some .free:=hx
  refine hcl2 x ?_
  rcases hx with hx | hx
  ·rcases zCi hx with q | ⟨_,q⟩
   ·exact absurd rfl (hcell _ (PySem.mem_of_lookup q))
   ·exact PySem.mem_of_lookup q
  ·rcases zCi hx with q | ⟨q,_⟩
   ·exact PySem.mem_of_lookup q
   ·cases q
 ·have blt:b < s.heap.objs.size:=by
   rcases List.mem_cons.mp hb with q | q
   ·rw[q];exact hD
   ·exact hlt b q
  refine ⟨Nat.ne_of_lt blt,fun x c h=>?_⟩
  rcases List.mem_cons.mp hb with q | q
  ·rw[q];exact hDc x c (hcl1 x c h)
  ·exact (hfp b q).2.2.2.2.1 x c (hcl1 x c h)
 ·rcases List.mem_cons.mp hb with q | q
  ·have:=base0 b o e
   rw[q]at this
   exact absurd (Nat.lt_of_lt_of_le this hD0) (Nat.lt_irrefl _)
  ·rcases (hfp b q).2.2.2.1 with z | z
   ·exact I.ok.noex b o e z
   ·exact absurd (Nat.lt_of_lt_of_le (base0 b o e) z) (Nat.lt_irrefl _)
 ·rcases List.mem_cons.mp hb with q | q
  ·rw[q];exact hDs
  ·exact nfs b q
 ·-- names
  have h1:(M++X.N)[i]?=some y:=h1
  by_cases hi:i < M.length
  ·rw[List.getElem?_append_left (by simpa using hi),List.getElem?_map]at h2
   cases e:M[i]? with
   | none=>rw[e]at h2;cases h2
   | some a=>rw[e]at h2;cases h2
  ·rw[List.getElem?_append_right (by simpa using hi),List.length_map]at h2
   rw[List.getElem?_append_right (by simpa using hi)]at h1
   have hyN:y∈X.N:=List.mem_of_getElem? h1
   obtain ⟨m,hn,hl⟩:=I.loc
   have h3:(relabel scope X.env).names.lookup y=some .local\/(relabel scope X.env).names.lookup y=some .cell\/(relabel scope X.env).names.lookup y=some .free:=h3
   have hf:scope.names.lookup y=some .free/\((relabel scope X.env).names.lookup y=some .cell\/(relabel scope X.env).names.lookup y=some .free):=by
    rcases h3 with q | q | q
    ·rcases zCi q with z | ⟨z,_⟩
     ·exact absurd z (hN y hyN)
     ·cases z
    ·rcases zCi q with z | ⟨_,z⟩
     ·exact absurd rfl (hcell _ (PySem.mem_of_lookup z))
     ·exact ⟨z,.inl q⟩
    ·rcases zCi q with z | ⟨z,_⟩
     ·exact ⟨z,.inr q⟩
     ·cases z
   have hout:=hfree _ (PySem.mem_of_lookup hf.1) rfl
   obtain ⟨u,ru,lk⟩:=hl (i-M.length) y v h1 h2 (by
    rcases hout with q | q
    ·exact .inr (.inl q)
    ·exact .inr (.inr q))
   refine ⟨u,ru,.inr ⟨hf.2,?_⟩⟩
   obtain ⟨c,hc⟩:=hcl2 y (PySem.mem_of_lookup hf.1)
   have hc':=hcl1 y c hc
   rcases lk with ⟨q,_⟩ | ⟨_,c',e',z⟩
   ·rcases hout with w' | w' <;> (rw[q]at w';cases w')
   ·rw[hc']at e';cases e'
    obtain ⟨oc,hoc,hd⟩:=z
    exact ⟨c,hc,oc,kp _ _ hoc,hd⟩
 ·obtain ⟨v,oc,hoc,hd⟩:=I.cell x c (hcl1 x c h)
  exact ⟨v,oc,kp _ _ hoc,hd⟩
 ·obtain ⟨e,n,ne,nf,d⟩:=I.pin p hp
  refine ⟨kp _ _ e,n,Nat.ne_of_lt (Heap.lt_size e),fun z=>?_,d⟩
  rcases List.mem_cons.mp (I.stkSub p.1 z) with q | q
  ·exact ne q
  ·exact nf q
 ·show (M.map (fun _=>(none:Option V))++σ).length=(M++X.N).length
  rw[List.length_append,List.length_append,List.length_map,I.len]
end
end L2

set_option maxHeartbeats 4000000
namespace L2
open PySem PySem.Spec PyProof.Rows
section
variable {X:Cx} {elt target iter:Expr} {ifs:List Expr} {scope:Scope} {pos:Pos} {M:List Str} {wi:TI} {g:TG} {tt:TT} {te:TE}

structure CompScope (X:Cx) (scope:Scope):Prop where
 kind:scope.kind=.function
 cell:∀ y∈scope.names,y.2≠.cell
 free:∀ y∈scope.names,y.2=.free->(X.env.kindOf y.1=some .cell\/X.env.kindOf y.1=some .free)
 names:∀ y∈scope.names,y.2=.local->scope.names.lookup y.1=some .local
 apart:∀ y∈X.N,scope.names.lookup y≠some .local

def tCompK (M:List Str) (wi:TI) (g:TG) (tt:TT) (te:TE):TE:=fun σ H Q=>wi σ H fun J H1=>∃ W:Nat->Nat->List V->Hp->Prop,(∃ m,W 0 m [] H1)/\∀ i m ys H,W i m ys H ->
 (J.stop i H/\ys.length<=sizeLine/\∀ p,H p=none->Q (.ref p) (upd H p (.lst ys))) \/
 (J.go i H/\ys.length < sizeLine/\∃ N:List V->Hp->Prop,(∀ ys' H',N ys' H'->∃ m',m' < m/\W (i+1) m' ys' H')/\∀ x H',J.yld i H x H' ->
  g x (M.map (fun _=>none)++σ) H' fun σ2 H2=>σ2.drop M.length=σ/\tt σ2 H2 fun b H3=>if b=true then te σ2 H3 fun y H4=>N (ys++[y]) H4 else N ys H3)

theorem comp_core (hc:X.calm=true) (S:CompScope X scope) (hi:PI X target iter wi)
  (hg:∀ cl C s₃ H₃ ex,PG (X.block M scope cl C s₃ H₃ ex) target g) (ht:∀ cl C s₃ H₃ ex,PTs (X.block M scope cl C s₃ H₃ ex) ifs tt) (he:∀ cl C s₃ H₃ ex,PE (X.block M scope cl C s₃ H₃ ex) elt te)
  (hs:∀ x,foldedSetIterable iter X.env x=pure x) {use:Option (Value->Sem Unit)} {Q':Value->Shared->Prop} {pos':Pos} {pins:List (Addr × Obj)} {s:Shared} {σ:St} {H:Hp} {Q:VK} (I:Inv X pins σ H s) (h:tCompK M wi g tt te σ H Q)
  (done:∀ (D C:Addr) (H':Hp) (s5:Shared) (mC:Str->Option Value),Q (.ref D) H'->s5.heap.Ns C mC->H' C=none->C≠X.env.locals->X.s₀.heap.objs.size<=C->(∀ x c,X.env.cells.lookup x=some c->c≠C)->(∀ p∈X.pn++pins,p.1≠C) ->
   (∀ h',Heap.SameBut C s5.heap h'->Inv X pins σ H' { s5 with heap:=h' })->∀ r,compPost (model X.prog X.w) X.A X.xe use Q' (.ref D) C (.ok r) s5) :
  wpAny (model X.prog X.w) X.A (comprehension (.ListComp elt [⟨target,iter,ifs,0⟩] scope pos) scope X.env pos' (newList []) false (eval iter X.env) use) Q' X.xe s:=by
 obtain ⟨cl,hclos,hcl1,hcl2⟩:=closureFor_of (scope:=scope) (env:=X.env) fun y hy e=>I.ok.has y.1 (S.free y hy e)
 refine wpAny_comprehension_free (use:=use) rfl hs hclos S.kind S.names ?_
 refine thn (hi pins s σ H _ I h) fun xv s1 h1=>thn h1 fun itv s2 h2=>?_
 obtain ⟨it,fp,tn,J,H2,e,I2,T,st2,f2,W,⟨m0,w0⟩,turn⟩:=h2
 subst e
 refine wpAny_newObj_type (wpAny_newFunctionEnv S.cell (by intro y hy;simp at hy) (fun h₁ hns₁ hsb₁=>?_) S.kind)
 dsimp only at hns₁ hsb₁ ⊢
 have I3:Inv X pins σ H2 { s2 with heap:=s2.heap.push { cls:=.type "list",dict:=none,data:=.seq ([]:List Value).toArray } }:=I2.kept (t':=s2.toks) fun b o e=>Heap.get?_push_of_some _ e
 have hD3:(s2.heap.push { cls:=.type "list",dict:=none,data:=.seq ([]:List Value).toArray }).get? s2.heap.objs.size=some { cls:=.type "list",dict:=none,data:=.seq ([]:List Value).toArray }:=Heap.get?_push_size _ rfl
 have fpLt:∀ b∈fp,b < s2.heap.objs.size:=fun b hb=>by
  obtain ⟨o,e,_⟩:=T.obj 0 s2.heap st2 b hb
  exact Heap.lt_size e
 have st3:tn 0 (s2.heap.push { cls:=.type "list",dict:=none,data:=.seq ([]:List Value).toArray }):=T.keep 0 _ _ st2 fun b _ o e=>Heap.get?_push_of_some _ e
 have f3:∀ b∈fp,FpOk X pins H2 b:=f2
 have hDn:H2 s2.heap.objs.size=none:=I2.hok.fresh (Nat.le_refl _)
 have hDL:s2.heap.objs.size≠X.env.locals:=Nat.ne_of_gt I2.lt
 have hD0:X.s₀.heap.objs.size<=s2.heap.objs.size:=I2.sz
 have hDs:s2.heap.objs.size∉frs X.stack:=fun z=>by
  rcases List.mem_cons.mp (I2.stkSub _ z) with q | q
  ·exact hDL q
  ·exact I2.nofs (Nat.le_refl _) q
 have hDc:∀ x c,X.env.cells.lookup x=some c->c≠s2.heap.objs.size:=fun x c e=>by
  obtain ⟨v,q⟩:=I2.cell x c e
  exact Nat.ne_of_lt q.lt
 have hDp:∀ p∈X.pn++pins,p.1≠s2.heap.objs.size:=fun p hp=>Nat.ne_of_lt (Heap.lt_size (I2.pin p hp).1)
 have hDf:s2.heap.objs.size∉fp:=fun z=>Nat.lt_irrefl _ (fpLt _ z)
 generalize hDe:s2.heap.objs.size=D at hD3 hDn hDL hD0 hDs hDc hDp hDf ⊢
 generalize hS3:({ s2 with heap:=s2.heap.push { cls:=.type "list",dict:=none,data:=.seq ([]:List Value).toArray } }:Shared)=s3 at I3
 have es3:s2.heap.push { cls:=.type "list",dict:=none,data:=.seq ([]:List Value).toArray }=s3.heap:=by rw[<- hS3]
 rw[es3]at hns₁ hsb₁ hD3 st3 ⊢
 have fpLt3:∀ b∈fp,b < s3.heap.objs.size:=fun b hb=>by
  rw[<- es3,Heap.size_push];exact Nat.lt_succ_of_lt (fpLt b hb)
 have hDlt:D < s3.heap.objs.size:=Heap.lt_size hD3
 have kp:∀ b o,s3.heap.get? b=some o->h₁.get? b=some o:=fun b o e=>(hsb₁.2 b (Nat.ne_of_lt (Heap.lt_size e))).trans (Heap.get?_push_of_some _ e)
 have IB:=Inv.block (M:=M) (h₁:=h₁) (t₁:=s2.toks+([]:List (Str × Value)).length) I3 S.free S.cell S.kind S.apart hcl1 hcl2 f3 fpLt3 hDlt hDn hD0 hDL hDs hDc (by simpa using hns₁) kp
 have X'def:X.block M scope cl s3.heap.objs.size s3 H2 (D::fp)=X.block M scope cl s3.heap.objs.size s3 H2 (D::fp):=rfl
 have stat:∀ {H':Hp} {ob:Obj},(∀ b∈fp,H' b=none)->∀ b∈fp,FpOk (X.block M scope cl s3.heap.objs.size s3 H2 (D::fp)) (pins++[(D,ob)]) H' b:=fun {H' ob} hn b hb=>by
  obtain ⟨q0,q1,q2,q3,q4,q5⟩:=f3 b hb
  refine ⟨hn b hb,Nat.ne_of_lt (fpLt3 b hb),fun z=>?_,.inl (List.mem_cons_of_mem _ hb),fun x c e=>q4 x c (hcl1 x c e),fun p hp=>?_⟩
  ·rcases List.mem_cons.mp (I3.stkSub b z) with q | q
   ·exact q1 q
   ·exact q2 q
  ·have hp:p∈X.pn++(pins++[(D,ob)]):=hp
   rw[<- List.append_assoc]at hp
   rcases List.mem_append.mp hp with q | q
   ·exact q5 p q
   ·have q':p=(D,ob):=by simpa using q
    rw[q']
    exact fun z=>hDf (by rw[show D=b from z];exact hb)
 have isL:∀ its:List Value,∀ n:Nat,∀ v,({ cls:=.type "list",data:=.seq its.toArray n }:Obj).data≠.cell v:=fun _ _ _ z=>by cases z
 have loop:∀ s₄:Shared,s₄={ s3 with heap:=h₁,toks:=s2.toks+([]:List (Str × Value)).length } ->
   codeAny (model X.prog X.w) X.A (.compLoop (.ListComp elt [⟨target,iter,ifs,0⟩] scope pos) 0 (.ref it) (.ref D) (compEnvC scope cl s3.heap.objs.size X.env))
    (compPost (model X.prog X.w) X.A X.xe use Q' (.ref D) s3.heap.objs.size) s₄:=by
  rintro s₄ rfl
  refine compLoop_any (fun n s'=>∃ i ys its k H',Inv (X.block M scope cl s3.heap.objs.size s3 H2 (D::fp)) pins (M.map (fun _=>none)++σ) H' s'/\tn i s'.heap/\(∀ b∈fp,H' b=none)/\H' D=none /\
   Vals ys its/\s'.heap.get? D=some { cls:=.type "list",data:=.seq its.toArray k }/\W i n ys H') ?_ m0 ⟨0,[],[],_,H2,IB,T.keep 0 _ _ st3 fun b _ o e=>kp b o e,fun b hb=>(f3 b hb).1,hDn,.nil,kp _ _ hD3,w0⟩
  rintro n s4 ⟨i,ys,its,k,H4,I4,st4,fr4,hD4,rv4,ho4,w4⟩
  have I4D:Inv (X.block M scope cl s3.heap.objs.size s3 H2 (D::fp)) (pins++[(D,{ cls:=.type "list",data:=.seq its.toArray k })]) (M.map (fun _=>none)++σ) H4 s4:=I4.pins_of fun p hp=>by
   rcases List.mem_append.mp hp with q | q
   ·exact I4.pin p (List.mem_append_right _ q)
   ·have q':p=(D,{ cls:=.type "list",data:=.seq its.toArray k }):=by simpa using q
    subst q'
    exact ⟨ho4,hD4,Nat.ne_of_lt hDlt,hDs,isL _ _⟩
  rcases turn i n ys H4 w4 with ⟨stop,hz,fin⟩ | ⟨go,hz,Nx,hNx,step⟩
  ·refine thn (T.done (X.block M scope cl s3.heap.objs.size s3 H2 (D::fp)) rfl rfl rfl hc i _ s4 _ H4 _ I4D (stat fr4) st4 stop) fun r s5 ⟨hr,I5⟩=>?_
   subst hr
   have ho5:s5.heap.get? D=some { cls:=.type "list",data:=.seq its.toArray k }:=(I5.pin (D,_) (List.mem_append_right _ (List.mem_append_right _ (by simp)))).1
   obtain ⟨mC,hnC,_⟩:=id I5.loc
   have hCn:H4 s3.heap.objs.size=none:=I5.free
   have hCD:s3.heap.objs.size≠D:=Nat.ne_of_gt hDlt
   refine done D s3.heap.objs.size (upd H4 D (.lst ys)) s5 mC (fin D hD4) hnC (by rw[zA8 hCD];exact hCn) (Nat.ne_of_gt I3.lt) I3.sz (fun x c e=>?_) (fun p hp=>Nat.ne_of_lt (Heap.lt_size (I3.pin p hp).1)) (fun h' hs'=>?_) _
   ·obtain ⟨v,q⟩:=I3.cell x c e
    exact Nat.ne_of_lt q.lt
   have hsC:Heap.SameBut s3.heap.objs.size s5.heap h':=hs'
   have un:Un (frs X.stack) (D::fp) H2 H4 s3.heap h':=by
    have B:=I5.base
    have neC:∀ b o,s3.heap.get? b=some o->b≠s3.heap.objs.size:=fun b o e=>Nat.ne_of_lt (Heap.lt_size e)
    exact ⟨fun b o e n hb hx=>(hsC.2 b (neC b o e)).trans (B.keep b o e n hb hx),fun b o e n hb hx=>let ⟨sl,q⟩:=B.slot b o e n hb hx;⟨sl,(hsC.2 b (neC b o e)).trans q⟩,B.free,
     fun b o e hx=>let ⟨o',q⟩:=B.there b o e hx;⟨o',(hsC.2 b (neC b o e)).trans q⟩,B.tups,B.frzs,B.tbls⟩
   have hok':HOk X.prog X.w H4 h':=fun b u e=>by
    refine (I5.hok b u e).stay (fun c v hc q=>(hsC.2 c ?_).trans q) (fun _ q=>q) fun _ _ q=>q
    rcases hc with z | z
    ·rw[z];exact fun q=>by rw[q,hCn]at e;cases e
    ·exact fun q=>by rw[q,hCn]at z;cases z
   have I6:Inv X pins σ H4 { s5 with heap:=h' }:=I3.call' (s':={ s5 with heap:=h' }) (ch:=D::fp) I5.os un hok' I5.bare fun b hb=>by
    rcases List.mem_cons.mp hb with q | q
    ·rw[q];exact ⟨.inr hD0,hDL,hDc,hDp⟩
    ·obtain ⟨q0,q1,q2,q3,q4,q5⟩:=f3 b q
     exact ⟨q3,q1,q4,q5⟩
   have ho6:h'.get? D=some { cls:=.type "list",data:=.seq its.toArray k }:=(hsC.2 D (Nat.ne_of_lt hDlt)).trans ho5
   exact I6.adopt hD4 hD0 hDL hDc hDp ⟨hz,its,k,rv4,ho6⟩
  ·refine thn (T.item (X.block M scope cl s3.heap.objs.size s3 H2 (D::fp)) rfl rfl rfl hc i _ s4 _ H4 _ I4D (stat fr4) st4 go) fun r s5 ⟨u,hr,h5⟩=>?_
   subst hr
   refine thn h5 fun _ s6 ⟨x,H6,I6,r6,y6,st6,fr6⟩=>?_
   have I6':=I6.pinned (stat fr6) (T.obj _ _ st6)
   refine thn (hg _ _ _ _ _ _ s6 _ H6 x u _ I6' r6 (step x H6 y6)) fun _ s7 ⟨σ7,H7,I7,e7,q7⟩=>?_
   refine thn (ht _ _ _ _ _ _ s7 σ7 H7 _ I7 q7) fun b s8 ⟨H8,I8,q8⟩=>?_
   have wk:∀ {H9:Hp} {s9:Shared},Inv (X.block M scope cl s3.heap.objs.size s3 H2 (D::fp)) pins σ7 H9 s9->Inv (X.block M scope cl s3.heap.objs.size s3 H2 (D::fp)) pins (M.map (fun _=>none)++σ) H9 s9:=fun {H9 s9} I9=>by
    have hl:(M.map (fun _=>(none:Option V))++σ).length=σ7.length:=by rw[I9.len];exact IB.len
    refine I9.weak hl fun j v e=>?_
    by_cases hj:j < M.length
    ·rw[List.getElem?_append_left (by simpa using hj),List.getElem?_map]at e
     cases q:M[j]? with
     | none=>rw[q]at e;cases e
     | some a=>rw[q]at e;cases e
    ·rw[List.getElem?_append_right (by simpa using hj),List.length_map,<- e7,List.getElem?_drop]at e
     have:M.length+(j-M.length)=j:=by omega
     rw[this]at e
     exact e
   have unpin:∀ {H9:Hp} {s9:Shared},Inv (X.block M scope cl s3.heap.objs.size s3 H2 (D::fp)) (pins++[(D,{ cls:=.type "list",data:=.seq its.toArray k })]++pinsAt fp s6.heap) σ7 H9 s9 ->
     Inv (X.block M scope cl s3.heap.objs.size s3 H2 (D::fp)) pins σ7 H9 s9/\s9.heap.get? D=some { cls:=.type "list",data:=.seq its.toArray k }/\H9 D=none/\tn (i+1) s9.heap/\∀ b∈fp,H9 b=none:=fun {H9 s9} I9=>by
    have pD:=I9.pin (D,{ cls:=.type "list",data:=.seq its.toArray k }) (List.mem_append_right _ (List.mem_append_left _ (List.mem_append_right _ (by simp))))
    refine ⟨I9.pins_of fun p hp=>I9.pin p (List.mem_append_right _ (List.mem_append_left _ (List.mem_append_left _ hp))),pD.1,pD.2.1,T.keep _ _ _ st6 fun b hb o e=>(I9.pin (b,o) (List.mem_append_right _ (List.mem_append_right _ (mem_pinsAt hb e)))).1,fun b hb=>?_⟩
    obtain ⟨o,e,d⟩:=T.obj _ _ st6 b hb
    exact (I9.pin (b,o) (List.mem_append_right _ (List.mem_append_right _ (mem_pinsAt hb e)))).2.1
   cases b with
   | false =>
    have q8:Nx ys H8:=by simpa using q8
    obtain ⟨m',hm,w8⟩:=hNx _ _ q8
    obtain ⟨I9,ho9,hD9,st9,fr9⟩:=unpin I8
    exact ⟨m',hm,i+1,ys,its,k,H8,wk I9,st9,fr9,hD9,rv4,ho9,w8⟩
   | true =>
    have q8:te σ7 H8 fun y H4=>Nx (ys++[y]) H4:=by simpa using q8
    rw[if_pos rfl]
    refine thn (he _ _ _ _ _ _ s8 σ7 H8 _ I8 q8) fun yv s9 ⟨y,H9,I9,r9,n9⟩=>?_
    obtain ⟨m',hm,w9⟩:=hNx _ _ n9
    obtain ⟨I10,ho10,hD10,st10,fr10⟩:=unpin I9
    have hlen:=rv4.length
    refine append_at (hsz:=by rw[List.size_toArray];omega) ho10 fun h11 hs11 hD11=>?_
    have I11:Inv (X.block M scope cl s3.heap.objs.size s3 H2 (D::fp)) pins σ7 H9 { s9 with heap:=h11 }:=I10.turned (t':=s9.toks) (it:=D) (fun b o hb e=>(hs11.2 b hb).trans e) hD10 (Nat.ne_of_lt hDlt) (.inl List.mem_cons_self) (fun x c e=>hDc x c (hcl1 x c e)) hDp
    refine ⟨m',hm,i+1,ys++[y],its++[yv],k+1,H9,wk I11,T.keep _ _ _ st10 fun b hb o e=>(hs11.2 b (fun z=>hDf (by rw[<- z];exact hb))).trans e,fr10,hD10,rv4.append (.cons r9 .nil),?_,w9⟩
    rw[hD11,List.push_toArray]
 have hst4:tn 0 h₁:=T.keep 0 _ _ st3 fun b _ o e=>kp b o e
 have fin:∀ s₄:Shared,s₄={ s3 with heap:=h₁,toks:=s2.toks+([]:List (Str × Value)).length } ->
   codeAny (model X.prog X.w) X.A (.compStart (.ListComp elt [⟨target,iter,ifs,0⟩] scope pos) 0 (.ref it) (.ref D) (compEnvC scope cl s3.heap.objs.size X.env))
    (compPost (model X.prog X.w) X.A X.xe use Q' (.ref D) s3.heap.objs.size) s₄:=fun s₄ e4 =>
  codeAny_compStart_list (loop s₄ e4) (T.self X.A 0 s₄ _ _ (by rw[e4];exact hst4) (loop s₄ e4))
 exact fin _ (by rw[<- hS3])
theorem pe_comp (hc:X.calm=true) (S:CompScope X scope) (hi:PI X target iter wi)
  (hg:∀ cl C s₃ H₃ ex,PG (X.block M scope cl C s₃ H₃ ex) target g) (ht:∀ cl C s₃ H₃ ex,PTs (X.block M scope cl C s₃ H₃ ex) ifs tt) (he:∀ cl C s₃ H₃ ex,PE (X.block M scope cl C s₃ H₃ ex) elt te)
  (hs:∀ x,foldedSetIterable iter X.env x=pure x:=by intro _;rfl):PE X (.ListComp elt [⟨target,iter,ifs,0⟩] scope pos) (tCompK M wi g tt te):=by
 intro pins s σ H Q I h
 rw[eval_ListComp]
 exact comp_core (use:=none) hc S hi hg ht he hs I h fun D C H' s5 mC q hn _ _ _ _ _ inv _=>⟨mC,hn,fun h' hs'=>⟨.ref D,H',inv h' hs',rfl,q⟩⟩
end
end L2

set_option maxHeartbeats 4000000
namespace L2
open PySem PySem.Spec PyProof.Rows


section
variable {prog:Program} {w:World} {A:Around} {E:Value->Shared->Prop} {s:Shared}
theorem sorted_seq {it:Addr} {T:String} {o:Obj} {vs:List Value} {n:Nat} {ns:List Int} {Q:Value->Shared->Prop} (hT:T="list"\/T="tuple")
  (ho:s.heap.get? it=some o) (hc:o.cls=.type T) (hd:o.data=.seq vs.toArray n) (hI:IntsAre vs ns) (h64:vs.length < 64)
  (h:∀ (h1 h':Heap) (out:List Value) (ns':List Int) (k:Nat),(∀ b o',s.heap.get? b=some o'->h1.get? b=some o')->(∀ b o',h1.get? b=some o'->h'.get? b=some o') ->
   h'.get? h1.objs.size=some { cls:=.type "list",data:=.seq out.toArray k } ->
   IntsAre out ns'->ns'.Perm ns->ns'.Pairwise (·<=·)->Q (.ref h1.objs.size) { s with heap:=h' }) :
  wpAny (model prog w) A (call (.builtin "sorted") [.ref it]) Q E s:=by
 refine Calls.call_function_entry kind_sorted plain_sorted entry_sorted (args_sorted1 _) ?_
 unfold Builtin.«sorted»
 refine wpAny_bind (m:=checkCount "sorted" 1 1 _) (wpAny_pure ?_)
 have hsz:vs.toArray.size<=sizeLine:=by rw[List.size_toArray,sizeLine_eq];omega
 refine wpAny_bind (wpAny_collect_seq (hsz:=hsz) it hT ho hc hd fun h1 k1=>?_)
 rw[show vs.toArray.toList=vs by simp]
 refine wpAny_bind (wpAny_newList ?_)
 have hoL:(h1.push (seqObj "list" vs.toArray 0)).get? h1.objs.size=some (seqObj "list" vs.toArray 0):=Heap.get?_push_size _ rfl
 refine wpAny_bind (wpAny_holding (wpAny_call_entry slot_list_sort ⟨_,hoL,rfl⟩ entry_list_sort (list_sort_tree hoL hI h64 fun out ns' a1 a2 a3=>⟨_,rfl,?_⟩) (args_list_sort _)))
 refine wpAny_pure ⟨_,rfl,?_⟩
 obtain ⟨e,he⟩:=sortedHeap_at (vs:=vs) (out:=out) hoL
 have he':(sortedHeap (h1.push (seqObj "list" vs.toArray 0)) h1.objs.size vs out).get? h1.objs.size=some { cls:=.type "list",data:=.seq out.toList.toArray e }:=by
  rw[he]
 refine h h1 _ out.toList ns' e k1 (fun b o' hb1=>?_) he' a1 a2 a3
 have hlt:=Heap.lt_size hb1
 rw[sortedHeap_old (Nat.ne_of_lt hlt) (by rw[Heap.size_push];exact Nat.lt_succ_of_lt hlt)]
 exact Heap.get?_push_of_some _ hb1
end

section
variable {X:Cx}
theorem call_sorted:CallR X (.builtin "sorted") (fun xs H Q=>∃ p ns,xs=[.ref p]/\(SqL X.K H p (ns.map V.int)\/SqT X.K H p (ns.map V.int))/\ns.length < 64 /\
  ∀ ns':List Int,ns'.Perm ns->ns'.Pairwise (·<=·)->∀ l,H l=none->Q (.ref l) (upd H l (.lst (ns'.map V.int)))):=by
 intro pins s σ H xs us Q I r h
 obtain ⟨p,ns,rfl,hq,h64,q⟩:=h
 obtain ⟨u,rfl,rx⟩:=vals1 r
 cases rx
 have fin:∀ {its:List Value} {T:String} {o:Obj} {n:Nat},Vals (ns.map V.int) its->(T="list"\/T="tuple")->s.heap.get? p=some o->o.cls=.type T->o.data=.seq its.toArray n ->
   wpAny (model X.prog X.w) X.A (call (.builtin "sorted") [.ref p]) (EP X pins σ Q) X.xe s:=fun {its T o n} rv hT ho hc hd=>by
  have hi:=intsAre_of rv
  have hl:its.length < 64:=by rw[<- rv.length,List.length_map];exact h64
  refine sorted_seq hT ho hc hd hi hl fun h1 h' out ns' k k1 k2 hl' hi' hp hs=>?_
  have I1:Inv X pins σ H { s with heap:=h1 }:=I.kept (t':=s.toks) k1
  have hz:(ns'.map V.int).length<=sizeLine:=by rw[List.length_map,hp.length_eq,sizeLine_eq];omega
  have I2:Inv X pins σ (upd H h1.objs.size (.lst (ns'.map V.int))) { s with heap:=h' } :=
   I1.laid (a:=h1.objs.size) (o:=.lst (ns'.map V.int)) (h':=h') (t':=s.toks) k2 (Nat.le_refl _) ⟨hz,out,k,vals_ints hi',hl'⟩
  exact ⟨.ref h1.objs.size,_,I2,rfl,q ns' hp hs _ (I1.hok.fresh (Nat.le_refl _))⟩
 rcases hq with hq | hq
 ·obtain ⟨its,rv,⟨o,n,ho,hc,hdd,hd⟩,_⟩:=I.list hq
  exact fin rv (.inl rfl) ho hc hd
 ·obtain ⟨its,rv,⟨o,ho,hc,n,hd⟩,_⟩:=I.tuple hq
  exact fin rv (.inr rfl) ho hc hd


def rngV (lo hi:Int):List V:=(List.range (hi-lo).toNat).map fun (i:Nat)=>V.int (lo+i)
theorem rngV_len (lo hi:Int):(rngV lo hi).length=(hi-lo).toNat:=by simp [rngV]
theorem call_range1:CallR X (.type "range") (fun xs H Q=>∃ j:Int,xs=[.int j]/\-(2 ^ 62)<=j/\j < 2 ^ 62/\∀ p,H p=none->Q (.ref p) (upd H p (.rng 0 j))):=by
 intro pins s σ H xs us Q I r h
 obtain ⟨j,rfl,h1,h2,q⟩:=h
 obtain ⟨u,rfl,t,rfl⟩:=vals1 r
 refine call_range_1 ⟨.ref s.heap.objs.size,_,I.laid (a:=s.heap.objs.size) (o:=.rng 0 j) (fun b o e=>Heap.get?_push_of_some _ e) (Nat.le_refl _) ⟨_,_,_,Heap.get?_push_size _ rfl⟩,rfl,q _ (I.hok.fresh (Nat.le_refl _))⟩
theorem call_range2:CallR X (.type "range") (fun xs H Q=>∃ i j:Int,xs=[.int i,.int j]/\(-(2 ^ 62)<=i/\i < 2 ^ 62/\-(2 ^ 62)<=j/\j < 2 ^ 62)/\∀ p,H p=none->Q (.ref p) (upd H p (.rng i j))):=by
 intro pins s σ H xs us Q I r h
 obtain ⟨i,j,rfl,hb,q⟩:=h
 obtain ⟨u,w',rfl,⟨t,rfl⟩,⟨t',rfl⟩⟩:=vals2 r
 refine call_range_2 ⟨.ref s.heap.objs.size,_,I.laid (a:=s.heap.objs.size) (o:=.rng i j) (fun b o e=>Heap.get?_push_of_some _ e) (Nat.le_refl _) ⟨_,_,_,Heap.get?_push_size _ rfl⟩,rfl,q _ (I.hok.fresh (Nat.le_refl _))⟩
theorem vals_items {lo:Int}:∀ (n:Nat) (us:List Value),us.length=n->(∀ (j:Nat) v,us[j]?=some v->∃ t,v=.int (lo+j) t)->Vals ((List.range n).map fun (i:Nat)=>V.int (lo+i)) us:=by
 intro n
 induction n with
 | zero=>intro us h _;cases us with
  | nil=>exact .nil
  | cons a r=>cases h
 | succ n ih =>
  intro us h hv
  obtain ⟨us',u,rfl⟩:∃ us' u,us=us'++[u]:=by
   refine ⟨us.dropLast,us.getLast (by intro z;rw[z]at h;cases h),?_⟩
   exact (List.dropLast_concat_getLast _).symm
  have hl:us'.length=n:=by simpa using h
  rw[List.range_succ,List.map_append]
  refine Vals.append (ih us' hl fun j v hj=>hv j v ?_) (.cons ?_ .nil)
  ·rw[List.getElem?_append_left (List.getElem?_eq_some_iff.mp hj).1];exact hj
  ·obtain ⟨t,e⟩:=hv n u (by rw[List.getElem?_append_right (by omega),hl];simp)
   exact ⟨t,e⟩
theorem call_list_rng (hc:X.calm=true):CallR X (.type "list") (fun xs H Q=>∃ p lo hi,xs=[.ref p]/\H p=some (.rng lo hi)/\(-(2 ^ 62)<=lo/\lo < 2 ^ 62/\-(2 ^ 62)<=hi/\hi < 2 ^ 62)/\(hi-lo).toNat<=sizeLine/\∀ l,H l=none->Q (.ref l) (upd H l (.lst (rngV lo hi)))):=by
 intro pins s σ H xs us Q I r h
 obtain ⟨p,lo,hi,rfl,hp,⟨b1,b2,b3,b4⟩,hz,q⟩:=h
 obtain ⟨u,rfl,rx⟩:=vals1 r
 cases rx
 obtain ⟨t,u,v,e⟩:=(show ObjOk X.prog X.w H s.heap p (.rng lo hi) from I.hok p _ hp)
 have hn:Builtin.Range.rangeSize lo hi 1=(((hi-lo).toNat:Nat):Int):=by rw[rangeSize_one];split <;> omega
 have hs:sizeLine=16777216:=sizeLine_eq
 refine call_list_range (I.ok.hd hc) e (small_one b1 b2 b3 b4) hn (by omega) fun h' tk acc c' kp ho it=>?_
 have rv:Vals (rngV lo hi) acc.toList:=by
  refine vals_items _ acc.toList (by simpa using it.1) fun j v hj=>?_
  obtain ⟨t,e⟩:=it.2 j v (by simpa using hj)
  exact ⟨t,by rw[e,Int.mul_one]⟩
 have I2:Inv X pins σ (upd H s.heap.objs.size (.lst (rngV lo hi))) { s with heap:=h',toks:=tk } :=
  I.laid kp (Nat.le_refl _) (show ObjOk X.prog X.w _ h' _ (.lst (rngV lo hi)) from ⟨by rw[rngV_len];exact hz,acc.toList,c',rv,ho⟩)
 exact ⟨.ref s.heap.objs.size,_,I2,rfl,q _ (I.hok.fresh (Nat.le_refl _))⟩


def eqVs (xs ys:List V):Bool:=xs.length == ys.length && (List.range xs.length).all fun j=>match xs[j]?,ys[j]? with | some x,some y=>eqV x y | _,_=>false
theorem eqVs_ints (ns ms:List Int):eqVs (ns.map V.int) (ms.map V.int)=decide (ns=ms):=by
 rw[Bool.eq_iff_iff,decide_eq_true_eq]
 unfold eqVs
 rw[Bool.and_eq_true,beq_iff_eq,List.all_eq_true,List.length_map,List.length_map]
 constructor
 ·rintro ⟨hl,ha⟩
  refine List.ext_getElem hl fun j h1 h2=>?_
  have:=ha j (List.mem_range.mpr h1)
  rw[List.getElem?_map,List.getElem?_map,List.getElem?_eq_getElem h1,List.getElem?_eq_getElem h2]at this
  have z:(ns[j] == ms[j])=true:=this
  exact beq_iff_eq.mp z
 ·rintro rfl
  refine ⟨rfl,fun j hj=>?_⟩
  have h1:=List.mem_range.mp hj
  rw[List.getElem?_map,List.getElem?_eq_getElem h1]
  show (ns[j] == ns[j])=true
  simp
theorem eqAt_items {A:Around} {s:Shared} {xs ys:List V} {us ws:List Value} (ru:Vals xs us) (rw':Vals ys ws) (fx:xs.all flatV=true) (fy:ys.all flatV=true) (j:Nat) (h1:j < us.toArray.size) (h2:j < ws.toArray.size) :
  SeqAt.EqAt A s us.toArray[j] ws.toArray[j] (match xs[j]?,ys[j]? with | some x,some y=>eqV x y | _,_=>false):=by
 rw[List.size_toArray]at h1 h2
 have g1:j < xs.length:=by rw[ru.length];exact h1
 have g2:j < ys.length:=by rw[rw'.length];exact h2
 obtain ⟨u,e1,r1⟩:=ru.get (List.getElem?_eq_getElem g1)
 obtain ⟨w,e2,r2⟩:=rw'.get (List.getElem?_eq_getElem g2)
 rw[List.getElem?_eq_getElem g1,List.getElem?_eq_getElem g2]
 have q1:us.toArray[j]=u:=by
  have:=(List.getElem?_eq_some_iff.mp e1).2
  simpa using this
 have q2:ws.toArray[j]=w:=by
  have:=(List.getElem?_eq_some_iff.mp e2).2
  simpa using this
 rw[q1,q2]
 exact eqAt_V r1 r2 (List.all_eq_true.mp fx _ (List.getElem_mem g1)) (List.all_eq_true.mp fy _ (List.getElem_mem g2))
def rEqS (K:PySem.W.Frag) (neg:Bool):R2:=fun x y H Q=>∃ a b xs ys,x=.ref a/\y=.ref b/\((SqL K H a xs/\SqL K H b ys)\/(SqT K H a xs/\SqT K H b ys))/\xs.all flatV=true/\ys.all flatV=true/\Q (.bl (if neg then !eqVs xs ys else eqVs xs ys)) H
theorem op_eq_seq (hu:X.A.units < cLine):OpR X (compareOp .Eq) (rEqS X.K false):=by
 intro pins s σ H x y v u Q I rx ry h
 obtain ⟨a,b,xs,ys,rfl,rfl,hq,fx,fy,q⟩:=h
 cases rx
 cases ry
 have q:Q (.bl (eqVs xs ys)) H:=q
 rcases hq with ⟨ha,hb⟩ | ⟨ha,hb⟩
 ·obtain ⟨us,r1,p1,_⟩:=I.list ha
  obtain ⟨ws,r2,p2,_⟩:=I.list hb
  have l1:=r1.length
  have l2:=r2.length
  by_cases hl:xs.length=ys.length
  ·refine SeqAt.eq_listAt p1.isList p2.isList (by simp only[List.size_toArray];omega) hu (fun j h1 h2=>eqAt_items r1 r2 fx fy j h1 h2) ⟨.bl _,H,I,rfl,?_⟩
   have e:eqVs xs ys=(List.range us.toArray.size).all fun j=>match xs[j]?,ys[j]? with | some x,some y=>eqV x y | _,_=>false:=by
    unfold eqVs
    rw[List.size_toArray,<- l1,beq_iff_eq.mpr hl,Bool.true_and]
   rw[<- e];exact q
  ·refine SeqAt.eq_list_lengthsAt p1.isList p2.isList (by simp only[List.size_toArray,bne_iff_ne];omega) hu ⟨.bl false,H,I,rfl,?_⟩
   have e:eqVs xs ys=false:=by
    unfold eqVs
    rw[beq_eq_false_iff_ne.mpr hl,Bool.false_and]
   rw[<- e];exact q
 ·obtain ⟨us,r1,p1,_⟩:=I.tuple ha
  obtain ⟨ws,r2,p2,_⟩:=I.tuple hb
  have l1:=r1.length
  have l2:=r2.length
  refine SeqAt.eq_tupleAt p1 p2 hu (fun j h1 h2=>eqAt_items r1 r2 fx fy j h1 h2) ⟨.bl _,H,I,rfl,?_⟩
  have e:eqVs xs ys=((List.range (min us.toArray.size ws.toArray.size)).all (fun j=>match xs[j]?,ys[j]? with | some x,some y=>eqV x y | _,_=>false) && us.toArray.size == ws.toArray.size):=by
   unfold eqVs
   simp only[List.size_toArray,<- l1,<- l2]
   by_cases hl:xs.length=ys.length
   ·rw[hl,Nat.min_self,Bool.and_comm]
   ·rw[beq_eq_false_iff_ne.mpr hl,Bool.false_and,Bool.and_false]
  rw[<- e];exact q


def tyVal:V->Option Value
 | .ty n=>some (.type n)
 | .ref a=>some (.ref a)
 | _=>none
end
end L2

set_option maxHeartbeats 4000000
namespace L2
open PySem PySem.Spec PyProof.Rows

section
variable {D:Ends} {σ:St} {H:Hp} {Q:VK}
theorem r_seq {t u:TS}:tSeq t u D σ H=t { D with nx:=u D } σ H:=rfl
theorem r_next:tNext D σ H=D.nx σ H:=rfl
theorem r_drop {te:TE}:tDrop te D σ H=te σ H (fun _ H1=>D.nx σ H1):=rfl
theorem r_ret {te:TE}:tRet te D σ H=te σ H D.rt:=rfl
theorem r_retN:tRetN D σ H=D.rt .non H:=rfl
theorem r_if {c:TT} {t u:TS}:tIfS c t u D σ H=c σ H (fun b H1=>if b=true then t D σ H1 else u D σ H1):=rfl
theorem r_never:tNever D σ H=False:=rfl
theorem r_break:tBreak D σ H=D.bk σ H:=rfl
theorem r_cont:tCont D σ H=D.ct σ H:=rfl
theorem r_asg {te:TE} {g:TG}:tAsg te g D σ H=te σ H (fun x H1=>g x σ H1 D.nx):=rfl
theorem r_gname {i:Nat} {v:V} {R:St->Hp->Prop}:gName i v σ H R=R (σ.set i (some v)) H:=rfl
theorem r_gsub {to ti:TE} {t:TSet} {v:V} {R:St->Hp->Prop}:gSub to ti t v σ H R=to σ H (fun o H1=>ti σ H1 fun i H2=>t o i v H2 fun H3=>R σ H3):=rfl
theorem r_gnil {vs:List V} {R:St->Hp->Prop}:gNil vs σ H R=(vs=[]/\R σ H):=rfl
theorem r_gcons {t:TG} {u:TGs} {v:V} {vs:List V} {R:St->Hp->Prop}:gCons t u (v::vs) σ H R=t v σ H (fun σ' H'=>u vs σ' H' R):=propext
 ⟨fun ⟨_,_,e,h⟩=>by cases e;exact h,fun h=>⟨_,_,rfl,h⟩⟩
theorem r_var {i:Nat}:tVar i σ H Q=∃ v,σ[i]?=some (some v)/\Q v H:=rfl
theorem r_c {v:V}:tC v σ H Q=Q v H:=rfl
theorem r_op {r:R2} {ta tb:TE}:tOp r ta tb σ H Q=ta σ H (fun x H1=>tb σ H1 fun y H2=>r x y H2 Q):=rfl
theorem r_un {r:V->Hp->VK->Prop} {ta:TE}:tUn r ta σ H Q=ta σ H (fun x H1=>r x H1 Q):=rfl
theorem r_rI {C:Int->Int->Prop} {g:Int->Int->V} {i j:Int}:rI C g (.int i) (.int j) H Q=(C i j/\Q (g i j) H):=propext
 ⟨fun ⟨_,_,e1,e2,h⟩=>by cases e1;cases e2;exact h,fun h=>⟨_,_,rfl,rfl,h⟩⟩
theorem r_rI0 {g:Int->Int->V} {i j:Int}:rI0 g (.int i) (.int j) H Q=Q (g i j) H:=propext
 ⟨fun ⟨_,_,e1,e2,h⟩=>by cases e1;cases e2;exact h,fun h=>⟨_,_,rfl,rfl,h⟩⟩
theorem r_rU {g:Int->V} {i:Int}:rU g (.int i) H Q=Q (g i) H:=propext ⟨fun ⟨_,e1,h⟩=>by cases e1;exact h,fun h=>⟨_,rfl,h⟩⟩
theorem r_eqI {i j:Int}:rEq (.int i) (.int j) H Q=Q (.bl (decide (i=j))) H:=propext
 ⟨fun ⟨_,h⟩=>by rwa [dec_int,Bool.beq_eq_decide_eq]at h,fun h=>⟨rfl,by rwa [dec_int,Bool.beq_eq_decide_eq]⟩⟩
theorem r_neI {i j:Int}:rNe (.int i) (.int j) H Q=Q (.bl (!decide (i=j))) H:=propext
 ⟨fun ⟨_,h⟩=>by rwa [dec_int,Bool.beq_eq_decide_eq]at h,fun h=>⟨rfl,by rwa [dec_int,Bool.beq_eq_decide_eq]⟩⟩
theorem r_eqB {i j:Bool}:rEq (.bl i) (.bl j) H Q=Q (.bl (decide (i=j))) H:=propext
 ⟨fun ⟨_,h⟩=>by rwa [dec_bl,Bool.beq_eq_decide_eq]at h,fun h=>⟨rfl,by rwa [dec_bl,Bool.beq_eq_decide_eq]⟩⟩
theorem r_neB {i j:Bool}:rNe (.bl i) (.bl j) H Q=Q (.bl (!decide (i=j))) H:=propext
 ⟨fun ⟨_,h⟩=>by rwa [dec_bl,Bool.beq_eq_decide_eq]at h,fun h=>⟨rfl,by rwa [dec_bl,Bool.beq_eq_decide_eq]⟩⟩
theorem r_ebl {b:Bool} {R:Bool->Prop}:(∃ k,V.bl b=V.bl k/\R k)=R b:=propext ⟨fun ⟨_,e,h⟩=>by cases e;exact h,fun h=>⟨_,rfl,h⟩⟩
theorem r_eint {b:Int} {R:Int->Prop}:(∃ k,V.int b=V.int k/\R k)=R b:=propext ⟨fun ⟨_,e,h⟩=>by cases e;exact h,fun h=>⟨_,rfl,h⟩⟩
theorem r_eref {b:Addr} {R:Addr->Prop}:(∃ k,V.ref b=V.ref k/\R k)=R b:=propext ⟨fun ⟨_,e,h⟩=>by cases e;exact h,fun h=>⟨_,rfl,h⟩⟩
theorem r_eargI {b:Int} {R:Int->Prop}:(∃ k,[V.int b]=[V.int k]/\R k)=R b:=propext ⟨fun ⟨_,e,h⟩=>by cases e;exact h,fun h=>⟨_,rfl,h⟩⟩
theorem r_test {t:TE} {R:Bool->Hp->Prop}:tTest t σ H R=t σ H (fun x H'=>∃ k,x=.bl k/\R k H'):=rfl
theorem r_tB {t:TE} {R:Bool->Hp->Prop}:tB t σ H R=t σ H (fun x H'=>∃ k,x=.bl k/\R k H'):=rfl
theorem r_and {t u:TT} {R:Bool->Hp->Prop}:tAnd t u σ H R=t σ H (fun c H1=>if c=true then u σ H1 R else R false H1):=rfl
theorem r_or {t u:TT} {R:Bool->Hp->Prop}:tOr t u σ H R=t σ H (fun c H1=>if c=true then R true H1 else u σ H1 R):=rfl
theorem r_not {t:TT} {R:Bool->Hp->Prop}:tNot t σ H R=t σ H (fun c H1=>R (!c) H1):=rfl
theorem r_andV {ta tb:TE}:tAndV ta tb σ H Q=ta σ H (fun x H1=>∃ c,x=.bl c/\if c=true then tb σ H1 Q else Q (.bl false) H1):=rfl
theorem r_orV {ta tb:TE}:tOrV ta tb σ H Q=ta σ H (fun x H1=>∃ c,x=.bl c/\if c=true then Q (.bl true) H1 else tb σ H1 Q):=rfl
theorem r_notV {ta:TE}:tNotV ta σ H Q=ta σ H (fun x H1=>∃ c,x=.bl c/\Q (.bl (!c)) H1):=rfl
theorem r_chain {r r':R2} {ta tb tc:TE}:tChain r r' ta tb tc σ H Q=ta σ H (fun x H1=>tb σ H1 fun y H2=>r x y H2 fun z H3=>∃ k,z=.bl k/\(if k=true then tc σ H3 fun w' H4=>r' y w' H4 Q else Q (.bl false) H3)):=rfl
theorem r_ifE {t:TT} {ta tb:TE}:tIf t ta tb σ H Q=t σ H (fun c H1=>if c=true then ta σ H1 Q else tb σ H1 Q):=rfl
theorem r_tup {t:TA}:tTup t σ H Q=t σ H (fun xs H1=>xs.length<=sizeLine/\∀ p,H1 p=none->Q (.ref p) (upd H1 p (.tup xs))):=rfl
theorem r_lst {t:TA}:tLst t σ H Q=t σ H (fun xs H1=>xs.length<=sizeLine/\∀ p,H1 p=none->Q (.ref p) (upd H1 p (.lst xs))):=rfl
theorem r_nil {R:List V->Hp->Prop}:tNil σ H R=R [] H:=rfl
theorem r_cons {ta:TE} {tr:TA} {R:List V->Hp->Prop}:tCons ta tr σ H R=ta σ H (fun x H1=>tr σ H1 fun xs H2=>R (x::xs) H2):=rfl
theorem r_call {sp:Sp} {dvs:List V} {E:XK} {t:TA}:tCall sp dvs E t σ H Q=t σ H (fun vs H1=>sp (vs++dvs) H1 Q E):=rfl
theorem r_cb {r:List V->Hp->VK->Prop} {t:TA}:tCB r t σ H Q=t σ H (fun vs H1=>r vs H1 Q):=rfl
theorem r_bm {K:PySem.W.Frag} {T:String} {r:V->List V->Hp->VK->Prop} {to:TE} {t:TA}:tBM K T r to t σ H Q=to σ H (fun x H1=>tyV K T x H1/\t σ H1 fun xs H2=>r x xs H2 Q):=rfl
theorem r_bm0 {K:PySem.W.Frag} {T:String} {r:V->List V->Hp->VK->Prop} {to:TE}:tBM0 K T r to σ H Q=to σ H (fun x H1=>tyV K T x H1/\r x [] H1 Q):=rfl
def Loop (J:It) (g:TG) (tb:TS) (D:Ends) (σ:St) (H:Hp):Prop:=∃ W:Nat->Nat->St->Hp->Prop,(∃ m,W 0 m σ H)/\∀ i m σ H,W i m σ H ->
 (J.stop i H/\D.nx σ H)\/(J.go i H/\∃ N:St->Hp->Prop,(∀ σ' H',N σ' H'->∃ m',m' < m/\W (i+1) m' σ' H')/\∀ x H',J.yld i H x H'->g x σ H' fun σ2 H2=>tb { D with nx:=N,ct:=N,bk:=D.nx } σ2 H2)
theorem r_for {wi:TI} {g:TG} {tb:TS}:tFor wi g tb D σ H=wi σ H (fun J H1=>Loop J g tb D σ H1):=rfl
theorem r_irng1 {ta:TA} {R:It->Hp->Prop}:iRng1 ta σ H R=ta σ H (fun vs H1=>∃ j:Int,vs=[.int j]/\-(2 ^ 62)<=j/\j < 2 ^ 62/\R (Itr 0 j.toNat) H1):=rfl
theorem r_irng2 {ta:TA} {R:It->Hp->Prop}:iRng2 ta σ H R=ta σ H (fun vs H1=>∃ i j:Int,vs=[.int i,.int j]/\(-(2 ^ 62)<=i/\i < 2 ^ 62/\-(2 ^ 62)<=j/\j < 2 ^ 62)/\R (Itr i (j-i).toNat) H1):=rfl
theorem r_ilist {K:PySem.W.Frag} {tl:TE} {R:It->Hp->Prop}:iList K tl σ H R=tl σ H (fun x H1=>∃ a,x=.ref a/\(∃ xs,SqL K H1 a xs)/\R (Itl K a) H1):=rfl
theorem r_itup {K:PySem.W.Frag} {tl:TE} {R:It->Hp->Prop}:iTup K tl σ H R=tl σ H (fun x H1=>∃ a,x=.ref a/\(∃ xs,SqT K H1 a xs)/\R (Itt K a) H1):=rfl
def CLoop (M:List Str) (J:It) (g:TG) (tt:TT) (te:TE) (σ:St) (H:Hp) (Q:VK):Prop:=∃ W:Nat->Nat->List V->Hp->Prop,(∃ m,W 0 m [] H)/\∀ i m ys H,W i m ys H ->
 (J.stop i H/\ys.length<=sizeLine/\∀ p,H p=none->Q (.ref p) (upd H p (.lst ys))) \/
 (J.go i H/\ys.length < sizeLine/\∃ N:List V->Hp->Prop,(∀ ys' H',N ys' H'->∃ m',m' < m/\W (i+1) m' ys' H')/\∀ x H',J.yld i H x H' ->
  g x (M.map (fun _=>none)++σ) H' fun σ2 H2=>σ2.drop M.length=σ/\tt σ2 H2 fun b H3=>if b=true then te σ2 H3 fun y H4=>N (ys++[y]) H4 else N ys H3)
theorem r_comp {M:List Str} {wi:TI} {g:TG} {tt:TT} {te:TE}:tCompK M wi g tt te σ H Q=wi σ H (fun J H1=>CLoop M J g tt te σ H1 Q):=rfl
theorem r_yes {R:Bool->Hp->Prop}:tYes σ H R=R true H:=rfl
theorem r_append {l:Addr} {y:V}:rAppend (.ref l) [y] H Q=∃ xs,H l=some (.lst xs)/\xs.length < sizeLine/\Q .non (upd H l (.lst (xs++[y]))):=propext
 ⟨fun ⟨_,xs,_,e1,e2,h⟩=>by cases e1;cases e2;exact ⟨xs,h⟩,fun ⟨xs,h⟩=>⟨_,xs,_,rfl,rfl,h⟩⟩
end

section
variable {M:List Str} {K:PySem.W.Frag} {a:Addr} {xs:List V} {g:TG} {tt:TT} {te:TE} {σ:St} {H:Hp} {Q:VK} {lo:Int} {n:Nat}
theorem comp_tup (Pv:Nat->List V->Hp->Prop) (h0:Pv 0 [] H) (hl:∀ i ys H,i<=xs.length->Pv i ys H->SqT K H a xs) (hz:xs.length<=sizeLine) (hn:∀ i ys H,Pv i ys H->ys.length<=i)
  (hs:∀ i x ys H,xs[i]?=some x->Pv i ys H->g x (M.map (fun _=>none)++σ) H fun σ2 H2=>σ2.drop M.length=σ/\tt σ2 H2 fun b H3=>if b=true then te σ2 H3 fun y H4=>Pv (i+1) (ys++[y]) H4 else Pv (i+1) ys H3)
  (hd:∀ ys H,Pv xs.length ys H->∀ p,H p=none->Q (.ref p) (upd H p (.lst ys))):CLoop M (Itt K a) g tt te σ H Q:=by
 refine ⟨fun i m ys H=>m=xs.length-i/\i<=xs.length/\Pv i ys H,⟨xs.length,by simp,Nat.zero_le _,h0⟩,?_⟩
 rintro i m ys H ⟨rfl,hi,p⟩
 have q:=hl i ys H hi p
 have hy:=hn i ys H p
 by_cases hlt:i < xs.length
 ·refine .inr ⟨⟨xs,xs[i],q,by simp [hlt]⟩,by omega,Pv (i+1),fun ys' H' p'=>⟨xs.length-(i+1),by omega,rfl,hlt,p'⟩,fun x H' y=>?_⟩
  obtain ⟨e,y⟩:=y
  subst e
  exact hs i x ys _ (y xs q) p
 ·have e:i=xs.length:=by omega
  subst e
  exact .inl ⟨⟨xs,q,Nat.le_refl _⟩,by omega,hd ys H p⟩
theorem comp_list (Pv:Nat->List V->Hp->Prop) (h0:Pv 0 [] H) (hl:∀ i ys H,i<=xs.length->Pv i ys H->SqL K H a xs) (hz:xs.length<=sizeLine) (hn:∀ i ys H,Pv i ys H->ys.length<=i)
  (hs:∀ i x ys H,xs[i]?=some x->Pv i ys H->g x (M.map (fun _=>none)++σ) H fun σ2 H2=>σ2.drop M.length=σ/\tt σ2 H2 fun b H3=>if b=true then te σ2 H3 fun y H4=>Pv (i+1) (ys++[y]) H4 else Pv (i+1) ys H3)
  (hd:∀ ys H,Pv xs.length ys H->∀ p,H p=none->Q (.ref p) (upd H p (.lst ys))):CLoop M (Itl K a) g tt te σ H Q:=by
 refine ⟨fun i m ys H=>m=xs.length-i/\i<=xs.length/\Pv i ys H,⟨xs.length,by simp,Nat.zero_le _,h0⟩,?_⟩
 rintro i m ys H ⟨rfl,hi,p⟩
 have q:=hl i ys H hi p
 have hy:=hn i ys H p
 by_cases hlt:i < xs.length
 ·refine .inr ⟨⟨xs,xs[i],q,by simp [hlt]⟩,by omega,Pv (i+1),fun ys' H' p'=>⟨xs.length-(i+1),by omega,rfl,hlt,p'⟩,fun x H' y=>?_⟩
  obtain ⟨e,y⟩:=y
  subst e
  exact hs i x ys _ (y xs q) p
 ·have e:i=xs.length:=by omega
  subst e
  exact .inl ⟨⟨xs,q,Nat.le_refl _⟩,by omega,hd ys H p⟩
theorem comp_range (Pv:Nat->List V->Hp->Prop) (h0:Pv 0 [] H) (hz:n<=sizeLine) (hn:∀ i ys H,Pv i ys H->ys.length<=i)
  (hs:∀ i ys H,i < n->Pv i ys H->g (.int (lo+i)) (M.map (fun _=>none)++σ) H fun σ2 H2=>σ2.drop M.length=σ/\tt σ2 H2 fun b H3=>if b=true then te σ2 H3 fun y H4=>Pv (i+1) (ys++[y]) H4 else Pv (i+1) ys H3)
  (hd:∀ ys H,Pv n ys H->∀ p,H p=none->Q (.ref p) (upd H p (.lst ys))):CLoop M (Itr lo n) g tt te σ H Q:=by
 refine ⟨fun i m ys H=>m=n-i/\i<=n/\Pv i ys H,⟨n,by simp,Nat.zero_le _,h0⟩,?_⟩
 rintro i m ys H ⟨rfl,hi,p⟩
 have hy:=hn i ys H p
 by_cases hlt:i < n
 ·refine .inr ⟨hlt,by omega,Pv (i+1),fun ys' H' p'=>⟨n-(i+1),by omega,rfl,hlt,p'⟩,fun x H' y=>?_⟩
  obtain ⟨e,y⟩:=y
  subst e y
  exact hs i ys _ hlt p
 ·have e:i=n:=by omega
  subst e
  exact .inl ⟨Nat.le_refl _,by omega,hd ys H p⟩
end

theorem zC7 {X:Cx} {scope sc:Scope} {N:List Str} (hsc:X.env.scope=sc) (hN:X.N=N) (h1:scope.kind=.function)
  (h2:∀ y∈scope.names,y.2≠.cell/\(y.2=.free->sc.names.lookup y.1=some .cell)/\(y.2=.local->scope.names.lookup y.1=some .local)) (h3:∀ y∈N,scope.names.lookup y≠some .local):CompScope X scope where
 kind:=h1
 cell:=fun y hy=>(h2 y hy).1
 free:=fun y hy e=>.inl (by show X.env.scope.names.lookup y.1=_;rw[hsc];exact (h2 y hy).2.1 e)
 names:=fun y hy e=>(h2 y hy).2.2 e
 apart:=fun y hy=>h3 y (by rw[<- hN];exact hy)


theorem zA7 {H:Hp} {p:Addr} (h:H p=none) (o:HO):Same H (upd H p o):=fun b u q=>by rw[zA8 (zA4 q h)];exact q
theorem Same.at {H H':Hp} {a:Addr} {o:HO} (s:Same H H') (h:H a=some o):H' a=some o:=s a o h
theorem Same.sqT {K:PySem.W.Frag} {H H':Hp} {a:Addr} {xs:List V} (e:Same H H') (h:SqT K H a xs):SqT K H' a xs:=by
 rcases h with (h | ⟨o,h⟩) | h
 ·exact .inl (.inl (e _ _ h))
 ·exact .inl (.inr ⟨o,e _ _ h⟩)
 ·exact .inr h
theorem same_put {H H':Hp} {p:Addr} (s:Same H H') (h:H p=none) (o:HO):Same H (upd H' p o):=fun b u q=>by rw[zA8 (zA4 q h)];exact s b u q
theorem zCk {n:Nat} (h:n<=100):n<=sizeLine:=Nat.le_trans h (by decide)
end L2

namespace L2
open PySem

theorem bt_len:bootBuiltins "len"=some (.builtin "len"):=by decide +kernel
theorem bt_sorted:bootBuiltins "sorted"=some (.builtin "sorted"):=by decide +kernel
theorem zAx:bootBuiltins "isinstance"=some (.builtin "isinstance"):=by decide +kernel
theorem bt_min:bootBuiltins "min"=some (.builtin "min"):=by decide +kernel
theorem bt_sum:bootBuiltins "sum"=some (.builtin "sum"):=by decide +kernel
theorem bt_list:bootBuiltins "list"=some (.type "list"):=by decide +kernel
theorem bt_tuple:bootBuiltins "tuple"=some (.type "tuple"):=by decide +kernel
theorem bt_range:bootBuiltins "range"=some (.type "range"):=by decide +kernel
theorem bt_str:bootBuiltins "str"=some (.type "str"):=by decide +kernel
theorem bt_enumerate:bootBuiltins "enumerate"=some (.type "enumerate"):=by decide +kernel
theorem bt_ValueError:bootBuiltins "ValueError"=some (.type "ValueError"):=by decide +kernel
theorem hu0_of {A:Around} {k:Nat} (hr:Room k A):A.units < cLine:=hr.units0

end L2

namespace L2
open PySem PySem.Spec PyProof.Rows
section
variable {K:PySem.W.Frag} {a:Addr} {xs:List V} {g:TG} {tb:TS} {D:Ends} {σ:St} {H:Hp} {lo:Int} {n:Nat}
theorem loop_range (Pv:Nat->St->Hp->Prop) (h0:Pv 0 σ H) (hs:∀ i σ H,i < n->Pv i σ H->g (.int (lo+i)) σ H fun σ2 H2=>tb { D with nx:=Pv (i+1),ct:=Pv (i+1),bk:=D.nx } σ2 H2) (hd:∀ σ H,Pv n σ H->D.nx σ H) :
  Loop (Itr lo n) g tb D σ H:=for_range Pv h0 hs hd
theorem loop_list (Pv:Nat->St->Hp->Prop) (h0:Pv 0 σ H) (hl:∀ i σ H,i<=xs.length->Pv i σ H->SqL K H a xs)
  (hs:∀ i x σ H,xs[i]?=some x->Pv i σ H->g x σ H fun σ2 H2=>tb { D with nx:=Pv (i+1),ct:=Pv (i+1),bk:=D.nx } σ2 H2) (hd:∀ σ H,Pv xs.length σ H->D.nx σ H):Loop (Itl K a) g tb D σ H:=for_list Pv h0 hl hs hd
end
end L2

set_option maxHeartbeats 4000000
namespace L2
open PySem PySem.Spec PyProof.Rows

abbrev RC:=List V->Hp->VK->Prop
def rLen (K:PySem.W.Frag):RC:=fun xs H Q=>∃ p ys,xs=[.ref p]/\(SqL K H p ys\/SqT K H p ys)/\Q (.int ys.length) H
def rListOf (K:PySem.W.Frag):RC:=fun xs H Q=>∃ p ys,xs=[.ref p]/\(SqL K H p ys\/SqT K H p ys)/\∀ l,H l=none->Q (.ref l) (upd H l (.lst ys))
def rTupOf (K:PySem.W.Frag):RC:=fun xs H Q=>∃ p ys,xs=[.ref p]/\((SqL K H p ys/\∀ l,H l=none->Q (.ref l) (upd H l (.tup ys)))\/(SqT K H p ys/\Q (.ref p) H))
def rSorted (K:PySem.W.Frag):RC:=fun xs H Q=>∃ p ns,xs=[.ref p]/\(SqL K H p (ns.map V.int)\/SqT K H p (ns.map V.int))/\ns.length < 64 /\
  ∀ ns':List Int,ns'.Perm ns->ns'.Pairwise (·<=·)->∀ l,H l=none->Q (.ref l) (upd H l (.lst (ns'.map V.int)))
def rIsinst (K:PySem.W.Frag):RC:=fun xs H Q=>∃ x c cv t b,xs=[x,c]/\tyVal c=some cv/\TyOf K H x t/\PySem.W.kitOne K t cv=some b/\Q (.bl b) H
def rRange1:RC:=fun xs H Q=>∃ j:Int,xs=[.int j]/\-(2 ^ 62)<=j/\j < 2 ^ 62/\∀ p,H p=none->Q (.ref p) (upd H p (.rng 0 j))
def rRange2:RC:=fun xs H Q=>∃ i j:Int,xs=[.int i,.int j]/\(-(2 ^ 62)<=i/\i < 2 ^ 62/\-(2 ^ 62)<=j/\j < 2 ^ 62)/\∀ p,H p=none->Q (.ref p) (upd H p (.rng i j))
def rListRng:RC:=fun xs H Q=>∃ p lo hi,xs=[.ref p]/\H p=some (.rng lo hi)/\(-(2 ^ 62)<=lo/\lo < 2 ^ 62/\-(2 ^ 62)<=hi/\hi < 2 ^ 62)/\(hi-lo).toNat<=sizeLine/\∀ l,H l=none->Q (.ref l) (upd H l (.lst (rngV lo hi)))

section
variable {X:Cx} {K:PySem.W.Frag} (hK:X.K=K)
include hK
theorem zCl:IxR X (rIxL K):=by subst hK;exact ix_list
theorem ix_tupK:IxR X (rIxT K):=by subst hK;exact ix_tup
theorem zBq:CallR X (.builtin "len") (rLen K):=by subst hK;exact call_len_seq
theorem call_list_ofK:CallR X (.type "list") (rListOf K):=by subst hK;exact call_list_of
theorem zCj:CallR X (.type "tuple") (rTupOf K):=by subst hK;exact call_tuple_of
theorem call_sortedK:CallR X (.builtin "sorted") (rSorted K):=by subst hK;exact call_sorted
theorem op_notIn_seqK:OpR X (compareOp .NotIn) (rIn K true):=by subst hK;exact op_notIn_seq
theorem op_eq_seqK (hu:X.A.units < cLine):OpR X (compareOp .Eq) (rEqS K false):=by subst hK;exact op_eq_seq hu
theorem pi_listK {tg l:Expr} {tl:TE} (hl:PE X l tl):PI X tg l (iList K tl):=by subst hK;exact pi_list hl
theorem pi_tupK {tg l:Expr} {tl:TE} (hl:PE X l tl):PI X tg l (iTup K tl):=by subst hK;exact pi_tup hl
theorem pg_tupK {es:List Expr} {k:Nat} {t:TGs} {n:Nat} {pos:Pos} (hc:X.calm=true) (h:PGs X es t)
  (hn:(assignEach es X.env).length=n:=by rfl) (hst:(assignEach es X.env).findIdx? (·.1)=none:=by rfl):PG X (.Tuple es k pos) (gTup K n t):=by subst hK;exact pg_tup hc h hn hst
theorem pe_bmK {o e:Expr} {es:List Expr} {to:TE} {t:TA} {name:Str} {apos cpos:Pos} {T id:String} {r:V->List V->Hp->VK->Prop} (pa:PlainAttrs T) (slot:Slot T name id) (hty:typeOf (.builtin id)=pure (.type "method_descriptor")) (hm:MtR X id r) (ho:PE X o to) (ha:PA X (e::es) t)
  (hbase:attributeBase o name X.env (eval o X.env)=eval o X.env:=by rfl)
  (hfew:((backTo cpos (starEach (e::es) X.env)).all (fun x=>!x.1) && (backToKw cpos (keywordEach [] X.env)).all (fun x=>x.1.isSome)
   && decide ((e::es).length+([]:List Keyword).length+(if ([]:List Keyword).isEmpty then 0 else 1) < 30))=true:=by rfl)
  (hline:(apos.endLine == cpos.line)=true:=by rfl) (hs:starEach (e::es) X.env=(false,eval e X.env)::starEach es X.env:=by rfl) (hplain:(backTo cpos (starEach es X.env)).any (·.1)=false:=by rfl) :
  PE X (.Call (.Attribute o name apos) (e::es) [] cpos) (tBM K T r to t):=by subst hK;exact pe_bm pa slot hty hm ho ha hbase hfew hline hs hplain
end
section
variable {X:Cx} {x:Str} {pos:Pos}
theorem zCp:CallR X (.type "range") rRange1:=call_range1
theorem call_range2R:CallR X (.type "range") rRange2:=call_range2
theorem call_list_rngR (hc:X.calm=true):CallR X (.type "list") rListRng:=call_list_rng hc
theorem pe_gint {i:Int} {t:Tok} (hg:Gl X x) (hm:X.mg x=some (.int i t)) (hd:(x == ("__debug__":Str))=false:=by decide):PE X (.Name x pos) (tC (.int i)):=pe_glob hg hm ⟨t,rfl⟩ hd
theorem pe_gcls {C:Addr} (hg:Gl X x) (hm:X.mg x=some (.ref C)) (hd:(x == ("__debug__":Str))=false:=by decide):PE X (.Name x pos) (tC (.ref C)):=pe_glob hg hm rfl hd
theorem pe_bty {n:String} (hg:Gl X x) (hm:X.mg x=none) (hv:bootBuiltins x=some (.type n)) (hn:x≠"__name__":=by decide) (hd:(x == ("__debug__":Str))=false:=by decide):PE X (.Name x pos) (tC (.ty n)) :=
 pe_bltn hg hm hv rfl hn hd
end

section
variable {K:PySem.W.Frag} {H:Hp} {Q:VK} {p:Addr}
theorem r_len:rLen K [.ref p] H Q=∃ ys,(SqL K H p ys\/SqT K H p ys)/\Q (.int ys.length) H:=propext
 ⟨fun ⟨_,ys,e,h⟩=>by cases e;exact ⟨ys,h⟩,fun ⟨ys,h⟩=>⟨_,ys,rfl,h⟩⟩
theorem r_listOf:rListOf K [.ref p] H Q=∃ ys,(SqL K H p ys\/SqT K H p ys)/\∀ l,H l=none->Q (.ref l) (upd H l (.lst ys)):=propext
 ⟨fun ⟨_,ys,e,h⟩=>by cases e;exact ⟨ys,h⟩,fun ⟨ys,h⟩=>⟨_,ys,rfl,h⟩⟩
theorem r_tupOf:rTupOf K [.ref p] H Q=∃ ys,((SqL K H p ys/\∀ l,H l=none->Q (.ref l) (upd H l (.tup ys)))\/(SqT K H p ys/\Q (.ref p) H)):=propext
 ⟨fun ⟨_,ys,e,h⟩=>by cases e;exact ⟨ys,h⟩,fun ⟨ys,h⟩=>⟨_,ys,rfl,h⟩⟩
theorem r_sorted:rSorted K [.ref p] H Q=∃ ns,(SqL K H p (ns.map V.int)\/SqT K H p (ns.map V.int))/\ns.length < 64 /\
  ∀ ns':List Int,ns'.Perm ns->ns'.Pairwise (·<=·)->∀ l,H l=none->Q (.ref l) (upd H l (.lst (ns'.map V.int))):=propext
 ⟨fun ⟨_,ys,e,h⟩=>by cases e;exact ⟨ys,h⟩,fun ⟨ys,h⟩=>⟨_,ys,rfl,h⟩⟩
theorem r_isinst {x:V} {n:String}:rIsinst K [x,.ty n] H Q=∃ t b,TyOf K H x t/\PySem.W.kitOne K t (.type n)=some b/\Q (.bl b) H:=propext
 ⟨fun ⟨_,_,cv,t,b,e,hc,h⟩=>by cases e;cases hc;exact ⟨t,b,h⟩,fun ⟨t,b,h⟩=>⟨_,_,_,t,b,rfl,rfl,h⟩⟩
theorem r_isinstC {x:V} {C:Addr}:rIsinst K [x,.ref C] H Q=∃ t b,TyOf K H x t/\PySem.W.kitOne K t (.ref C)=some b/\Q (.bl b) H:=propext
 ⟨fun ⟨_,_,cv,t,b,e,hc,h⟩=>by cases e;cases hc;exact ⟨t,b,h⟩,fun ⟨t,b,h⟩=>⟨_,_,_,t,b,rfl,rfl,h⟩⟩
theorem r_range1 {j:Int}:rRange1 [.int j] H Q=(-(2 ^ 62)<=j/\j < 2 ^ 62/\∀ p,H p=none->Q (.ref p) (upd H p (.rng 0 j))):=propext
 ⟨fun ⟨_,e,h⟩=>by cases e;exact h,fun h=>⟨_,rfl,h⟩⟩
theorem r_range2 {i j:Int}:rRange2 [.int i,.int j] H Q=((-(2 ^ 62)<=i/\i < 2 ^ 62/\-(2 ^ 62)<=j/\j < 2 ^ 62)/\∀ p,H p=none->Q (.ref p) (upd H p (.rng i j))):=propext
 ⟨fun ⟨_,_,e,h⟩=>by cases e;exact h,fun h=>⟨_,_,rfl,h⟩⟩
theorem r_listRng:rListRng [.ref p] H Q=∃ lo hi,H p=some (.rng lo hi)/\(-(2 ^ 62)<=lo/\lo < 2 ^ 62/\-(2 ^ 62)<=hi/\hi < 2 ^ 62)/\(hi-lo).toNat<=sizeLine/\∀ l,H l=none->Q (.ref l) (upd H l (.lst (rngV lo hi))):=propext
 ⟨fun ⟨_,lo,hi,e,h⟩=>by cases e;exact ⟨lo,hi,h⟩,fun ⟨lo,hi,h⟩=>⟨_,lo,hi,rfl,h⟩⟩
theorem r_ixL {i:Int}:rIxL K (.ref p) (.int i) H Q=∃ xs v,SqL K H p xs/\atI xs i=some v/\Q v H:=propext
 ⟨fun ⟨_,xs,_,v,e1,e2,h⟩=>by cases e1;cases e2;exact ⟨xs,v,h⟩,fun ⟨xs,v,h⟩=>⟨_,xs,_,v,rfl,rfl,h⟩⟩
theorem r_ixT {i:Int}:rIxT K (.ref p) (.int i) H Q=∃ xs v,SqT K H p xs/\atI xs i=some v/\Q v H:=propext
 ⟨fun ⟨_,xs,_,v,e1,e2,h⟩=>by cases e1;cases e2;exact ⟨xs,v,h⟩,fun ⟨xs,v,h⟩=>⟨_,xs,_,v,rfl,rfl,h⟩⟩
theorem r_eqS {b:Addr}:rEqS K false (.ref p) (.ref b) H Q=∃ xs ys,((SqL K H p xs/\SqL K H b ys)\/(SqT K H p xs/\SqT K H b ys))/\xs.all flatV=true/\ys.all flatV=true/\Q (.bl (eqVs xs ys)) H:=propext
 ⟨fun ⟨_,_,xs,ys,e1,e2,h⟩=>by cases e1;cases e2;exact ⟨xs,ys,h⟩,fun ⟨xs,ys,h⟩=>⟨_,_,xs,ys,rfl,rfl,h⟩⟩
theorem r_in {x:V}:rIn K false x (.ref p) H Q=∃ xs,(SqL K H p xs\/SqT K H p xs)/\flatV x=true/\xs.all flatV=true/\Q (.bl (inV x xs)) H:=propext
 ⟨fun ⟨_,xs,e,h⟩=>by cases e;exact ⟨xs,h⟩,fun ⟨xs,h⟩=>⟨_,xs,rfl,h⟩⟩
theorem r_notIn {x:V}:rIn K true x (.ref p) H Q=∃ xs,(SqL K H p xs\/SqT K H p xs)/\flatV x=true/\xs.all flatV=true/\Q (.bl (!inV x xs)) H:=propext
 ⟨fun ⟨_,xs,e,h⟩=>by cases e;exact ⟨xs,h⟩,fun ⟨xs,h⟩=>⟨_,xs,rfl,h⟩⟩
theorem r_popAt {i:Int}:rPopAt (.ref p) [.int i] H Q=∃ xs k y,H p=some (.lst xs)/\-(2 ^ 63)<=i/\i < 2 ^ 63/\seqIndex? i xs.length=some k/\xs[k]?=some y/\Q y (upd H p (.lst (xs.eraseIdx k))):=propext
 ⟨fun ⟨_,xs,_,k,y,e1,e2,h⟩=>by cases e1;cases e2;exact ⟨xs,k,y,h⟩,fun ⟨xs,k,y,h⟩=>⟨_,xs,_,k,y,rfl,rfl,h⟩⟩
theorem r_setL {k:Int} {v:V} {R:Hp->Prop}:rSetL (.ref p) (.int k) v H R=∃ xs j,H p=some (.lst xs)/\ixN xs.length k=some j/\R (upd H p (.lst (xs.set j v))):=propext
 ⟨fun ⟨_,xs,_,j,e1,e2,h⟩=>by cases e1;cases e2;exact ⟨xs,j,h⟩,fun ⟨xs,j,h⟩=>⟨_,xs,_,j,rfl,rfl,h⟩⟩
theorem r_rep {k:Int}:rRep (.ref p) (.int k) H Q=∃ xs,H p=some (.lst xs)/\-(2 ^ 63)<=k/\k < 2 ^ 63/\xs.length*k.toNat<=sizeLine/\∀ r,H r=none->Q (.ref r) (upd H r (.lst (List.replicate k.toNat xs).flatten)):=propext
 ⟨fun ⟨_,_,xs,e1,e2,h⟩=>by cases e1;cases e2;exact ⟨xs,h⟩,fun ⟨xs,h⟩=>⟨_,_,xs,rfl,rfl,h⟩⟩
theorem r_gtupR {n:Nat} {t:TGs} {σ:St} {R:St->Hp->Prop}:gTup K n t (.ref p) σ H R=∃ xs,SqT K H p xs/\xs.length=n/\t xs σ H R:=propext
 ⟨fun ⟨_,xs,e,h⟩=>by cases e;exact ⟨xs,h⟩,fun ⟨xs,h⟩=>⟨_,xs,rfl,h⟩⟩
theorem r_esome {a:V} {R:V->Prop}:(∃ v,some (some a)=some (some v)/\R v)=R a:=propext ⟨fun ⟨_,e,h⟩=>by cases e;exact h,fun h=>⟨_,rfl,h⟩⟩
theorem r_earg2 {a b:Int} {R:Int->Int->Prop}:(∃ i j,[V.int a,V.int b]=[V.int i,V.int j]/\R i j)=R a b:=propext ⟨fun ⟨_,_,e,h⟩=>by cases e;exact h,fun h=>⟨_,_,rfl,h⟩⟩
end
structure SEq (σ τ:St):Prop where
 eq:σ=τ
end L2

set_option maxHeartbeats 4000000

namespace L2
open PySem PySem.Spec PyProof.Rows
section
variable {prog:Program} {w:World} {A:Around} {E:Value->Shared->Prop} {s:Shared}
theorem nextT_item {it t:Addr} {i:Nat} {items:Array Value} {x:Value} {Q:Value->Shared->Prop} (hit:s.heap.IsTupleIter it t i) (ht:s.heap.IsTuple t items) (hx:items[i]?=some x)
  (hQ:∀ h',h'.IsTupleIter it t (i+1)->Heap.SameBut it s.heap h'->Q x { s with heap:=h' }):wpAny (model prog w) A (Builtin.SmallTypes.nextOf (.ref it)) Q E s:=by
 obtain ⟨o,ho,hc,hd⟩:=id hit
 obtain ⟨ot,hot,_,nt,hdt⟩:=ht
 unfold Builtin.SmallTypes.nextOf
 refine wpAny_bind (wpAny_callSpecial?_slot (name:=Str.ofString "__next__") hit.typeIs F.slot_tuple_iterator_next (wpAny_call_entry F.slot_tuple_iterator_next hit.typeIs F.entry_tuple_iterator_next ?_ (F.args_tuple_iterator_next_1 _)))
 show wpAny _ _ (field (.ref it) 0 >>= _) _ _ s
 refine wpAny_bind (wpAny_field ho hd (x:=.ref t) rfl ?_)
 show wpAny _ _ (if (Value.ref t == Value.none)=true then _ else _) _ _ s
 rw[if_neg (show ¬ ((Value.ref t == Value.none)=true) from Bool.false_ne_true)]
 show wpAny _ _ (field (.ref it) 1 >>= _) _ _ s
 refine wpAny_bind (wpAny_field ho hd (x:=.int i 0) rfl ?_)
 show wpAny _ _ (seqItems? (.ref t) >>= _) _ _ s
 refine wpAny_bind (wpAny_seqItems hot hdt ?_)
 simp only[Int.toNat_natCast,hx]
 refine wpAny_bind (wpAny_setField ho hd (by simp) (wpAny_pure ⟨x,rfl,wpAny_pure (hQ _ ?_ (Heap.SameBut.update ..))⟩))
 exact ⟨_,Heap.get?_update_self _ ho (Obj.isFreed_of_fields (Obj.data_mapFields hd _)),(Obj.cls_mapFields ..).trans hc,by rw[Obj.data_mapFields hd];simp [rawInt]⟩
theorem nextT_end {it t:Addr} {i:Nat} {items:Array Value} {Q:Value->Shared->Prop} (hh:A.handled=none) (hit:s.heap.IsTupleIter it t i) (ht:s.heap.IsTuple t items) (hx:items[i]?=none)
  (hE:∀ h' e,Heap.ExtBut it s.heap h'->(∃ o,h'.get? e=some o/\o.cls=.type "StopIteration")->E (.ref e) { s with heap:=h' }):wpAny (model prog w) A (Builtin.SmallTypes.nextOf (.ref it)) Q E s:=by
 obtain ⟨o,ho,hc,hd⟩:=id hit
 obtain ⟨ot,hot,_,nt,hdt⟩:=ht
 unfold Builtin.SmallTypes.nextOf
 refine wpAny_bind (wpAny_callSpecial?_slot (name:=Str.ofString "__next__") hit.typeIs F.slot_tuple_iterator_next (wpAny_call_entry F.slot_tuple_iterator_next hit.typeIs F.entry_tuple_iterator_next ?_ (F.args_tuple_iterator_next_1 _)))
 show wpAny _ _ (field (.ref it) 0 >>= _) _ _ s
 refine wpAny_bind (wpAny_field ho hd (x:=.ref t) rfl ?_)
 show wpAny _ _ (if (Value.ref t == Value.none)=true then _ else _) _ _ s
 rw[if_neg (show ¬ ((Value.ref t == Value.none)=true) from Bool.false_ne_true)]
 show wpAny _ _ (field (.ref it) 1 >>= _) _ _ s
 refine wpAny_bind (wpAny_field ho hd (x:=.int i 0) rfl ?_)
 show wpAny _ _ (seqItems? (.ref t) >>= _) _ _ s
 refine wpAny_bind (wpAny_seqItems hot hdt ?_)
 simp only[Int.toNat_natCast,hx]
 refine wpAny_bind (wpAny_rule (wpAny_bind (wpAny_setField ho hd (by simp) ?_)))
 show wpAny _ _ (newExc (.type "StopIteration") [] >>= _) _ _ _
 refine wpAny_bind ?_
 simp only[newExc,newTuple]
 refine wpAny_bind (wpAny_newObj_type ?_ (by size_fits))
 refine wpAny_bind (m:=firstArgMember _ _) (wpAny_of_eq (a:=Value.none) (by first | rfl | (simp only[firstArgMember];rfl)) ?_)
 refine wpAny_newObj_type ?_ (by size_fits)
 simp only[raiseNew]
 refine wpAny_bind (wpAny_handled ?_)
 first | rw[show A.in1.handled=none from hh] | rw[hh]
 refine wpAny_bind (wpAny_pure (wpAny_throw ?_))
 exact hE _ _ (((Heap.SameBut.update ..).extBut.push _).push _) ⟨_,Heap.get?_push_size _ rfl,rfl⟩
end
theorem drawsT {prog:Program} {w:World} {A:Around} (hh:A.handled=none) (it t:Addr) (hne:t≠it) (items:Array Value) :
  Draws prog w A it [it,t] items.size (fun i v=>items[i]?=some v) (fun i h=>h.IsTupleIter it t i/\h.IsTuple t items) where
 live:=fun _ _ st=>let ⟨o,ho,_⟩:=st.1;⟨o,ho⟩
 frame:=fun _ _ _ st hk=>⟨let ⟨o,ho,r⟩:=st.1;⟨o,hk it (by simp) o ho,r⟩,let ⟨o,ho,r⟩:=st.2;⟨o,hk t (by simp) o ho,r⟩⟩
 item:=fun i s Q E hi st hQ=>by
  refine nextT_item st.1 st.2 (x:=items[i]) (by simp [hi]) fun h' hit' hs'=>?_
  exact hQ _ h' s.toks (by simp [hi]) ⟨hit',st.2.extBut hs'.extBut hne⟩ hs'
 done:=fun s Q E st hE=>nextT_end hh st.1 st.2 (by simp) hE
set_option maxHeartbeats 8000000 in
theorem enumNewT (l:Addr) (o:Obj) (items:Array Value) (n:Nat) (hc:o.cls=.type "tuple") (hd:o.data=.seq items n) :
  Meets (Builtin.«enumerate.__new__» ⟨[.type "enumerate",.ref l],[]⟩) (fun _ R s=>s.heap.get? l=some o /\
   R (.ok (.ret (.ref (s.heap.push { cls:=.type "tuple_iterator",data:=.fields #[.ref l,.int 0 0] }).objs.size)))
    { s with heap:=(s.heap.push { cls:=.type "tuple_iterator",data:=.fields #[.ref l,.int 0 0] }).push { cls:=.type "enumerate",data:=.fields #[.none,.bool false,.ref s.heap.objs.size,rawInt 0,.none,.none] } }) :=
 .of_wp fun prog w A R s h=>by
  obtain ⟨hp,g,d,tk,os⟩:=s;obtain ⟨hl,h⟩:=h
  have hsub:=sub_enumerate
  have hL:Heap.IsTuple (Shared.heap ⟨hp,g,d,tk,os⟩) l items:=⟨_,hl,hc,n,hd⟩
  wp_walk using AutoSeq1.wpAny_loadPart' hl
  refine wpAny_stack_any fun st=>wpAny_pure ?_
  split
  ·rename_i c _ _ _ _ _
   cases (c == Value.type "enumerate")
   ·wp_walk using AutoSeq1.wpAny_loadPart' hl,wpAny_pyIter_tuple hL
    exact ⟨_,rfl,h⟩
   ·wp_walk using AutoSeq1.wpAny_loadPart' hl,wpAny_pyIter_tuple hL
    exact ⟨_,rfl,h⟩
  ·wp_walk using AutoSeq1.wpAny_loadPart' hl,wpAny_pyIter_tuple hL
   exact ⟨_,rfl,h⟩
section
variable {prog:Program} {w:World} {A:Around} {E:Value->Shared->Prop} {s:Shared}
theorem call_enumT {l:Addr} {items:Array Value} {Q:Value->Shared->Prop} (hL:s.heap.IsTuple l items)
  (h:∀ h',IsEnum h' (s.heap.objs.size+1) s.heap.objs.size 0 .none->h'.IsTupleIter s.heap.objs.size l 0->h'.objs.size=s.heap.objs.size+2 ->
   (∀ b o,s.heap.get? b=some o->h'.get? b=some o)->Q (.ref (s.heap.objs.size+1)) { s with heap:=h' }) :
  wpAny (model prog w) A (call (.type "enumerate") [.ref l]) Q E s:=by
 obtain ⟨o,hl,hc,n,hd⟩:=hL
 refine callType_new F.called_enumerate (by decide) (F.typeCall_enumerate_1 _) (F.newCall_enumerate_1 _) (fun obj=>F.args_object_init_2 obj _) F.entry_enumerate_new (enumNewT l o items n hc hd) ⟨hl,?_⟩
 have hz:(s.heap.push { cls:=.type "tuple_iterator",data:=.fields #[.ref l,.int 0 0] }).objs.size=s.heap.objs.size+1:=Heap.size_push ..
 show _/\_
 rw[hz]
 have he:IsEnum ((s.heap.push { cls:=.type "tuple_iterator",data:=.fields #[.ref l,.int 0 0] }).push
   { cls:=.type "enumerate",data:=.fields #[.none,.bool false,.ref s.heap.objs.size,rawInt 0,.none,.none] }) (s.heap.objs.size+1) s.heap.objs.size 0 .none:=by
  have:=Heap.get?_push_size (s.heap.push { cls:=.type "tuple_iterator",data:=.fields #[.ref l,.int 0 0] })
   (o:={ cls:=.type "enumerate",data:=.fields #[.none,.bool false,.ref s.heap.objs.size,rawInt 0,.none,.none] }) rfl
  rw[hz]at this;exact this
 refine ⟨⟨_,he,rfl⟩,h _ he ⟨_,Heap.get?_push_of_some _ (Heap.get?_push_size _ rfl),rfl,rfl⟩ (by rw[Heap.size_push,hz]) fun b o x=>Heap.get?_push_of_some _ (Heap.get?_push_of_some _ x)⟩
end

def ItE (K:PySem.W.Frag) (a:Addr):It :=
 ⟨fun i H=>∃ xs x,SqT K H a xs/\xs[i]?=some x,fun i H v H'=>∃ T x,v=.ref T/\H T=none/\H'=upd H T (.tup [.int i,x])/\∀ xs,SqT K H a xs->xs[i]?=some x,fun i H=>∃ xs,SqT K H a xs/\xs.length<=i⟩
theorem turn_enumT {P:Program} {w:World} {K:PySem.W.Frag} {elts:List Expr} {k:Nat} {pos:Pos} (a e it:Addr) (hne:e≠it) :
  Turn P w K (.Tuple elts k pos) (ItE K a) [e,it] e (fun i h=>(∃ old,IsEnum h e it i old)/\h.IsTupleIter it a i) where
 mem:=by simp
 obj:=fun i h st b hb=>by
  obtain ⟨⟨old,he⟩,o,ho,c,d⟩:=st
  rcases List.mem_cons.mp hb with q | q
  ·subst q
   exact ⟨_,he,fun v z=>by
    have z':Data.fields _=Data.cell v:=z
    cases z'⟩
  ·have q':b=it:=by simpa using q
   subst q'
   exact ⟨o,ho,fun v z=>by rw[d]at z;cases z⟩
 keep:=fun i h h' st kk=>by
  obtain ⟨⟨old,he⟩,o,ho,r⟩:=st
  exact ⟨⟨old,kk e (by simp) _ he⟩,o,kk it (by simp) _ ho,r⟩
 item:=by
  intro X hP hw hK hc i pins s σ H E I hf st hg
  subst hP hw hK
  obtain ⟨xs,x,hq,hx⟩:=hg
  obtain ⟨its,rv,p,hz⟩:=I.tuple hq
  obtain ⟨u,hu,ru⟩:=rv.get hx
  obtain ⟨⟨old,he⟩,hit⟩:=st
  have pt:s.heap.IsTuple a its.toArray:=p
  obtain ⟨fe0,fe1,fe2,fe3,fe4,fe5⟩:=hf e (by simp)
  obtain ⟨fi0,fi1,fi2,fi3,fi4,fi5⟩:=hf it (by simp)
  have hlt:i < its.toArray.size:=by rw[List.size_toArray];exact (List.getElem?_eq_some_iff.mp hu).1
  have alt:a < s.heap.objs.size:=by obtain ⟨_,q,_⟩:=pt;exact Heap.lt_size q
  have hai:a≠it:=fun z=>by
   obtain ⟨o1,q1,c1,n1,d1⟩:=pt
   obtain ⟨o2,q2,c2,d2⟩:=hit
   rw[z,q2]at q1;cases q1;rw[d2]at d1;cases d1
  have hae:a≠e:=fun z=>by
   obtain ⟨o1,q1,c1,n1,d1⟩:=pt
   rw[z,he]at q1;cases q1;cases d1
  refine wpAny_pyNext_enum_itemD (drawsT (A:=X.A.in1) (I.ok.hd hc) it a hai its.toArray) he ⟨hit,pt⟩ hlt hne (by simp [hne,Ne.symm hae]) fun x' h' tk hx' out st' ht sz kp=>?_
  have ex:x'=u:=by
   rw[show its.toArray[i]?=some u by simpa using hu]at hx'
   exact (Option.some.inj hx').symm
  subst ex
  refine ⟨_,rfl,?_⟩
  refine wpAny_letOwnedTupleGo_enum (s:={ s with heap:=h',toks:=tk+1 }) out fun h2 he2 sb2=>?_
  have hT0:H s.heap.objs.size=none:=I.hok.fresh (Nat.le_refl _)
  have eT:s.heap.objs.size≠e:=Nat.ne_of_gt (Heap.lt_size he)
  have iT:s.heap.objs.size≠it:=by obtain ⟨_,q,_⟩:=hit;exact Nat.ne_of_gt (Heap.lt_size q)
  have kp2:∀ b o,b∉[e,it]->s.heap.get? b=some o->h2.get? b=some o:=fun b o hb q=>by
   have b1:b≠e:=fun z=>hb (by simp [z])
   have b2:b≠it:=fun z=>hb (by simp [z])
   exact (sb2.2 b b1).trans (kp b o b1 b2 q)
  have I1:Inv X pins σ H { s with heap:=h2,toks:=tk+1 }:=by
   have nit:∀ b u,H b=some u->b∉[e,it]:=fun b u q z=>by
    rcases List.mem_cons.mp z with w1 | w1
    ·rw[w1,fe0]at q;cases q
    ·rw[show b=it by simpa using w1,fi0]at q;cases q
   refine I.step (g':=s.gens) (d':=s.drawn) (ch:=[e,it]) (fun b hb=>?_) (fun b o _ _ hcn q _=>kp2 b o hcn q) (fun b o _ _ hcn q _=>⟨o.slots,kp2 b o hcn q⟩) (fun _ _ _ _ n=>n)
    (fun b o hcn q=>⟨o,kp2 b o hcn q⟩) (fun _ _ q=>q) (fun _ _ _ q=>q) (fun b ps q=>⟨#[],by rw[q];simp⟩) (fun m hm=>?_) (fun b u q=>?_) I.bare
   ·rcases List.mem_cons.mp hb with w1 | w1
    ·rw[w1];exact ⟨fe3,fe1,fe4,fe5⟩
    ·rw[show b=it by simpa using w1];exact ⟨fi3,fi1,fi4,fi5⟩
   ·obtain ⟨oo,es,ep,ho,r⟩:=hm
    exact ⟨oo,es,ep,kp2 _ oo (by simp [Ne.symm fe1,Ne.symm fi1]) ho,r⟩
   ·refine (I.hok b u q).stay (fun c v hcv z=>kp2 c v ?_ z) (fun _ z=>z) fun _ _ z=>z
    rcases hcv with w1 | w1
    ·rw[w1];exact nit b u q
    ·exact nit c _ w1
  have hT2:h2.get? s.heap.objs.size=some { cls:=.type "tuple",data:=.seq #[.int i tk,x'] }:=(sb2.2 _ eT).trans ht
  have I2:Inv X pins σ (upd H s.heap.objs.size (.tup [.int i,x])) { s with heap:=h2,toks:=tk+1 } :=
   I1.adopt (a:=s.heap.objs.size) (o:=.tup [.int i,x]) hT0 I.sz (Nat.ne_of_gt I.lt) (fun y c q=>by
    obtain ⟨v,z⟩:=I.cell y c q
    exact Nat.ne_of_lt z.lt) (fun pp hp=>Nat.ne_of_lt (Heap.lt_size (I.pin pp hp).1)) ⟨(by show 2<=sizeLine;decide),[.int i tk,x'],.cons ⟨tk,rfl⟩ (.cons ru .nil),⟨_,hT2,rfl,_,rfl⟩,_,hT2,rfl⟩
  refine ⟨.ref s.heap.objs.size,_,I2,rfl,⟨s.heap.objs.size,x,rfl,hT0,rfl,fun ys hy=>by rw[I.tuple_inj hy hq];exact hx⟩,⟨⟨_,by simpa using he2⟩,?_⟩,fun b hb=>?_⟩
  ·obtain ⟨o1,q1,r1⟩:=st'.1
   exact ⟨o1,(sb2.2 it (Ne.symm hne)).trans q1,r1⟩
  ·rcases List.mem_cons.mp hb with w1 | w1
   ·rw[w1,zA8 (Ne.symm eT)];exact fe0
   ·rw[show b=it by simpa using w1,zA8 (Ne.symm iT)];exact fi0
 done:=by
  intro X hP hw hK hc i pins s σ H E I hf st hg
  subst hP hw hK
  obtain ⟨xs,hq,hx⟩:=hg
  obtain ⟨its,rv,p,hz⟩:=I.tuple hq
  obtain ⟨⟨old,he⟩,hit⟩:=st
  have pt:s.heap.IsTuple a its.toArray:=p
  obtain ⟨fi0,fi1,fi2,fi3,fi4,fi5⟩:=hf it (by simp)
  have hl:=rv.length
  have hT:s.TypeIs (.ref e) "enumerate":=⟨_,he,rfl⟩
  unfold pyNext
  refine wpAny_bind (wpAny_attempt (wpAny_callSpecial?_slot (name:=Str.ofString "__next__") hT F.slot_enumerate_next (wpAny_call_entry F.slot_enumerate_next hT F.entry_enumerate_next ?_ (F.args_enumerate_next_1 _))))
  show wpAny _ _ (field (.ref e) 2 >>= _) _ _ _
  refine wpAny_bind (wpAny_field he rfl (x:=.ref it) rfl ?_)
  refine wpAny_bind (nextT_end (A:=X.A.in1) (I.ok.hd hc) hit pt (by simp;omega) fun h' ex eb hex=>?_)
  obtain ⟨o,ho,hcl⟩:=hex
  refine wpAny_bind (wpAny_isInstance (T:="StopIteration") (b:=true) ⟨o,ho,hcl⟩ isSubtype_stop ?_)
  exact wpAny_pure ⟨rfl,I.turned (t':=s.toks) (fun b o hb q=>eb b o hb q) fi0 fi1 fi3 fi4 fi5⟩
 self:=fun _ _ _ _ _ st h=>by
  obtain ⟨⟨old,he⟩,_⟩:=st
  exact wpAny_pyIter_enum he h
end L2

set_option maxHeartbeats 4000000
namespace L2
open PySem PySem.Spec PyProof.Rows

def iEnum (K:PySem.W.Frag) (ta:TA):TI:=fun σ H R=>ta σ H fun vs H1=>∃ a,vs=[.ref a]/\(∃ xs,SqT K H1 a xs)/\R (ItE K a) H1
theorem pi_enum {X:Cx} {elts:List Expr} {k:Nat} {tpos:Pos} {a:Expr} {ta:TA} {p pos:Pos} {K:PySem.W.Frag} (hK:X.K=K) (hg:Gl X "enumerate") (hm:X.mg "enumerate"=none) (ha:PA X [a] ta)
  (hs:starEach [a] X.env=[(false,eval a X.env)]:=by rfl):PI X (.Tuple elts k tpos) (.Call (.Name "enumerate" p) [a] [] pos) (iEnum K ta):=by
 subst hK
 intro pins s σ H R I h
 refine Call_ (ld_blt I hg hm bt_enumerate (PyProof.Rows.callWith_type1 (thn (ha pos pins s σ H _ I h) fun us s1 ⟨vs,H1,I1,r1,q1⟩=>?_) hs rfl))
 obtain ⟨b,e,⟨xs,hq⟩,q⟩:=q1
 subst e
 obtain ⟨u,rfl,ru⟩:=vals1 r1
 cases ru
 obtain ⟨its,rv,pt,hz⟩:=I1.tuple hq
 refine call_enumT pt fun h' he hit sz kp=>?_
 have I2:Inv X pins σ H1 { s1 with heap:=h' }:=I1.kept (t':=s1.toks) kp
 refine wpAny_pyIter_enum he ⟨s1.heap.objs.size+1,[s1.heap.objs.size+1,s1.heap.objs.size],_,_,H1,rfl,I2,turn_enumT b _ _ (Nat.succ_ne_self _),⟨⟨_,he⟩,hit⟩,fun c hc=>?_,q⟩
 have hcs:s1.heap.objs.size<=c:=by
  rcases List.mem_cons.mp hc with z | z
  ·rw[z];exact Nat.le_succ _
  ·rw[show c=s1.heap.objs.size by simpa using z];exact Nat.le_refl _
 exact I1.fpOk hcs (I1.hok.fresh hcs)
theorem r_ienum {K:PySem.W.Frag} {ta:TA} {σ:St} {H:Hp} {R:It->Hp->Prop}:iEnum K ta σ H R=ta σ H (fun vs H1=>∃ a,vs=[.ref a]/\(∃ xs,SqT K H1 a xs)/\R (ItE K a) H1):=rfl
theorem r_eargR {b:Addr} {R:Addr->Prop}:(∃ k,[V.ref b]=[V.ref k]/\R k)=R b:=propext ⟨fun ⟨_,e,h⟩=>by cases e;exact h,fun h=>⟨_,rfl,h⟩⟩
theorem loop_enum {K:PySem.W.Frag} {a:Addr} {xs:List V} {g:TG} {tb:TS} {D:Ends} {σ:St} {H:Hp} (Pv:Nat->St->Hp->Prop) (h0:Pv 0 σ H) (hl:∀ i σ H,i<=xs.length->Pv i σ H->SqT K H a xs)
  (hs:∀ i x σ H T,xs[i]?=some x->Pv i σ H->H T=none->g (.ref T) σ (upd H T (.tup [.int i,x])) fun σ2 H2=>tb { D with nx:=Pv (i+1),ct:=Pv (i+1),bk:=D.nx } σ2 H2) (hd:∀ σ H,Pv xs.length σ H->D.nx σ H) :
  Loop (ItE K a) g tb D σ H:=by
 refine ⟨fun i m σ H=>m=xs.length-i/\i<=xs.length/\Pv i σ H,⟨xs.length,by simp,Nat.zero_le _,h0⟩,?_⟩
 rintro i m σ H ⟨rfl,hi,p⟩
 have q:=hl i σ H hi p
 by_cases hlt:i < xs.length
 ·refine .inr ⟨⟨xs,xs[i],q,by simp [hlt]⟩,Pv (i+1),fun σ' H' p'=>⟨xs.length-(i+1),by omega,rfl,hlt,p'⟩,fun v H' y=>?_⟩
  obtain ⟨T,x,rfl,hT,rfl,hx⟩:=y
  exact hs i x σ H T (hx xs q) p hT
 ·have e:i=xs.length:=by omega
  subst e
  exact .inl ⟨⟨xs,q,Nat.le_refl _⟩,hd σ H p⟩


section
variable {prog:Program} {w:World} {A:Around} {E:Value->Shared->Prop} {s:Shared}
theorem collect_range {Q:List Value->Shared->Prop} {r:Addr} {a b:Int} {t u v:Tok} {n:Nat} (hh:A.handled=none) (hr:IsRange s.heap r a b 1 t u v) (hsm:Builtin.Range.small a b 1=true) (hn:Builtin.Range.rangeSize a b 1=n) (hlen:n<=2 ^ 24)
  (hQ:∀ h' tk (acc:Array Value),(∀ b o',s.heap.get? b=some o'->h'.get? b=some o')->ItemsOf (fun i v=>∃ t,v=.int (a+i*1) t) acc n->Q acc.toList { s with heap:=h',toks:=tk }) :
  wpAny (model prog w) A (collect (.ref r)) Q E s:=by
 unfold collect
 refine wpAny_bind (wpAny_runValue (codeAny_builtin F.entry_proto_collect ?_))
 rw[Around.under_plainId F.plain_proto_collect _]
 show wpAny _ A.in1 (newList [] >>= fun l=>again (.builtin "list.__iadd__" ⟨[l,.ref r],[]⟩)) _ _ s
 refine wpAny_bind (wpAny_newObj_type ?_)
 refine wpAny_pure ⟨plainId_quiet F.plain_list_iadd _,codeAny_builtin F.entry_list_iadd ?_⟩
 rw[Around.under_plainId F.plain_list_iadd _]
 show wpAny _ A.in1 (Builtin.List.listExtendWith (.ref s.heap.objs.size) (.ref r) (.ref s.heap.objs.size)) _ _ _
 have hS:(s.heap.push { cls:=.type "list",data:=.seq ([]:List Value).toArray }).get? s.heap.objs.size=some { cls:=.type "list",data:=.seq #[] 0 }:=Heap.get?_push_size _ rfl
 have fin':∀ (h':Heap) (tk:Nat) (acc:Array Value) (c:Nat),(∀ b o',s.heap.get? b=some o'->h'.get? b=some o')->h'.get? s.heap.objs.size=some { cls:=.type "list",dict:=none,data:=.seq acc c,slots:=#[] }->ItemsOf (fun i v=>∃ t,v=.int (a+i*1) t) acc n ->
   wpAny (model prog w) A (match Value.ref s.heap.objs.size with
   | Value.ref a=>do
    match (<- load a).data with
     | Data.seq xs _=>pure xs.toList
     | _=>unsupported "internal:collect"
   | _=>unsupported "internal:collect") Q E { s with heap:=h',toks:=tk }:=fun h' tk acc c kp ho it=>by
  show wpAny _ A (load s.heap.objs.size >>= _) _ _ _
  refine wpAny_bind (wpAny_load ho ?_)
  exact wpAny_pure (hQ h' tk acc kp it)
 refine wpAny_mono (wpAny_extend_range (A:=A) (R:=fun r' s'=>r'=.ok (.ret (.ref s.heap.objs.size))/\∃ h' tk acc c,s'={ s with heap:=h',toks:=tk }/\(∀ b o',s.heap.get? b=some o'->h'.get? b=some o')/\h'.get? s.heap.objs.size=some { cls:=.type "list",dict:=none,data:=.seq acc c,slots:=#[] }/\ItemsOf (fun i v=>∃ t,v=.int (a+i*1) t) acc n)
  (s:={ s with heap:=s.heap.push { cls:=.type "list",data:=.seq ([]:List Value).toArray } }) hh (Heap.get?_push_of_some _ hr) hsm hn hlen s.heap.objs.size (.ref s.heap.objs.size) 0 hS
  fun h' tk acc c kp ho it=>⟨rfl,h',tk,acc,c,rfl,fun b o' q=>kp b o' (Nat.ne_of_lt (Heap.lt_size q)) (Heap.get?_push_of_some _ q),ho,it⟩) (fun fin s' h=>?_) (fun e s' h=>?_)
 ·cases fin with
  | done f =>
   obtain ⟨e,h',tk,acc,c,rfl,kp,ho,it⟩:=h
   cases e
   exact fin' h' tk acc c kp ho it
  | again c'=>exact ⟨h.1,codeAny_mono h.2 fun r' s'' hr=>by obtain ⟨rfl,h',tk,acc,c,rfl,kp,ho,it⟩:=hr;exact fin' h' tk acc c kp ho it⟩
 ·exact absurd h.1 (by simp)
end
set_option maxHeartbeats 8000000 in
theorem tupNewRange (r:Addr) (a b:Int) (t u v:Tok) (n:Nat) (hsm:Builtin.Range.small a b 1=true) (hn:Builtin.Range.rangeSize a b 1=n) (hlen:n<=sizeLine) :
  Meets (Builtin.«tuple.__new__» ⟨[.type "tuple",.ref r],[]⟩)
   (fun A R s=>A.handled=none/\IsRange s.heap r a b 1 t u v/\∀ (h':Heap) (tk:Nat) (acc:Array Value),(∀ b o',s.heap.get? b=some o'->h'.get? b=some o')->ItemsOf (fun i v=>∃ t,v=.int (a+i*1) t) acc n ->
    R (.ok (.ret (.ref h'.objs.size))) { s with heap:=h'.push { cls:=.type "tuple",data:=.seq acc },toks:=tk }) :=
 .of_wp fun prog w A R s h=>by
  obtain ⟨hp,g,d,tk,os⟩:=s;obtain ⟨hh,ht,h⟩:=h
  have hsub:=sub_tuple_self
  have hinit:=init_tuple_lookup
  have hmh:=madeHere_tuple
  have hs24:sizeLine=16777216:=sizeLine_eq
  have hT:Shared.TypeIs ⟨hp,g,d,tk,os⟩ (.ref r) "range":=⟨_,ht,rfl⟩
  wp_walk using AutoSeq1.wpAny_loadPart' ht,wpAny_typeOf hT,collect_range (A:=A.in1) hh ht hsm hn (by omega)
  intro h' tk' acc hk hit
  show wpAny _ _ (Builtin.Tuple.tupleExact acc.toList.toArray >>= fun v=>ret v) _ _ _
  unfold Builtin.Tuple.tupleExact
  have hz:acc.size<=sizeLine:=by rw[hit.1];exact hlen
  refine wpAny_bind (wpAny_newObj_type ?_ (by show acc.toList.toArray.size<=sizeLine;simpa using hz))
  refine wpAny_pure ⟨_,rfl,?_⟩
  have e:acc.toList.toArray=acc:=by simp
  rw[e]
  exact h h' tk' acc hk hit
def rTupRng:RC:=fun xs H Q=>∃ p lo hi,xs=[.ref p]/\H p=some (.rng lo hi)/\(-(2 ^ 62)<=lo/\lo < 2 ^ 62/\-(2 ^ 62)<=hi/\hi < 2 ^ 62)/\(hi-lo).toNat<=sizeLine/\∀ l,H l=none->Q (.ref l) (upd H l (.tup (rngV lo hi)))
theorem call_tuple_rngR {X:Cx} (hc:X.calm=true):CallR X (.type "tuple") rTupRng:=by
 intro pins s σ H xs us Q I r h
 obtain ⟨p,lo,hi,rfl,hp,⟨b1,b2,b3,b4⟩,hz,q⟩:=h
 obtain ⟨u,rfl,rx⟩:=vals1 r
 cases rx
 obtain ⟨t,u,v,e⟩:=(show ObjOk X.prog X.w H s.heap p (.rng lo hi) from I.hok p _ hp)
 have hn:Builtin.Range.rangeSize lo hi 1=(((hi-lo).toNat:Nat):Int):=by rw[rangeSize_one];split <;> omega
 refine callType_new F.called_tuple (by decide) (F.typeCall_tuple_1 _) (F.newCall_tuple_1 _) (fun obj=>F.args_object_init_2 obj _) F.entry_tuple_new
  (tupNewRange p lo hi t u v (hi-lo).toNat (small_one b1 b2 b3 b4) hn hz) ⟨I.ok.hd hc,e,fun h' tk acc hk it=>⟨⟨_,Heap.get?_push_size _ rfl,rfl⟩,?_⟩⟩
 have rv:Vals (rngV lo hi) acc.toList:=by
  refine vals_items _ acc.toList (by simpa using it.1) fun j v hj=>?_
  obtain ⟨t,e⟩:=it.2 j v (by simpa using hj)
  exact ⟨t,by rw[e,Int.mul_one]⟩
 have I1:Inv X pins σ H { s with heap:=h',toks:=tk }:=I.kept hk
 have I2:Inv X pins σ (upd H h'.objs.size (.tup (rngV lo hi))) { s with heap:=h'.push { cls:=.type "tuple",data:=.seq acc },toks:=tk } :=
  I1.laid (fun b o e=>Heap.get?_push_of_some _ e) (Nat.le_refl _) (show ObjOk X.prog X.w _ _ _ (.tup (rngV lo hi)) from ⟨by rw[rngV_len];exact hz,acc.toList,rv,by simpa using IsTq.new h' acc⟩)
 exact ⟨.ref h'.objs.size,_,I2,rfl,q _ (I1.hok.fresh (Nat.le_refl _))⟩
theorem r_tupRng {H:Hp} {Q:VK} {p:Addr}:rTupRng [.ref p] H Q=∃ lo hi,H p=some (.rng lo hi)/\(-(2 ^ 62)<=lo/\lo < 2 ^ 62/\-(2 ^ 62)<=hi/\hi < 2 ^ 62)/\(hi-lo).toNat<=sizeLine/\∀ l,H l=none->Q (.ref l) (upd H l (.tup (rngV lo hi))):=propext
 ⟨fun ⟨_,lo,hi,e,h⟩=>by cases e;exact ⟨lo,hi,h⟩,fun ⟨lo,hi,h⟩=>⟨_,lo,hi,rfl,h⟩⟩
end L2

set_option maxHeartbeats 4000000
namespace L2
open PySem PySem.Spec PyProof.Rows

section
variable {prog:Program} {w:World} {A:Around} {E:Value->Shared->Prop} {s:Shared}
theorem min_intTuple {l:Addr} {xs:Array (Int × Tok)} {Q:Value->Shared->Prop} (hh:A.handled=none) (hl:s.heap.IsTuple l (intItems xs)) (hne:0 < xs.size)
  (h:∀ v h' tk,(intItems xs)[argBest (fun i j=>decide (numAt xs i < numAt xs j)) (xs.size-1)]?=some v->(∀ b o,s.heap.get? b=some o->h'.get? b=some o)->Q v { s with heap:=h',toks:=tk }) :
  wpAny (model prog w) A (call (.builtin "min") [.ref l]) Q E s:=by
 have hlt:l < s.heap.objs.size:=by obtain ⟨_,e,_⟩:=hl;exact Heap.lt_size e
 refine call_min_walk (wpAny_pyIter_tuple hl ?_)
 refine ⟨_,_,_,_,_,_,_,rfl,Walks.tuple (A:=A.in1) hh _ l (Nat.ne_of_lt hlt) (intItems xs),⟨⟨_,Heap.get?_push_size _ rfl,rfl,rfl⟩,hl.push _⟩,fun b hb=>?_,by simpa [intItems] using hne,CmpOf.ints_lt (numAt xs) (fun _ _=>intItems_at),fun v h' tk hP hk=>?_⟩
 ·show b < (s.heap.push _).objs.size
  rw[Heap.size_push]
  rcases List.mem_cons.mp hb with q | q
  ·rw[q];exact Nat.lt_succ_self _
  ·rw[show b=l by simpa using q];exact Nat.lt_succ_of_lt hlt
 ·refine h v h' tk (by simpa [intItems] using hP) fun b o e=>hk b o (fun hm=>?_) (Heap.get?_push_of_some _ e)
  exact absurd (show b=s.heap.objs.size by simpa using hm) (Nat.ne_of_lt (Heap.lt_size e))
end
theorem ints_items {us:List Value} {ns:List Int} (hi:IntsAre us ns):∃ xs:Array (Int × Tok),us.toArray=intItems xs/\ns=xs.toList.map (·.1)/\xs.size=ns.length:=by
 obtain ⟨xs,e⟩:=hi.allInts.items
 have hns:ns=xs.toList.map (·.1):=by rw[<- hi.numsOf,<- nums_intItems,<- e]
 exact ⟨xs,e,hns,by rw[hns,List.length_map,Array.length_toList]⟩
theorem least_of {xs:Array (Int × Tok)} {ns:List Int} (hns:ns=xs.toList.map (·.1)) (hsz:0 < xs.size) {v:Value} (hv:(intItems xs)[argBest (fun i j=>decide (numAt xs i < numAt xs j)) (xs.size-1)]?=some v) :
  ∃ M t,v=.int M t/\M∈ns/\∀ a,a∈ns->M<=a:=by
 obtain ⟨t,rfl⟩:=intItems_at hv
 obtain ⟨h1,h2⟩:=argBest_lt (numAt xs) (xs.size-1)
 refine ⟨_,t,rfl,?_,fun a ha=>?_⟩
 ·rw[hns,numAt_eq];exact getD_mem (by rw[List.length_map,Array.length_toList];omega)
 ·rw[hns]at ha
  obtain ⟨j,hj,rfl⟩:=mem_getD ha
  rw[List.length_map,Array.length_toList]at hj
  rw[<- numAt_eq];exact h2 j (by omega)
def rMin (K:PySem.W.Frag):RC:=fun xs H Q=>∃ (p:Addr) (ns:List Int),xs=[.ref p]/\(SqL K H p (ns.map V.int)\/SqT K H p (ns.map V.int))/\0 < ns.length/\∀ m:Int,m∈ns->(∀ a,a∈ns->m<=a)->Q (.int m) H
def rSum (K:PySem.W.Frag):RC:=fun xs H Q=>∃ (p:Addr) (ns:List Int),xs=[.ref p]/\SqL K H p (ns.map V.int)/\Q (.int ns.sum) H
section
variable {X:Cx} {K:PySem.W.Frag} (hK:X.K=K)
include hK
theorem call_minK (hc:X.calm=true):CallR X (.builtin "min") (rMin K):=by
 subst hK
 intro pins s σ H xs us Q I r h
 obtain ⟨p,ns,rfl,hq,hne,q⟩:=h
 obtain ⟨u,rfl,rx⟩:=vals1 r
 cases rx
 rcases hq with hq | hq
 ·obtain ⟨its,rv,pl,_⟩:=I.list hq
  obtain ⟨zs,e,hns,hz⟩:=ints_items (intsAre_of rv)
  refine min_intList (I.ok.hd hc) (xs:=zs) (by rw[<- e];exact pl.isList) (by omega) fun v h' tk hv hk=>?_
  obtain ⟨M,t,rfl,h1,h2⟩:=least_of hns (by omega) hv
  exact ⟨.int M,H,I.kept hk,⟨t,rfl⟩,q M h1 h2⟩
 ·obtain ⟨its,rv,pl,_⟩:=I.tuple hq
  obtain ⟨zs,e,hns,hz⟩:=ints_items (intsAre_of rv)
  refine min_intTuple (I.ok.hd hc) (xs:=zs) (by rw[<- e];exact pl) (by omega) fun v h' tk hv hk=>?_
  obtain ⟨M,t,rfl,h1,h2⟩:=least_of hns (by omega) hv
  exact ⟨.int M,H,I.kept hk,⟨t,rfl⟩,q M h1 h2⟩
theorem call_sumK (hc:X.calm=true):CallR X (.builtin "sum") (rSum K):=by
 subst hK
 intro pins s σ H xs us Q I r h
 obtain ⟨p,ns,rfl,hq,q⟩:=h
 obtain ⟨u,rfl,rx⟩:=vals1 r
 cases rx
 obtain ⟨its,rv,pl,_⟩:=I.list hq
 obtain ⟨zs,e,hns,hz⟩:=ints_items (intsAre_of rv)
 refine sum_intListG (I.ok.hd hc) (xs:=zs) (by rw[<- e];exact pl.isList) fun h' tk t' hk=>?_
 refine ⟨.int ns.sum,H,I.kept hk,⟨t',?_⟩,q⟩
 rw[preSum_eq,List.take_of_length_le (by simp),<- hns]
end
section
variable {K:PySem.W.Frag} {H:Hp} {Q:VK} {p:Addr}
theorem r_min:rMin K [.ref p] H Q=∃ ns:List Int,(SqL K H p (ns.map V.int)\/SqT K H p (ns.map V.int))/\0 < ns.length/\∀ m:Int,m∈ns->(∀ a,a∈ns->m<=a)->Q (.int m) H:=propext
 ⟨fun ⟨_,ys,e,h⟩=>by cases e;exact ⟨ys,h⟩,fun ⟨ys,h⟩=>⟨_,ys,rfl,h⟩⟩
theorem r_sum:rSum K [.ref p] H Q=∃ ns:List Int,SqL K H p (ns.map V.int)/\Q (.int ns.sum) H:=propext
 ⟨fun ⟨_,ys,e,h⟩=>by cases e;exact ⟨ys,h⟩,fun ⟨ys,h⟩=>⟨_,ys,rfl,h⟩⟩
def WLoop (c:TT) (tb:TS) (D:Ends) (σ:St) (H:Hp):Prop:=tWhile c tb D σ H
theorem r_while {c:TT} {tb:TS} {D:Ends} {σ:St}:tWhile c tb D σ H=WLoop c tb D σ H:=rfl
end
theorem wloop {c:TT} {tb:TS} {D:Ends} {σ:St} {H:Hp} (W:Nat->St->Hp->Prop) (m:Nat) (h0:W m σ H)
  (hs:∀ m σ H,W m σ H->c σ H fun b H1=>if b=true then ∃ N:St->Hp->Prop,(∀ σ' H',N σ' H'->∃ m',m' < m/\W m' σ' H')/\tb { D with nx:=N,ct:=N,bk:=D.nx } σ H1 else D.nx σ H1):WLoop c tb D σ H :=
 ⟨W,⟨m,h0⟩,hs⟩
end L2

set_option maxHeartbeats 4000000

namespace L2
open PySem PySem.Spec PyProof.Rows
section
variable {X:Cx}
theorem op_ne_seq (hu:X.A.units < cLine):OpR X (compareOp .NotEq) (rEqS X.K true):=by
 intro pins s σ H x y v u Q I rx ry h
 obtain ⟨a,b,xs,ys,rfl,rfl,hq,fx,fy,q⟩:=h
 cases rx
 cases ry
 have q:Q (.bl (!eqVs xs ys)) H:=q
 rcases hq with ⟨ha,hb⟩ | ⟨ha,hb⟩
 ·obtain ⟨us,r1,p1,_⟩:=I.list ha
  obtain ⟨ws,r2,p2,_⟩:=I.list hb
  have l1:=r1.length
  have l2:=r2.length
  by_cases hl:xs.length=ys.length
  ·refine SeqAt.RcNeAt.lists p1.isList p2.isList (by simp only[List.size_toArray];omega) hu (fun j h1 h2=>eqAt_items r1 r2 fx fy j h1 h2) _ _ _ _ ⟨.bl _,H,I,rfl,?_⟩
   have e:eqVs xs ys=(List.range us.toArray.size).all fun j=>match xs[j]?,ys[j]? with | some x,some y=>eqV x y | _,_=>false:=by
    unfold eqVs
    rw[List.size_toArray,<- l1,beq_iff_eq.mpr hl,Bool.true_and]
    all_goals rfl
   rw[e]at q;exact q
  ·refine SeqAt.RcNeAt.lists_lengths p1.isList p2.isList (by simp only[List.size_toArray,bne_iff_ne];omega) hu _ _ _ _ ⟨.bl true,H,I,rfl,?_⟩
   have e:eqVs xs ys=false:=by
    unfold eqVs
    rw[beq_eq_false_iff_ne.mpr hl,Bool.false_and]
   rw[e]at q;exact q
 ·obtain ⟨us,r1,p1,_⟩:=I.tuple ha
  obtain ⟨ws,r2,p2,_⟩:=I.tuple hb
  have l1:=r1.length
  have l2:=r2.length
  refine SeqAt.RcNeAt.tuples p1 p2 hu (fun j h1 h2=>eqAt_items r1 r2 fx fy j h1 h2) _ _ _ _ ⟨.bl _,H,I,rfl,?_⟩
  have e:eqVs xs ys=((List.range (min us.toArray.size ws.toArray.size)).all (fun j=>match xs[j]?,ys[j]? with | some x,some y=>eqV x y | _,_=>false) && us.toArray.size == ws.toArray.size):=by
   unfold eqVs
   simp only[List.size_toArray,<- l1,<- l2]
   by_cases hl:xs.length=ys.length
   ·rw[hl,Nat.min_self,Bool.and_comm]
    all_goals rfl
   ·rw[beq_eq_false_iff_ne.mpr hl,Bool.false_and,Bool.and_false]
  rw[e]at q;exact q
theorem op_ne_seqK {K:PySem.W.Frag} (hK:X.K=K) (hu:X.A.units < cLine):OpR X (compareOp .NotEq) (rEqS K true):=by subst hK;exact op_ne_seq hu
theorem r_neS {K:PySem.W.Frag} {H:Hp} {Q:VK} {p b:Addr}:rEqS K true (.ref p) (.ref b) H Q=∃ xs ys,((SqL K H p xs/\SqL K H b ys)\/(SqT K H p xs/\SqT K H b ys))/\xs.all flatV=true/\ys.all flatV=true/\Q (.bl (!eqVs xs ys)) H:=propext
 ⟨fun ⟨_,_,xs,ys,e1,e2,h⟩=>by cases e1;cases e2;exact ⟨xs,ys,h⟩,fun ⟨xs,ys,h⟩=>⟨_,_,xs,ys,rfl,rfl,h⟩⟩
end
end L2


namespace L2
open PySem PySem.Spec PyProof.Rows
def constInts:List Expr->Option (List Int)
 | []=>some []
 | .Constant (.int i) _ _::r=>(constInts r).map (i::·)
 | _=>none
def tInts (l:List Int):TA:=fun _ H Q=>Q (l.map V.int) H
theorem pa_ints {X:Cx}:∀ {es:List Expr} {l:List Int},constInts es=some l->PA X es (tInts l)
 | [],l,h=>by
  cases h
  exact zA1
 | .Constant (.int i) j p::r,l,h=>by
  obtain ⟨l',h',rfl⟩:=Option.map_eq_some_iff.mp h
  exact zA0 (zA9 (i:=i) (j:=j) (pos:=p)) (pa_ints h')
theorem r_ints {l:List Int} {σ:St} {H:Hp} {R:List V->Hp->Prop}:tInts l σ H R=R (l.map V.int) H:=rfl
end L2

set_option maxHeartbeats 4000000

namespace L2
open PySem PySem.Spec PyProof.Rows

abbrev bmV:List Value:=[.type "ValueError",.type "Exception",.type "BaseException",.type "object"]
structure XCls (K:PySem.W.Frag) (C:Addr):Prop where
 exc:PySem.W.excIn K C bmV "ValueError.__new__"=true
 ga:PySem.W.findIn K (.ref C) "__getattribute__"=some (some (.builtin "BaseException.__getattribute__"))
 gt:PySem.W.findIn K (.ref C) "__getattr__"=some none
 cl:PySem.W.findIn K (.ref C) "__class__"=some (some (.builtin "object.__class__"))
 sp:PySem.W.specialIn K (.builtin "object.__class__") "__get__"=some (some (.builtin "getset_descriptor.__get__"))
 tk:PySem.W.takesIn K (.builtin "object.__class__")=some true
 ob:PySem.W.mroIn K C (.type "object")=some true
 bs:PySem.W.mroIn K C (.type "BaseException")=some true
 ve:PySem.W.mroIn K C (.type "ValueError")=some true
 ty:PySem.W.typeIn K (.ref C)=some (.type "type")
 me:PySem.W.mroIn K C (.ref C)=some true

section
variable {K:PySem.W.Frag} {C D x:Addr} {h:Heap}
theorem mro_cls {b:Bool} {v:Value} (m:PySem.W.mroIn K C v=some b):(PySem.W.clsIn K C).isSome=true:=by
 unfold PySem.W.mroIn at m
 cases q:PySem.W.clsIn K C with
 | none=>rw[q]at m;cases m
 | some cd=>rfl
theorem XCls.kit {b:Bool} (c:XCls K C) (d:XCls K D) (m:PySem.W.mroIn K C (.ref D)=some b):PySem.W.kitCls K (.ref C) (.ref D)=some b:=by
 unfold PySem.W.kitCls
 dsimp only
 rw[if_pos (by rw[mro_cls d.me,d.ty];rfl)]
 exact m
theorem XCls.one {b:Bool} (c:XCls K C) (d:XCls K D) (m:PySem.W.mroIn K C (.ref D)=some b):PySem.W.kitOne K (.ref C) (.ref D)=some b:=by
 unfold PySem.W.kitOne
 by_cases q:(Value.ref C == Value.ref D)=true
 ·rw[if_pos q]
  have e:C=D:=Value.ref.inj (beq_iff_eq.mp q)
  subst e
  exact c.me.symm.trans m
 ·rw[if_neg q]
  exact c.kit d m
theorem kitMeta_VE:PySem.W.kitMeta "ValueError"=true:=by decide +kernel
theorem XCls.oneV (c:XCls K C):PySem.W.kitOne K (.ref C) (.type "ValueError")=some true:=by
 unfold PySem.W.kitOne
 rw[if_neg (by intro q;cases beq_iff_eq.mp q)]
 show (if PySem.W.kitMeta "ValueError"=true then PySem.W.subIn K (.ref C) (.type "ValueError") else none)=some true
 rw[if_pos kitMeta_VE]
 exact c.ve
theorem XCls.exm {b:Bool} (c:XCls K C) (d:XCls K D) (m:PySem.W.mroIn K C (.ref D)=some b):PySem.W.exmOne K (.ref C) (.ref D)=some b:=by
 have e:PySem.W.subIn K (.ref D) (.type "BaseException")=some true:=d.bs
 unfold PySem.W.exmOne
 rw[if_pos (by rw[e];rfl)]
 exact c.kit d m
theorem XCls.own {n:Str} {mg:Str->Option Value} (c:XCls K C) (X:K.In h) (hm:mg n=some (.ref C)):OwnCls n C bmV "ValueError.__new__" mg h:=by
 refine ⟨hm,?_⟩
 have q:=c.exc
 unfold PySem.W.excIn at q
 split at q
 ·rename_i dd cd sl ho
  split at q
  ·rename_i C1 bm k0 k1 k2 k3 nn k5 e1 e2
   rw[Bool.and_eq_true,Bool.and_eq_true,Bool.and_eq_true,Bool.and_eq_true,Bool.and_eq_true,beq_iff_eq,beq_iff_eq,beq_iff_eq,Bool.not_eq_true']at q
   obtain ⟨⟨⟨⟨⟨z1,z2⟩,z3⟩,z4⟩,z5⟩,z6⟩:=q
   subst z1 z2
   obtain ⟨l⟩:=sl
   have e2:l=[k0,k1,k2,k3,some (.builtin "ValueError.__new__"),k5]:=e2
   subst e2
   obtain ⟨nm,bs,mro,ns,qn,hd,sn,sub,ab,col,del⟩:=cd
   have e1:mro=.ref C1::bm:=e1
   have z3:del=false:=z3
   subst e1 z3
   exact ⟨bm,ns,nm,qn,bs,hd,sn,sub,ab,col,dd,k0,k1,k2,k3,k5,_,X _ _ ho,.of_isNs (PySem.W.isNs_of_in X z5),PySem.W.nsMap_none_of_in X z5 z6,PySem.W.tail_of_in X z4⟩
  ·cases q
 ·cases q
end

end L2

namespace L2

open PySem PyProof.Rows PySem.Builtin PySem.Builtin.ObjectAttr PySem.Builtin.Getset_descriptor
section
variable {prog:Program} {w:World} {A:Around} {E:Value->Shared->Prop} {s:Shared} {K:PySem.W.Frag} {x C:Addr}
theorem exc_find {M:Model} {h:Heap} (X:K.In h) (c:XCls K C):PySem.W.Looks M h (find (.ref x) (.ref C) "__class__") (.bind (.builtin "getset_descriptor.__get__") (.builtin "object.__class__")):=by
 have L3:=PySem.W.looks_takesIn (M:=M) X c.tk
 have L4:PySem.W.Looks M h (dataDescriptor? (some (.builtin "object.__class__")) (some (.builtin "getset_descriptor.__get__"))) (some (.builtin "getset_descriptor.__get__",.builtin "object.__class__")):=L3.andThen .now
 exact (PySem.W.looks_findIn (M:=M) X c.cl).andThen ((show PySem.W.Looks M h (getOf (some (.builtin "object.__class__"))) (some (.builtin "getset_descriptor.__get__")) from PySem.W.looks_specialIn X c.sp).andThen (L4.andThen (PySem.W.Looks.tag .now)))
open PySem.W in
theorem exc_get {tp:Value} {R:Result->Shared->Prop} (L0:PySem.W.Looks (model prog w) s.heap (typeOf (.ref x)) (.ref C)) (X:K.In s.heap) (c:XCls K C) (h:R (.ok (.ret (.ref C))) s) :
  codeAny (model prog w) A (.call (.builtin "getset_descriptor.__get__") ⟨[.builtin "object.__class__",.ref x,tp],[]⟩) R s:=by
 obtain ⟨hh,gg,dr,tt,oo⟩:=s
 have L1:=PySem.W.looks_mroIn (M:=model prog w) X c.ob
 refine codeAny_call_builtin KF.slot_gs.plain KF.entry_gs (KF.slot_gs.check _ _ _ _ _ _ _ _ KF.type_class (KF.args_gs _ _ _) ?_)
 unfold Builtin.«getset_descriptor.__get__» descrGet
 rw[PySem.W.dga_obj]
 refine wpAny_bind (wpAny_pure ?_)
 unfold descrGetter descrCheckInstance descrNameAndClass isInstance
 simp only[KF.owner_class]
 repeat lk
 refine ⟨Code.quiet_builtin _ (by decide +kernel),codeAny_builtin KF.entry_class ?_⟩
 unfold Builtin.«object.__class__» shownTypeOf
 repeat lk
 exact h
theorem exc_ga {tk:Tok} {o:Obj} {R:Result->Shared->Prop} (hx:s.heap.get? x=some o) (hc:o.cls=.ref C) (X:K.In s.heap) (c:XCls K C) (h:R (.ok (.ret (.ref C))) s) :
  codeAny (model prog w) A (.call (.builtin "BaseException.__getattribute__") ⟨[.ref x,.str "__class__" tk],[]⟩) R s:=by
 obtain ⟨hh,gg,dr,tt,oo⟩:=s
 have hx:hh.get? x=some o:=hx
 have L0:PySem.W.Looks (model prog w) hh (typeOf (.ref x)) (.ref C):=hc ▸ (PySem.W.Looks.ld hx).andThen .now
 have L1:PySem.W.Looks (model prog w) hh (isSubtype (.ref C) (.type "BaseException")) true:=PySem.W.looks_mroIn (M:=model prog w) X c.bs
 have L2:PySem.W.Looks (model prog w) hh (find (.ref x) (.ref C) "__class__") (.bind (.builtin "getset_descriptor.__get__") (.builtin "object.__class__")):=exc_find (x:=x) (M:=model prog w) X c
 refine codeAny_call_builtin F.excAttr_ValueError.ga.plain F.entry_bexc_ga ?_
 have k1:builtinKind "BaseException.__getattribute__"=some .slot:=by decide +kernel
 have k2:splitId "BaseException.__getattribute__"=some ("BaseException","__getattribute__"):=by decide +kernel
 have k3:=F.args_bexc_ga (.ref x) (.str "__class__" tk)
 simp only[checkBuiltinCall,k1,k2]
 unfold isInstance
 refine wpAny_bind (wpAny_bind (L0.at (L1.at ?_)))
 repeat (any_goals (first | assumption | (with_reducible refine wpAny_loadPart_at hx ?_;rw[hc]) | (with_reducible refine wpAny_bind (L2.at ?_)) | (with_reducible refine L2.at ?_) | wp_step))
 refine exc_get (s:=⟨hh,gg,dr,tt,oo⟩) L0 X c ?_
 exact wpAny_pure h
theorem exc_class {o:Obj} {Q:Option Value->Shared->Prop} (hx:s.heap.get? x=some o) (hc:o.cls=.ref C) (X:K.In s.heap) (c:XCls K C) (h:Q (some (.ref C)) { s with toks:=s.toks+1 }) :
  wpAny (model prog w) A (getAttr? (.ref x) "__class__") Q E s:=by
 obtain ⟨hh,gg,dr,tt,oo⟩:=s
 have hx:hh.get? x=some o:=hx
 have L0:PySem.W.Looks (model prog w) hh (typeOf (.ref x)) (.ref C):=hc ▸ (PySem.W.Looks.ld hx).andThen .now
 have L1:PySem.W.Looks (model prog w) hh (typeLookup (.ref C) "__getattribute__") (some (.builtin "BaseException.__getattribute__")):=PySem.W.looks_findIn (M:=model prog w) X c.ga
 have L2:PySem.W.Looks (model prog w) hh (typeLookup (.ref C) "__getattr__") none:=PySem.W.looks_findIn (M:=model prog w) X c.gt
 have f3:=F.excAttr_ValueError.ga.bind (.ref x)
 unfold getAttr? getAttrBy? getAttrBy
 refine wpAny_bind (wpAny_mkText (wpAny_bind (wpAny_attempt (wpAny_holding (wpAny_bind (L0.at (wpAny_bind (L1.at ?_))))))))
 have hb:(Value.builtin "BaseException.__getattribute__" == Value.builtin "object.__getattribute__")=false:=by decide +kernel
 dsimp only
 rw[if_neg (by rw[hb];show ¬ (false=true);decide)]
 unfold getAttrByItsOwn hookBefore
 rw[if_pos (show onTheHeap (.ref C)=true from rfl)]
 refine wpAny_bind (L2.at (wpAny_bind (wpAny_attempt (wpAny_holding ?_))))
 unfold callGetattribute boundAndCalled
 rw[if_neg (by decide)]
 rw[f3]
 refine wpAny_bind (wpAny_pure (wpAny_call (exc_ga (s:=⟨hh,gg,dr,tt+1,oo⟩) hx hc X c ?_)))
 refine PySem.W.handed_on rfl ?_
 exact wpAny_pure h
end
end L2

set_option maxHeartbeats 4000000
namespace L2
open PySem PySem.Spec PyProof.Rows

theorem ObjOk.there {P:Program} {w:World} {H:Hp} {h:Heap} {a:Addr} {o:HO} (x:ObjOk P w H h a o):∃ u,h.get? a=some u:=by
 cases o with
 | lst xs=>obtain ⟨_,_,_,_,e⟩:=x;exact ⟨_,e⟩
 | tup xs=>obtain ⟨_,_,_,⟨u,e,_⟩,_⟩:=x;exact ⟨u,e⟩
 | dK kvs=>obtain ⟨_,_,_,_,u,_,_,e,_⟩:=x;exact ⟨u,e⟩
 | dT kvs=>obtain ⟨_,_,_,_,u,_,_,e,_⟩:=x;exact ⟨u,e⟩
 | set S n=>obtain ⟨u,_,_,_,e,_⟩:=x;exact ⟨u,e⟩
 | ins C dx fs=>obtain ⟨_,_,_,e,_⟩:=x;exact ⟨_,e⟩
 | own y=>exact x
 | xd fs=>obtain ⟨_,⟨u,_,_,e,_⟩,_⟩:=x;exact ⟨u,e⟩
 | rng lo hi=>obtain ⟨_,_,_,e⟩:=x;exact ⟨_,e⟩
 | frz ob u=>obtain ⟨e,_⟩:=x;exact ⟨_,e⟩
 | tbl ps=>exact ⟨_,(show h.get? a=some _ from x)⟩
 | met f y=>exact ⟨_,(show h.get? a=some _ from x)⟩
 | ext φ=>obtain ⟨_,e,_⟩:=x;exact e

structure Cov (X:Cx) (pins:List (Addr × Obj)) (H:Hp) (B:Heap):Prop where
 trk:∀ b u,H b=some u->∃ o,B.get? b=some o
 old:∀ b o,X.s₀.heap.get? b=some o->b∉frs X.stack->b∉X.ex->∃ o',B.get? b=some o'
 pin:∀ p∈X.pn++pins,∃ o,B.get? p.1=some o

section
variable {X:Cx} {pins:List (Addr × Obj)} {σ:St} {H:Hp} {s:Shared} {h' B:Heap}
theorem Inv.ride {t':Nat} (I:Inv X pins σ H s) (b1:B.StaysIn s.heap) (b2:B.StaysIn h') (up:s.heap.UpToSlots h') (cv:Cov X pins H B):Inv X pins σ H { s with heap:=h',toks:=t' }:=by
 have same:∀ b o o',B.get? b=some o'->s.heap.get? b=some o->h'.get? b=some o:=fun b o o' e q=>by
  have z:=b1 b o' e
  rw[q]at z
  cases z
  exact b2 b _ e
 have neL:∀ b o,X.s₀.heap.get? b=some o->b≠X.env.locals:=fun b o e=>Nat.ne_of_lt (Nat.lt_of_lt_of_le (Heap.lt_size e) I.ok.above)
 have nst:∀ b o,X.s₀.heap.get? b=some o->b∉X.fs->b∉frs X.stack:=fun b o e nf z=>by
  rcases List.mem_cons.mp (I.stkSub b z) with q | q
  ·exact neL b o e q
  ·exact nf q
 have cellK:∀ c v,s.heap.IsCell c v->h'.IsCell c v:=fun c v ⟨o,ho,hd⟩=>by
  obtain ⟨sl,q⟩:=up c o ho fun vs z=>by rw[hd]at z;cases z
  exact ⟨_,q,hd⟩
 have slots:∀ b o,X.s₀.heap.get? b=some o->X.H₀ b=none->b∈X.fs->b∉X.ex->∃ sl,h'.get? b=some { o with slots:=sl }:=fun b o e n hb hx=>by
  obtain ⟨sl,q⟩:=I.base.slot b o e n hb hx
  obtain ⟨_,o1,e1,d1⟩:=I.ok.funs.mem hb
  rw[e]at e1
  cases e1
  obtain ⟨sl',q'⟩:=up b _ q d1
  exact ⟨sl',q'⟩
 refine ⟨I.ok,I.os,I.bare,⟨fun b o e n hb hx=>?_,slots,I.base.free,fun b o e hx=>?_,I.base.tups,I.base.frzs,I.base.tbls⟩,?_,fun y c e=>?_,I.free,I.freeC,fun p hp=>?_,fun b u e=>?_,I.len⟩
 ·obtain ⟨o',q⟩:=cv.old b o e (nst b o e hb) hx
  exact same b o o' q (I.base.keep b o e n hb hx)
 ·by_cases hb:b∈X.fs
  ·exact let ⟨sl,q⟩:=slots b o e (I.ok.frf b hb) hb hx;⟨_,q⟩
  ·obtain ⟨o',q⟩:=cv.old b o e (nst b o e hb) hx
   exact ⟨o',b2 b o' q⟩
 ·obtain ⟨m,hn,hl⟩:=I.loc
  refine ⟨m,up.ns hn,fun i y v e1 e2 e3=>?_⟩
  obtain ⟨u,r,l⟩:=hl i y v e1 e2 e3
  refine ⟨u,r,?_⟩
  rcases l with l | ⟨k,c,e,z⟩
  ·exact .inl l
  ·exact .inr ⟨k,c,e,cellK c _ z⟩
 ·obtain ⟨v,z⟩:=I.cell y c e
  exact ⟨v,cellK c v z⟩
 ·obtain ⟨e,n,ne,nf,d⟩:=I.pin p hp
  obtain ⟨o',q⟩:=cv.pin p hp
  exact ⟨same _ _ o' q e,n,ne,nf,d⟩
 ·refine (I.hok b u e).stay (fun c v hc q=>?_) (fun _ q=>q) fun _ _ q=>q
  have tr:∃ z,H c=some z:=by
   rcases hc with z | z
   ·exact ⟨u,by rw[z];exact e⟩
   ·exact ⟨_,z⟩
  obtain ⟨z,ez⟩:=tr
  obtain ⟨o',q'⟩:=cv.trk c z ez
  exact same c v o' q' q
theorem Inv.forget {i:Nat} {n:Str} {m:Str->Option Value} {v:Option Value} {t':Nat} (I:Inv X pins σ H s) (hN:X.N.Nodup) (hi:X.N[i]?=some n)
  (hm:∀ (j:Nat) (y:Str) (x:V),X.N[j]?=some y->σ[j]?=some (some x)->Vis X.env.scope y->∃ u,RelV x u/\Look X.env s.heap m y u)
  (hn:h'.Ns X.env.locals (fun y=>if y=n then v else m y)) (hs:Heap.SameBut X.env.locals s.heap h'):Inv X pins (σ.set i none) H { s with heap:=h',toks:=t' }:=by
 have neL:∀ b o,X.s₀.heap.get? b=some o->b≠X.env.locals:=fun b o e=>Nat.ne_of_lt (Nat.lt_of_lt_of_le (Heap.lt_size e) I.ok.above)
 have kp:∀ b o,b≠X.env.locals->s.heap.get? b=some o->h'.get? b=some o:=fun b o ne e=>(hs.2 b ne).trans e
 have cellK:∀ y c,X.env.cells.lookup y=some c->∀ u,s.heap.IsCell c u->h'.IsCell c u:=fun y c e u ⟨o,ho,hd⟩=>⟨o,kp c o (I.cne y c e) ho,hd⟩
 refine ⟨I.ok,I.os,I.bare,⟨fun b o e n hb hx=>kp b o (neL b o e) (I.base.keep b o e n hb hx),fun b o e n hb hx=>let ⟨sl,q⟩:=I.base.slot b o e n hb hx;⟨sl,kp b _ (neL b o e) q⟩,I.base.free,
  fun b o e hx=>let ⟨o',q⟩:=I.base.there b o e hx;⟨o',kp b o' (neL b o e) q⟩,I.base.tups,I.base.frzs,I.base.tbls⟩,⟨_,hn,fun j y x e1 e2 e3=>?_⟩,fun y c e=>?_,I.free,I.freeC,fun p hp=>?_,fun b u e=>?_,?_⟩
 ·have ne:i≠j:=fun z=>by
   subst z
   by_cases hl:i < σ.length
   ·rw[List.getElem?_set_self hl]at e2;cases e2
   ·rw[List.getElem?_eq_none (by rw[List.length_set];omega)]at e2;cases e2
  rw[List.getElem?_set_ne ne]at e2
  obtain ⟨u,r,l⟩:=hm j y x e1 e2 e3
  have hy:y≠n:=fun z=>ne (nodup_ix hN hi (by rw[e1,z]))
  refine ⟨u,r,?_⟩
  rcases l with ⟨k,l⟩ | ⟨k,c,e,z⟩
  ·exact .inl ⟨k,(if_neg hy).trans l⟩
  ·exact .inr ⟨k,c,e,cellK y c e _ z⟩
 ·obtain ⟨u,z⟩:=I.cell y c e
  exact ⟨u,cellK y c e u z⟩
 ·obtain ⟨e,n,ne,nf,d⟩:=I.pin p hp
  exact ⟨kp _ _ ne e,n,ne,nf,d⟩
 ·refine (I.hok b u e).stay (fun c w' hc q=>kp c w' ?_ q) (fun _ q=>q) fun _ _ q=>q
  rcases hc with z | z
  ·rw[z];exact fun q=>by rw[q,I.free]at e;cases e
  ·exact fun q=>by rw[q,I.free]at z;cases z
 ·rw[List.length_set];exact I.len
theorem Inv.adoptN {a:Addr} {o:HO} (I:Inv X pins σ H s) (hn:H a=none) (hs:X.s₀.heap.get? a=none) (hL:a≠X.env.locals)
  (hc:∀ y c,X.env.cells.lookup y=some c->c≠a) (hp:∀ p∈X.pn++pins,p.1≠a) (new:ObjOk X.prog X.w (upd H a o) s.heap a o):Inv X pins σ (upd H a o) s:=by
 have lt0:∀ b ob,X.s₀.heap.get? b=some ob->b≠a:=fun b ob e z=>by rw[z,hs]at e;cases e
 refine ⟨I.ok,I.os,I.bare,⟨I.base.keep,I.base.slot,fun b ob e n hx=>?_,I.base.there,fun b xs e=>?_,fun b ob u e=>?_,fun b ps e=>?_⟩,I.loc,I.cell,?_,fun x c e=>?_,fun p hp'=>?_,fun b u e=>?_,I.len⟩
 ·rw[zA8 (lt0 b ob e)];exact I.base.free b ob e n hx
 ·rw[zA8 (zA4 (I.base.tups b xs e) hn)];exact I.base.tups b xs e
 ·rw[zA8 (zA4 (I.base.frzs b ob u e) hn)];exact I.base.frzs b ob u e
 ·obtain ⟨m,q⟩:=I.base.tbls b ps e
  exact ⟨m,by rw[zA8 (zA4 q hn)];exact q⟩
 ·rw[zA8 (Ne.symm hL)];exact I.free
 ·rw[zA8 (hc x c e)];exact I.freeC x c e
 ·obtain ⟨e,n,ne,nf,d⟩:=I.pin p hp'
  exact ⟨e,by rw[zA8 (hp p hp')];exact n,ne,nf,d⟩
 ·by_cases hb:b=a
  ·subst hb;rw[zA2]at e;cases e;exact new
  ·rw[zA8 hb]at e
   exact (I.hok b u e).stay (fun c v _ q=>q) (fun c q=>by rw[zA8 (zA4 q hn)];exact q) fun c xs q=>by rw[zA8 (zA4 q hn)];exact q
end

def CXX (P:Program) (w:World):CXT:=fun outer H s E e s'=>∃ (ea:Addr) (cls a0:Value) (H':Hp) (B:Heap),e=.ref ea/\s'.os=s.os/\AllBare s'.gens/\Un (frs outer) [] H H' s.heap s'.heap/\HOk P w H' s'.heap /\
 Heap.FlyingW B outer ea cls a0 s'.heap/\(∀ b,b∉frs outer->((∃ u,H' b=some u)\/∃ o,s.heap.get? b=some o)->∃ o,B.get? b=some o)/\H' ea=none/\E cls none H'
theorem passX0 {P:Program} {w:World} {X:Cx}:Passes (CXX P w) X E0:=fun _ _ _ _ _ _ _ h=>by
 obtain ⟨_,_,_,_,_,_,_,_,_,_,_,_,_,z⟩:=h
 exact z.elim
def PassesX (CX:CXT) (X:Cx) (Ex:St->XK):Prop:=∀ (pins:List (Addr × Obj)) (σ:St) (H:Hp) (s:Shared) (e:Value) (s':Shared),Inv X pins σ H s->CX X.stack H s (Ex σ) e s'->X.xe e s'
def MadeX (X:Cx) (Ex:St->XK):Prop:=∀ (pins:List (Addr × Obj)) (σ:St) (H:Hp) (s:Shared) (e:Addr) (cls:Value) (h':Heap) (args:List Value),Inv X pins σ H s->Heap.MadeExcOf s.heap h' e cls args->Ex σ cls none H->X.xe (.ref e) { s with heap:=h' }

section
variable {P:Program} {w:World} {K:PySem.W.Frag} {mg:Str->Option Value} {base:Heap} {N:List Str} {qual:Str} {scope:Scope} {f:Addr} {cd:Value} {A:Around} {outer:List Env} {s₀:Shared} {H₀:Hp} {E:XK}
theorem left_cx {pins:List (Addr × Obj)} {σ:St} {H:Hp} {s:Shared} {ea:Addr} {cls a0:Value} {B h':Heap} (I:Inv (cxOf (CXX P w) P w K mg base N qual scope f cd A outer s₀ H₀ E) pins σ H s) (b1:B.StaysIn s.heap) (fl:Heap.FlyingW B outer ea cls a0 h')
  (up:s.heap.UpToSlots h') (cv:Cov (cxOf (CXX P w) P w K mg base N qual scope f cd A outer s₀ H₀ E) [] H B) (ne:H ea=none) (q:E cls none H) :
  CXX P w outer H₀ s₀ E (.ref ea) { s with heap:=h' }:=by
 have I1:Inv (cxOf (CXX P w) P w K mg base N qual scope f cd A outer s₀ H₀ E) [] σ H { s with heap:=h' }:=(I.pins_of fun p hp=>by simp at hp).ride (t':=s.toks) b1 fl.1 up cv
 refine ⟨ea,cls,a0,H,B,rfl,I1.os,I1.bare,I1.base,I1.hok,fl,fun b nb h=>?_,ne,q⟩
 rcases h with ⟨u,hu⟩ | ⟨o,ho⟩
 ·exact cv.trk b u hu
 ·refine cv.old b o ho (fun z=>?_) (by intro z;cases z)
  rcases List.mem_cons.mp (I.stkSub b z) with r | r
  ·exact Nat.ne_of_lt (Nat.lt_of_lt_of_le (Heap.lt_size ho) I.ok.above) r
  ·exact nb r
theorem zAa:Passes (CXX P w) (cxOf (CXX P w) P w K mg base N qual scope f cd A outer s₀ H₀ E) E:=by
 intro pins σ H s e s' I h
 obtain ⟨ea,cls,a0,H',B,rfl,os,bare,un,hok,fl,cv,ne,q⟩:=h
 have I1:Inv (cxOf (CXX P w) P w K mg base N qual scope f cd A outer s₀ H₀ E) pins σ H' s':=I.call' os un hok bare fun b z=>absurd z (by simp)
 have cov:Cov (cxOf (CXX P w) P w K mg base N qual scope f cd A outer s₀ H₀ E) [] H' B:=by
  refine ⟨fun b u hu=>cv b (fun z=>?_) (.inl ⟨u,hu⟩),fun b o ho nb hx=>cv b nb (.inr ?_),fun p hp=>?_⟩
  ·rw[I1.stkFree b z]at hu;cases hu
  ·exact I.base.there b o ho hx
  ·cases hp
 show wpAny _ _ (leaving _ _) _ _ _
 refine wpAny_leaves_onW I.ok.frames rfl fl fun h1 fl1 up1=>?_
 exact left_cx I1 fl.1 fl1 up1 cov ne q
theorem zCn:MadeX (cxOf (CXX P w) P w K mg base N qual scope f cd A outer s₀ H₀ E) (fun _=>E):=by
 intro pins σ H s e cls h2 args I mk q
 have kp:∀ b o,s.heap.get? b=some o->h2.get? b=some o:=mk.keeps
 have I2:Inv (cxOf (CXX P w) P w K mg base N qual scope f cd A outer s₀ H₀ E) pins σ H { s with heap:=h2 }:=I.kept (t':=s.toks) kp
 have ne:H e=none:=by
  cases z:H e with
  | none=>rfl
  | some u =>
   obtain ⟨o,ho⟩:=(I.hok e u z).there
   rw[mk.new]at ho;cases ho
 have fr:=I.stack
 have hin:∀ env∈(cxOf (CXX P w) P w K mg base N qual scope f cd A outer s₀ H₀ E).stack,∀ b,env.frame=some b->b∈frs (cxOf (CXX P w) P w K mg base N qual scope f cd A outer s₀ H₀ E).stack:=fun env he b hb=>List.mem_filterMap.mpr ⟨env,he,hb⟩
 have bget:∀ b o,s.heap.get? b=some o->b∉frs (cxOf (CXX P w) P w K mg base N qual scope f cd A outer s₀ H₀ E).stack->(PySem.W.hideAll s.heap (frs (cxOf (CXX P w) P w K mg base N qual scope f cd A outer s₀ H₀ E).stack)).get? b=some o:=fun b o e nb=>PySem.W.hideAll_get _ e nb
 have cov:Cov (cxOf (CXX P w) P w K mg base N qual scope f cd A outer s₀ H₀ E) [] H (PySem.W.hideAll s.heap (frs (cxOf (CXX P w) P w K mg base N qual scope f cd A outer s₀ H₀ E).stack)):=by
  refine ⟨fun b u hu=>?_,fun b o ho nb hx=>?_,fun p hp=>?_⟩
  ·obtain ⟨o,ho⟩:=(I.hok b u hu).there
   exact ⟨o,bget b o ho fun z=>by rw[I.stkFree b z]at hu;cases hu⟩
  ·obtain ⟨o',ho'⟩:=I.base.there b o ho hx
   exact ⟨o',bget b o' ho' nb⟩
  ·cases hp
 show wpAny _ _ (leaving _ _) _ _ _
 refine wpAny_leaves_madeW (base:=PySem.W.hideAll s.heap (frs (cxOf (CXX P w) P w K mg base N qual scope f cd A outer s₀ H₀ E).stack)) (h:=s.heap) I.ok.frames rfl (fun b o z=>PySem.W.of_hideAll _ z) (PySem.W.funFrames_hide fr hin) mk fun h3 t fl3 _ _ up3=>?_
 exact left_cx I2 (fun b o z=>kp b o (PySem.W.of_hideAll _ z)) fl3 up3 cov ne q
theorem Fun.okX {x qual:Str} {st:Stmt} {f:Addr} {fd:FuncData} {N ps:List Str} {k:Nat} {sp:Sp} (F:Fun K x qual st f fd) (S:FnScope N ps (defScope st)) (len:∀ vs H Q E,sp vs H Q E->vs.length=ps.length)
  (hbody:∀ (cdv:Value) (A:Around) (outer:List Env) (s:Shared) (H:Hp) (vs:List V) (Q:VK) (E:XK),Room k (A.deeper (envOfC qual (defScope st) s.heap.objs.size f cdv))->sp vs H Q E ->
   ∃ t,PSs (cxOf (CXX P w) P w K mg base N qual (defScope st) f cdv A outer s H E) (defBody st) t/\t { nx:=fun _ H'=>Q .non H',rt:=Q } (start N vs) H):FnOk P w K mg base (CXX P w) (k+1) f fd ps sp:=by
 obtain ⟨oc,od,kV,doc,pm,an,cdv,ct,osl,rfl,lk,hcd⟩:=F.ex
 exact fn_of lk hcd S len fun A outer s H vs Q E hr hsp=>hbody cdv A outer s H vs Q E hr hsp
end

section
variable {X:Cx} {x:Str} {C:Addr} {np cpos pos:Pos} {e:Expr} {es:List Expr} {ta:TA} {Ex:St->XK}
def tRaise (Ex:St->XK) (C:Addr) (ta:TA):TS:=fun _ σ H=>ta σ H fun vs H1=>vs.length<=sizeLine/\Ex σ (.ref C) none H1
theorem zC2 (hc:X.calm=true) (c:XCls X.K C) (hg:Gl X x) (hm:X.mg x=some (.ref C)) (hx:MadeX X Ex) (ha:PA X (e::es) ta) (hdb:(x == ("__debug__":Str))=false:=by decide)
  (he:starEach (e::es) X.env=(false,eval e X.env)::starEach es X.env:=by rfl) (hpl:(backTo cpos (starEach es X.env)).any (·.1)=false:=by rfl) :
  PS X (.Raise (some (.Call (.Name x np) (e::es) [] cpos)) none pos) (tRaise Ex C ta):=by
 intro pins s σ H D I h
 obtain ⟨tl,nn,nm,q,bs,hdct,sn,sub,ab,col,dd,k0,k1,k2,k3,k5,mN,hC,hN,hni,T⟩:=(c.own I.mod.kin hm).obj
 refine wpAny_Raise_call_subT (C:=C) (nm:=nm) (q:=q) (N:=nn) (bs:=bs) (bm:=tl) (hdct:=hdct) (sn:=sn) (sub:=sub) (ab:=ab) (col:=col) (dd:=dd) (k0:=k0) (k1:=k1) (k2:=k2) (k3:=k3) (k5:=k5)
  PySem.F.excBase_ValueError (mN:=mN) (T.hasType PySem.F.excBase_ValueError.hasBase) (I.ok.hd hc) (by rw[he];show (false || (backTo cpos (starEach es X.env)).any (·.1))=false;rw[hpl];rfl) hni (ld_glob I hg hm ⟨rfl,?_⟩ hdb)
 have hw:=ha cpos pins s σ H _ I h
 rw[he]at hw ⊢
 refine Calls.evalArgs_plain (wpAny_mono hw (fun us s1 ⟨vs,H1,I1,r,hl,qe⟩=>?_) fun _ _ z=>z)
 refine ⟨rfl,by rw[<- r.length];exact hl,I1.bk _ _ hC,hN.keeps I1.bk,T.keeps I1.bk,fun h' ea mk=>?_⟩
 exact hx pins σ H1 s1 ea (.ref C) h' us I1 mk qe
def tCallX (sp:Sp) (dvs:List V) (Ex:St->XK) (t:TA):TE:=fun σ H Q=>t σ H fun vs H1=>sp (vs++dvs) H1 Q (Ex σ)
variable {CX:CXT} {k:Nat} {f:Addr} {fd:FuncData} {ps:List Str} {sp:Sp} {dvs:List V} {ds:List Value} {p:Pos}
theorem run_fnX {pins:List (Addr × Obj)} {σ:St} {H:Hp} {s:Shared} {Q:VK} {us:List Value} {vs:List V} (F:FnOk X.prog X.w X.K X.mg X.base CX k f fd ps sp) (hr:Room k X.A) (hb:Binds X.K fd ps ds) (hd:Vals dvs ds) (hx:PassesX CX X Ex)
  (I:Inv X pins σ H s) (r:Vals vs us) (h:sp (vs++dvs) H Q (Ex σ)):wpAny (model X.prog X.w) X.A (call (.ref f) us) (EP X pins σ Q) X.xe s:=by
 have r2:Vals (vs++dvs) (us++ds):=r.append hd
 have hl:(us++ds).length=ps.length:=by rw[<- r2.length];exact F.len _ _ _ _ h
 refine wpAny_call (codeAny_mono (F.run X.A X.stack s H ⟨us,[]⟩ (us++ds) (vs++dvs) Q (Ex σ) hr I.env0 (hb s us I.kIn hl) r2 h) fun rr s' hq=>?_)
 match rr,hq with
 | .error e,hq=>exact hx pins σ H s e s' I hq
 | .ok (.ret u),hq=>exact I.after hq
 | .ok .next,hq=>exact False.elim hq
 | .ok .brk,hq=>exact False.elim hq
 | .ok .cont,hq=>exact False.elim hq
theorem pe_callX (F:FnOk X.prog X.w X.K X.mg X.base CX k f fd ps sp) (hr:Room k X.A) (hg:Gl X x) (hm:X.mg x=some (.ref f)) (hk:PySem.W.keepIn X.K (.ref f)=true) (hb:Binds X.K fd ps ds) (hd:Vals dvs ds) (hx:PassesX CX X Ex)
  (ha:PA X (e::es) ta) (hdb:(x == ("__debug__":Str))=false:=by decide) (he:starEach (e::es) X.env=(false,eval e X.env)::starEach es X.env:=by rfl) (hpl:(backTo pos (starEach es X.env)).any (·.1)=false:=by rfl) :
  PE X (.Call (.Name x p) (e::es) [] pos) (tCallX sp dvs Ex ta):=by
 intro pins s σ H Q I h
 refine wpAny_Call_Name_kw (ld_glob I hg hm ?_ hdb)
 exact PySem.W.callWith_K (h₀:=X.base) I.ok.mod.kin hk (thn (ha pos pins s σ H _ I h) fun us s1 ⟨vs,H1,I1,r,q⟩=>⟨I1.kIn,run_fnX F hr hb hd hx I1 r q⟩) he hpl
end
end L2

set_option maxHeartbeats 4000000
namespace L2
open PySem PySem.Spec PyProof.Rows

def excO (e C:Addr):HO:=.ext fun h=>∃ o,h.get? e=some o/\o.cls=.ref C
def xeT (X:Cx) (pl:List (Addr × Obj)) (Ex:St->XK) (e:Value) (s':Shared):Prop:=∃ (ea:Addr) (cls a0:Value) (σ':St) (H':Hp) (B:Heap),e=.ref ea/\Inv X pl σ' H' s'/\Heap.FlyingW B X.stack ea cls a0 s'.heap/\Cov X pl H' B/\H' ea=none/\Ex σ' cls none H'
abbrev Cx.tr (X:Cx) (pl:List (Addr × Obj)) (Ex:St->XK):Cx:={ X with pn:=X.pn++pl,xe:=xeT X pl Ex }
abbrev Cx.hd (X:Cx) (ea:Addr):Cx:={ X with A:=X.A.mark (some (.ref ea)),calm:=false,xe:=fun _ _=>False }
section
variable {X:Cx} {pl pins:List (Addr × Obj)} {σ:St} {H:Hp} {s:Shared} {Ex:St->XK} {ea:Addr}
theorem Inv.toTr (I:Inv X (pl++pins) σ H s):Inv (X.tr pl Ex) pins σ H s :=
 ⟨⟨I.ok.mod,I.ok.kind,I.ok.glob,I.ok.blt,I.ok.above,I.ok.inj,I.ok.has,I.ok.cab,I.ok.hd,I.ok.frames,I.ok.stk,I.ok.exf,I.ok.bs,I.ok.bsz,I.ok.noex,I.ok.exfs,I.ok.funs,I.ok.frf⟩,I.os,I.bare,I.base,I.loc,I.cell,I.free,I.freeC,
  fun p hp=>I.pin p (by rw[<- List.append_assoc];exact hp),I.hok,I.len⟩
theorem Inv.ofTr (I:Inv (X.tr pl Ex) pins σ H s):Inv X (pl++pins) σ H s :=
 ⟨⟨I.ok.mod,I.ok.kind,I.ok.glob,I.ok.blt,I.ok.above,I.ok.inj,I.ok.has,I.ok.cab,I.ok.hd,I.ok.frames,I.ok.stk,I.ok.exf,I.ok.bs,I.ok.bsz,I.ok.noex,I.ok.exfs,I.ok.funs,I.ok.frf⟩,I.os,I.bare,I.base,I.loc,I.cell,I.free,I.freeC,
  fun p hp=>I.pin p (show p∈(X.pn++pl)++pins by rw[List.append_assoc];exact hp),I.hok,I.len⟩
theorem frames_mark {A:Around} {e:Option Value} {l:List Env} (h:A.frames=some l):(A.mark e).frames=some l:=by
 first | exact h | (simpa [Around.mark,Around.frames] using h)
theorem Inv.toHd (I:Inv X pins σ H s):Inv (X.hd ea) pins σ H s :=
 ⟨⟨I.ok.mod,I.ok.kind,I.ok.glob,I.ok.blt,I.ok.above,I.ok.inj,I.ok.has,I.ok.cab,fun z=>(nomatch (show false=true from z)),frames_mark I.ok.frames,I.ok.stk,I.ok.exf,I.ok.bs,I.ok.bsz,I.ok.noex,I.ok.exfs,I.ok.funs,I.ok.frf⟩,I.os,I.bare,I.base,I.loc,I.cell,I.free,I.freeC,I.pin,I.hok,I.len⟩
theorem Inv.ofHd (ok:X.Ok) (I:Inv (X.hd ea) pins σ H s):Inv X pins σ H s :=
 ⟨ok,I.os,I.bare,I.base,I.loc,I.cell,I.free,I.freeC,I.pin,I.hok,I.len⟩
theorem passT:PassesX (CXX X.prog X.w) (X.tr pl Ex) Ex:=by
 intro pins σ H s e s' I0 h
 have I:Inv X (pl++pins) σ H s:=I0.ofTr
 obtain ⟨ea,cls,a0,H',B,rfl,os,bare,un,hok,fl,cv,ne,q⟩:=h
 have I1:Inv X (pl++pins) σ H' s':=I.call' os un hok bare fun b z=>absurd z (by simp)
 have I2:Inv X pl σ H' s':=I1.pins_of fun p hp=>I1.pin p (List.mem_append_right _ (List.mem_append_left _ hp))
 refine ⟨ea,cls,a0,σ,H',B,rfl,I2,fl,⟨fun b u hu=>cv b (fun z=>?_) (.inl ⟨u,hu⟩),fun b o ho nb hx=>cv b nb (.inr (I.base.there b o ho hx)),fun p hp=>?_⟩,ne,q⟩
 ·rw[I1.stkFree b z]at hu;cases hu
 ·obtain ⟨e1,n1,ne1,nf1,_⟩:=I2.pin p hp
  have I0p:=I.pin p (by rw[<- List.append_assoc];exact List.mem_append_left _ hp)
  refine cv p.1 (fun z=>?_) (.inr ⟨p.2,I0p.1⟩)
  rcases List.mem_cons.mp (I.stkSub p.1 z) with r | r
  ·exact ne1 r
  ·exact nf1 r
def tTry (K:PySem.W.Frag) (D:Addr) (i:Nat) (tb:(St->XK)->TS) (th:TS):TS:=fun G σ H=>∃ Ex:St->XK,tb Ex G σ H/\∀ σ' cls H',Ex σ' cls none H'->∃ C,cls=.ref C/\XCls K C/\PySem.W.mroIn K C (.ref D)=some true /\
 ∀ ea,H' ea=none->th { nx:=fun σ2 H2=>G.nx (σ2.set i none) H2,rt:=G.rt,bk:=fun σ2 H2=>G.bk (σ2.set i none) H2,ct:=fun σ2 H2=>G.ct (σ2.set i none) H2 } (σ'.set i (some (.ref ea))) (upd H' ea (excO ea C))
theorem ps_try {body suite:List Stmt} {b0:Stmt} {x n:Str} {D:Addr} {i:Nat} {np hpos pos:Pos} {tb:(St->XK)->TS} {th:TS} (hstk:X.stack=X.env::X.outer) (hfr:X.env.frame=some X.env.locals) (hex:X.ex=[])
  (hN:X.N.Nodup) (hi:X.N[i]?=some n) (hl:X.env.scope.names.lookup n=some .local) (d:XCls X.K D) (hg:Gl X x) (hm:X.mg x=some (.ref D))
  (hb:∀ pl Ex,PSs (X.tr pl Ex) body (tb Ex)) (hh:∀ ea,PSs (X.hd ea) (b0::suite) th) (hdb:(x == ("__debug__":Str))=false:=by decide) :
  PS X (.Try body [.ExceptHandler (some (.Name x np)) (some n) (b0::suite) hpos] [] [] pos) (tTry X.K D i tb th):=by
 intro pins s σ H G I h
 obtain ⟨Ex,hbody,hx⟩:=h
 refine wpAny_Try_except (wpAny_mono (hb pins Ex [] s σ H G (Inv.toTr (by rw[List.append_nil];exact I)) hbody) (fun f s1 h1=>?_) fun e s1 h1=>?_)
 ·have back:∀ {σ' H'},Inv (X.tr pins Ex) [] σ' H' s1->Inv X pins σ' H' s1:=fun J=>by have:=J.ofTr;rwa [List.append_nil]at this
  cases f with
  | next=>obtain ⟨a,b,J,z⟩:=h1;exact wpAny_execs_nil ⟨a,b,back J,z⟩
  | brk=>obtain ⟨a,b,J,z⟩:=h1;exact ⟨a,b,back J,z⟩
  | cont=>obtain ⟨a,b,J,z⟩:=h1;exact ⟨a,b,back J,z⟩
  | ret u=>obtain ⟨v,a,b,J,r,z⟩:=h1;exact ⟨v,a,b,back J,r,z⟩
 ·obtain ⟨ea,cls,a0,σ',H',B,rfl,I1,fl,cov,ne,ex⟩:=h1
  obtain ⟨C,rfl,c,m,hth⟩:=hx σ' cls H' ex
  have hfrm:X.A.frames=some (X.env::X.outer):=by rw[<- hstk];exact I1.ok.frames
  rw[hstk]at fl
  refine wpAny_looks_onW hfrm hfr fl fun h4 hd4 u4=>wpAny_landsW hd4 fun h5 fl5 u5=>?_
  have I5:Inv X pins σ' H' { s1 with heap:=h5 }:=I1.ride (t':=s1.toks) fl.1 fl5.1 (u4.trans u5) cov
  have J5:Inv (X.hd ea) pins σ' H' { s1 with heap:=h5 }:=I5.toHd
  have LT:PySem.W.Looks (model X.prog X.w) h5 (typeOf (.ref ea)) (.ref C):=by
   obtain ⟨ob,hob,hc⟩:=fl5.there
   exact hc ▸ (PySem.W.Looks.ld hob).andThen .now
  refine wpAny_handleBy_cons (codeAny_handlers_test (ld_glob (X:=X.hd ea) J5 hg hm ((PySem.W.exm_one (K:=X.K) J5.kIn LT (c.exm d m)).here ?_) hdb)) (by intro q;cases q)
  refine codeAny_handlers_suite_as ?_
  refine lands_againW fl5 fun h6 fl6 u6=>?_
  have I6:Inv X pins σ' H' { s1 with heap:=h6 }:=I5.ride (t':=s1.toks) fl5.1 fl6.1 u6 cov
  obtain ⟨oe,vs,he,hec,hed,_⟩:=fl6.first
  have nf:∀ b∈frs X.stack,b≠ea:=fun b hb z=>by
   obtain ⟨_,o,ho,hd⟩:=I6.stack.mem hb
   rw[z]at ho
   rw[he]at ho
   cases ho
   exact hd vs hed
  have hs0:X.s₀.heap.get? ea=none:=by
   cases z:X.s₀.heap.get? ea with
   | none=>rfl
   | some o =>
    obtain ⟨o',q⟩:=cov.old ea o z (fun r=>nf ea r rfl) (by rw[hex];intro r;cases r)
    rw[fl.2.1]at q;cases q
  have hL:ea≠X.env.locals:=fun z=>by
   obtain ⟨mm,⟨o,es,ep,ho,hd,_⟩,_⟩:=I6.loc
   rw[<- z,he]at ho
   cases ho
   rw[hed]at hd;cases hd
  have hc:∀ y c,X.env.cells.lookup y=some c->c≠ea:=fun y c e z=>by
   obtain ⟨v,o,ho,hd⟩:=I6.cell y c e
   rw[z,he]at ho
   cases ho
   rw[hed]at hd;cases hd
  have hp:∀ p∈X.pn++pins,p.1≠ea:=fun p hp z=>by
   obtain ⟨o,q⟩:=cov.pin p hp
   rw[z,fl.2.1]at q;cases q
  have I7:Inv X pins σ' (upd H' ea (excO ea C)) { s1 with heap:=h6 }:=I6.adoptN ne hs0 hL hc hp ⟨⟨oe,he,hec⟩,⟨oe,he⟩,fun g1 g2 ⟨o,q,r⟩ k=>⟨o,k o q,r⟩⟩
  have J7:Inv (X.hd ea) pins σ' (upd H' ea (excO ea C)) { s1 with heap:=h6 }:=I7.toHd
  refine store_ok (X:=X.hd ea) J7 hN hi (.inl hl) (v:=.ref ea) rfl (fun s8 I8=>?_) (.inr hl)
  refine wpAny_mono (hh ea pins s8 _ _ _ I8 (hth ea ne)) (fun f s9 h9=>?_) fun _ _ z=>z.elim
  have goes:∀ {σ9:St} {H9:Hp} {Q:Shared->Prop},Inv (X.hd ea) pins σ9 H9 s9->(∀ s10,Inv X pins (σ9.set i none) H9 s10->Q s10) ->
    wpAny (model X.prog X.w) X.A (do bindName X.env n .none;unbindBehindTheSuite X.env n hpos) (fun _ s10=>Q s10) X.xe s9:=fun {σ9 H9 Q} J9 k=>by
   have I9:=J9.ofHd I.ok
   obtain ⟨mm,hn,hlk⟩:=I9.loc
   refine wpAny_nameGoes_keeps hl hn (by rw[I.ok.kind];rfl) fun h' v hn' hs'=>?_
   exact k _ (I9.forget hN hi hlk hn' hs')
  cases f with
  | next=>obtain ⟨a,b,J,z⟩:=h9;exact goes J fun s10 I10=>⟨_,b,I10,z⟩
  | brk=>obtain ⟨a,b,J,z⟩:=h9;exact goes J fun s10 I10=>⟨_,b,I10,z⟩
  | cont=>obtain ⟨a,b,J,z⟩:=h9;exact goes J fun s10 I10=>⟨_,b,I10,z⟩
  | ret u=>obtain ⟨v,a,b,J,r,z⟩:=h9;exact goes J fun s10 I10=>⟨v,_,b,I10,r,z⟩
end
end L2


namespace L2
open PySem PySem.Spec PyProof.Rows
section
variable {prog:Program} {w:World} {A:Around} {E:Value->Shared->Prop} {s:Shared} {K:PySem.W.Frag} {x C:Addr}
theorem kitx_exc (c:XCls K C):PySem.W.KitX K (.ref x) (.ref C) (fun h=>∃ o,h.get? x=some o/\o.cls=.ref C) where
 ty:=fun M h X p=>by
  obtain ⟨o,h1,h2⟩:=p
  exact h2 ▸ (PySem.W.Looks.ld h1).andThen .now
 it:=fun M h X p=>by
  have q:=mro_cls c.me
  cases hc:PySem.W.clsIn K C with
  | none=>rw[hc]at q;cases q
  | some cd =>
   unfold PySem.W.clsIn at hc
   split at hc
   ·rename_i c' d' cd' sl' ho
    intro A' Q' E' s' k z
    unfold isType loadHead
    exact wpAny_bind (wpAny_loadPart (k _ _ (X _ _ ho)) (wpAny_pure z))
   ·cases hc
 ne:=fun h tp dd its n sl X htp=>by
  refine Bool.eq_false_iff.mpr fun q=>?_
  have e:C=tp:=Value.ref.inj (beq_iff_eq.mp q)
  subst e
  have q:=mro_cls c.me
  cases hc:PySem.W.clsIn K C with
  | none=>rw[hc]at q;cases q
  | some cd =>
   unfold PySem.W.clsIn at hc
   split at hc
   ·rename_i c' d' cd' sl' ho
    have z:=(X _ _ ho).symm.trans htp
    cases z
   ·cases hc
 ca:=fun X p k=>by
  obtain ⟨o,h1,h2⟩:=p
  exact exc_class h1 h2 X c k
def rIsX (K:PySem.W.Frag):RC:=fun xs H Q=>∃ e C c cv b,xs=[.ref e,c]/\tyVal c=some cv/\H e=some (excO e C)/\XCls K C/\PySem.W.kitOne K (.ref C) cv=some b/\Q (.bl b) H
theorem zB5 {X:Cx} (hK:X.K=K):CallR X (.builtin "isinstance") (rIsX K):=by
 subst hK
 intro pins s σ H xs us Q I r h
 obtain ⟨e,C,c,cv,b,rfl,hc,he,cx,kt,q⟩:=h
 obtain ⟨u,w',rfl,rx,rc⟩:=vals2 r
 have hw:w'=cv:=by
  cases c with
  | ty n=>cases rc;exact Option.some.inj hc
  | ref a=>cases rc;exact Option.some.inj hc
  | _=>cases hc
 subst hw
 cases (show u=Value.ref e from rx)
 have p:∃ o,s.heap.get? e=some o/\o.cls=.ref C:=(show ObjOk X.prog X.w H s.heap e (excO e C) from I.hok e _ he).1
 exact PySem.W.kia_one (kitx_exc cx) I.kIn p kt (fun z=>nomatch z) fun tk=>⟨.bl b,H,I.tok _,rfl,q⟩
variable {H:Hp} {Q:VK} {p:Addr} {σ:St}
theorem r_isX {D:Addr}:rIsX K [.ref p,.ref D] H Q=∃ C b,H p=some (excO p C)/\XCls K C/\PySem.W.kitOne K (.ref C) (.ref D)=some b/\Q (.bl b) H:=propext
 ⟨fun ⟨_,C,_,_,b,e,hc,h⟩=>by cases e;cases hc;exact ⟨C,b,h⟩,fun ⟨C,b,h⟩=>⟨_,C,_,_,b,rfl,rfl,h⟩⟩
theorem r_isXT {n:String}:rIsX K [.ref p,.ty n] H Q=∃ C b,H p=some (excO p C)/\XCls K C/\PySem.W.kitOne K (.ref C) (.type n)=some b/\Q (.bl b) H:=propext
 ⟨fun ⟨_,C,_,_,b,e,hc,h⟩=>by cases e;cases hc;exact ⟨C,b,h⟩,fun ⟨C,b,h⟩=>⟨_,C,_,_,b,rfl,rfl,h⟩⟩
theorem r_raise {Ex:St->XK} {ta:TA} {D:Ends}:tRaise Ex C ta D σ H=ta σ H (fun vs H1=>vs.length<=sizeLine/\Ex σ (.ref C) none H1):=rfl
theorem r_callX {sp:Sp} {dvs:List V} {Ex:St->XK} {t:TA}:tCallX sp dvs Ex t σ H Q=t σ H (fun vs H1=>sp (vs++dvs) H1 Q (Ex σ)):=rfl
def Try (K:PySem.W.Frag) (D:Addr) (i:Nat) (tb:(St->XK)->TS) (th:TS) (G:Ends) (σ:St) (H:Hp):Prop:=tTry K D i tb th G σ H
theorem r_try {D:Addr} {i:Nat} {tb:(St->XK)->TS} {th:TS} {G:Ends}:tTry K D i tb th G σ H=Try K D i tb th G σ H:=rfl
theorem try_by {D:Addr} {i:Nat} {tb:(St->XK)->TS} {th:TS} {G:Ends} (Ex:St->XK) (hb:tb Ex G σ H) (hx:∀ σ' cls H',Ex σ' cls none H'->∃ C,cls=.ref C/\XCls K C/\PySem.W.mroIn K C (.ref D)=some true /\
  ∀ ea,H' ea=none->th { nx:=fun σ2 H2=>G.nx (σ2.set i none) H2,rt:=G.rt,bk:=fun σ2 H2=>G.bk (σ2.set i none) H2,ct:=fun σ2 H2=>G.ct (σ2.set i none) H2 } (σ'.set i (some (.ref ea))) (upd H' ea (excO ea C))):Try K D i tb th G σ H:=⟨Ex,hb,hx⟩
end
end L2

set_option maxHeartbeats 4000000
namespace L2
open PySem PySem.Spec PyProof.Rows

section
variable {X:Cx} {Ex:St->XK} {CX:CXT} {k:Nat} {f C:Addr} {fd:FuncData} {ps:List Str} {sp:Sp} {dvs:List V} {ds:List Value} {x m:Str} {p pos apos:Pos} {e o:Expr} {es:List Expr} {ta:TE} {t:TA}
def tTry0 (K:PySem.W.Frag) (D:Addr) (tb:(St->XK)->TS) (th:TS):TS:=fun G σ H=>∃ Ex:St->XK,tb Ex G σ H/\∀ σ' cls H',Ex σ' cls none H'->∃ C,cls=.ref C/\XCls K C/\PySem.W.mroIn K C (.ref D)=some true/\th G σ' H'
variable {K:PySem.W.Frag} {σ:St} {H:Hp} {Q:VK}
def Try0 (K:PySem.W.Frag) (D:Addr) (tb:(St->XK)->TS) (th:TS) (G:Ends) (σ:St) (H:Hp):Prop:=tTry0 K D tb th G σ H
theorem r_try0 {D:Addr} {tb:(St->XK)->TS} {th:TS} {G:Ends}:tTry0 K D tb th G σ H=Try0 K D tb th G σ H:=rfl
end
end L2

set_option maxHeartbeats 4000000

namespace L2
open PySem PySem.Spec PyProof.Rows
inductive EqR (K:PySem.W.Frag) (H:Hp):Nat->V->V->Bool->Prop where
 | flat {d:Nat} {x y:V} (fx:flatV x=true) (fy:flatV y=true):EqR K H d x y (eqV x y)
 | tup {d:Nat} {a b:Addr} {xs ys:List V} {e:Nat->Bool} (ha:SqT K H a xs) (hb:SqT K H b ys) (h:∀ j x y,xs[j]?=some x->ys[j]?=some y->EqR K H d x y (e j)) :
   EqR K H (d+1) (.ref a) (.ref b) ((List.range (min xs.length ys.length)).all e && xs.length == ys.length)
 | lst {d:Nat} {a b:Addr} {xs ys:List V} {e:Nat->Bool} (ha:SqL K H a xs) (hb:SqL K H b ys) (hl:xs.length=ys.length) (h:∀ j x y,xs[j]?=some x->ys[j]?=some y->EqR K H d x y (e j)) :
   EqR K H (d+1) (.ref a) (.ref b) ((List.range xs.length).all e)
 | lstN {d:Nat} {a b:Addr} {xs ys:List V} (ha:SqL K H a xs) (hb:SqL K H b ys) (hl:xs.length≠ys.length):EqR K H (d+1) (.ref a) (.ref b) false
theorem eqV_self {x:V} (f:flatV x=true):eqV x x=true:=by
 cases x with
 | non=>rfl
 | bl b=>show (b == b)=true;simp
 | int i=>show (i == i)=true;simp
 | str z=>show (z == z)=true;exact beq_self_eq_true z
 | _=>exact absurd (show false=true from f) Bool.false_ne_true
section
variable {X:Cx} {pins:List (Addr × Obj)} {σ:St} {H:Hp} {s:Shared}
end

def rEqD (K:PySem.W.Frag):R2:=fun x y H Q=>∃ a b d k,x=.ref a/\y=.ref b/\d<=50/\EqR K H d x y k/\Q (.bl k) H
def rInD (K:PySem.W.Frag) (neg:Bool):R2:=fun x y H Q=>∃ p xs d e,y=.ref p/\(SqL K H p xs\/SqT K H p xs)/\d<=50/\(∀ z,z∈xs->EqR K H d z x (e z))/\Q (.bl (if neg then !xs.any e else xs.any e)) H
section
variable {X:Cx}
variable {K:PySem.W.Frag} (hK:X.K=K)
include hK
end
section
variable {K:PySem.W.Frag} {H:Hp} {Q:VK} {p a b:Addr} {x:V}
theorem r_eqD:rEqD K (.ref a) (.ref b) H Q=∃ d k,d<=50/\EqR K H d (.ref a) (.ref b) k/\Q (.bl k) H:=propext
 ⟨fun ⟨_,_,d,k,e1,e2,h⟩=>by cases e1;cases e2;exact ⟨d,k,h⟩,fun ⟨d,k,h⟩=>⟨_,_,d,k,rfl,rfl,h⟩⟩
theorem r_inD:rInD K false x (.ref p) H Q=∃ xs d e,(SqL K H p xs\/SqT K H p xs)/\d<=50/\(∀ z,z∈xs->EqR K H d z x (e z))/\Q (.bl (xs.any e)) H:=propext
 ⟨fun ⟨_,xs,d,e,e1,h⟩=>by cases e1;exact ⟨xs,d,e,h⟩,fun ⟨xs,d,e,h⟩=>⟨_,xs,d,e,rfl,h⟩⟩
theorem r_notInD:rInD K true x (.ref p) H Q=∃ xs d e,(SqL K H p xs\/SqT K H p xs)/\d<=50/\(∀ z,z∈xs->EqR K H d z x (e z))/\Q (.bl (!xs.any e)) H:=propext
 ⟨fun ⟨_,xs,d,e,e1,h⟩=>by cases e1;exact ⟨xs,d,e,h⟩,fun ⟨xs,d,e,h⟩=>⟨_,xs,d,e,rfl,h⟩⟩
end
end L2

namespace L2
open PySem PySem.Spec PyProof.Rows

section
variable {κ:Type} [DecidableEq κ]
def valV (kvs:List (κ × V)) (k:κ):Option V:=(kvs.find? fun kv=>decide (kv.1=k)).map (·.2)
def putK (kvs:List (κ × V)) (k:κ) (v:V):List (κ × V) :=
 if (kvs.any fun kv=>decide (kv.1=k))=true then kvs.map (fun kv=>if kv.1=k then (kv.1,v) else kv) else kvs++[(k,v)]
def dropK (kvs:List (κ × V)) (k:κ):List (κ × V):=kvs.filter fun kv=>decide (kv.1≠k)

theorem valV_pos {p:κ × V} {r:List (κ × V)} {k:κ} (e:p.1=k):valV (p::r) k=some p.2:=by simp [valV,List.find?_cons,e]
theorem valV_neg {p:κ × V} {r:List (κ × V)} {k:κ} (e:¬ p.1=k):valV (p::r) k=valV r k:=by simp [valV,List.find?_cons,e]
theorem valV_any (k:κ):∀ kvs:List (κ × V),(kvs.any fun kv=>decide (kv.1=k))=(valV kvs k).isSome
 | []=>rfl
 | p::r=>by
  rw[List.any_cons]
  by_cases e:p.1=k
  ·simp only[valV_pos e,decide_eq_true e,Bool.true_or,Option.isSome_some]
  ·rw[valV_neg e,decide_eq_false e,Bool.false_or];exact valV_any k r
theorem length_putK (kvs:List (κ × V)) (k:κ) (v:V):(putK kvs k v).length<=kvs.length+1:=by
 unfold putK
 split
 ·rw[List.length_map];omega
 ·rw[List.length_append,List.length_cons,List.length_nil];omega
theorem putK_new {kvs:List (κ × V)} {k:κ} (v:V) (h:valV kvs k=none):putK kvs k v=kvs++[(k,v)]:=by
 unfold putK
 rw[valV_any,h]
 exact if_neg (by decide)

theorem RelO.isSome_eq {o:Option V} {u:Option Value} (r:RelO o u):o.isSome=u.isSome:=by
 cases o with
 | none=>cases u with
  | none=>rfl
  | some _=>exact (show False from r).elim
 | some _=>cases u with
  | none=>exact (show False from r).elim
  | some _=>rfl
theorem RelO.getD {o:Option V} {u:Option Value} {d:V} {d':Value} (r:RelO o u) (rd:RelV d d'):RelV (o.getD d) (u.getD d'):=by
 cases o with
 | none=>cases u with
  | none=>exact rd
  | some _=>exact (show False from r).elim
 | some _=>cases u with
  | none=>exact (show False from r).elim
  | some _=>exact r

theorem KV.val {kvs:List (κ × V)} {vs:List (κ × Value)} (r:KV kvs vs) (k:κ):RelO (valV kvs k) (valueAt vs k):=by
 unfold KV at r
 induction r with
 | nil=>exact True.intro
 | @cons p q ps qs h t ih =>
  obtain ⟨h1,h2⟩:=h
  by_cases e:p.1=k
  ·have e':q.1=k:=h1.symm.trans e
   have b:valueAt (q::qs) k=some q.2:=by simp [valueAt,List.find?_cons,e']
   rw[valV_pos e,b];exact h2
  ·have e':¬ q.1=k:=fun z=>e (h1.trans z)
   have b:valueAt (q::qs) k=valueAt qs k:=by simp [valueAt,List.find?_cons,e']
   rw[valV_neg e,b];exact ih
theorem KV.any {kvs:List (κ × V)} {vs:List (κ × Value)} (r:KV kvs vs) (k:κ):(kvs.any fun kv=>decide (kv.1=k))=vs.any fun kv=>decide (kv.1=k):=by
 unfold KV at r
 induction r with
 | nil=>rfl
 | cons h t ih=>rw[List.any_cons,List.any_cons,ih,h.1]
theorem KV.repl {kvs:List (κ × V)} {vs:List (κ × Value)} (r:KV kvs vs) (k:κ) {y:V} {u:Value} (ry:RelV y u) :
  KV (kvs.map fun kv=>if kv.1=k then (kv.1,y) else kv) (vs.map fun kv=>if kv.1=k then (kv.1,u) else kv):=by
 unfold KV at r ⊢
 induction r with
 | nil=>exact .nil
 | @cons p q ps qs h t ih =>
  rw[List.map_cons,List.map_cons]
  refine .cons ?_ ih
  obtain ⟨h1,h2⟩:=h
  by_cases e:p.1=k
  ·rw[if_pos e,if_pos (h1.symm.trans e)];exact ⟨h1,ry⟩
  ·rw[if_neg e,if_neg (fun z=>e (h1.trans z))];exact ⟨h1,h2⟩
theorem KV.put {kvs:List (κ × V)} {vs:List (κ × Value)} (r:KV kvs vs) (k:κ) {y:V} {u:Value} (ry:RelV y u):KV (putK kvs k y) (stored vs k u):=by
 unfold putK stored
 rw[r.any k]
 by_cases e:(vs.any fun kv=>decide (kv.1=k))=true
 ·rw[if_pos e,if_pos e];exact r.repl k ry
 ·rw[if_neg e,if_neg e];exact Paired.snoc r ⟨rfl,ry⟩
theorem KV.drop {kvs:List (κ × V)} {vs:List (κ × Value)} (r:KV kvs vs) (k:κ):KV (dropK kvs k) (without vs k):=by
 unfold KV at r ⊢
 unfold dropK without
 induction r with
 | nil=>exact .nil
 | @cons p q ps qs h t ih =>
  obtain ⟨h1,h2⟩:=h
  rw[List.filter_cons,List.filter_cons]
  by_cases e:p.1=k
  ·have a:¬ decide (p.1≠k)=true:=by simp [e]
   have b:¬ decide (q.1≠k)=true:=by simp [h1.symm.trans e]
   rw[if_neg a,if_neg b];exact ih
  ·have e':¬ q.1=k:=fun z=>e (h1.trans z)
   have a:decide (p.1≠k)=true:=by simp [e]
   have b:decide (q.1≠k)=true:=by simp [e']
   rw[if_pos a,if_pos b];exact .cons ⟨h1,h2⟩ ih
theorem KV.length {kvs:List (κ × V)} {vs:List (κ × Value)} (r:KV kvs vs):kvs.length=vs.length:=Paired.length r
end


theorem kV_is {P:Program} {w:World} {k:Key} {u:Value} (r:RelV (kV k) u):(zCm P w).is k u=true:=by
 cases k with
 | inl i=>obtain ⟨t,e⟩:=(show ∃ t,u=Value.int i t from r);subst e;exact mixKind_int P w i t
 | inr x=>obtain ⟨t,e⟩:=(show ∃ t,u=Value.str x t from r);subst e;exact mixKind_str P w x t
theorem items_are {P:Program} {w:World}:∀ {ks:List Key} {us:List Value},Vals (ks.map kV) us->ItemsAre (zCm P w) ks us
 | [],_,r=>by rw[List.map_nil]at r;cases r;exact .nil
 | k::ks,_,r=>by
  rw[List.map_cons]at r
  cases r with
  | cons h t=>exact .cons (kV_is h) (items_are t)

abbrev KT (H:Hp):List (List Key × V)->List (List Key × Addr × Value)->Prop:=Paired fun p q=>p.1=q.1/\H q.2.1=some (.tup (p.1.map kV))/\RelV p.2 q.2.2
theorem KT.val {H:Hp} {kvs:List (List Key × V)} {xs:List (List Key × Addr × Value)} (r:KT H kvs xs) (k:List Key):RelO (valV kvs k) ((atKey xs k).map (·.2)):=by
 induction r with
 | nil=>exact True.intro
 | @cons p q ps qs h t ih =>
  obtain ⟨h1,_,h2⟩:=h
  by_cases e:p.1=k
  ·have e':q.1=k:=h1.symm.trans e
   have b:atKey (q::qs) k=some q.2:=by simp [atKey,List.find?_cons,e']
   rw[valV_pos e,b];exact h2
  ·have e':¬ q.1=k:=fun z=>e (h1.trans z)
   have b:atKey (q::qs) k=atKey qs k:=by simp [atKey,List.find?_cons,e']
   rw[valV_neg e,b];exact ih
theorem KT.repl {H:Hp} {kvs:List (List Key × V)} {xs:List (List Key × Addr × Value)} (r:KT H kvs xs) (k:List Key) {y:V} {u:Value} (ry:RelV y u) :
  KT H (kvs.map fun kv=>if kv.1=k then (kv.1,y) else kv) (xs.map (putAt k u)):=by
 induction r with
 | nil=>exact .nil
 | @cons p q ps qs h t ih =>
  rw[List.map_cons,List.map_cons]
  refine .cons ?_ ih
  obtain ⟨h1,h2,h3⟩:=h
  unfold putAt
  by_cases e:p.1=k
  ·rw[if_pos e,if_pos (h1.symm.trans e)];exact ⟨h1,h2,ry⟩
  ·rw[if_neg e,if_neg (fun z=>e (h1.trans z))];exact ⟨h1,h2,h3⟩
theorem KT.put {H:Hp} {kvs:List (List Key × V)} {xs:List (List Key × Addr × Value)} (r:KT H kvs xs) (k:List Key) {b:Addr} {y:V} {u:Value} (hb:H b=some (.tup (k.map kV))) (ry:RelV y u) :
  KT H (putK kvs k y) (storedH xs k b u):=by
 have e:(kvs.any fun kv=>decide (kv.1=k))=(atKey xs k).isSome:=by
  rw[valV_any,(r.val k).isSome_eq,Option.isSome_map]
 unfold putK storedH
 rw[e]
 by_cases q:(atKey xs k).isSome=true
 ·rw[if_pos q,if_pos q];exact r.repl k ry
 ·rw[if_neg q,if_neg q];exact Paired.snoc r ⟨rfl,hb,ry⟩
theorem KT.keeps {H H':Hp} {kvs:List (List Key × V)} {xs:List (List Key × Addr × Value)} (r:KT H kvs xs) (ht:∀ b ys,H b=some (.tup ys)->H' b=some (.tup ys)):KT H' kvs xs :=
 Paired.mapP r fun _ _ z=>⟨z.1,ht _ _ z.2.1,z.2.2⟩

section
variable {P:Program} {w:World} {H:Hp} {h:Heap} {a:Addr}
theorem rd_of {u:HO} (ok:HOk P w H h) (e:Rd H a u):ObjOk P w H h a u:=e.ok ok
theorem dk_rd {kvs:List (Key × V)} (ok:HOk P w H h) (e:Rd H a (.dK kvs)):kvs.length<=sizeLine/\(a == sysModules)=false/\∃ vs,KV kvs vs/\h.DictOf (zCm P w) a vs :=
 show ObjOk P w H h a (.dK kvs) from rd_of ok e
theorem dk_of {kvs:List (Key × V)} (ok:HOk P w H h) (e:H a=some (.dK kvs)):kvs.length<=sizeLine/\(a == sysModules)=false/\∃ vs,KV kvs vs/\h.DictOf (zCm P w) a vs:=dk_rd ok (.inl e)
theorem key_of {ks:List Key} (ok:HOk P w H h) (e:H a=some (.tup (ks.map kV))):(tupleKind (zCm P w)).is h ks a:=by
 obtain ⟨_,its,r,⟨o,h1,h2,n,h3⟩,_⟩:=(show ObjOk P w H h a (.tup (ks.map kV)) from ok a _ e)
 exact ⟨o,its.toArray,n,h1,h2,h3,by simpa using items_are r⟩
theorem dt_rd {kvs:List (List Key × V)} (ok:HOk P w H h) (e:Rd H a (.dT kvs)):kvs.length<=sizeLine/\(a == sysModules)=false /\
  ∃ xs,KT H kvs xs/\h.DictOfH (tupleKind (zCm P w)) a xs:=by
 obtain ⟨z,y,xs,r,o,es,ep,h1,h2,h3,h4,h5⟩:=(show ObjOk P w H h a (.dT kvs) from rd_of ok e)
 refine ⟨z,y,xs,r,o,es,ep,h1,h2,h3,h4,fun x hx=>?_,h5⟩
 have all:∀ {l:List (List Key × V)} {m:List (List Key × Addr × Value)},KT H l m->∀ x∈m,(tupleKind (zCm P w)).is h x.1 x.2.1:=by
  intro l m q
  induction q with
  | nil=>intro x hx;exact nomatch hx
  | @cons p q ps qs hq t ih =>
   intro x hx
   rcases List.mem_cons.mp hx with e | hx
   ·subst e
    exact key_of ok (by rw[<- hq.1];exact hq.2.1)
   ·exact ih x hx
 exact all r x hx
theorem dt_of {kvs:List (List Key × V)} (ok:HOk P w H h) (e:H a=some (.dT kvs)):kvs.length<=sizeLine/\(a == sysModules)=false /\
  ∃ xs,KT H kvs xs/\h.DictOfH (tupleKind (zCm P w)) a xs:=dt_rd ok (.inl e)
end

def DGet (H:Hp) (a:Addr) (y:V) (r:Option V):Prop :=
 (∃ kvs k,Rd H a (.dK kvs)/\y=kV k/\r=valV kvs k)\/∃ kvs k b,Rd H a (.dT kvs)/\y=.ref b/\H b=some (.tup (k.map kV))/\r=valV kvs k
def DPut (H:Hp) (a:Addr) (y v:V) (H':Hp):Prop :=
 (∃ kvs k,H a=some (.dK kvs)/\y=kV k/\kvs.length < sizeLine/\H'=upd H a (.dK (putK kvs k v))) \/
 ∃ kvs k b,H a=some (.dT kvs)/\y=.ref b/\H b=some (.tup (k.map kV))/\kvs.length < sizeLine/\H'=upd H a (.dT (putK kvs k v))
theorem DGet.k {H:Hp} {a:Addr} {kvs:List (Key × V)} {k:Key} (e:H a=some (.dK kvs)):DGet H a (kV k) (valV kvs k):=.inl ⟨kvs,k,.inl e,rfl,rfl⟩
theorem DGet.t {H:Hp} {a b:Addr} {kvs:List (List Key × V)} {k:List Key} (e:H a=some (.dT kvs)) (eb:H b=some (.tup (k.map kV))):DGet H a (.ref b) (valV kvs k):=.inr ⟨kvs,k,b,.inl e,rfl,eb,rfl⟩
theorem DPut.k {H:Hp} {a:Addr} {kvs:List (Key × V)} {k:Key} {v:V} (e:H a=some (.dK kvs)) (hl:kvs.length < sizeLine):DPut H a (kV k) v (upd H a (.dK (putK kvs k v))):=.inl ⟨kvs,k,e,rfl,hl,rfl⟩
theorem DPut.t {H:Hp} {a b:Addr} {kvs:List (List Key × V)} {k:List Key} {v:V} (e:H a=some (.dT kvs)) (eb:H b=some (.tup (k.map kV))) (hl:kvs.length < sizeLine) :
  DPut H a (.ref b) v (upd H a (.dT (putK kvs k v))):=.inr ⟨kvs,k,b,e,rfl,eb,hl,rfl⟩

section
variable {X:Cx} {pins:List (Addr × Obj)} {σ:St} {H:Hp} {s:Shared} {a:Addr} {y v:V} {u r:Value} {o:Option V} {A:Around} {E:Value->Shared->Prop}

theorem Inv.big (I:Inv X pins σ H s):sysModules < s.heap.objs.size:=by
 have h:mainGlobals < s.heap.objs.size:=(I.mod.glob.keeps I.bk).lt
 exact Nat.lt_trans (by decide) h

theorem d_getItem {Q:Value->Shared->Prop} (hu:A.units+1 < cLine) (I:Inv X pins σ H s) (g:DGet H a y (some v)) (ry:RelV y u) (h:∀ w' s',Inv X pins σ H s'->RelV v w'->Q w' s') :
  wpAny (model X.prog X.w) A (getItem (.ref a) u) Q E s:=by
 rcases g with ⟨kvs,k,e,ey,l⟩ | ⟨kvs,k,b,e,ey,eb,l⟩
 ·subst ey
  obtain ⟨z,hd,vs,rel,dd⟩:=dk_rd I.hok e
  obtain ⟨w',hw,rw'⟩:=RelO.some_of (v:=v) (o:=valueAt vs k) (by rw[l];exact rel.val k)
  exact wpAny_getItem_of (kV_is ry) dd.mapOf hw (h w' _ (I.tok _) rw')
 ·subst ey
  cases (show u=Value.ref b from ry)
  obtain ⟨z,hd,xs,rel,dd⟩:=dt_rd I.hok e
  obtain ⟨w',hw,rw'⟩:=RelO.some_of (v:=v) (o:=(atKey xs k).map (·.2)) (by rw[l];exact rel.val k)
  obtain ⟨p,hp,hp2⟩:=Option.map_eq_some_iff.mp hw
  refine wpAny_getItem_heap (tupleKind_room_in1 hu) (key_of I.hok eb) dd hp ?_
  rw[hp2]
  exact h w' _ (I.tok _) rw'
theorem d_in {Q:Value->Shared->Prop} (hu:A.units+1 < cLine) (I:Inv X pins σ H s) (g:DGet H a y o) (ry:RelV y u) (h:∀ s',Inv X pins σ H s'->Q (.bool o.isSome) s') :
  wpAny (model X.prog X.w) A (compareOp .In u (.ref a)) Q E s:=by
 rcases g with ⟨kvs,k,e,ey,l⟩ | ⟨kvs,k,b,e,ey,eb,l⟩
 ·subst ey
  obtain ⟨z,hd,vs,rel,dd⟩:=dk_rd I.hok e
  refine wpAny_in_of (kV_is ry) hd dd.mapOf ?_
  rw[<- (rel.val k).isSome_eq,<- l]
  exact h _ (I.tok _)
 ·subst ey
  cases (show u=Value.ref b from ry)
  obtain ⟨z,hd,xs,rel,dd⟩:=dt_rd I.hok e
  refine wpAny_in_heap (tupleKind_room_in1 hu) (key_of I.hok eb) hd dd ?_
  have q:=(rel.val k).isSome_eq
  rw[Option.isSome_map]at q
  rw[<- q,<- l]
  exact h _ (I.tok _)
theorem d_notIn {Q:Value->Shared->Prop} (hu:A.units+1 < cLine) (I:Inv X pins σ H s) (g:DGet H a y o) (ry:RelV y u) (h:∀ s',Inv X pins σ H s'->Q (.bool (!o.isSome)) s') :
  wpAny (model X.prog X.w) A (compareOp .NotIn u (.ref a)) Q E s:=by
 rcases g with ⟨kvs,k,e,ey,l⟩ | ⟨kvs,k,b,e,ey,eb,l⟩
 ·subst ey
  obtain ⟨z,hd,vs,rel,dd⟩:=dk_rd I.hok e
  refine wpAny_notIn_of (kV_is ry) hd dd.mapOf ?_
  rw[<- (rel.val k).isSome_eq,<- l]
  exact h _ (I.tok _)
 ·subst ey
  cases (show u=Value.ref b from ry)
  obtain ⟨z,hd,xs,rel,dd⟩:=dt_rd I.hok e
  refine wpAny_notIn_heap (tupleKind_room_in1 hu) (key_of I.hok eb) hd dd ?_
  have q:=(rel.val k).isSome_eq
  rw[Option.isSome_map]at q
  rw[<- q,<- l]
  exact h _ (I.tok _)
theorem d_write {h':Heap} {t':Nat} {ob:HO} (I:Inv X pins σ H s) (mu:Mut (H a)) (hs:Heap.SameBut a s.heap h') (he:∃ q,h'.get? a=some q) (new:ObjOk X.prog X.w (upd H a ob) h' a ob) :
  Inv X pins σ (upd H a ob) { s with heap:=h',toks:=t' } :=
 I.write (x:=a) (e:=a) mu (.inl rfl) (fun b q hb z=>(hs.2 b hb).trans z) he new
theorem dk_new {P:Program} {w:World} {H':Hp} {h':Heap} {kvs:List (Key × V)} {vs:List (Key × Value)} (z:kvs.length<=sizeLine) (hd:(a == sysModules)=false) (rel:KV kvs vs) (dd:h'.DictOf (zCm P w) a vs) :
  ObjOk P w H' h' a (.dK kvs):=⟨z,hd,vs,rel,dd⟩
theorem d_setItem {H':Hp} {Q:Unit->Shared->Prop} (hu:A.units+1 < cLine) (I:Inv X pins σ H s) (g:DPut H a y v H') (ry:RelV y u) (rv:RelV v r) (h:∀ s',Inv X pins σ H' s'->Q () s') :
  wpAny (model X.prog X.w) A (setItem (.ref a) u r) Q E s:=by
 rcases g with ⟨kvs,k,e,ey,l,eH⟩ | ⟨kvs,k,b,e,ey,eb,l,eH⟩
 ·subst ey eH
  obtain ⟨z,hd,vs,rel,dd⟩:=dk_of I.hok e
  have hz:vs.length<=sizeLine:=by rw[<- rel.length];exact z
  have hl:(putK kvs k v).length<=sizeLine:=by have:=length_putK kvs k v;omega
  refine wpAny_setItem_pairs (hsz:=hz) (kV_is ry) dd fun h' dd' hs=>h _ ?_
  have he:∃ q,h'.get? a=some q:=let ⟨q,_,_,hq,_⟩:=dd';⟨q,hq⟩
  exact d_write I (by rw[e];exact True.intro) hs he (dk_new hl hd (rel.put k rv) dd')
 ·subst ey eH
  cases (show u=Value.ref b from ry)
  obtain ⟨z,hd,xs,rel,dd⟩:=dt_of I.hok e
  have hz:xs.length<=sizeLine:=by rw[<- Paired.length rel];exact z
  have hl:(putK kvs k v).length<=sizeLine:=by have:=length_putK kvs k v;omega
  refine wpAny_setItem_heap (hsz:=hz) (tupleKind_room_in1 hu) (key_of I.hok eb) dd fun h' dd' hs=>h _ ?_
  obtain ⟨q,es,ep,hq,h2,h3,h4,_,h5⟩:=dd'
  refine d_write I (by rw[e];exact True.intro) hs ⟨q,hq⟩ ⟨hl,hd,_,(rel.put k eb rv).keeps fun c ys ec=>?_,q,es,ep,hq,h2,h3,h4,h5⟩
  rw[zA8 (ne_of ec e (fun z=>nomatch z))]
  exact ec
end

section
variable {X:Cx} {pins:List (Addr × Obj)} {σ:St} {H:Hp} {s:Shared} {a:Addr} {kvs:List (Key × V)} {k:Key} {u:Value} {A:Around} {E:Value->Shared->Prop}
theorem d_len {Q:Value->Shared->Prop} (I:Inv X pins σ H s) (e:Rd H a (.dK kvs)) (h:∀ t s',Inv X pins σ H s'->Q (.int kvs.length t) s'):wpAny (model X.prog X.w) A (call (.builtin "len") [.ref a]) Q E s:=by
 obtain ⟨z,hd,vs,rel,dd⟩:=dk_rd I.hok e
 refine call_len_dict hd dd (by rw[<- rel.length];rw[sizeLine_eq]at z;omega) ?_
 rw[<- rel.length]
 exact h _ _ (I.tok _)
end


def NoSl (i:Expr):Prop:=∀ ov iv,subscripted i false ov iv=operate [ov,iv] (getItem ov iv)
theorem subD_of {prog:Program} {w:World} {A:Around} {E:Value->Shared->Prop} {s:Shared} {env:Env} {value slice:Expr} {pos:Pos} {T id:String} {Q:Value->Shared->Prop}
  (hl:typeLookup (.type T) "__getitem__"=pure (some (.builtin id))) (hs:NoSl slice)
  (h:wpAny (model prog w) A (eval value env) (fun o s₁=>wpAny (model prog w) A (eval slice env) (fun i s₂=>s₂.TypeIs o T/\wpAny (model prog w) A (getItem o i) Q E s₂) E s₁) E s) :
  wpAny (model prog w) A (eval (.Subscript value slice pos) env) Q E s:=by
 refine Subscript_ (wpAny_mono h (fun o s₁ h₁=>wpAny_mono h₁ (fun i s₂ h₂=>?_) fun _ _ x=>x) fun _ _ x=>x)
 obtain ⟨hT,h₂⟩:=h₂
 unfold subscriptTail
 refine wpAny_bind ?_
 rw[getitemInPython_of_ne hT.not_modules]
 refine wpAny_bind (wpAny_specialOf hT hl ?_)
 have fin:wpAny (model prog w) A (subscripted slice false o i) (fun r s₃=>wpAny (model prog w) A (letTemporaryGo value o r >>= fun _=>pure r) Q E s₃) E s₂:=by
  rw[hs o i]
  exact wpAny_operating (wpAny_mono h₂ (fun r s₃ h₃=>wpAny_bind (wpAny_letTemporaryGo (wpAny_pure h₃))) fun _ _ x=>x)
 first
  | exact wpAny_pure (wpAny_bind fin)
  | exact wpAny_bind (wpAny_pure (wpAny_bind fin))
  | exact wpAny_bind fin

theorem dict_typeIs {X:Cx} {pins:List (Addr × Obj)} {σ:St} {H:Hp} {s:Shared} {a:Addr} {y:V} {o:Option V} (I:Inv X pins σ H s) (g:DGet H a y o):s.TypeIs (.ref a) "dict":=by
 rcases g with ⟨kvs,k,e,_,_⟩ | ⟨kvs,k,b,e,_,_,_⟩
 ·obtain ⟨_,_,vs,_,dd⟩:=dk_rd I.hok e
  exact dd.typeIs
 ·obtain ⟨_,_,xs,_,dd⟩:=dt_rd I.hok e
  exact dd.typeIs
section
variable {X:Cx} {o i e value:Expr} {pos pos' tpos:Pos} {td ty tv:TE}
end


theorem dk_empty {P:Program} {w:World} {H:Hp} (h:Heap) (hb:sysModules < h.objs.size):ObjOk P w H (h.push { cls:=.type "dict",data:=.dict #[] }) h.objs.size (.dK []) :=
 ⟨Nat.zero_le _,beq_eq_false_iff_ne.mpr (Ne.symm (Nat.ne_of_lt hb)),[],.nil,Heap.DictOf.new h⟩
def tDNewK:TE:=fun _ H Q=>∀ p,H p=none->Q (.ref p) (upd H p (.dK []))
section
variable {X:Cx} {pos:Pos}
theorem pe_dnewK:PE X (.Dict [] [] pos) tDNewK:=fun pins s σ H Q I h =>
 wpAny_Dict_empty ⟨.ref s.heap.objs.size,_,I.laid (a:=s.heap.objs.size) (o:=.dK []) (t':=s.toks) (fun _ _ q=>Heap.get?_push_of_some _ q) (Nat.le_refl _) (dk_empty s.heap I.big),rfl,h _ (I.hok.fresh (Nat.le_refl _))⟩
end

def tPairs:List (TE × TE)->St->Hp->(List (V × V)->Hp->Prop)->Prop
 | [],_,H,Q=>Q [] H
 | (tk,tv)::r,σ,H,Q=>tk σ H fun x H1=>tv σ H1 fun y H2=>tPairs r σ H2 fun ps H3=>Q ((x,y)::ps) H3
abbrev VV:List (V × V)->List (Value × Value)->Prop:=Paired fun p q=>RelV p.1 q.1/\RelV p.2 q.2
def PPs (X:Cx) (pos:Pos) (keys:List (Option Expr)) (values:List Expr) (trs:List (TE × TE)):Prop :=
 ∀ (pins:List (Addr × Obj)) (s:Shared) (σ:St) (H:Hp) (Q:List (V × V)->Hp->Prop),Inv X pins σ H s->tPairs trs σ H Q ->
  wpAny (model X.prog X.w) X.A (evalPairs (pairTrees keys values X.env pos)) (fun vs s'=>∃ ps H',Inv X pins σ H' s'/\VV ps vs/\Q ps H') X.xe s
theorem pps_nil {X:Cx} {pos:Pos}:PPs X pos [] [] []:=fun pins s σ H Q I h=>pairTrees_nil_walk ⟨[],H,I,.nil,h⟩
theorem pps_cons {X:Cx} {pos:Pos} {k v:Expr} {ks:List (Option Expr)} {vs:List Expr} {tk tv:TE} {trs:List (TE × TE)} (hk:PE X k tk) (hv:PE X v tv) (hr:PPs X pos ks vs trs) :
  PPs X pos (some k::ks) (v::vs) ((tk,tv)::trs):=fun pins s σ H Q I h =>
 pairTrees_cons_walk (thn (hk pins s σ H _ I h) fun u s1 ⟨x,H1,I1,rx,q1⟩=>thn (hv pins s1 σ H1 _ I1 q1) fun w2 s2 ⟨y,H2,I2,ry,q2⟩ =>
  thn (hr pins s2 σ H2 _ I2 q2) fun ws s3 ⟨ps,H3,I3,rel,q3⟩=>⟨(x,y)::ps,H3,I3,.cons ⟨rx,ry⟩ rel,q3⟩)

def mergeK (kvs more:List (Key × V)):List (Key × V):=more.foldl (fun acc kv=>putK acc kv.1 kv.2) kvs
theorem KV.merge:∀ {more:List (Key × V)} {rs:List (Key × Value)} {kvs:List (Key × V)} {vs:List (Key × Value)},KV more rs->KV kvs vs->KV (mergeK kvs more) (merged vs rs):=by
 intro more rs kvs vs r
 unfold KV at r
 induction r generalizing kvs vs with
 | nil=>intro q;exact q
 | @cons p q ps qs h t ih =>
  intro r0
  have e:KV (putK kvs p.1 p.2) (stored vs q.1 q.2):=by
   have:=r0.put p.1 h.2
   rw[<- h.1];exact this
  exact ih e
theorem length_mergeK:∀ (more kvs:List (Key × V)),(mergeK kvs more).length<=kvs.length+more.length
 | [],kvs=>by show kvs.length<=kvs.length+0;omega
 | p::r,kvs=>by
  have h1:=length_mergeK r (putK kvs p.1 p.2)
  have h2:=length_putK kvs p.1 p.2
  show (mergeK (putK kvs p.1 p.2) r).length<=_
  rw[List.length_cons];omega
theorem carries_of {P:Program} {w:World}:∀ {kvs:List (Key × V)} {ws:List (Value × Value)},VV (kvs.map fun kv=>(kV kv.1,kv.2)) ws->∃ rs,Carries (zCm P w) ws rs/\KV kvs rs
 | [],_,r=>by rw[List.map_nil]at r;cases r;exact ⟨[],True.intro,.nil⟩
 | p::kvs,_,r=>by
  rw[List.map_cons]at r
  cases r with
  | @cons a b as bs h t =>
   obtain ⟨rs,c,q⟩:=carries_of (P:=P) (w:=w) t
   obtain ⟨b1,b2⟩:=b
   exact ⟨(p.1,b2)::rs,⟨kV_is h.1,rfl,c⟩,.cons ⟨rfl,h.2⟩ q⟩
def tDisp (trs:List (TE × TE)):TE:=fun σ H Q=>∀ p,H p=none->tPairs trs σ (upd H p (.dK [])) fun ps H2=>H2 p=some (.dK [])/\∃ kvs:List (Key × V),ps=kvs.map (fun kv=>(kV kv.1,kv.2))/\kvs.length<=15/\Q (.ref p) (upd H2 p (.dK (mergeK [] kvs)))
theorem pe_disp {X:Cx} {pos:Pos} {keys:List (Option Expr)} {values:List Expr} {trs:List (TE × TE)} (h:PPs X pos keys values trs) (hall:keys.all (·.isSome)=true) (hl:keys.length=values.length) (h0:keys≠[])
  (h15:keys.length<=15):PE X (.Dict keys values pos) (tDisp trs):=by
 intro pins s σ H Q I q
 have hn:=I.hok.fresh (Nat.le_refl s.heap.objs.size)
 have I1:=I.laid (a:=s.heap.objs.size) (o:=.dK []) (h':=s.heap.push { cls:=.type "dict",data:=.dict #[] }) (t':=s.toks) (fun _ _ q=>Heap.get?_push_of_some _ q) (Nat.le_refl _) (dk_empty s.heap I.big)
 refine wpAny_Dict_walk (knd:=zCm X.prog X.w) hall hl h0 h15 (thn (h pins _ σ _ _ I1 (q _ hn)) fun ws s2 ⟨ps,H2,I2,rel,e,kvs,ep,lk,q2⟩=>?_)
 subst ep
 obtain ⟨rs,c,rk⟩:=carries_of (P:=X.prog) (w:=X.w) rel
 obtain ⟨z,hd,vs0,r0,dd⟩:=dk_of I2.hok e
 cases r0
 refine ⟨rs,c,dd,fun h' dd' hs=>⟨.ref s.heap.objs.size,_,?_,rfl,q2⟩⟩
 have hz:(mergeK [] kvs).length<=sizeLine:=by
  have h1:=length_mergeK kvs []
  rw[List.length_nil]at h1
  rw[sizeLine_eq];omega
 have he:∃ q,h'.get? s.heap.objs.size=some q:=let ⟨q,_,_,hq,_⟩:=dd';⟨q,hq⟩
 exact d_write I2 (by rw[e];exact True.intro) hs he (dk_new hz hd (rk.merge .nil) dd')


structure M1 (X:Cx) (o:Expr) (m:Str) (apos:Pos) (e:Expr) (cpos:Pos):Prop where
 base:attributeBase o m X.env (eval o X.env)=eval o X.env
 few:((backTo cpos (starEach [e] X.env)).all (fun x=>!x.1) && (backToKw cpos (keywordEach [] X.env)).all (fun x=>x.1.isSome)
  && decide (([e]:List Expr).length+([]:List Keyword).length+(if ([]:List Keyword).isEmpty then 0 else 1) < 30))=true
 line:(apos.endLine == cpos.line)=true
 trees:backTo cpos (starEach [e] X.env)=[(false,eval e X.env)]
structure M2 (X:Cx) (o:Expr) (m:Str) (apos:Pos) (e f:Expr) (cpos:Pos):Prop where
 base:attributeBase o m X.env (eval o X.env)=eval o X.env
 few:((backTo cpos (starEach [e,f] X.env)).all (fun x=>!x.1) && (backToKw cpos (keywordEach [] X.env)).all (fun x=>x.1.isSome)
  && decide (([e,f]:List Expr).length+([]:List Keyword).length+(if ([]:List Keyword).isEmpty then 0 else 1) < 30))=true
 line:(apos.endLine == cpos.line)=true
 trees:backTo cpos (starEach [e,f] X.env)=[(false,eval e X.env),(false,eval f X.env)]

def IsD (H:Hp) (a:Addr):Prop:=(∃ kvs,Rd H a (.dK kvs))\/∃ kvs,Rd H a (.dT kvs)
section
variable {X:Cx} {pins:List (Addr × Obj)} {σ:St} {H:Hp} {s:Shared} {a:Addr} {y d:V} {u r:Value} {o:Option V} {A:Around} {E:Value->Shared->Prop}
end

def tDGet2 (td ty tx:TE):TE:=fun σ H Q=>td σ H fun x H1=>∃ a,x=.ref a/\IsD H1 a/\ty σ H1 fun y H2=>tx σ H2 fun z H3=>∃ o,DGet H3 a y o/\Q (o.getD z) H3
section
variable {X:Cx} {o e f:Expr} {apos cpos:Pos} {td ty tx:TE}
end


section
variable {X:Cx} {pins:List (Addr × Obj)} {σ:St} {H:Hp} {s:Shared} {a:Addr} {kvs:List (Key × V)} {A:Around} {E:Value->Shared->Prop}
end

section
variable {X:Cx} {pins:List (Addr × Obj)} {σ:St} {H:Hp} {s:Shared} {a:Addr} {y:V} {u:Value} {A:Around} {E:Value->Shared->Prop}
end
section
variable {X:Cx}
theorem call_lenD:CallR X (.builtin "len") (fun xs H Q=>∃ a kvs,xs=[V.ref a]/\H a=some (.dK kvs)/\Q (.int kvs.length) H):=by
 intro pins s σ H xs us Q I r h
 obtain ⟨a,kvs,rfl,ha,q⟩:=h
 obtain ⟨u,rfl,ru⟩:=vals1 r
 cases ru
 exact d_len I (.inl ha) fun t s' I'=>⟨.int kvs.length,H,I',⟨t,rfl⟩,q⟩
end

section
variable {κ:Type} [DecidableEq κ]
end
end L2

set_option maxHeartbeats 4000000

namespace L2
open PySem PySem.Spec PyProof.Rows
def ItEL (K:PySem.W.Frag) (a:Addr):It :=
 ⟨fun i H=>∃ xs x,SqL K H a xs/\xs[i]?=some x,fun i H v H'=>∃ T x,v=.ref T/\H T=none/\H'=upd H T (.tup [.int i,x])/\∀ xs,SqL K H a xs->xs[i]?=some x,fun i H=>∃ xs,SqL K H a xs/\xs.length<=i⟩
theorem turn_enumL {P:Program} {w:World} {K:PySem.W.Frag} {elts:List Expr} {k:Nat} {pos:Pos} (a e it:Addr) (hne:e≠it) :
  Turn P w K (.Tuple elts k pos) (ItEL K a) [e,it] e (fun i h=>(∃ old,IsEnum h e it i old)/\h.IsListIter it a i) where
 mem:=by simp
 obj:=fun i h st b hb=>by
  obtain ⟨⟨old,he⟩,o,ho,c,d⟩:=st
  rcases List.mem_cons.mp hb with q | q
  ·subst q
   exact ⟨_,he,fun v z=>by
    have z':Data.fields _=Data.cell v:=z
    cases z'⟩
  ·have q':b=it:=by simpa using q
   subst q'
   exact ⟨o,ho,fun v z=>by rw[d]at z;cases z⟩
 keep:=fun i h h' st kk=>by
  obtain ⟨⟨old,he⟩,o,ho,r⟩:=st
  exact ⟨⟨old,kk e (by simp) _ he⟩,o,kk it (by simp) _ ho,r⟩
 item:=by
  intro X hP hw hK hc i pins s σ H E I hf st hg
  subst hP hw hK
  obtain ⟨xs,x,hq,hx⟩:=hg
  obtain ⟨its,rv,p,hz⟩:=I.list hq
  obtain ⟨u,hu,ru⟩:=rv.get hx
  obtain ⟨⟨old,he⟩,hit⟩:=st
  have pt:s.heap.IsList a its.toArray:=p.isList
  obtain ⟨fe0,fe1,fe2,fe3,fe4,fe5⟩:=hf e (by simp)
  obtain ⟨fi0,fi1,fi2,fi3,fi4,fi5⟩:=hf it (by simp)
  have hlt:i < its.toArray.size:=by rw[List.size_toArray];exact (List.getElem?_eq_some_iff.mp hu).1
  have alt:a < s.heap.objs.size:=by obtain ⟨_,q,_⟩:=pt;exact Heap.lt_size q
  have hai:a≠it:=fun z=>by
   obtain ⟨o1,q1,c1,n1,d1⟩:=pt
   obtain ⟨o2,q2,c2,d2⟩:=hit
   rw[z,q2]at q1;cases q1;rw[d2]at d1;cases d1
  have hae:a≠e:=fun z=>by
   obtain ⟨o1,q1,c1,n1,d1⟩:=pt
   rw[z,he]at q1;cases q1;cases d1
  refine wpAny_pyNext_enum_itemD (Draws.list (A:=X.A.in1) (I.ok.hd hc) it a hai its.toArray) he ⟨hit,pt⟩ hlt hne (by simp [hne,Ne.symm hae]) fun x' h' tk hx' out st' ht sz kp=>?_
  have ex:x'=u:=by
   rw[show its.toArray[i]?=some u by simpa using hu]at hx'
   exact (Option.some.inj hx').symm
  subst ex
  refine ⟨_,rfl,?_⟩
  refine wpAny_letOwnedTupleGo_enum (s:={ s with heap:=h',toks:=tk+1 }) out fun h2 he2 sb2=>?_
  have hT0:H s.heap.objs.size=none:=I.hok.fresh (Nat.le_refl _)
  have eT:s.heap.objs.size≠e:=Nat.ne_of_gt (Heap.lt_size he)
  have iT:s.heap.objs.size≠it:=by obtain ⟨_,q,_⟩:=hit;exact Nat.ne_of_gt (Heap.lt_size q)
  have kp2:∀ b o,b∉[e,it]->s.heap.get? b=some o->h2.get? b=some o:=fun b o hb q=>by
   have b1:b≠e:=fun z=>hb (by simp [z])
   have b2:b≠it:=fun z=>hb (by simp [z])
   exact (sb2.2 b b1).trans (kp b o b1 b2 q)
  have I1:Inv X pins σ H { s with heap:=h2,toks:=tk+1 }:=by
   have nit:∀ b u,H b=some u->b∉[e,it]:=fun b u q z=>by
    rcases List.mem_cons.mp z with w1 | w1
    ·rw[w1,fe0]at q;cases q
    ·rw[show b=it by simpa using w1,fi0]at q;cases q
   refine I.step (g':=s.gens) (d':=s.drawn) (ch:=[e,it]) (fun b hb=>?_) (fun b o _ _ hcn q _=>kp2 b o hcn q) (fun b o _ _ hcn q _=>⟨o.slots,kp2 b o hcn q⟩) (fun _ _ _ _ n=>n)
    (fun b o hcn q=>⟨o,kp2 b o hcn q⟩) (fun _ _ q=>q) (fun _ _ _ q=>q) (fun b ps q=>⟨#[],by rw[q];simp⟩) (fun m hm=>?_) (fun b u q=>?_) I.bare
   ·rcases List.mem_cons.mp hb with w1 | w1
    ·rw[w1];exact ⟨fe3,fe1,fe4,fe5⟩
    ·rw[show b=it by simpa using w1];exact ⟨fi3,fi1,fi4,fi5⟩
   ·obtain ⟨oo,es,ep,ho,r⟩:=hm
    exact ⟨oo,es,ep,kp2 _ oo (by simp [Ne.symm fe1,Ne.symm fi1]) ho,r⟩
   ·refine (I.hok b u q).stay (fun c v hcv z=>kp2 c v ?_ z) (fun _ z=>z) fun _ _ z=>z
    rcases hcv with w1 | w1
    ·rw[w1];exact nit b u q
    ·exact nit c _ w1
  have hT2:h2.get? s.heap.objs.size=some { cls:=.type "tuple",data:=.seq #[.int i tk,x'] }:=(sb2.2 _ eT).trans ht
  have I2:Inv X pins σ (upd H s.heap.objs.size (.tup [.int i,x])) { s with heap:=h2,toks:=tk+1 } :=
   I1.adopt (a:=s.heap.objs.size) (o:=.tup [.int i,x]) hT0 I.sz (Nat.ne_of_gt I.lt) (fun y c q=>by
    obtain ⟨v,z⟩:=I.cell y c q
    exact Nat.ne_of_lt z.lt) (fun pp hp=>Nat.ne_of_lt (Heap.lt_size (I.pin pp hp).1)) ⟨(by show 2<=sizeLine;decide),[.int i tk,x'],.cons ⟨tk,rfl⟩ (.cons ru .nil),⟨_,hT2,rfl,_,rfl⟩,_,hT2,rfl⟩
  refine ⟨.ref s.heap.objs.size,_,I2,rfl,⟨s.heap.objs.size,x,rfl,hT0,rfl,fun ys hy=>by rw[I.list_inj hy hq];exact hx⟩,⟨⟨_,by simpa using he2⟩,?_⟩,fun b hb=>?_⟩
  ·obtain ⟨o1,q1,r1⟩:=st'.1
   exact ⟨o1,(sb2.2 it (Ne.symm hne)).trans q1,r1⟩
  ·rcases List.mem_cons.mp hb with w1 | w1
   ·rw[w1,zA8 (Ne.symm eT)];exact fe0
   ·rw[show b=it by simpa using w1,zA8 (Ne.symm iT)];exact fi0
 done:=by
  intro X hP hw hK hc i pins s σ H E I hf st hg
  subst hP hw hK
  obtain ⟨xs,hq,hx⟩:=hg
  obtain ⟨its,rv,p,hz⟩:=I.list hq
  obtain ⟨⟨old,he⟩,hit⟩:=st
  have pt:s.heap.IsList a its.toArray:=p.isList
  obtain ⟨fi0,fi1,fi2,fi3,fi4,fi5⟩:=hf it (by simp)
  have hl:=rv.length
  have hT:s.TypeIs (.ref e) "enumerate":=⟨_,he,rfl⟩
  unfold pyNext
  refine wpAny_bind (wpAny_attempt (wpAny_callSpecial?_slot (name:=Str.ofString "__next__") hT F.slot_enumerate_next (wpAny_call_entry F.slot_enumerate_next hT F.entry_enumerate_next ?_ (F.args_enumerate_next_1 _))))
  show wpAny _ _ (field (.ref e) 2 >>= _) _ _ _
  refine wpAny_bind (wpAny_field he rfl (x:=.ref it) rfl ?_)
  refine wpAny_bind (wpAny_nextOf_list_end (A:=X.A.in1) (I.ok.hd hc) hit pt (by simp;omega) fun h' ex eb hex=>?_)
  obtain ⟨o,ho,hcl⟩:=hex
  refine wpAny_bind (wpAny_isInstance (T:="StopIteration") (b:=true) ⟨o,ho,hcl⟩ isSubtype_stop ?_)
  exact wpAny_pure ⟨rfl,I.turned (t':=s.toks) (fun b o hb q=>eb b o hb q) fi0 fi1 fi3 fi4 fi5⟩
 self:=fun _ _ _ _ _ st h=>by
  obtain ⟨⟨old,he⟩,_⟩:=st
  exact wpAny_pyIter_enum he h
def iEnumL (K:PySem.W.Frag) (ta:TA):TI:=fun σ H R=>ta σ H fun vs H1=>∃ a,vs=[.ref a]/\(∃ xs,SqL K H1 a xs)/\R (ItEL K a) H1
theorem pi_enumL {X:Cx} {elts:List Expr} {k:Nat} {tpos:Pos} {a:Expr} {ta:TA} {p pos:Pos} {K:PySem.W.Frag} (hK:X.K=K) (hg:Gl X "enumerate") (hm:X.mg "enumerate"=none) (ha:PA X [a] ta)
  (hs:starEach [a] X.env=[(false,eval a X.env)]:=by rfl):PI X (.Tuple elts k tpos) (.Call (.Name "enumerate" p) [a] [] pos) (iEnumL K ta):=by
 subst hK
 intro pins s σ H R I h
 refine Call_ (ld_blt I hg hm bt_enumerate (PyProof.Rows.callWith_type1 (thn (ha pos pins s σ H _ I h) fun us s1 ⟨vs,H1,I1,r1,q1⟩=>?_) hs rfl))
 obtain ⟨b,e,⟨xs,hq⟩,q⟩:=q1
 subst e
 obtain ⟨u,rfl,ru⟩:=vals1 r1
 cases ru
 obtain ⟨its,rv,pt,hz⟩:=I1.list hq
 refine call_enumerate_list pt.isList fun h' he hit sz kp=>?_
 have I2:Inv X pins σ H1 { s1 with heap:=h' }:=I1.kept (t':=s1.toks) kp
 refine wpAny_pyIter_enum he ⟨s1.heap.objs.size+1,[s1.heap.objs.size+1,s1.heap.objs.size],_,_,H1,rfl,I2,turn_enumL b _ _ (Nat.succ_ne_self _),⟨⟨_,he⟩,hit⟩,fun c hc=>?_,q⟩
 have hcs:s1.heap.objs.size<=c:=by
  rcases List.mem_cons.mp hc with z | z
  ·rw[z];exact Nat.le_succ _
  ·rw[show c=s1.heap.objs.size by simpa using z];exact Nat.le_refl _
 exact I1.fpOk hcs (I1.hok.fresh hcs)
theorem r_ienumL {K:PySem.W.Frag} {ta:TA} {σ:St} {H:Hp} {R:It->Hp->Prop}:iEnumL K ta σ H R=ta σ H (fun vs H1=>∃ a,vs=[.ref a]/\(∃ xs,SqL K H1 a xs)/\R (ItEL K a) H1):=rfl
theorem loop_enumL {K:PySem.W.Frag} {a:Addr} {xs:List V} {g:TG} {tb:TS} {D:Ends} {σ:St} {H:Hp} (Pv:Nat->St->Hp->Prop) (h0:Pv 0 σ H) (hl:∀ i σ H,i<=xs.length->Pv i σ H->SqL K H a xs)
  (hs:∀ i x σ H T,xs[i]?=some x->Pv i σ H->H T=none->g (.ref T) σ (upd H T (.tup [.int i,x])) fun σ2 H2=>tb { D with nx:=Pv (i+1),ct:=Pv (i+1),bk:=D.nx } σ2 H2) (hd:∀ σ H,Pv xs.length σ H->D.nx σ H) :
  Loop (ItEL K a) g tb D σ H:=by
 refine ⟨fun i m σ H=>m=xs.length-i/\i<=xs.length/\Pv i σ H,⟨xs.length,by simp,Nat.zero_le _,h0⟩,?_⟩
 rintro i m σ H ⟨rfl,hi,p⟩
 have q:=hl i σ H hi p
 by_cases hlt:i < xs.length
 ·refine .inr ⟨⟨xs,xs[i],q,by simp [hlt]⟩,Pv (i+1),fun σ' H' p'=>⟨xs.length-(i+1),by omega,rfl,hlt,p'⟩,fun v H' y=>?_⟩
  obtain ⟨T,x,rfl,hT,rfl,hx⟩:=y
  exact hs i x σ H T (hx xs q) p hT
 ·have e:i=xs.length:=by omega
  subst e
  exact .inl ⟨⟨xs,q,Nat.le_refl _⟩,hd σ H p⟩

end L2

set_option maxHeartbeats 4000000
namespace L2
open PySem PySem.Spec PyProof.Rows

theorem lk_hit {f:Str} {x:V} {r:List (Str × V)}:((f,x)::r).lookup f=some x:=by simp [List.lookup]
theorem zB3 {f g:Str} {x:V} {r:List (Str × V)} (h:¬ g=f):((g,x)::r).lookup f=r.lookup f:=by
 have:(f == g)=false:=by simp;exact fun z=>h z.symm
 simp [List.lookup,this]
theorem lk_none {m:Str}:∀ {fs:List (Str × V)},¬ m∈fs.map (·.1)->fs.lookup m=none
 | [],_=>rfl
 | (g,x)::r,h=>by
  rw[zB3 (fun z=>h (by rw[z];exact List.mem_cons_self))]
  exact lk_none fun z=>h (List.mem_cons_of_mem _ z)
theorem pf_hit {f:Str} {x y:V} {r:List (Str × V)}:putF f y ((f,x)::r)=(f,y)::r:=by show (if f=f then _ else _)=_;rw[if_pos rfl]
theorem zAf {f g:Str} {x y:V} {r:List (Str × V)} (h:¬ g=f):putF f y ((g,x)::r)=(g,x)::putF f y r:=by show (if g=f then _ else _)=_;rw[if_neg h]
section
variable {X:Cx} {K:PySem.W.Frag} {C:Addr} {o e value:Expr} {f m:Str} {pos pos' apos p:Pos} {ta tv td ty tx:TE} {x:Str} {es:List Expr} {t:TA}
def tFldC (C:Addr) (ta:TE) (f:Str):TE:=fun σ H Q=>ta σ H fun x H1=>∃ a,x=.ref a/\∃ dx fs v,H1 a=some (.ins C dx fs)/\fs.lookup f=some v/\Q v H1
theorem zAd (hK:X.K=K) (c:Cls K C) (n:NoAttr K C f) (he:PE X e ta) (hb:attributeBase e f X.env (eval e X.env)=eval e X.env):PE X (.Attribute e f pos) (tFldC C ta f):=by
 subst hK
 intro pins s σ H Q I h
 refine attr_of hb (thn (he pins s σ H _ I h) fun u s1 ⟨x,H1,I1,rx,a,ex,dx,fs,v,ea,l,q⟩=>?_)
 subst ex
 obtain rfl:u=Value.ref a:=rx
 exact getattr_ok I1 ea c n l fun u' s2 I2 ru=>⟨v,H1,I2,ru,q⟩
def sFldC (C:Addr) (ta tv:TE) (f:Str):TS:=fun D σ H=>tv σ H fun y H1=>ta σ H1 fun x H2=>∃ a,x=.ref a/\∃ dx fs,H2 a=some (.ins C dx fs)/\fs.length < 1000/\D.nx σ (upd H2 a (.ins C dx (putF f y fs)))
theorem zC8 (hK:X.K=K) (c:Cls K C) (n:NoAttr K C f) (ha:PE X o ta) (hv:PE X value tv) (hs:swapsWith value (some (.Attribute o f pos')) pos.line X.env=pure false):PS X (.Assign [.Attribute o f pos'] value pos) (sFldC C ta tv f):=by
 subst hK
 intro pins s σ H D I h
 refine plainObj_wpAny_Assign_Attribute (thn (hv pins s σ H _ I h) fun u s1 ⟨y,H1,I1,ry,q⟩=>thn (ha pins s1 σ H1 _ I1 q) fun ov s2 ⟨x,H2,I2,rx,a,ex,dx,fs,ea,l,q2⟩=>?_) hs
 subst ex
 obtain rfl:ov=Value.ref a:=rx
 exact setattr_ok I2 ea c n l ry fun s3 I3=>⟨σ,_,I3,q2⟩
variable {CX:CXT} {k:Nat} {g:Addr} {fd:FuncData} {ps ns:List Str} {sp:Sp} {E:XK} {Ex:St->XK}
def tMethC (C:Addr) (ns:List Str) (sp:Sp) (E:XK) (ta:TE) (t:TA):TE:=fun σ H Q=>ta σ H fun x H1=>∃ a,x=.ref a/\(∃ dx fs,H1 a=some (.ins C dx fs)/\fs.map (·.1)=ns)/\t σ H1 fun vs H2=>sp (.ref a::vs) H2 Q E
theorem zAh {pl:Sem Bool} (hK:X.K=K) (he:PE X o ta) (c:Cls K C) (hm:Meth K C m g) (hn:¬ m∈ns) (F:FnOk X.prog X.w X.K X.mg X.base CX k g fd ps sp) (hr:Room k X.A) (hb:Binds K fd ps []) (hx:Passes CX X E) (ha:PA X (e::es) t)
  (hst:starEach (e::es) X.env=(false,eval e X.env)::starEach es X.env:=by rfl) (hpl:(backTo pos (starEach es X.env)).any (·.1)=false:=by rfl)
  (ht:eval (.Call (.Attribute o m apos) (e::es) [] pos) X.env=(do let ov <- eval o X.env;standAt apos.atName;let (f,first) <- holding [ov] (getMethod ov m pl);callWith pos f first (backTo pos (starEach (e::es) X.env)) (backToKw pos (keywordEach [] X.env))):=by rfl) :
  PE X (.Call (.Attribute o m apos) (e::es) [] pos) (tMethC C ns sp E ta t):=by
 subst hK
 intro pins s σ H Q I h
 refine PySem.W.methodCall_KW (pl:=pl) (thn (he pins s σ H _ I h) fun u s1 ⟨x,H1,I1,rx,a,ex,⟨dx,fs,ea,l⟩,q⟩=>?_) ht
 subst ex
 cases (show u=Value.ref a from rx)
 refine getmeth_ok I1 ea c hm (lk_none (by rw[l];exact hn)) ?_
 refine PySem.W.callWith_K (first:=[.ref a]) (h₀:=X.base) I.ok.mod.kin hm.kp (thn (ha pos pins s1 σ H1 _ I1 q) fun us s2 ⟨vs,H2,I2,r,q2⟩=>⟨I2.kIn,?_⟩) hst hpl
 exact run_fn (us:=.ref a::us) (vs:=.ref a::vs) F hr hb .nil hx I2 (.cons rfl r) (by rw[List.append_nil];exact q2)
theorem pe_methC0 {pl:Sem Bool} (hK:X.K=K) (he:PE X o ta) (c:Cls K C) (hm:Meth K C m g) (hn:¬ m∈ns) (F:FnOk X.prog X.w X.K X.mg X.base CX k g fd ps sp) (hr:Room k X.A) (hb:Binds K fd ps []) (hx:Passes CX X E)
  (ht:eval (.Call (.Attribute o m apos) [] [] pos) X.env=(do let ov <- eval o X.env;standAt apos.atName;let (f,first) <- holding [ov] (getMethod ov m pl);callWith pos f first (backTo pos (starEach [] X.env)) (backToKw pos (keywordEach [] X.env))):=by rfl) :
  PE X (.Call (.Attribute o m apos) [] [] pos) (tMethC C ns sp E ta tNil):=by
 subst hK
 intro pins s σ H Q I h
 refine PySem.W.methodCall_KW (pl:=pl) (thn (he pins s σ H _ I h) fun u s1 ⟨x,H1,I1,rx,a,ex,⟨dx,fs,ea,l⟩,q⟩=>?_) ht
 subst ex
 cases (show u=Value.ref a from rx)
 refine getmeth_ok I1 ea c hm (lk_none (by rw[l];exact hn)) ?_
 exact PySem.W.callWith_K0 (first:=[.ref a]) I1.kIn hm.kp (run_fn (us:=[.ref a]) (vs:=[.ref a]) F hr hb .nil hx I1 (.cons rfl .nil) q)
def tMethCX (C:Addr) (ns:List Str) (sp:Sp) (Ex:St->XK) (ta:TE) (t:TA):TE:=fun σ H Q=>ta σ H fun x H1=>∃ a,x=.ref a/\(∃ dx fs,H1 a=some (.ins C dx fs)/\fs.map (·.1)=ns)/\t σ H1 fun vs H2=>sp (.ref a::vs) H2 Q (Ex σ)
def tMakeC (C:Addr) (sp:Sp) (E:XK) (t:TA):TE:=fun σ H Q=>t σ H fun vs H1=>∀ x dx,H1 x=none->H1 dx=none->dx≠x ->
 sp (.ref x::vs) (upd (upd H1 dx (.own x)) x (.ins C dx [])) (fun v H2=>v=.non/\Q (.ref x) H2) E
theorem pe_makeC (hK:X.K=K) (M:Mk K C g) (F:FnOk X.prog X.w X.K X.mg X.base CX k g fd ps sp) (hr:Room (k+1) X.A) (hg:Gl X x) (hm:X.mg x=some (.ref C)) (hb:Binds K fd ps []) (hx:Passes CX X E)
  (ha:PA X (e::es) t) (hdb:(x == ("__debug__":Str))=false:=by decide) (he:starEach (e::es) X.env=(false,eval e X.env)::starEach es X.env:=by rfl) (hpl:(backTo pos (starEach es X.env)).any (·.1)=false:=by rfl) :
  PE X (.Call (.Name x p) (e::es) [] pos) (tMakeC C sp E t):=by
 subst hK
 intro pins s σ H Q I h
 refine wpAny_Call_Name_kw (ld_glob I hg hm ?_ hdb)
 refine PySem.W.callWith_K (h₀:=X.base) I.ok.mod.kin M.kp (thn (ha pos pins s σ H _ I h) fun us s1 ⟨vs,H1,I1,r,q⟩=>⟨I1.kIn,?_⟩) he hpl
 exact run_make M F hr hb .nil hx I1 r (by intro x dx h1 h2 h3;rw[List.append_nil];exact q x dx h1 h2 h3)

def tDGetK (td ty:TE):TE:=fun σ H Q=>td σ H fun x H1=>ty σ H1 fun y H2=>∃ a,x=.ref a/\∃ i,y=.int i/\∃ kvs v,H2 a=some (.dK kvs)/\valV kvs (.inl i)=some v/\Q v H2
def tDInK (ty td:TE):TE:=fun σ H Q=>ty σ H fun y H1=>td σ H1 fun x H2=>∃ a,x=.ref a/\∃ i,y=.int i/\∃ kvs,H2 a=some (.dK kvs)/\Q (.bl (valV kvs (.inl i)).isSome) H2
def tDNotInK (ty td:TE):TE:=fun σ H Q=>ty σ H fun y H1=>td σ H1 fun x H2=>∃ a,x=.ref a/\∃ i,y=.int i/\∃ kvs,H2 a=some (.dK kvs)/\Q (.bl (!(valV kvs (.inl i)).isSome)) H2
def sDPutK (td ty tv:TE):TS:=fun D σ H=>tv σ H fun v H1=>td σ H1 fun x H2=>ty σ H2 fun y H3=>∃ a,x=.ref a/\∃ i,y=.int i/\∃ kvs,H3 a=some (.dK kvs)/\kvs.length < sizeLine/\D.nx σ (upd H3 a (.dK (putK kvs (.inl i) v)))
variable {i:Expr}
theorem pe_dgetK (hu:X.A.units+1 < cLine) (ho:PE X o td) (hi:PE X i ty) (hs:NoSl i):PE X (.Subscript o i pos) (tDGetK td ty):=by
 intro pins s σ H Q I h
 refine subD_of PySem.F.slot_dict_getitem.lookup hs (thn (ho pins s σ H _ I h) fun u s1 ⟨x,H1,I1,rx,q1⟩=>thn (hi pins s1 σ H1 _ I1 q1) fun iv s2 ⟨y,H2,I2,ry,a,ex,z,ey,kvs,v,g,l,q2⟩=>?_)
 subst ex ey
 obtain rfl:u=Value.ref a:=rx
 have g':DGet H2 a (.int z) (some v):=by rw[<- l];exact DGet.k (k:=Sum.inl z) g
 exact ⟨dict_typeIs I2 g',d_getItem hu I2 g' ry fun w' s3 I3 rw'=>⟨v,H2,I3,rw',q2⟩⟩
theorem pc_dinK (hu:X.A.units+1 < cLine) (hi:PE X i ty) (ho:PE X o td):PC X .In i o (tDInK ty td):=by
 intro pins s σ H Q I h
 refine thn (hi pins s σ H _ I h) fun iv s1 ⟨y,H1,I1,ry,q1⟩=>thn (ho pins s1 σ H1 _ I1 q1) fun u s2 ⟨x,H2,I2,rx,a,ex,z,ey,kvs,g,q2⟩=>?_
 subst ex ey
 obtain rfl:u=Value.ref a:=rx
 exact d_in hu I2 (DGet.k (k:=Sum.inl z) g) ry fun s3 I3=>⟨.bl (valV kvs (Sum.inl z)).isSome,H2,I3,rfl,q2⟩
theorem pc_dnotinK (hu:X.A.units+1 < cLine) (hi:PE X i ty) (ho:PE X o td):PC X .NotIn i o (tDNotInK ty td):=by
 intro pins s σ H Q I h
 refine thn (hi pins s σ H _ I h) fun iv s1 ⟨y,H1,I1,ry,q1⟩=>thn (ho pins s1 σ H1 _ I1 q1) fun u s2 ⟨x,H2,I2,rx,a,ex,z,ey,kvs,g,q2⟩=>?_
 subst ex ey
 obtain rfl:u=Value.ref a:=rx
 exact d_notIn hu I2 (DGet.k (k:=Sum.inl z) g) ry fun s3 I3=>⟨.bl (!(valV kvs (Sum.inl z)).isSome),H2,I3,rfl,q2⟩
theorem ps_dputK (hu:X.A.units+1 < cLine) (ho:PE X o td) (hi:PE X i ty) (hv:PE X value tv) (hs:swapsWith value (some (.Subscript o i pos')) pos.line X.env=pure false) :
  PS X (.Assign [.Subscript o i pos'] value pos) (sDPutK td ty tv):=by
 intro pins s σ H D I h
 refine wpAny_Assign_Subscript (thn (hv pins s σ H _ I h) fun r s1 ⟨v,H1,I1,rv,q1⟩=>thn (ho pins s1 σ H1 _ I1 q1) fun u s2 ⟨x,H2,I2,rx,q2⟩=>thn (hi pins s2 σ H2 _ I2 q2) fun iv s3 ⟨y,H3,I3,ry,a,ex,z,ey,kvs,g,hl,q3⟩=>?_) hs
 subst ex ey
 obtain rfl:u=Value.ref a:=rx
 exact d_setItem hu I3 (DPut.k (k:=Sum.inl z) g hl) ry rv fun s4 I4=>⟨σ,_,I4,q3⟩
def rLenD:List V->Hp->VK->Prop:=fun xs H Q=>∃ a,xs=[.ref a]/\∃ kvs,H a=some (.dK kvs)/\Q (.int kvs.length) H
theorem call_lenDK:CallR X (.builtin "len") rLenD:=by
 intro pins s σ H xs us Q I r h
 obtain ⟨a,e,kvs,ha,q⟩:=h
 exact call_lenD pins s σ H xs us Q I r ⟨a,kvs,e,ha,q⟩

variable {σ:St} {H:Hp} {Q:VK} {D:Ends}
theorem r_fldC:tFldC C ta f σ H Q=ta σ H (fun x H1=>∃ a,x=.ref a/\∃ dx fs v,H1 a=some (.ins C dx fs)/\fs.lookup f=some v/\Q v H1):=rfl
theorem r_sfldC:sFldC C ta tv f D σ H=tv σ H (fun y H1=>ta σ H1 fun x H2=>∃ a,x=.ref a/\∃ dx fs,H2 a=some (.ins C dx fs)/\fs.length < 1000/\D.nx σ (upd H2 a (.ins C dx (putF f y fs)))):=rfl
theorem r_methC:tMethC C ns sp E ta t σ H Q=ta σ H (fun x H1=>∃ a,x=.ref a/\(∃ dx fs,H1 a=some (.ins C dx fs)/\fs.map (·.1)=ns)/\t σ H1 fun vs H2=>sp (.ref a::vs) H2 Q E):=rfl
theorem r_methCX:tMethCX C ns sp Ex ta t σ H Q=ta σ H (fun x H1=>∃ a,x=.ref a/\(∃ dx fs,H1 a=some (.ins C dx fs)/\fs.map (·.1)=ns)/\t σ H1 fun vs H2=>sp (.ref a::vs) H2 Q (Ex σ)):=rfl
theorem r_makeC:tMakeC C sp E t σ H Q=t σ H (fun vs H1=>∀ x dx,H1 x=none->H1 dx=none->dx≠x->sp (.ref x::vs) (upd (upd H1 dx (.own x)) x (.ins C dx [])) (fun v H2=>v=.non/\Q (.ref x) H2) E):=rfl
theorem r_dgetK:tDGetK td ty σ H Q=td σ H (fun x H1=>ty σ H1 fun y H2=>∃ a,x=.ref a/\∃ i,y=.int i/\∃ kvs v,H2 a=some (.dK kvs)/\valV kvs (.inl i)=some v/\Q v H2):=rfl
theorem r_dinK:tDInK ty td σ H Q=ty σ H (fun y H1=>td σ H1 fun x H2=>∃ a,x=.ref a/\∃ i,y=.int i/\∃ kvs,H2 a=some (.dK kvs)/\Q (.bl (valV kvs (.inl i)).isSome) H2):=rfl
theorem r_dnotinK:tDNotInK ty td σ H Q=ty σ H (fun y H1=>td σ H1 fun x H2=>∃ a,x=.ref a/\∃ i,y=.int i/\∃ kvs,H2 a=some (.dK kvs)/\Q (.bl (!(valV kvs (.inl i)).isSome)) H2):=rfl
theorem r_dputK:sDPutK td ty tv D σ H=tv σ H (fun v H1=>td σ H1 fun x H2=>ty σ H2 fun y H3=>∃ a,x=.ref a/\∃ i,y=.int i/\∃ kvs,H3 a=some (.dK kvs)/\kvs.length < sizeLine/\D.nx σ (upd H3 a (.dK (putK kvs (.inl i) v)))):=rfl
theorem r_lenD {a:Addr}:rLenD [.ref a] H Q=∃ kvs,H a=some (.dK kvs)/\Q (.int kvs.length) H:=propext ⟨fun ⟨_,e,h⟩=>by cases e;exact h,fun h=>⟨_,rfl,h⟩⟩
theorem r_dnew:tDNewK σ H Q=∀ p,H p=none->Q (.ref p) (upd H p (.dK [])):=rfl
end
end L2

set_option maxHeartbeats 4000000
namespace L2
open PySem PySem.Spec PyProof.Rows

def ItV (K:PySem.W.Frag) (a:Addr) (N:Nat):It :=
 ⟨fun i H=>∃ xs x,SqL K H a xs/\xs.length=N/\i < N/\xs[N-1-i]?=some x,fun i H x H'=>H'=H/\∀ xs,SqL K H a xs->xs[N-1-i]?=some x,fun i _=>i=N⟩
def iRev (K:PySem.W.Frag) (ta:TA):TI:=fun σ H R=>ta σ H fun vs H1=>∃ a,vs=[.ref a]/\∃ xs,SqL K H1 a xs/\R (ItV K a xs.length) H1
theorem r_irev {K:PySem.W.Frag} {ta:TA} {σ:St} {H:Hp} {R:It->Hp->Prop}:iRev K ta σ H R=ta σ H (fun vs H1=>∃ a,vs=[.ref a]/\∃ xs,SqL K H1 a xs/\R (ItV K a xs.length) H1):=rfl

def Itd (hi:Int) (n:Nat):It:=⟨fun i _=>i < n,fun i H x H'=>H'=H/\x=.int (hi-i),fun i _=>n<=i⟩
def iDown (ta:TA):TI:=fun σ H R=>ta σ H fun vs H1=>∃ i j:Int,vs=[.int i,.int j,.int (-1)]/\(-1000000<=i/\i < 1000000/\-1000000<=j/\j < 1000000)/\R (Itd i (i-j).toNat) H1
theorem r_idown {ta:TA} {σ:St} {H:Hp} {R:It->Hp->Prop}:iDown ta σ H R=ta σ H (fun vs H1=>∃ i j:Int,vs=[.int i,.int j,.int (-1)]/\(-1000000<=i/\i < 1000000/\-1000000<=j/\j < 1000000)/\R (Itd i (i-j).toNat) H1):=rfl

section
variable {K:PySem.W.Frag} {σ:St} {H:Hp} {Q:VK} {a b:Addr}
theorem r_slice {r:V->Option Int->Option Int->Hp->VK->Prop} {te:TE} {tl th:TO}:tSl r te tl th σ H Q=te σ H (fun x H1=>tl σ H1 fun l H2=>th σ H2 fun u H3=>r x l u H3 Q):=rfl
theorem r_nopart {R:Option Int->Hp->Prop}:tNoPart σ H R=R none H:=rfl
theorem r_part {t:TE} {R:Option Int->Hp->Prop}:tPart t σ H R=t σ H (fun x H1=>∃ i,x=.int i/\R (some i) H1):=rfl
theorem r_slT {lo hi:Option Int}:rSlT K (.ref a) lo hi H Q=∃ xs,SqT K H a xs/\¬ (HT.sIx xs.length 0 lo=0/\HT.sIx xs.length xs.length hi=xs.length)/\∀ p,H p=none->Q (.ref p) (upd H p (.tup (cutV xs lo hi))):=propext
 ⟨fun ⟨_,xs,e,h⟩=>by cases e;exact ⟨xs,h⟩,fun ⟨xs,h⟩=>⟨_,xs,rfl,h⟩⟩
theorem r_cat:rCat (.ref a) (.ref b) H Q=∃ xs zs,H a=some (.lst xs)/\H b=some (.lst zs)/\xs.length+zs.length<=sizeLine/\∀ p,H p=none->Q (.ref p) (upd H p (.lst (xs++zs))):=propext
 ⟨fun ⟨_,_,xs,zs,e1,e2,h⟩=>by cases e1;cases e2;exact ⟨xs,zs,h⟩,fun ⟨xs,zs,h⟩=>⟨_,_,xs,zs,rfl,rfl,h⟩⟩
theorem r_clear:rClear (.ref a) [] H Q=∃ xs,H a=some (.lst xs)/\Q .non (upd H a (.lst [])):=propext
 ⟨fun ⟨_,xs,e1,_,h⟩=>by cases e1;exact ⟨xs,h⟩,fun ⟨xs,h⟩=>⟨_,xs,rfl,rfl,h⟩⟩
theorem r_eqStr {x y:Str}:rEq (.str x) (.str y) H Q=Q (.bl (decide (x=y))) H:=propext
 ⟨fun ⟨_,h⟩=>by rwa [show decide (V.str x=V.str y)=decide (x=y) from decide_eq_decide.mpr ⟨fun z=>V.str.inj z,fun z=>by rw[z]⟩]at h,fun h=>⟨rfl,by rwa [show decide (V.str x=V.str y)=decide (x=y) from decide_eq_decide.mpr ⟨fun z=>V.str.inj z,fun z=>by rw[z]⟩]⟩⟩
end
end L2

set_option maxHeartbeats 4000000
namespace L2
open PySem PySem.Spec PyProof.Rows

section
variable {X:Cx}
def rSortedD:List V->Hp->VK->Prop:=fun xs H Q=>∃ p,xs=[.ref p]/\∃ (kvs:List (Key × V)) (ns:List Int),H p=some (.dK kvs)/\kvs.map (·.1)=ns.map Sum.inl/\ns.length < 64 /\
  ∀ ns':List Int,ns'.Perm ns->ns'.Pairwise (·<=·)->∀ l,H l=none->Q (.ref l) (upd H l (.lst (ns'.map V.int)))
theorem r_sortedD {p:Addr} {H:Hp} {Q:VK}:rSortedD [.ref p] H Q=∃ (kvs:List (Key × V)) (ns:List Int),H p=some (.dK kvs)/\kvs.map (·.1)=ns.map Sum.inl/\ns.length < 64 /\
  ∀ ns':List Int,ns'.Perm ns->ns'.Pairwise (·<=·)->∀ l,H l=none->Q (.ref l) (upd H l (.lst (ns'.map V.int))):=propext ⟨fun ⟨_,e,h⟩=>by cases e;exact h,fun h=>⟨_,rfl,h⟩⟩
end
end L2

set_option maxHeartbeats 4000000
namespace L2
open PySem PySem.Spec PyProof.Rows

def rAll (K:PySem.W.Frag):RC:=fun xs H Q=>∃ (p:Addr) (bs:List Bool),xs=[.ref p]/\SqL K H p (bs.map V.bl)/\Q (.bl (bs.all id)) H
theorem r_all {K:PySem.W.Frag} {H:Hp} {Q:VK} {p:Addr}:rAll K [.ref p] H Q=∃ bs:List Bool,SqL K H p (bs.map V.bl)/\Q (.bl (bs.all id)) H:=propext
 ⟨fun ⟨_,ys,e,h⟩=>by cases e;exact ⟨ys,h⟩,fun ⟨ys,h⟩=>⟨_,ys,rfl,h⟩⟩
end L2

set_option maxHeartbeats 4000000
namespace L2
open PySem PySem.Spec PyProof.Rows

section
variable {X:Cx} {pins:List (Addr × Obj)} {σ:St} {H:Hp} {s:Shared} {a:Addr} {o:Obj} {kvs:List (Key × V)}
theorem Inv.swap {u u':HO} (I:Inv X pins σ H s) (e:H a=some u) (new:ObjOk X.prog X.w (upd H a u') s.heap a u') (n1:∀ xs,u≠.tup xs) (n2:∀ x,u≠.own x) (b2:∀ o v,X.H₀ a≠some (.frz o v)) (b3:∀ ps,X.H₀ a≠some (.tbl ps)):Inv X pins σ (upd H a u') s:=by
 have ne:∀ b,H b=none->b≠a:=fun b n z=>by rw[z,e]at n;cases n
 refine ⟨I.ok,I.os,I.bare,⟨I.base.keep,I.base.slot,fun b ob q n hx=>?_,I.base.there,fun b xs q=>?_,fun b ob v q=>?_,fun b ps q=>?_⟩,I.loc,I.cell,?_,fun x c q=>?_,fun p hp=>?_,fun b v q=>?_,I.len⟩
 ·have:=I.base.free b ob q n hx
  rw[zA8 (ne b this)]
  exact this
 ·have q':=I.base.tups b xs q
  have:b≠a:=fun z=>by rw[z,e]at q';exact n1 xs (Option.some.inj q')
  rw[zA8 this];exact q'
 ·have q':=I.base.frzs b ob v q
  have:b≠a:=fun z=>by rw[z]at q;exact b2 ob v q
  rw[zA8 this];exact q'
 ·have q':=I.base.tbls b ps q
  have:b≠a:=fun z=>by rw[z]at q;exact b3 ps q
  rw[zA8 this];exact q'
 ·rw[zA8 (ne _ I.free)];exact I.free
 ·rw[zA8 (ne _ (I.freeC x c q))];exact I.freeC x c q
 ·obtain ⟨q1,q2,q3⟩:=I.pin p hp
  exact ⟨q1,by rw[zA8 (ne _ q2)];exact q2,q3⟩
 ·by_cases hb:b=a
  ·subst hb
   rw[zA2]at q
   cases q
   exact new
  ·rw[zA8 hb]at q
   refine (I.hok b v q).stay (fun _ _ _ z=>z) (fun c z=>?_) fun c xs z=>?_
   ·have:c≠a:=fun w=>by rw[w,e]at z;exact n2 b (Option.some.inj z)
    rw[zA8 this];exact z
   ·have:c≠a:=fun w=>by rw[w,e]at z;exact n1 xs (Option.some.inj z)
    rw[zA8 this];exact z
def NoF (X:Cx) (a:Addr):Prop:=∀ o u,X.H₀ a≠some (.frz o u)
end
def Itz (a:Addr) (o:Obj) (kvs:List (Key × V)) (ns:List Int):It :=
 ⟨fun i H=>H a=some (.frz o (.dK kvs))/\i < ns.length,fun i H x H'=>H'=H/\∃ n,ns[i]?=some n/\x=.int n,fun i H=>H a=some (.frz o (.dK kvs))/\ns.length<=i⟩
section
variable {X:Cx} {tg:Expr}
def iDict (X:Cx) (tl:TE):TI:=fun σ H R=>tl σ H fun x H1=>∃ (a:Addr) (kvs:List (Key × V)) (ns:List Int),x=.ref a/\H1 a=some (.dK kvs)/\kvs.map (·.1)=ns.map Sum.inl/\∀ o,NoF X a->R (Itz a o kvs ns) (upd H1 a (.frz o (.dK kvs)))
def Thaw (X:Cx) (Q:VK):VK:=fun v H=>∃ (a:Addr) (o:Obj) (kvs:List (Key × V)),NoF X a/\H a=some (.frz o (.dK kvs))/\Q v (upd H a (.dK kvs))
def tCompD (X:Cx) (M:List Str) (tl:TE) (g:TG) (tt:TT) (te:TE):TE:=fun σ H Q=>tCompK M (iDict X tl) g tt te σ H (Thaw X Q)
end
section
variable {X:Cx} {elt target iter:Expr} {ifs:List Expr} {scope:Scope} {pos:Pos} {M:List Str} {tl:TE} {g:TG} {tt:TT} {te:TE}
theorem r_compD {σ:St} {H:Hp} {Q:VK}:tCompD X M tl g tt te σ H Q=tl σ H fun x H1=>∃ (a:Addr) (kvs:List (Key × V)) (ns:List Int),x=.ref a/\H1 a=some (.dK kvs)/\kvs.map (·.1)=ns.map Sum.inl/\∀ o,NoF X a->CLoop M (Itz a o kvs ns) g tt te σ (upd H1 a (.frz o (.dK kvs))) (Thaw X Q):=rfl
end
end L2

set_option maxHeartbeats 4000000
namespace L2
open PySem PySem.Spec PyProof.Rows

def rTIndex:V->List V->Hp->VK->Prop:=fun x vs H Q=>∃ (a:Addr) (ms:List Int) (k:Int) (j:Nat),x=.ref a/\vs=[.int k]/\H a=some (.tup (ms.map V.int))/\ms.Nodup/\ms[j]?=some k/\Q (.int (j:Int)) H
def tBMT (r:V->List V->Hp->VK->Prop) (to:TE) (t:TA):TE:=fun σ H Q=>to σ H fun x H1=>(∃ a xs,x=.ref a/\H1 a=some (.tup xs))/\t σ H1 fun xs H2=>r x xs H2 Q
theorem r_bmT {r:V->List V->Hp->VK->Prop} {to:TE} {t:TA} {σ:St} {H:Hp} {Q:VK}:tBMT r to t σ H Q=to σ H (fun x H1=>(∃ a xs,x=.ref a/\H1 a=some (.tup xs))/\t σ H1 fun xs H2=>r x xs H2 Q):=rfl
theorem r_tindex {a:Addr} {k:Int} {H:Hp} {Q:VK}:rTIndex (.ref a) [.int k] H Q=∃ (ms:List Int) (j:Nat),H a=some (.tup (ms.map V.int))/\ms.Nodup/\ms[j]?=some k/\Q (.int (j:Int)) H:=propext
 ⟨fun ⟨_,ms,_,j,e1,e2,h⟩=>by cases e1;cases e2;exact ⟨ms,j,h⟩,fun ⟨ms,j,h⟩=>⟨_,ms,_,j,rfl,rfl,h⟩⟩

def tHide (k:Nat) (t:TS):TS:=fun D σ H=>t { nx:=fun σ' H'=>D.nx (σ'.set k none) H',rt:=D.rt,bk:=fun σ' H'=>D.bk (σ'.set k none) H',ct:=fun σ' H'=>D.ct (σ'.set k none) H' } (σ.set k none) H
theorem r_hide {k:Nat} {t:TS} {D:Ends} {σ:St} {H:Hp}:tHide k t D σ H=t { nx:=fun σ' H'=>D.nx (σ'.set k none) H',rt:=D.rt,bk:=fun σ' H'=>D.bk (σ'.set k none) H',ct:=fun σ' H'=>D.ct (σ'.set k none) H' } (σ.set k none) H:=rfl
end L2

namespace Mth
def zA6 (n:Nat):List Int:=(List.range n).map fun (i:Nat)=>(i:Int)
theorem zAj (n:Nat):(zA6 n).length=n:=by simp [zA6]
theorem rangeI_sorted (n:Nat):(zA6 n).Pairwise (·<=·):=by
 unfold zA6
 rw[List.pairwise_map]
 exact List.pairwise_le_range.imp fun h=>by omega
theorem mem_rangeI {n:Nat} {z:Int}:z∈zA6 n↔0<=z/\z < n:=by
 unfold zA6
 rw[List.mem_map]
 constructor
 ·rintro ⟨i,hi,rfl⟩
  have:=List.mem_range.mp hi
  omega
 ·rintro ⟨h1,h2⟩
  exact ⟨z.toNat,List.mem_range.mpr (by omega),by omega⟩
theorem rangeI_nodup (n:Nat):(zA6 n).Nodup:=by
 unfold zA6
 exact List.Pairwise.map _ (fun a b h e=>h (by omega)) List.nodup_range
def Seat (n:Nat) (ns:List Int):Prop:=ns.Perm (zA6 n)
theorem Seat.len {n:Nat} {ns:List Int} (h:Seat n ns):ns.length=n:=by rw[h.length_eq,zAj]
theorem Seat.mem {n:Nat} {ns:List Int} (h:Seat n ns) {z:Int} (hz:z∈ns):0<=z/\z < n:=mem_rangeI.mp (h.mem_iff.mp hz)
theorem sorted_unique {a b:List Int} (hp:a.Perm b) (ha:a.Pairwise (·<=·)) (hb:b.Pairwise (·<=·)):a=b :=
 hp.eq_of_pairwise (fun x y _ _ h1 h2=>Int.le_antisymm h1 h2) ha hb
theorem Seat.sorted {n:Nat} {ns ms:List Int} (h:Seat n ns) (hp:ms.Perm ns) (hs:ms.Pairwise (·<=·)):ms=zA6 n:=sorted_unique (hp.trans h) hs (rangeI_sorted n)
theorem perm_erase {α:Type}:∀ (l:List α) (j:Nat) (v:α),l[j]?=some v->(v::l.eraseIdx j).Perm l
 | [],_,_,h=>by simp at h
 | a::l,0,v,h=>by simp at h;subst h;simp
 | a::l,j+1,v,h=>by
  have:=perm_erase l j v (by simpa using h)
  rw[List.eraseIdx_cons_succ]
  exact (List.Perm.swap a v _).trans (this.cons a)
theorem pop_perm {row left:List Int} {j:Nat} {v:Int} (h:left[j]?=some v):((row++[v])++left.eraseIdx j).Perm (row++left):=by
 rw[List.append_assoc]
 exact (perm_erase left j v h).append_left row
def join (a b:List Int):List Int:=a.map fun k=>b.getD k.toNat 0
theorem join_len (a b:List Int):(join a b).length=a.length:=by simp [join]
end Mth

namespace Mth

theorem nodup_le:∀ {L M:List Int},L.Nodup->(∀ z∈L,z∈M)->L.length<=M.length
 | [],_,_,_=>Nat.zero_le _
 | x::L,M,h,hs=>by
  obtain ⟨h1,h2⟩:=List.nodup_cons.mp h
  have hx:x∈M:=hs x List.mem_cons_self
  have:=nodup_le (L:=L) (M:=M.erase x) h2 fun z hz=>(List.mem_erase_of_ne (fun e=>h1 (by rw[<- e];exact hz))).mpr (hs z (List.mem_cons_of_mem _ hz))
  rw[List.length_erase_of_mem hx]at this
  have:0 < M.length:=List.length_pos_of_mem hx
  rw[List.length_cons]
  omega
theorem nodup_all {L M:List Int} (h:L.Nodup) (hs:∀ z∈L,z∈M) (hl:M.length<=L.length):∀ z∈M,z∈L:=fun z hz=>by
 refine Classical.byContradiction fun hn=>?_
 have:=nodup_le (L:=z::L) (M:=M) (List.nodup_cons.mpr ⟨hn,h⟩) fun y hy=>by
  rcases List.mem_cons.mp hy with e | e
  ·rw[e];exact hz
  ·exact hs y e
 rw[List.length_cons]at this
 omega
theorem perm_of_nodup:∀ {L M:List Int},L.Nodup->M.Nodup->(∀ z,z∈L↔z∈M)->L.Perm M
 | [],M,_,_,h=>by
  have:M=[]:=List.eq_nil_iff_forall_not_mem.mpr fun z hz=>by have:=(h z).mpr hz;simp at this
  rw[this]
 | x::L,M,h,hM,hm=>by
  obtain ⟨h1,h2⟩:=List.nodup_cons.mp h
  have hx:x∈M:=(hm x).mp List.mem_cons_self
  have:=perm_of_nodup (L:=L) (M:=M.erase x) h2 (hM.erase x) fun z=>by
   constructor
   ·intro hz
    have ne:z≠x:=fun e=>h1 (by rw[<- e];exact hz)
    exact (List.mem_erase_of_ne ne).mpr ((hm z).mp (List.mem_cons_of_mem _ hz))
   ·intro hz
    have ne:z≠x:=fun e=>by rw[e]at hz;exact (List.Nodup.not_mem_erase hM) hz
    rcases List.mem_cons.mp ((hm z).mpr (List.mem_of_mem_erase hz)) with e | e
    ·exact absurd e ne
    ·exact e
  exact (this.cons x).trans (List.perm_cons_erase hx).symm
theorem seat_of {n:Nat} {L:List Int} (h:L.Nodup) (hl:L.length=n) (hb:∀ z∈L,0<=z/\z < n):Seat n L:=by
 have hs:∀ z∈L,z∈zA6 n:=fun z hz=>mem_rangeI.mpr (hb z hz)
 exact perm_of_nodup h (rangeI_nodup n) fun z=>⟨hs z,nodup_all h hs (by rw[zAj,hl];exact Nat.le_refl _) z⟩
theorem Seat.nodup {n:Nat} {ns:List Int} (h:Seat n ns):ns.Nodup:=(h.nodup_iff).mpr (rangeI_nodup n)
theorem Seat.has {n:Nat} {ns:List Int} (h:Seat n ns) {z:Int} (h0:0<=z) (h1:z < n):∃ i,i < n/\ns[i]?=some z:=by
 have hz:z∈ns:=h.mem_iff.mpr (mem_rangeI.mpr ⟨h0,h1⟩)
 obtain ⟨i,hi,e⟩:=List.mem_iff_getElem.mp hz
 exact ⟨i,by rw[<- h.len];exact hi,by rw[List.getElem?_eq_getElem hi,e]⟩
theorem Seat.inj {n:Nat} {ns:List Int} (h:Seat n ns) {i j:Nat} {z:Int} (h1:ns[i]?=some z) (h2:ns[j]?=some z):i=j:=by
 obtain ⟨a,ea⟩:=List.getElem?_eq_some_iff.mp h1
 obtain ⟨b,eb⟩:=List.getElem?_eq_some_iff.mp h2
 exact (List.getElem_inj h.nodup).mp (ea.trans eb.symm)
structure IsInv (a L:List Int):Prop where
 len:L.length=a.length
 to:∀ (i:Nat) (z:Int),a[i]?=some z->L[z.toNat]?=some (i:Int)
theorem IsInv.unique {n:Nat} {a L M:List Int} (h:Seat n a) (h1:IsInv a L) (h2:IsInv a M):L=M:=by
 refine List.ext_getElem? fun p=>?_
 by_cases hp:p < n
 ·obtain ⟨i,hi,e⟩:=h.has (z:=(p:Int)) (by omega) (by omega)
  have q1:=h1.to i _ e
  have q2:=h2.to i _ e
  rw[Int.toNat_natCast]at q1 q2
  rw[q1,q2]
 ·have l1:=h1.len
  have l2:=h2.len
  have l0:=h.len
  rw[List.getElem?_eq_none (by omega),List.getElem?_eq_none (by omega)]
theorem IsInv.seat {n:Nat} {a L:List Int} (h:Seat n a) (h1:IsInv a L):Seat n L:=by
 have l0:=h.len
 have l1:=h1.len
 have at_:∀ j,j < n->∃ i,i < n/\a[i]?=some (j:Int)/\L[j]?=some (i:Int):=fun j hj=>by
  obtain ⟨i,hi,e⟩:=h.has (z:=(j:Int)) (by omega) (by omega)
  have q:=h1.to i _ e
  rw[Int.toNat_natCast]at q
  exact ⟨i,hi,e,q⟩
 refine seat_of ?_ (by omega) fun z hz=>?_
 ·refine List.pairwise_iff_getElem.mpr fun i j hi hj hij e=>?_
  obtain ⟨i1,_,a1,e1⟩:=at_ i (by omega)
  obtain ⟨j1,_,a2,e2⟩:=at_ j (by omega)
  rw[List.getElem?_eq_getElem hi]at e1
  rw[List.getElem?_eq_getElem hj]at e2
  have q1:=Option.some.inj e1
  have q2:=Option.some.inj e2
  have e'':i1=j1:=by omega
  rw[e'',a2]at a1
  have:(j:Int)=i:=Option.some.inj a1
  omega
 ·obtain ⟨j,hj,e⟩:=List.mem_iff_getElem.mp hz
  obtain ⟨i,hi,_,q⟩:=at_ j (by omega)
  rw[List.getElem?_eq_getElem hj,e]at q
  have:z=(i:Int):=Option.some.inj q
  omega
theorem IsInv.back {n:Nat} {a L:List Int} (h:Seat n a) (h1:IsInv a L):IsInv L a:=by
 have l0:=h.len
 refine ⟨h1.len.symm,fun j z e=>?_⟩
 have hj:j < n:=by rw[<- l0,<- h1.len];exact (List.getElem?_eq_some_iff.mp e).1
 obtain ⟨i,hi,ei⟩:=h.has (z:=(j:Int)) (by omega) (by omega)
 have q:=h1.to i _ ei
 rw[Int.toNat_natCast,e]at q
 have:z=(i:Int):=Option.some.inj q
 rw[this,Int.toNat_natCast]
 exact ei
structure Half (a:List Int) (k:Nat) (L:List Int):Prop where
 len:L.length=a.length
 to:∀ (i:Nat) (z:Int),i < k->a[i]?=some z->L[z.toNat]?=some (i:Int)
theorem Half.step {n:Nat} {a L:List Int} {k:Nat} {z:Int} (h:Seat n a) (d:Half a k L) (hz:a[k]?=some z):Half a (k+1) (L.set z.toNat (k:Int)):=by
 have l0:=h.len
 obtain ⟨b0,b1⟩:=h.mem (List.mem_of_getElem? hz)
 refine ⟨by rw[List.length_set];exact d.len,fun i y hi hy=>?_⟩
 by_cases e:i=k
 ·subst e
  rw[hz]at hy
  have:z=y:=Option.some.inj hy
  subst this
  rw[List.getElem?_set_self (by rw[d.len];omega)]
 ·have ne:z.toNat≠y.toNat:=fun q=>by
   obtain ⟨c0,c1⟩:=h.mem (List.mem_of_getElem? hy)
   have:z=y:=by omega
   rw[this]at hz
   exact e (h.inj hy hz)
  rw[List.getElem?_set_ne ne]
  exact d.to i y (by omega) hy
theorem Half.full {a L:List Int} (d:Half a a.length L):IsInv a L:=⟨d.len,fun i z e=>d.to i z (List.getElem?_eq_some_iff.mp e).1 e⟩
end Mth

namespace Mth
def at_ (a:List Int) (z:Int):Int:=a.getD z.toNat 0
def it (a:List Int):Nat->Int->Int
 | 0,z=>z
 | m+1,z=>at_ a (it a m z)
theorem at_get {n:Nat} {a:List Int} (h:Seat n a) {z:Int} (h0:0<=z) (h1:z < n):a[z.toNat]?=some (at_ a z):=by
 have l:=h.len
 unfold at_
 rw[List.getD_eq_getElem?_getD,List.getElem?_eq_getElem (by omega)]
 rfl
theorem at_in {n:Nat} {a:List Int} (h:Seat n a) {z:Int} (h0:0<=z) (h1:z < n):0<=at_ a z/\at_ a z < n:=h.mem (List.mem_of_getElem? (at_get h h0 h1))
theorem at_inj {n:Nat} {a:List Int} (h:Seat n a) {x y:Int} (x0:0<=x) (x1:x < n) (y0:0<=y) (y1:y < n) (e:at_ a x=at_ a y):x=y:=by
 have q1:=at_get h x0 x1
 have q2:=at_get h y0 y1
 rw[e]at q1
 have:=h.inj q1 q2
 omega
theorem it_in {n:Nat} {a:List Int} (h:Seat n a) {z:Int} (h0:0<=z) (h1:z < n):∀ m,0<=it a m z/\it a m z < n
 | 0=>⟨h0,h1⟩
 | m+1=>at_in h (it_in h h0 h1 m).1 (it_in h h0 h1 m).2
theorem it_add (a:List Int) (z:Int) (k:Nat):∀ m,it a (m+k) z=it a m (it a k z)
 | 0=>by rw[Nat.zero_add];rfl
 | m+1=>by rw[Nat.succ_add];show at_ a (it a (m+k) z)=at_ a (it a m (it a k z));rw[it_add a z k m]
theorem it_cancel {n:Nat} {a:List Int} (h:Seat n a) {x y:Int} (x0:0<=x) (x1:x < n) (y0:0<=y) (y1:y < n):∀ m,it a m x=it a m y->x=y
 | 0,e=>e
 | m+1,e=>it_cancel h x0 x1 y0 y1 m (at_inj h (it_in h x0 x1 m).1 (it_in h x0 x1 m).2 (it_in h y0 y1 m).1 (it_in h y0 y1 m).2 e)
theorem comes_back {n:Nat} {a:List Int} (h:Seat n a) {k:Int} (h0:0<=k) (h1:k < n):∃ m,1<=m/\m<=n/\it a m k=k:=by
 refine Classical.byContradiction fun no=>?_
 have nd:((List.range (n+1)).map fun m=>it a m k).Nodup:=by
  refine List.pairwise_map.mpr (List.pairwise_lt_range.imp_of_mem fun {i j} hi hj hij e=>no ?_)
  have hj':=List.mem_range.mp hj
  refine ⟨j-i,by omega,by omega,?_⟩
  have e2:j=i+(j-i):=by omega
  rw[e2,it_add]at e
  exact (it_cancel h h0 h1 (it_in h h0 h1 _).1 (it_in h h0 h1 _).2 i e).symm
 have:=nodup_le nd (M:=zA6 n) fun z hz=>by
  obtain ⟨m,_,rfl⟩:=List.mem_map.mp hz
  exact mem_rangeI.mpr (it_in h h0 h1 m)
 rw[List.length_map,List.length_range,zAj]at this
 omega
def per (a:List Int) (k:Int):Nat:=(((List.range a.length).find? fun m=>decide (it a (m+1) k=k)).getD 0)+1
theorem per_ok {n:Nat} {a:List Int} (h:Seat n a) {k:Int} (h0:0<=k) (h1:k < n):1<=per a k/\per a k<=n/\it a (per a k) k=k/\∀ m,1<=m->m < per a k->it a m k≠k:=by
 obtain ⟨m0,m1,m2,e0⟩:=comes_back h h0 h1
 have l:=h.len
 cases q:(List.range a.length).find? fun m=>decide (it a (m+1) k=k) with
 | none =>
  have:=List.find?_eq_none.mp q (m0-1) (List.mem_range.mpr (by omega))
  rw[show m0-1+1=m0 by omega]at this
  exact absurd (decide_eq_true e0) this
 | some i =>
  obtain ⟨p1,p2,p3⟩:=List.find?_range_eq_some.mp q
  have hp:per a k=i+1:=by unfold per;rw[q];rfl
  have hi:=List.mem_range.mp p2
  refine ⟨by omega,by omega,by rw[hp];exact of_decide_eq_true p1,fun m hm hlt e=>?_⟩
  have:=p3 (m-1) (by omega)
  rw[show m-1+1=m by omega,decide_eq_true e]at this
  cases this
def ringOf (a:List Int) (k:Int):List Int:=(List.range (per a k)).map fun m=>it a m k
theorem ringOf_len (a:List Int) (k:Int):(ringOf a k).length=per a k:=by simp [ringOf]
theorem ring_self {n:Nat} {a:List Int} (h:Seat n a) {k:Int} (h0:0<=k) (h1:k < n):k∈ringOf a k:=by
 obtain ⟨p1,_⟩:=per_ok h h0 h1
 exact List.mem_map.mpr ⟨0,List.mem_range.mpr (by omega),rfl⟩
def keepB (a:List Int) (k:Int):Bool:=decide (1 < per a k/\∀ x∈ringOf a k,k<=x)
def ringsTo (a:List Int) (i:Nat):List (List Int):=((List.range i).filter fun (k:Nat)=>keepB a (k:Int)).map fun (k:Nat)=>ringOf a (k:Int)
end Mth

namespace Mth
theorem zBc {n i:Nat} (h:i < n):(zA6 n)[i]?=some (i:Int):=by
 unfold zA6
 rw[List.getElem?_map,List.getElem?_range h]
 rfl
def pw (n:Nat) (a:List Int) (m:Nat):List Int:=(zA6 n).map fun k=>it a m k
theorem pw_len (n:Nat) (a:List Int) (m:Nat):(pw n a m).length=n:=by unfold pw;rw[List.length_map,zAj]
theorem pw_get {n:Nat} {a:List Int} {m i:Nat} (h:i < n):(pw n a m)[i]?=some (it a m i):=by
 unfold pw
 rw[List.getElem?_map,zBc h]
 rfl
theorem pw_zero (n:Nat) (a:List Int):pw n a 0=zA6 n:=by
 unfold pw
 exact List.map_id _
theorem pw_join {n:Nat} (a:List Int) (m:Nat):join (pw n a m) a=pw n a (m+1):=by
 unfold join pw
 rw[List.map_map]
 rfl
theorem pw_seat {n:Nat} {a:List Int} (h:Seat n a) (m:Nat):Seat n (pw n a m):=by
 refine seat_of ?_ (pw_len n a m) fun z hz=>?_
 ·unfold pw
  refine List.pairwise_map.mpr ((rangeI_nodup n).imp_of_mem fun {x y} hx hy ne e=>ne ?_)
  have bx:=mem_rangeI.mp hx
  have by_:=mem_rangeI.mp hy
  exact it_cancel h bx.1 bx.2 by_.1 by_.2 m e
 ·unfold pw at hz
  obtain ⟨k,hk,rfl⟩:=List.mem_map.mp hz
  have bk:=mem_rangeI.mp hk
  exact it_in h bk.1 bk.2 m
theorem it_back {n:Nat} {a:List Int} (h:Seat n a) {k:Int} {p:Nat} (e:it a p k=k):∀ q,it a (p*q) k=k
 | 0=>rfl
 | q+1=>by rw[Nat.mul_succ,it_add,e];exact it_back h e q
theorem it_mod {n:Nat} {a:List Int} (h:Seat n a) {k:Int} (h0:0<=k) (h1:k < n) (m:Nat):it a m k=it a (m % per a k) k:=by
 obtain ⟨_,_,e,_⟩:=per_ok h h0 h1
 have q:=Nat.mod_add_div m (per a k)
 have q':it a m k=it a (m % per a k+per a k*(m / per a k)) k:=by rw[q]
 rw[q',it_add,it_back h e]
theorem it_dvd {n:Nat} {a:List Int} (h:Seat n a) {k:Int} (h0:0<=k) (h1:k < n) (m:Nat):it a m k=k↔per a k ∣ m:=by
 obtain ⟨p1,_,e,mn⟩:=per_ok h h0 h1
 constructor
 ·intro q
  rw[it_mod h h0 h1]at q
  refine Nat.dvd_of_mod_eq_zero (Classical.byContradiction fun z=>mn _ (by omega) (Nat.mod_lt _ (by omega)) q)
 ·rintro ⟨c,rfl⟩
  exact it_back h e c
theorem per_it {n:Nat} {a:List Int} (h:Seat n a) {k:Int} (h0:0<=k) (h1:k < n) (j:Nat):per a (it a j k)=per a k:=by
 obtain ⟨j0,j1⟩:=it_in h h0 h1 j
 have key:∀ m,it a m (it a j k)=it a j k↔it a m k=k:=fun m=>by
  obtain ⟨m0,m1⟩:=it_in h h0 h1 m
  rw[<- it_add,Nat.add_comm,it_add]
  exact ⟨fun e=>it_cancel h m0 m1 h0 h1 j e,fun e=>by rw[e]⟩
 refine Nat.dvd_antisymm ?_ ?_
 ·exact (it_dvd h j0 j1 _).mp ((key _).mpr ((it_dvd h h0 h1 _).mpr (Nat.dvd_refl _)))
 ·exact (it_dvd h h0 h1 _).mp ((key _).mp ((it_dvd h j0 j1 _).mpr (Nat.dvd_refl _)))
theorem mem_ring {n:Nat} {a:List Int} (h:Seat n a) {k:Int} (h0:0<=k) (h1:k < n) (j:Nat):it a j k∈ringOf a k:=by
 obtain ⟨p1,_⟩:=per_ok h h0 h1
 rw[it_mod h h0 h1]
 exact List.mem_map.mpr ⟨_,List.mem_range.mpr (Nat.mod_lt _ (by omega)),rfl⟩
theorem least_of:∀ (L:List Int),L≠[]->∃ m∈L,∀ x∈L,m<=x
 | [x],_=>⟨x,List.mem_cons_self,fun y hy=>by simp at hy;omega⟩
 | x::y::L,_=>by
  obtain ⟨m,hm,hl⟩:=least_of (y::L) (by simp)
  by_cases q:x<=m
  ·exact ⟨x,List.mem_cons_self,fun z hz=>by
    rcases List.mem_cons.mp hz with e | e
    ·omega
    ·have:=hl z e;omega⟩
  ·exact ⟨m,List.mem_cons_of_mem _ hm,fun z hz=>by
    rcases List.mem_cons.mp hz with e | e
    ·omega
    ·exact hl z e⟩
theorem told_of {n:Nat} {a:List Int} (h:Seat n a) {k:Int} (h0:0<=k) (h1:k < n) (hp:1 < per a k):∃ k0:Nat,k0 < n/\keepB a k0=true/\per a k0=per a k/\k∈ringOf a k0:=by
 have ne:ringOf a k≠[]:=fun z=>by have:=ring_self h h0 h1;rw[z]at this;simp at this
 obtain ⟨m,hm,hl⟩:=least_of _ ne
 obtain ⟨j,hj,rfl⟩:=List.mem_map.mp hm
 obtain ⟨j0,j1⟩:=it_in h h0 h1 j
 have e1:((it a j k).toNat:Int)=it a j k:=by omega
 refine ⟨(it a j k).toNat,by omega,?_,by rw[e1,per_it h h0 h1],?_⟩
 ·unfold keepB
  rw[decide_eq_true_eq,e1,per_it h h0 h1]
  refine ⟨hp,fun x hx=>?_⟩
  obtain ⟨i,_,rfl⟩:=List.mem_map.mp hx
  rw[<- it_add]
  exact hl _ (mem_ring h h0 h1 _)
 ·rw[e1]
  have hj':=List.mem_range.mp hj
  have q:it a (per a k-j) (it a j k)=k:=by
   rw[<- it_add,show per a k-j+j=per a k by omega]
   exact (it_dvd h h0 h1 _).mpr (Nat.dvd_refl _)
  have:=mem_ring h j0 j1 (per a k-j)
  rwa [q]at this
theorem told_mem {a:List Int} {n k0:Nat} (hk:k0 < n) (h:keepB a k0=true):ringOf a k0∈ringsTo a n :=
 List.mem_map.mpr ⟨k0,List.mem_filter.mpr ⟨List.mem_range.mpr hk,h⟩,rfl⟩
theorem told_is {a:List Int} {n:Nat} {r:List Int} (h:r∈ringsTo a n):∃ k0:Nat,k0 < n/\keepB a k0=true/\r=ringOf a k0:=by
 obtain ⟨k0,hk,rfl⟩:=List.mem_map.mp h
 obtain ⟨h1,h2⟩:=List.mem_filter.mp hk
 exact ⟨k0,List.mem_range.mp h1,h2,rfl⟩


def lcmL (c:Nat) (L:List Nat):Nat:=L.foldl Nat.lcm c
theorem lcmL_dvd:∀ {L:List Nat} {c m:Nat},c ∣ m->(∀ x∈L,x ∣ m)->lcmL c L ∣ m
 | [],_,_,hc,_=>hc
 | y::L,c,m,hc,h=>lcmL_dvd (L:=L) (Nat.lcm_dvd hc (h y List.mem_cons_self)) fun x hx=>h x (List.mem_cons_of_mem _ hx)
theorem dvd_lcmL0:∀ {L:List Nat} {c:Nat},c ∣ lcmL c L
 | [],_=>Nat.dvd_refl _
 | y::L,c=>Nat.dvd_trans (Nat.dvd_lcm_left c y) (dvd_lcmL0 (L:=L))
theorem dvd_lcmL:∀ {L:List Nat} {c x:Nat},x∈L->x ∣ lcmL c L
 | y::L,c,x,h=>by
  rcases List.mem_cons.mp h with e | e
  ·rw[e];exact Nat.dvd_trans (Nat.dvd_lcm_right c y) (dvd_lcmL0 (L:=L))
  ·exact dvd_lcmL (L:=L) e
def lens (zs:List (List Int)):List Nat:=zs.map List.length
def ageOf (n:Nat) (a:List Int):Nat:=lcmL 1 (lens (ringsTo a n))
theorem len_ok {n:Nat} {a:List Int} (h:Seat n a) {r:List Int} (hr:r∈ringsTo a n):1 < r.length/\r.length<=n/\∃ k0:Nat,k0 < n/\r=ringOf a k0/\r.length=per a k0:=by
 obtain ⟨k0,hk,kp,rfl⟩:=told_is hr
 unfold keepB at kp
 rw[decide_eq_true_eq]at kp
 obtain ⟨p1,p2,_⟩:=per_ok h (k:=(k0:Int)) (by omega) (by omega)
 rw[ringOf_len]
 exact ⟨kp.1,p2,k0,hk,rfl,rfl⟩
theorem dvd_720720 {x:Nat} (h1:1<=x) (h2:x<=16):x ∣ 720720:=by
 have:x=1\/x=2\/x=3\/x=4\/x=5\/x=6\/x=7\/x=8\/x=9\/x=10\/x=11\/x=12\/x=13\/x=14\/x=15\/x=16:=by omega
 rcases this with h | h | h | h | h | h | h | h | h | h | h | h | h | h | h | h <;> subst h <;> decide
theorem part_dvd {n:Nat} {a:List Int} (h:Seat n a) (hn:n<=16) (i:Nat):lcmL 1 ((lens (ringsTo a n)).take i) ∣ 720720:=by
 refine lcmL_dvd (Nat.one_dvd _) fun x hx=>?_
 obtain ⟨r,hr,rfl⟩:=List.mem_map.mp (List.mem_of_mem_take hx)
 obtain ⟨l1,l2,_⟩:=len_ok h hr
 exact dvd_720720 (by omega) (by omega)
theorem age_dvd {n:Nat} {a:List Int} (h:Seat n a) (hn:n<=16):ageOf n a ∣ 720720:=by
 have:=part_dvd h hn (lens (ringsTo a n)).length
 rwa [List.take_length]at this
theorem age_pos {n:Nat} {a:List Int} (h:Seat n a) (hn:n<=16):1<=ageOf n a/\ageOf n a<=720720:=by
 have d:=age_dvd h hn
 exact ⟨Nat.pos_of_dvd_of_pos d (by decide),Nat.le_of_dvd (by decide) d⟩
theorem per_age {n:Nat} {a:List Int} (h:Seat n a) {k:Int} (h0:0<=k) (h1:k < n):per a k ∣ ageOf n a:=by
 obtain ⟨p1,_⟩:=per_ok h h0 h1
 by_cases hp:1 < per a k
 ·obtain ⟨k0,l0,kp,e,_⟩:=told_of h h0 h1 hp
  rw[<- e,<- ringOf_len]
  exact dvd_lcmL (List.mem_map.mpr ⟨_,told_mem l0 kp,rfl⟩)
 ·rw[show per a k=1 by omega];exact Nat.one_dvd _
theorem rest_iff {n:Nat} {a:List Int} (h:Seat n a) (m:Nat):pw n a m=zA6 n↔ageOf n a ∣ m:=by
 constructor
 ·intro e
  refine lcmL_dvd (Nat.one_dvd _) fun x hx=>?_
  obtain ⟨r,hr,rfl⟩:=List.mem_map.mp hx
  obtain ⟨_,_,k0,hk,rfl,e2⟩:=len_ok h hr
  rw[e2]
  refine (it_dvd h (by omega) (by omega) m).mp ?_
  have q:=pw_get (a:=a) (m:=m) hk
  rw[e,zBc hk]at q
  exact (Option.some.inj q).symm
 ·intro d
  refine List.ext_getElem? fun i=>?_
  by_cases hi:i < n
  ·rw[pw_get hi,zBc hi,(it_dvd h (by omega) (by omega) m).mpr (Nat.dvd_trans (per_age h (by omega) (by omega)) d)]
  ·rw[List.getElem?_eq_none (by rw[pw_len];omega),List.getElem?_eq_none (by rw[zAj];omega)]

def spin (a:List Int) (z:Int) (k:Int):Int:=it a (z % (per a k:Int)).toNat k
structure Spun (n:Nat) (a:List Int) (z:Int) (S:List Int) (L:List Int):Prop where
 len:L.length=n
 ok:∀ k:Nat,k < n->(k:Int)∈S->L[k]?=some (spin a z k)
 any:∀ k:Nat,k < n->L[k]?=some (spin a z k)\/L[k]?=some (at_ a k)
end Mth

namespace Mth
end Mth
namespace Mth
theorem getD_at {n:Nat} {a:List Int} (h:Seat n a) {i:Nat} (hi:i < n):a[i]?=some (a.getD i 0):=by
 have l:=h.len
 rw[List.getD_eq_getElem?_getD,List.getElem?_eq_getElem (by omega)]
 rfl
theorem join_get {n:Nat} {a b:List Int} (h:Seat n a) {i:Nat} (hi:i < n):(join a b)[i]?=some (b.getD (a.getD i 0).toNat 0):=by
 unfold join
 rw[List.getElem?_map,getD_at h hi]
 rfl
theorem zCv {n:Nat} {a:List Int} (h:Seat n a) {i:Nat} (hi:i < n):0<=a.getD i 0/\a.getD i 0 < n:=h.mem (List.mem_of_getElem? (getD_at h hi))
theorem seat_inj {n:Nat} {a:List Int} (h:Seat n a) {i j:Nat} (hi:i < n) (hj:j < n) (e:a.getD i 0=a.getD j 0):i=j:=by
 have e1:=getD_at h hi
 have e2:=getD_at h hj
 rw[e]at e1
 exact h.inj e1 e2
theorem seat_by {n:Nat} {L:List Int} (hl:L.length=n) (hb:∀ i,i < n->0<=L.getD i 0/\L.getD i 0 < n) (hi:∀ i j,i < n->j < n->L.getD i 0=L.getD j 0->i=j):Seat n L:=by
 have at_:∀ i (h:i < L.length),L[i]=L.getD i 0:=fun i h=>by rw[List.getD_eq_getElem?_getD,List.getElem?_eq_getElem h];rfl
 refine seat_of (List.pairwise_iff_getElem.mpr fun i j h1 h2 hij e=>?_) hl fun z hz=>?_
 ·rw[at_ i h1,at_ j h2]at e
  have:=hi i j (by omega) (by omega) e
  omega
 ·obtain ⟨i,h1,e⟩:=List.mem_iff_getElem.mp hz
  rw[<- e,at_ i h1]
  exact hb i (by omega)
theorem zAk {n:Nat} {a b:List Int} (h1:Seat n a) (h2:Seat n b):Seat n (join a b):=by
 have g:∀ i,i < n->(join a b).getD i 0=b.getD (a.getD i 0).toNat 0:=fun i hi=>by rw[List.getD_eq_getElem?_getD,join_get h1 hi];rfl
 refine seat_by (by rw[join_len,h1.len]) (fun i hi=>?_) fun i j hi hj e=>?_
 ·rw[g i hi]
  have:=zCv h1 hi
  exact zCv h2 (by omega)
 ·rw[g i hi,g j hj]at e
  have b1:=zCv h1 hi
  have b2:=zCv h1 hj
  have:=seat_inj h2 (by omega) (by omega) e
  exact seat_inj h1 hi hj (by omega)
structure Laid (n:Nat) (o f:List Int) (i:Nat) (L:List Int):Prop where
 len:L.length=n
 to:∀ k,k < i->L.getD (o.getD k 0).toNat 0=f.getD k 0
theorem Laid.seat {n:Nat} {o f L:List Int} (h:Seat n o) (hf:Seat n f) (d:Laid n o f n L):Seat n L:=by
 have ex:∀ i,i < n->∃ k,k < n/\o.getD k 0=(i:Int)/\L.getD i 0=f.getD k 0:=fun i hi=>by
  obtain ⟨k,hk,e⟩:=h.has (z:=(i:Int)) (by omega) (by omega)
  have q:o.getD k 0=(i:Int):=by rw[List.getD_eq_getElem?_getD,e];rfl
  have:=d.to k hk
  rw[q,Int.toNat_natCast]at this
  exact ⟨k,hk,q,this⟩
 refine seat_by d.len (fun i hi=>?_) fun i j hi hj e=>?_
 ·obtain ⟨k,hk,_,e⟩:=ex i hi
  rw[e];exact zCv hf hk
 ·obtain ⟨k,hk,q,r⟩:=ex i hi
  obtain ⟨k',hk',q',r'⟩:=ex j hj
  rw[r,r']at e
  have:=seat_inj hf hk hk' e
  subst this
  omega
end Mth

namespace Mth

theorem zBb {n:Nat} {a b:List Int} (h:Seat n a) {i:Nat} (hi:i < n):(join a b).getD i 0=b.getD (a.getD i 0).toNat 0:=by
 rw[List.getD_eq_getElem?_getD,join_get h hi]
 rfl
theorem seat_ext {n:Nat} {a b:List Int} (ha:Seat n a) (hb:Seat n b) (h:∀ i,i < n->a.getD i 0=b.getD i 0):a=b:=by
 refine List.ext_getElem? fun i=>?_
 by_cases hi:i < n
 ·rw[getD_at ha hi,getD_at hb hi,h i hi]
 ·rw[List.getElem?_eq_none (by rw[ha.len];omega),List.getElem?_eq_none (by rw[hb.len];omega)]
theorem zAl (n:Nat):Seat n (zA6 n):=List.Perm.refl _
theorem rest_at {n i:Nat} (hi:i < n):(zA6 n).getD i 0=(i:Int):=by rw[List.getD_eq_getElem?_getD,zBc hi];rfl
theorem zC3 {n:Nat} {a:List Int} (h:Seat n a):join a (zA6 n)=a:=by
 refine seat_ext (zAk h (zAl n)) h fun i hi=>?_
 have b:=zCv h hi
 rw[zBb h hi,rest_at (by omega)]
 omega
theorem rest_join {n:Nat} {a:List Int} (h:Seat n a):join (zA6 n) a=a:=by
 refine seat_ext (zAk (zAl n) h) h fun i hi=>?_
 rw[zBb (zAl n) hi,rest_at hi,Int.toNat_natCast]
theorem zBd {n:Nat} {a b c:List Int} (ha:Seat n a) (hb:Seat n b) (hc:Seat n c):join (join a b) c=join a (join b c):=by
 have hab:=zAk ha hb
 have hbc:=zAk hb hc
 refine seat_ext (zAk hab hc) (zAk ha hbc) fun i hi=>?_
 have x:=zCv ha hi
 rw[zBb hab hi,zBb ha hi,zBb ha hi,zBb hb (by omega)]
theorem join_cancel {n:Nat} {a b c:List Int} (ha:Seat n a) (hb:Seat n b) (hc:Seat n c) (h:join a c=join b c):a=b:=by
 refine seat_ext ha hb fun i hi=>?_
 have x:=zCv ha hi
 have y:=zCv hb hi
 have e:(join a c).getD i 0=(join b c).getD i 0:=by rw[h]
 rw[zBb ha hi,zBb hb hi]at e
 have:=seat_inj hc (by omega) (by omega) e
 omega
inductive Reach (n:Nat) (ms:List (List Int)):List Int->Prop where
 | rest:Reach n ms (zA6 n)
 | step {x m:List Int}:Reach n ms x->m∈ms->Reach n ms (join x m)
theorem Reach.seat {n:Nat} {ms:List (List Int)} (hm:∀ m∈ms,Seat n m) {x:List Int} (h:Reach n ms x):Seat n x:=by
 induction h with
 | rest=>exact zAl n
 | step _ h2 ih=>exact zAk ih (hm _ h2)
theorem Reach.move {n:Nat} {ms:List (List Int)} (hm:∀ m∈ms,Seat n m) {m:List Int} (h:m∈ms):Reach n ms m:=by
 have:=Reach.step (Reach.rest (n:=n) (ms:=ms)) h
 rwa [rest_join (hm m h)]at this
theorem Reach.join {n:Nat} {ms:List (List Int)} (hm:∀ m∈ms,Seat n m) {x y:List Int} (hx:Reach n ms x) (hy:Reach n ms y):Reach n ms (join x y):=by
 induction hy with
 | rest=>rwa [zC3 (hx.seat hm)]
 | @step y m h1 h2 ih =>
  rw[<- zBd (hx.seat hm) (h1.seat hm) (hm m h2)]
  exact .step ih h2
theorem Reach.mono {n:Nat} {ms ms':List (List Int)} (h:∀ m∈ms,m∈ms') {x:List Int} (hx:Reach n ms x):Reach n ms' x:=by
 induction hx with
 | rest=>exact .rest
 | step _ h2 ih=>exact .step ih (h _ h2)
theorem Reach.pw {n:Nat} {ms:List (List Int)} (hm:∀ m∈ms,Seat n m) {x:List Int} (hx:Reach n ms x):∀ k,Reach n ms (pw n x k)
 | 0=>by rw[pw_zero];exact .rest
 | k+1=>by rw[<- pw_join];exact Reach.join hm (Reach.pw hm hx k) hx
theorem inv_pw {n:Nat} {x y:List Int} (h:Seat n x) (hn:n<=16) (hi:IsInv x y):y=pw n x (ageOf n x-1):=by
 obtain ⟨g1,_⟩:=age_pos h hn
 have hy:=hi.seat h
 have hp:=pw_seat h (ageOf n x-1)
 have e1:join (pw n x (ageOf n x-1)) x=zA6 n:=by
  rw[pw_join,show ageOf n x-1+1=ageOf n x by omega]
  exact (rest_iff h _).mpr (Nat.dvd_refl _)
 have e2:join y x=zA6 n:=by
  refine seat_ext (zAk hy h) (zAl n) fun i hi'=>?_
  have b:=zCv hy hi'
  rw[zBb hy hi',rest_at hi']
  have q:=(hi.back h).to i _ (getD_at hy hi')
  rw[List.getD_eq_getElem?_getD,q]
  rfl
 exact join_cancel hy hp h (e2.trans e1.symm)
theorem Reach.back {n:Nat} {ms:List (List Int)} (hn:n<=16) (hm:∀ m∈ms,Seat n m) {x y:List Int} (hx:Reach n ms x) (hi:IsInv x y):Reach n ms y:=by
 rw[inv_pw (hx.seat hm) hn hi]
 exact hx.pw hm _
end Mth

namespace Mth

structure Lev (n k:Nat) (t:List Int):Prop where
 seat:Seat n t
 low:∀ i,i < k->i < n->t.getD i 0=(i:Int)
theorem Lev.rest (n k:Nat):Lev n k (zA6 n):=⟨zAl n,fun i _ hi=>rest_at hi⟩
theorem Lev.mono {n k j:Nat} {t:List Int} (h:Lev n k t) (hj:j<=k):Lev n j t:=⟨h.seat,fun i hi hn=>h.low i (by omega) hn⟩
theorem Lev.join {n k:Nat} {a b:List Int} (ha:Lev n k a) (hb:Lev n k b):Lev n k (join a b):=by
 refine ⟨zAk ha.seat hb.seat,fun i hi hn=>?_⟩
 rw[zBb ha.seat hn,ha.low i hi hn,Int.toNat_natCast]
 exact hb.low i hi hn
theorem Lev.full {n:Nat} {t:List Int} (h:Lev n n t):t=zA6 n:=seat_ext h.seat (zAl n) fun i hi=>by rw[h.low i hi hi,rest_at hi]
def Tab (n:Nat):Nat->List (List (List Int))->Prop
 | k,[]=>k=n
 | k,r::ts=>k < n/\(∀ u∈r,Lev n k u)/\zA6 n∈r/\(∀ u∈r,∀ v∈r,u.getD k 0=v.getD k 0->u=v)/\Tab n (k+1) ts
def In (n:Nat):List (List (List Int))->List Int->Prop
 | [],x=>x=zA6 n
 | r::ts,x=>∃ s u,In n ts s/\u∈r/\x=join s u
theorem In.lev {n:Nat}:∀ {ts:List (List (List Int))} {k:Nat} {x:List Int},Tab n k ts->In n ts x->Lev n k x
 | [],_,_,_,h=>by rw[show _=zA6 n from h];exact Lev.rest n _
 | r::ts,k,x,⟨_,hr,_,_,ht⟩,⟨s,u,hs,hu,e⟩=>by
  rw[e]
  exact ((In.lev ht hs).mono (by omega)).join (hr u hu)
theorem In.rest {n:Nat}:∀ {ts:List (List (List Int))} {k:Nat},Tab n k ts->In n ts (zA6 n)
 | [],_,_=>rfl
 | r::ts,k,⟨_,_,h0,_,ht⟩=>⟨zA6 n,zA6 n,In.rest ht,h0,(zC3 (zAl n)).symm⟩
theorem In.up {n k:Nat} {r:List (List Int)} {ts:List (List (List Int))} {x:List Int} (T:Tab n k (r::ts)) (h:In n ts x):In n (r::ts) x :=
 ⟨x,zA6 n,h,T.2.2.1,(zC3 (In.lev T.2.2.2.2 h).seat).symm⟩
theorem In.of_row {n k:Nat} {r:List (List Int)} {ts:List (List (List Int))} {u:List Int} (T:Tab n k (r::ts)) (h:u∈r):In n (r::ts) u :=
 ⟨zA6 n,u,In.rest T.2.2.2.2,h,(rest_join (T.2.1 u h).seat).symm⟩
theorem In.img {n k:Nat} {r:List (List Int)} {ts:List (List (List Int))} {s u:List Int} (T:Tab n k (r::ts)) (hs:In n ts s) (hu:u∈r):(join s u).getD k 0=u.getD k 0:=by
 have l:=In.lev T.2.2.2.2 hs
 rw[zBb l.seat T.1,l.low k (by omega) T.1,Int.toNat_natCast]
theorem In.down {n k:Nat} {r:List (List Int)} {ts:List (List (List Int))} {x:List Int} (T:Tab n k (r::ts)) (h:In n (r::ts) x) (hl:Lev n (k+1) x):In n ts x:=by
 obtain ⟨s,u,hs,hu,e⟩:=h
 have q:=In.img T hs hu
 rw[<- e,hl.low k (by omega) T.1,<- rest_at T.1]at q
 have:u=zA6 n:=(T.2.2.2.1 _ T.2.2.1 _ hu q).symm
 rw[e,this,zC3 (In.lev T.2.2.2.2 hs).seat]
 exact hs
def Mem (ts:List (List (List Int))) (t:List Int):Prop:=∃ r∈ts,t∈r
theorem Mem.tail {r:List (List Int)} {ts:List (List (List Int))} {t:List Int} (h:Mem ts t):Mem (r::ts) t:=by
 obtain ⟨r',h1,h2⟩:=h
 exact ⟨r',List.mem_cons_of_mem _ h1,h2⟩
theorem Mem.lev {n:Nat}:∀ {ts:List (List (List Int))} {k:Nat} {t:List Int},Tab n k ts->Mem ts t->Lev n k t
 | [],_,_,_,⟨_,h,_⟩=>by cases h
 | r::ts,k,t,⟨_,hr,_,_,ht⟩,⟨r',h1,h2⟩=>by
  rcases List.mem_cons.mp h1 with e | e
  ·rw[e]at h2;exact hr t h2
  ·exact (Mem.lev ht ⟨r',e,h2⟩).mono (by omega)
theorem Mem.in_ {n:Nat}:∀ {ts:List (List (List Int))} {k:Nat} {t:List Int},Tab n k ts->Mem ts t->In n ts t
 | [],_,_,_,⟨_,h,_⟩=>by cases h
 | r::ts,k,t,T,⟨r',h1,h2⟩=>by
  rcases List.mem_cons.mp h1 with e | e
  ·rw[e]at h2;exact In.of_row T h2
  ·exact In.up T (Mem.in_ T.2.2.2.2 ⟨r',e,h2⟩)
theorem In.join {n:Nat}:∀ {ts:List (List (List Int))} {k:Nat},Tab n k ts->(∀ t t',Mem ts t->Mem ts t'->In n ts (Mth.join t t'))->∀ x y,In n ts x->In n ts y->In n ts (Mth.join x y)
 | [],k,T,_,x,y,hx,hy=>by
  have ex:x=zA6 n:=hx
  have ey:y=zA6 n:=hy
  rw[ex,ey,zC3 (zAl n)]
  rfl
 | r::ts,k,T,C,x,y,hx,hy=>by
  have T':=T.2.2.2.2
  have ih:=In.join T' fun t t' h h'=>In.down T (C t t' h.tail h'.tail) ((Mem.lev T' h).join (Mem.lev T' h'))
  have one:∀ z,In n (r::ts) z->∀ t,Mem (r::ts) t->In n (r::ts) (Mth.join z t):=fun z hz t ht=>by
   obtain ⟨s,u,hs,hu,e⟩:=hz
   obtain ⟨s',u',hs',hu',e'⟩:=C u t ⟨r,List.mem_cons_self,hu⟩ ht
   have ls:=(In.lev T' hs).seat
   have ls':=(In.lev T' hs').seat
   rw[e,zBd ls (T.2.1 u hu).seat (Mem.lev T ht).seat,e',<- zBd ls ls' (T.2.1 u' hu').seat]
   exact ⟨_,u',ih s s' hs hs',hu',rfl⟩
  have many:∀ (us:List (List (List Int))) (j:Nat),Tab n j us->(∀ t,Mem us t->Mem (r::ts) t)->∀ w,In n us w->∀ z,In n (r::ts) z->In n (r::ts) (Mth.join z w):=by
   intro us
   induction us with
   | nil =>
    intro j _ _ w hw z hz
    rw[show w=zA6 n from hw,zC3 (In.lev T hz).seat]
    exact hz
   | cons r' us ihu =>
    intro j U hm w hw z hz
    obtain ⟨s,u,hs,hu,e⟩:=hw
    have ls:=(In.lev U.2.2.2.2 hs).seat
    rw[e,<- zBd (In.lev T hz).seat ls (U.2.1 u hu).seat]
    exact one _ (ihu (j+1) U.2.2.2.2 (fun t ht=>hm t ht.tail) s hs z hz) u (hm u ⟨r',List.mem_cons_self,hu⟩)
  exact many (r::ts) k T (fun _ h=>h) y hy x hx
def alls (n:Nat):List (List (List Int))->List (List Int)
 | []=>[zA6 n]
 | r::ts=>(alls n ts).flatMap fun s=>r.map fun u=>Mth.join s u
def sizes:List (List (List Int))->Nat
 | []=>1
 | r::ts=>r.length*sizes ts
theorem mem_alls {n:Nat}:∀ {ts:List (List (List Int))} {x:List Int},x∈alls n ts↔In n ts x
 | [],x=>by unfold alls In;simp
 | r::ts,x=>by
  unfold alls In
  rw[List.mem_flatMap]
  constructor
  ·rintro ⟨s,hs,h⟩
   obtain ⟨u,hu,e⟩:=List.mem_map.mp h
   exact ⟨s,u,mem_alls.mp hs,hu,e.symm⟩
  ·rintro ⟨s,u,hs,hu,e⟩
   exact ⟨s,mem_alls.mpr hs,List.mem_map.mpr ⟨u,hu,e.symm⟩⟩
theorem alls_len {n:Nat}:∀ (ts:List (List (List Int))),(alls n ts).length=sizes ts
 | []=>rfl
 | r::ts=>by
  unfold alls sizes
  rw[List.length_flatMap]
  simp only[List.length_map]
  rw[<- alls_len (n:=n) ts]
  generalize alls n ts=L
  induction L with
  | nil=>simp
  | cons s L ih=>rw[List.map_cons,List.sum_cons,ih,List.length_cons,Nat.mul_succ,Nat.add_comm]
end Mth

namespace Mth
def Nod:List (List (List Int))->Prop
 | []=>True
 | r::ts=>r.Nodup/\Nod ts
theorem alls_nodup {n:Nat}:∀ {ts:List (List (List Int))} {k:Nat},Tab n k ts->Nod ts->(alls n ts).Nodup
 | [],_,_,_=>by unfold alls;simp
 | r::ts,k,T,⟨hr,hn⟩=>by
  have T':=T.2.2.2.2
  unfold alls
  refine List.pairwise_flatMap.mpr ⟨fun s hs=>?_,(alls_nodup T' hn).imp_of_mem fun {s s'} hs hs' ne=>?_⟩
  ·refine List.pairwise_map.mpr (hr.imp_of_mem fun {u v} hu hv ne e=>ne ?_)
   have q:(join s u).getD k 0=(join s v).getD k 0:=by rw[e]
   rw[In.img T (mem_alls.mp hs) hu,In.img T (mem_alls.mp hs) hv]at q
   exact T.2.2.2.1 u hu v hv q
  ·intro x hx y hy e
   obtain ⟨u,hu,rfl⟩:=List.mem_map.mp hx
   obtain ⟨v,hv,rfl⟩:=List.mem_map.mp hy
   have is:=mem_alls.mp hs
   have is':=mem_alls.mp hs'
   have q:(join s u).getD k 0=(join s' v).getD k 0:=by rw[e]
   rw[In.img T is hu,In.img T is' hv]at q
   have euv:=T.2.2.2.1 u hu v hv q
   subst euv
   exact ne (join_cancel (In.lev T' is).seat (In.lev T' is').seat (T.2.1 u hu).seat e)
theorem len_of_mem {α:Type} [DecidableEq α]:∀ {L M:List α},L.Nodup->M.Nodup->(∀ z,z∈L↔z∈M)->L.length=M.length
 | [],M,_,_,h=>by
  have:M=[]:=List.eq_nil_iff_forall_not_mem.mpr fun z hz=>by have:=(h z).mpr hz;simp at this
  rw[this]
 | x::L,M,h,hM,hm=>by
  obtain ⟨h1,h2⟩:=List.nodup_cons.mp h
  have hx:x∈M:=(hm x).mp List.mem_cons_self
  have:=len_of_mem (L:=L) (M:=M.erase x) h2 (hM.erase x) fun z=>by
   constructor
   ·intro hz
    have ne:z≠x:=fun e=>h1 (by rw[<- e];exact hz)
    exact (List.mem_erase_of_ne ne).mpr ((hm z).mp (List.mem_cons_of_mem _ hz))
   ·intro hz
    have ne:z≠x:=fun e=>by rw[e]at hz;exact (List.Nodup.not_mem_erase hM) hz
    rcases List.mem_cons.mp ((hm z).mpr (List.mem_of_mem_erase hz)) with e | e
    ·exact absurd e ne
    ·exact e
  have hp:=List.length_pos_of_mem hx
  rw[List.length_erase_of_mem hx]at this
  rw[List.length_cons]
  omega
theorem count_reached {n:Nat} {ts ms:List _} {F:List (List Int)} (T:Tab n 0 ts) (N:Nod ts) (h:∀ x,In n ts x↔Reach n ms x) (hF:F.Nodup) (hf:∀ x,x∈F↔Reach n ms x):F.length=sizes ts:=by
 rw[<- alls_len (n:=n) ts]
 exact len_of_mem hF (alls_nodup T N) fun z=>by rw[hf,mem_alls,h]
end Mth

namespace Mth

def Cl (n:Nat):List (List (List Int))->Prop
 | []=>True
 | r::ts=>(∀ u∈r,∀ t,Mem (r::ts) t->In n (r::ts) (join u t))/\Cl n ts
theorem In.join' {n:Nat}:∀ {ts:List (List (List Int))} {k:Nat},Tab n k ts->Cl n ts->∀ x y,In n ts x->In n ts y->In n ts (Mth.join x y)
 | [],k,T,_,x,y,hx,hy=>by
  have ex:x=zA6 n:=hx
  have ey:y=zA6 n:=hy
  rw[ex,ey,zC3 (zAl n)]
  rfl
 | r::ts,k,T,C,x,y,hx,hy=>by
  have T':=T.2.2.2.2
  have ih:=In.join' T' C.2
  have one:∀ z,In n (r::ts) z->∀ t,Mem (r::ts) t->In n (r::ts) (Mth.join z t):=fun z hz t ht=>by
   obtain ⟨s,u,hs,hu,e⟩:=hz
   obtain ⟨s',u',hs',hu',e'⟩:=C.1 u hu t ht
   have ls:=(In.lev T' hs).seat
   have ls':=(In.lev T' hs').seat
   rw[e,zBd ls (T.2.1 u hu).seat (Mem.lev T ht).seat,e',<- zBd ls ls' (T.2.1 u' hu').seat]
   exact ⟨_,u',ih s s' hs hs',hu',rfl⟩
  have many:∀ (us:List (List (List Int))) (j:Nat),Tab n j us->(∀ t,Mem us t->Mem (r::ts) t)->∀ w,In n us w->∀ z,In n (r::ts) z->In n (r::ts) (Mth.join z w):=by
   intro us
   induction us with
   | nil =>
    intro j _ _ w hw z hz
    rw[show w=zA6 n from hw,zC3 (In.lev T hz).seat]
    exact hz
   | cons r' us ihu =>
    intro j U hm w hw z hz
    obtain ⟨s,u,hs,hu,e⟩:=hw
    have ls:=(In.lev U.2.2.2.2 hs).seat
    rw[e,<- zBd (In.lev T hz).seat ls (U.2.1 u hu).seat]
    exact one _ (ihu (j+1) U.2.2.2.2 (fun t ht=>hm t ht.tail) s hs z hz) u (hm u ⟨r',List.mem_cons_self,hu⟩)
  exact many (r::ts) k T (fun _ h=>h) y hy x hx
theorem table_iff' {n:Nat} {ts ms:List _} (T:Tab n 0 ts) (C:Cl n ts) (hm:∀ m∈ms,In n ts m) (hr:∀ t,Mem ts t->Reach n ms t) (x:List Int):In n ts x↔Reach n ms x:=by
 have seat:∀ m∈ms,Seat n m:=fun m h=>(In.lev T (hm m h)).seat
 constructor
 ·have go:∀ (us:List (List (List Int))),(∀ t,Mem us t->Reach n ms t)->∀ w,In n us w->Reach n ms w:=by
   intro us
   induction us with
   | nil=>intro _ w hw;rw[show w=zA6 n from hw];exact .rest
   | cons r us ih =>
    rintro h w ⟨s,u,hs,hu,e⟩
    rw[e]
    exact Reach.join seat (ih (fun t ht=>h t ht.tail) s hs) (h u ⟨r,List.mem_cons_self,hu⟩)
  exact go ts hr x
 ·intro h
  induction h with
  | rest=>exact In.rest T
  | step _ h2 ih=>exact In.join' T C _ _ ih (hm _ h2)
theorem inv_r {n:Nat} {a b:List Int} (h:Seat n a) (hi:IsInv a b):join a b=zA6 n:=by
 refine seat_ext (zAk h (hi.seat h)) (zAl n) fun i hi'=>?_
 rw[zBb h hi',rest_at hi']
 have q:=hi.to i _ (getD_at h hi')
 rw[List.getD_eq_getElem?_getD,q]
 rfl
theorem inv_l {n:Nat} {a b:List Int} (h:Seat n a) (hi:IsInv a b):join b a=zA6 n:=inv_r (hi.seat h) (hi.back h)


structure Ent where
 ad:Nat
 seat:Nat
 t:List Int
 b:List Int
 sn:Nat
 bn:Nat
abbrev Page:=List (Int × Ent)
def pget (p:Page) (g:Int):Option Ent:=(p.find? fun q=>decide (q.1=g)).map (·.2)
theorem pget_some {p:Page} {g:Int} {e:Ent} (h:pget p g=some e):(g,e)∈p:=by
 unfold pget at h
 cases q:p.find? fun q=>decide (q.1=g) with
 | none=>rw[q]at h;cases h
 | some z =>
  rw[q]at h
  have h1:=List.find?_some q
  have h2:=List.mem_of_find?_eq_some q
  have e1:z.1=g:=of_decide_eq_true h1
  have e2:z.2=e:=Option.some.inj h
  rw[<- e1,<- e2]
  exact h2
theorem pget_none {p:Page} {g:Int} (h:pget p g=none):∀ e,¬ (g,e)∈p:=fun e m=>by
 unfold pget at h
 cases q:p.find? fun q=>decide (q.1=g) with
 | none =>
  have:=List.find?_eq_none.mp q _ m
  simp at this
 | some z=>rw[q]at h;cases h
structure PgOk (n k:Nat) (p:Page):Prop where
 ent:∀ q∈p,q.2.seat=k/\Lev n k q.2.t/\IsInv q.2.t q.2.b/\q.2.t.getD k 0=q.1
 nd:(p.map (·.1)).Nodup
 rst:∃ e,((k:Int),e)∈p/\e.t=zA6 n
theorem PgOk.one {n k:Nat} {p:Page} (h:PgOk n k p) {g:Int} {e f:Ent} (h1:(g,e)∈p) (h2:(g,f)∈p):e=f:=by
 have:∀ {p:Page},(p.map (·.1)).Nodup->(g,e)∈p->(g,f)∈p->e=f:=by
  intro p
  induction p with
  | nil=>intro _ a;cases a
  | cons q p ih =>
   intro nd a b
   obtain ⟨n1,n2⟩:=List.nodup_cons.mp (show (q.1::p.map (·.1)).Nodup from nd)
   rcases List.mem_cons.mp a with ea | ea
   ·rcases List.mem_cons.mp b with eb | eb
    ·exact (Prod.mk.inj (ea.trans eb.symm)).2
    ·exact absurd (List.mem_map.mpr ⟨_,eb,rfl⟩) (by rw[<- ea]at n1;exact n1)
   ·rcases List.mem_cons.mp b with eb | eb
    ·exact absurd (List.mem_map.mpr ⟨_,ea,rfl⟩) (by rw[<- eb]at n1;exact n1)
    ·exact ih n2 ea eb
 exact this h.nd h1 h2
theorem PgOk.get {n k:Nat} {p:Page} (h:PgOk n k p) {g:Int} {e:Ent} (h1:(g,e)∈p):pget p g=some e:=by
 cases q:pget p g with
 | none=>exact absurd h1 (pget_none q e)
 | some f=>rw[h.one (pget_some q) h1]
def PgsOk (n:Nat):Nat->List Page->Prop
 | k,[]=>k=n
 | k,p::ps=>k < n/\PgOk n k p/\PgsOk n (k+1) ps
def zCg (ps:List Page):List (List (List Int)):=ps.map fun p=>p.map fun q=>q.2.t
theorem tab_of {n:Nat}:∀ {ps:List Page} {k:Nat},PgsOk n k ps->Tab n k (zCg ps)
 | [],_,h=>h
 | p::ps,k,⟨h1,h2,h3⟩=>by
  refine ⟨h1,fun u hu=>?_,?_,fun u hu v hv e=>?_,tab_of h3⟩
  ·obtain ⟨q,hq,rfl⟩:=List.mem_map.mp hu
   exact (h2.ent q hq).2.1
  ·obtain ⟨e,he,et⟩:=h2.rst
   exact List.mem_map.mpr ⟨_,he,et⟩
  ·obtain ⟨q,hq,rfl⟩:=List.mem_map.mp hu
   obtain ⟨q',hq',rfl⟩:=List.mem_map.mp hv
   have a:=(h2.ent q hq).2.2.2
   have b:=(h2.ent q' hq').2.2.2
   have c:q.1=q'.1:=by rw[<- a,<- b];exact e
   have:q.2=q'.2:=h2.one (g:=q.1) hq (by rw[c];exact hq')
   show q.2.t=q'.2.t
   rw[this]
theorem nod_of {n:Nat}:∀ {ps:List Page} {k:Nat},PgsOk n k ps->Nod (zCg ps)
 | [],_,_=>trivial
 | p::ps,k,⟨h1,h2,h3⟩=>by
  refine ⟨?_,nod_of h3⟩
  have:=h2.nd
  refine List.pairwise_map.mpr ((List.pairwise_map.mp this).imp_of_mem fun {a b} ha hb ne e=>ne ?_)
  rw[<- (h2.ent a ha).2.2.2,<- (h2.ent b hb).2.2.2]
  show a.2.t.getD k 0=b.2.t.getD k 0
  rw[show a.2.t=b.2.t from e]
theorem sizes_rows:∀ (ps:List Page),sizes (zCg ps)=(ps.map fun p=>p.length).foldr (·*·) 1
 | []=>rfl
 | p::ps=>by
  show (p.map fun q=>q.2.t).length*sizes (zCg ps)=p.length*_
  rw[sizes_rows ps,List.length_map]

def zBn:List Page->Nat->List Int->List Ent->List Int × List Ent
 | [],_,x,us=>(x,us)
 | p::ps,k,x,us =>
  if x.getD k 0=(k:Int) then zBn ps (k+1) x us
  else match pget p (x.getD k 0) with
   | none=>(x,us)
   | some e=>zBn ps (k+1) (join x e.b) (us++[e])
theorem sift_eq {p:Page} {ps:List Page} {k:Nat} {x:List Int} {us:List Ent} (h:x.getD k 0=(k:Int)):zBn (p::ps) k x us=zBn ps (k+1) x us:=by
 rw[zBn,if_pos h]
theorem sift_no {p:Page} {ps:List Page} {k:Nat} {x:List Int} {us:List Ent} (h:¬ x.getD k 0=(k:Int)) (hp:pget p (x.getD k 0)=none):zBn (p::ps) k x us=(x,us):=by
 rw[zBn,if_neg h,hp]
theorem sift_go {p:Page} {ps:List Page} {k:Nat} {x:List Int} {us:List Ent} {e:Ent} (h:¬ x.getD k 0=(k:Int)) (hp:pget p (x.getD k 0)=some e):zBn (p::ps) k x us=zBn ps (k+1) (join x e.b) (us++[e]):=by
 rw[zBn,if_neg h,hp]
theorem Lev.succ {n k:Nat} {x:List Int} (h:Lev n k x) (hk:k < n) (e:x.getD k 0=(k:Int)):Lev n (k+1) x :=
 ⟨h.seat,fun i hi hn=>by
  by_cases z:i < k
  ·exact h.low i z hn
  ·rw[show i=k by omega];exact e⟩
theorem Lev.inv {n k:Nat} {a b:List Int} (h:Lev n k a) (hi:IsInv a b):Lev n k b:=by
 refine ⟨hi.seat h.seat,fun i hi' hn=>?_⟩
 have q:=hi.to i (i:Int) (by rw[getD_at h.seat hn,h.low i hi' hn])
 rw[Int.toNat_natCast]at q
 rw[List.getD_eq_getElem?_getD,q]
 rfl
theorem Lev.off {n k:Nat} {p:Page} (hp:PgOk n k p) (hk:k < n) {x:List Int} (h:Lev n k x) {e:Ent} (he:(x.getD k 0,e)∈p):Lev n (k+1) (Mth.join x e.b)/\x=Mth.join (Mth.join x e.b) e.t:=by
 obtain ⟨_,l,iv,g⟩:=hp.ent _ he
 have lb:=l.inv iv
 have lj:=h.join lb
 refine ⟨lj.succ hk ?_,?_⟩
 ·have b:=zCv h.seat hk
  rw[zBb h.seat hk]
  have q:=iv.to k _ (getD_at l.seat hk)
  rw[show e.t.getD k 0=x.getD k 0 from g]at q
  rw[List.getD_eq_getElem?_getD,q]
  rfl
 ·rw[zBd h.seat lb.seat l.seat,inv_l l.seat iv,zC3 h.seat]
theorem sift_stop {n:Nat}:∀ {ps:List Page} {k:Nat} {x:List Int} {us:List Ent},PgsOk n k ps->Lev n k x ->
  Lev n k (zBn ps k x us).1/\∃ ws,(zBn ps k x us).2=us++ws/\(∀ e∈ws,∃ p∈ps,∃ g,(g,e)∈p)/\(zBn ps k x us).1=ws.foldl (fun z e=>join z e.b) x /\
   (((zBn ps k x us).1=zA6 n)\/∃ j p,ps[j]?=some p/\Lev n (k+j) (zBn ps k x us).1/\¬ (zBn ps k x us).1.getD (k+j) 0=((k+j:Nat):Int)/\pget p ((zBn ps k x us).1.getD (k+j) 0)=none/\ws.length<=j)
 | [],k,x,us,h,l=>by
  have hk:k=n:=h
  subst hk
  exact ⟨l,[],by simp [zBn],by simp,rfl,.inl l.full⟩
 | p::ps,k,x,us,⟨h1,h2,h3⟩,l=>by
  by_cases e:x.getD k 0=(k:Int)
  ·rw[sift_eq e]
   obtain ⟨q1,ws,q2,q3,q4,q5⟩:=sift_stop (us:=us) h3 (l.succ h1 e)
   refine ⟨q1.mono (by omega),ws,q2,fun f hf=>?_,q4,?_⟩
   ·obtain ⟨p',a,b⟩:=q3 f hf
    exact ⟨p',List.mem_cons_of_mem _ a,b⟩
   ·rcases q5 with q5 | ⟨j,p',a,b,c,d,m⟩
    ·exact .inl q5
    ·refine .inr ⟨j+1,p',by simpa using a,?_,?_,?_,by omega⟩
     ·rwa [show k+(j+1)=k+1+j by omega]
     ·rwa [show k+(j+1)=k+1+j by omega]
     ·rwa [show k+(j+1)=k+1+j by omega]
  ·cases q:pget p (x.getD k 0) with
   | none =>
    rw[sift_no e q]
    exact ⟨l,[],by simp,by simp,rfl,.inr ⟨0,p,rfl,l,e,q,Nat.le_refl _⟩⟩
   | some f =>
    rw[sift_go e q]
    obtain ⟨lo,_⟩:=l.off h2 h1 (pget_some q)
    obtain ⟨q1,ws,q2,q3,q4,q5⟩:=sift_stop (us:=us++[f]) h3 lo
    refine ⟨q1.mono (by omega),f::ws,by rw[q2];simp,fun g hg=>?_,q4,?_⟩
    ·rcases List.mem_cons.mp hg with z | z
     ·rw[z];exact ⟨p,List.mem_cons_self,_,pget_some q⟩
     ·obtain ⟨p',a,b⟩:=q3 g z
      exact ⟨p',List.mem_cons_of_mem _ a,b⟩
    ·rcases q5 with q5 | ⟨j,p',a,b,c,d,m⟩
     ·exact .inl q5
     ·refine .inr ⟨j+1,p',by simpa using a,?_,?_,?_,by rw[List.length_cons];omega⟩
      ·rwa [show k+(j+1)=k+1+j by omega]
      ·rwa [show k+(j+1)=k+1+j by omega]
      ·rwa [show k+(j+1)=k+1+j by omega]
def Grow:List Page->List Page->Prop
 | [],[]=>True
 | p::ps,p'::ps'=>(∀ q∈p,q∈p')/\Grow ps ps'
 | _,_=>False
theorem Grow.refl:∀ (ps:List Page),Grow ps ps
 | []=>trivial
 | _::ps=>⟨fun _ h=>h,Grow.refl ps⟩
theorem Grow.trans:∀ {a b c:List Page},Grow a b->Grow b c->Grow a c
 | [],[],[],_,_=>trivial
 | _::_,_::_,_::_,⟨h1,h2⟩,⟨g1,g2⟩=>⟨fun q h=>g1 q (h1 q h),Grow.trans h2 g2⟩
theorem Grow.in_ {n:Nat}:∀ {ps ps':List Page} {x:List Int},Grow ps ps'->In n (zCg ps) x->In n (zCg ps') x
 | [],[],_,_,h=>h
 | p::ps,p'::ps',x,⟨h1,h2⟩,⟨s,u,hs,hu,e⟩=>by
  obtain ⟨q,hq,rfl⟩:=List.mem_map.mp hu
  exact ⟨s,_,Grow.in_ h2 hs,List.mem_map.mpr ⟨q,h1 q hq,rfl⟩,e⟩
theorem Grow.mem {ps ps':List Page} (g:Grow ps ps') {p:Page} (h:p∈ps) {q:Int × Ent} (hq:q∈p):∃ p'∈ps',q∈p':=by
 induction ps generalizing ps' with
 | nil=>cases h
 | cons a ps ih =>
  match ps',g with
  | b::ps',⟨h1,h2⟩ =>
   rcases List.mem_cons.mp h with e | e
   ·rw[e]at hq;exact ⟨b,List.mem_cons_self,h1 q hq⟩
   ·obtain ⟨p',a1,a2⟩:=ih h2 e
    exact ⟨p',List.mem_cons_of_mem _ a1,a2⟩
theorem sift_in {n:Nat}:∀ {ps ps':List Page} {k:Nat} {x:List Int} {us:List Ent},PgsOk n k ps->PgsOk n k ps'->Grow ps ps'->Lev n k x->In n (zCg ps') (zBn ps k x us).1->In n (zCg ps') x
 | [],ps',k,x,us,_,_,_,_,h=>h
 | p::ps,p'::ps',k,x,us,⟨h1,h2,h3⟩,⟨g1,g2,g3⟩,⟨m1,m2⟩,l,h=>by
  have T:Tab n k (zCg (p'::ps')):=tab_of ⟨g1,g2,g3⟩
  by_cases e:x.getD k 0=(k:Int)
  ·rw[sift_eq e]at h
   have lx:=l.succ h1 e
   have ly:=(sift_stop (us:=us) h3 lx).1
   exact In.up T (sift_in h3 g3 m2 lx (In.down T h ly))
  ·cases q:pget p (x.getD k 0) with
   | none=>rw[sift_no e q]at h;exact h
   | some f =>
    rw[sift_go e q]at h
    obtain ⟨lo,ex⟩:=l.off h2 h1 (pget_some q)
    have ly:=(sift_stop (us:=us++[f]) h3 lo).1
    have:=sift_in h3 g3 m2 lo (In.down T h ly)
    exact ⟨_,f.t,this,List.mem_map.mpr ⟨_,m1 _ (pget_some q),rfl⟩,ex⟩
theorem sift_of_in {n:Nat}:∀ {ps:List Page} {k:Nat} {x:List Int} {us:List Ent},PgsOk n k ps->In n (zCg ps) x->(zBn ps k x us).1=zA6 n
 | [],_,_,_,_,h=>h
 | p::ps,k,x,us,H,h=>by
  obtain ⟨h1,h2,h3⟩:=id H
  have T:Tab n k (zCg (p::ps)):=tab_of H
  have l:=In.lev T h
  by_cases e:x.getD k 0=(k:Int)
  ·rw[sift_eq e]
   exact sift_of_in h3 (In.down T h (l.succ h1 e))
  ·obtain ⟨s,u,hs,hu,ex⟩:=h
   have hs':In n (zCg ps) s:=hs
   obtain ⟨q,hq,eu⟩:=List.mem_map.mp hu
   have eu':q.2.t=u:=eu
   have im:=In.img T hs hu
   rw[<- ex,<- eu',(h2.ent q hq).2.2.2]at im
   have hm:(x.getD k 0,q.2)∈p:=by rw[im];exact hq
   rw[sift_go e (h2.get hm)]
   obtain ⟨lo,ex2⟩:=l.off h2 h1 hm
   have:join x q.2.b=s:=by
    refine join_cancel lo.seat (In.lev (tab_of h3) hs').seat ((h2.ent q hq).2.1.seat) ?_
    rw[<- ex2,ex,<- eu']
   rw[this]
   exact sift_of_in h3 hs'
theorem sift_iff {n:Nat} {ps:List Page} {k:Nat} {x:List Int} {us:List Ent} (h:PgsOk n k ps) (l:Lev n k x):(zBn ps k x us).1=zA6 n↔In n (zCg ps) x :=
 ⟨fun e=>sift_in h h (Grow.refl _) l (by rw[e];exact In.rest (tab_of h)),sift_of_in h⟩

theorem cl_of {n:Nat}:∀ {ps:List Page} {k:Nat},PgsOk n k ps ->
  (∀ p∈ps,∀ q∈p,∀ p'∈ps,∀ q'∈p',q.2.seat<=q'.2.seat->In n (zCg ps) (join q.2.t q'.2.t))->Cl n (zCg ps)
 | [],_,_,_=>trivial
 | p::ps,k,H,h=>by
  obtain ⟨h1,h2,h3⟩:=id H
  have T:Tab n k (zCg (p::ps)):=tab_of H
  have T':Tab n (k+1) (zCg ps):=tab_of h3
  have low:∀ {ps:List Page} {k:Nat},PgsOk n k ps->∀ p'∈ps,∀ q'∈p',k<=q'.2.seat:=by
   intro ps
   induction ps with
   | nil=>intro k _ p' a;cases a
   | cons a ps ih =>
    intro k ⟨_,a2,a3⟩ p' hp' q' hq'
    rcases List.mem_cons.mp hp' with z | z
    ·rw[z]at hq';rw[(a2.ent q' hq').1];exact Nat.le_refl _
    ·have:=ih a3 p' z q' hq';omega
  have lev:∀ p'∈ps,∀ q'∈p',Lev n (k+1) q'.2.t:=fun p' hp' q' hq'=>Mem.lev T' ⟨_,List.mem_map.mpr ⟨p',hp',rfl⟩,List.mem_map.mpr ⟨q',hq',rfl⟩⟩
  refine ⟨fun u hu t ht=>?_,cl_of h3 fun p1 hp1 q1 hq1 p2 hp2 q2 hq2 hs=>?_⟩
  ·obtain ⟨q,hq,eu⟩:=List.mem_map.mp hu
   obtain ⟨r,hr,ht'⟩:=ht
   obtain ⟨p',hp',er⟩:=List.mem_map.mp (show r∈(p::ps).map fun p=>p.map fun q=>q.2.t from hr)
   rw[<- er]at ht'
   obtain ⟨q',hq',et⟩:=List.mem_map.mp ht'
   rw[<- eu,<- et]
   exact h p List.mem_cons_self q hq p' hp' q' hq' (by rw[(h2.ent q hq).1];exact low H p' hp' q' hq')
  ·exact In.down T (h p1 (List.mem_cons_of_mem _ hp1) q1 hq1 p2 (List.mem_cons_of_mem _ hp2) q2 hq2 hs) ((lev p1 hp1 q1 hq1).join (lev p2 hp2 q2 hq2))
end Mth

namespace Mth

inductive Stp where
 | rest | move (k:Nat) | back (i:Nat) | then_ (i j:Nat)
def SVal (n:Nat) (ms vals:List (List Int)) (i:Nat):Stp->List Int->Prop
 | .rest,v=>v=zA6 n
 | .move k,v=>ms[k]?=some v
 | .back a,v=>a < i/\∃ u,vals[a]?=some u/\IsInv u v
 | .then_ a b,v=>a < i/\b < i/\∃ u w,vals[a]?=some u/\vals[b]?=some w/\v=join u w
structure StepsOk (n:Nat) (ms:List (List Int)) (sts:List Stp) (vals:List (List Int)):Prop where
 len:vals.length=sts.length
 val:∀ i s v,sts[i]?=some s->vals[i]?=some v->SVal n ms vals i s v
 seat:∀ v∈vals,Seat n v
theorem get_app {α:Type} {L M:List α} {i:Nat} {v:α} (h:L[i]?=some v):(L++M)[i]?=some v:=by
 rw[List.getElem?_append_left (List.getElem?_eq_some_iff.mp h).1];exact h
theorem get_snoc {α:Type} {L:List α} {v w:α} {i:Nat} (h:(L++[v])[i]?=some w):L[i]?=some w\/(i=L.length/\w=v):=by
 by_cases hi:i < L.length
 ·rw[List.getElem?_append_left hi]at h;exact .inl h
 ·rw[List.getElem?_append_right (by omega)]at h
  have:i-L.length=0:=by
   have:=(List.getElem?_eq_some_iff.mp h).1
   simp at this;omega
  rw[this]at h
  simp at h
  exact .inr ⟨by omega,h.symm⟩
theorem SVal.more {n:Nat} {ms vals more:List (List Int)} {i:Nat} {s:Stp} {v:List Int} (h:SVal n ms vals i s v):SVal n ms (vals++more) i s v:=by
 cases s with
 | rest=>exact h
 | move k=>exact h
 | back a=>obtain ⟨h1,u,h2,h3⟩:=h;exact ⟨h1,u,get_app h2,h3⟩
 | then_ a b=>obtain ⟨h1,h2,u,w,h3,h4,h5⟩:=h;exact ⟨h1,h2,u,w,get_app h3,get_app h4,h5⟩
theorem SVal.moves {n:Nat} {ms ms' vals:List (List Int)} {i:Nat} {s:Stp} {v:List Int} (h:SVal n ms vals i s v):SVal n (ms++ms') vals i s v:=by
 cases s with
 | rest=>exact h
 | move k=>exact get_app h
 | back a=>exact h
 | then_ a b=>exact h
theorem StepsOk.snoc {n:Nat} {ms:List (List Int)} {sts:List Stp} {vals:List (List Int)} (h:StepsOk n ms sts vals) {s:Stp} {v:List Int} (hs:SVal n ms vals sts.length s v) (hv:Seat n v):StepsOk n ms (sts++[s]) (vals++[v]):=by
 refine ⟨by simp [h.len],fun i s' v' h1 h2=>?_,fun w hw=>?_⟩
 ·have el:=h.len
  rcases get_snoc h1 with a | ⟨a,rfl⟩
  ·rcases get_snoc h2 with b | ⟨b,_⟩
   ·exact (h.val i s' v' a b).more
   ·have:=(List.getElem?_eq_some_iff.mp a).1;omega
  ·rcases get_snoc h2 with b | ⟨b,rfl⟩
   ·have:=(List.getElem?_eq_some_iff.mp b).1;omega
   ·rw[a];exact hs.more
 ·rcases List.mem_append.mp hw with z | z
  ·exact h.seat w z
  ·rw[List.mem_singleton.mp z];exact hv
theorem StepsOk.moves {n:Nat} {ms ms':List (List Int)} {sts:List Stp} {vals:List (List Int)} (h:StepsOk n ms sts vals):StepsOk n (ms++ms') sts vals:=⟨h.len,fun i s v a b=>(h.val i s v a b).moves,h.seat⟩

structure Bk where
 n:Nat
 sts:List (Nat × Stp)
 vals:List (List Int)
 pages:List Page
 ents:List Ent
 j:Nat
def total:List Page->Nat
 | []=>0
 | p::ps=>(p.length-1)+total ps
def tri:Nat->Nat
 | 0=>0
 | m+1=>tri m+m
theorem PgOk.len {n k:Nat} {p:Page} (h:PgOk n k p) (hk:k < n):1<=p.length/\p.length<=n-k:=by
 obtain ⟨e,he,_⟩:=h.rst
 refine ⟨List.length_pos_of_mem he,?_⟩
 have sub:∀ z∈p.map (·.1),z∈(zA6 n).drop k:=fun z hz=>by
  obtain ⟨q,hq,rfl⟩:=List.mem_map.mp hz
  obtain ⟨_,l,_,g⟩:=h.ent q hq
  have b:=zCv l.seat hk
  rw[g]at b
  have ge:(k:Int)<=q.1:=by
   refine Classical.byContradiction fun lt=>?_
   have lo:q.1.toNat < k:=by omega
   have e1:=l.low q.1.toNat lo (by omega)
   have:=seat_inj l.seat (i:=q.1.toNat) (j:=k) (by omega) hk (by rw[e1,g];omega)
   omega
  have:(zA6 n)[q.1.toNat]?=some q.1:=by rw[zBc (by omega)];congr 1;omega
  refine List.mem_of_getElem? (i:=q.1.toNat-k) ?_
  rw[List.getElem?_drop,show k+(q.1.toNat-k)=q.1.toNat by omega]
  exact this
 have:=nodup_le h.nd sub
 rw[List.length_map,List.length_drop,zAj]at this
 exact this
theorem total_le {n:Nat}:∀ {ps:List Page} {k:Nat},PgsOk n k ps->total ps<=tri (n-k)/\ps.length=n-k
 | [],k,h=>by
  have hk:k=n:=h
  subst hk
  rw[Nat.sub_self]
  exact ⟨Nat.le_refl _,rfl⟩
 | p::ps,k,⟨h1,h2,h3⟩=>by
  obtain ⟨a,b⟩:=total_le h3
  have c:=(h2.len h1).2
  have e:n-k=(n-(k+1))+1:=by omega
  rw[e]
  show (p.length-1)+total ps<=tri (n-(k+1))+(n-(k+1))/\ps.length+1=_
  omega
theorem tri_le {m:Nat} (h:m<=16):tri m<=120:=by
 have:∀ m,m<=16->tri m<=120:=by decide
 exact this m h
structure Bk.Ok (ms:List (List Int)) (B:Bk):Prop where
 n1:1<=B.n
 n2:B.n<=16
 pgs:PgsOk B.n 0 B.pages
 reach:∀ p∈B.pages,∀ q∈p,Reach B.n ms q.2.t
 ein:∀ e∈B.ents,∃ p∈B.pages,∃ g,(g,e)∈p
 all:∀ p∈B.pages,∀ q∈p,q.1≠(q.2.seat:Int)->q.2∈B.ents
 cnt:B.ents.length=total B.pages
 mvs:∀ m∈ms,Seat B.n m
 stp:StepsOk B.n ms (B.sts.map (·.2)) B.vals
 sn:∀ p∈B.pages,∀ q∈p,B.vals[q.2.sn]?=some q.2.t/\B.vals[q.2.bn]?=some q.2.b
 z0:B.vals[0]?=some (zA6 B.n)
theorem Bk.Ok.few {ms:List (List Int)} {B:Bk} (h:B.Ok ms):B.ents.length<=120:=by
 rw[h.cnt]
 exact Nat.le_trans (total_le h.pgs).1 (tri_le (by have:=h.n2;omega))
theorem Bk.Ok.plen {ms:List (List Int)} {B:Bk} (h:B.Ok ms):B.pages.length=B.n:=by
 have:=(total_le h.pgs).2;omega
theorem Bk.Ok.entLev {ms:List (List Int)} {B:Bk} (h:B.Ok ms) {p:Page} (hp:p∈B.pages) {q:Int × Ent} (hq:q∈p):Seat B.n q.2.t/\IsInv q.2.t q.2.b:=by
 have:∀ {ps:List Page} {k:Nat},PgsOk B.n k ps->p∈ps->Seat B.n q.2.t/\IsInv q.2.t q.2.b:=by
  intro ps
  induction ps with
  | nil=>intro k _ a;cases a
  | cons a ps ih =>
   intro k ⟨_,a2,a3⟩ hm
   rcases List.mem_cons.mp hm with z | z
   ·rw[z]at hq;exact ⟨(a2.ent q hq).2.1.seat,(a2.ent q hq).2.2.1⟩
   ·exact ih a3 z
 exact this h.pgs hp
def Bk.rows (B:Bk):List (List (List Int)):=zCg B.pages
theorem Bk.Ok.tab {ms:List (List Int)} {B:Bk} (h:B.Ok ms):Tab B.n 0 B.rows:=tab_of h.pgs
def Bk.sift (B:Bk) (x:List Int):List Int × List Ent:=zBn B.pages 0 x []
theorem lev0 {n:Nat} {x:List Int} (h:Seat n x):Lev n 0 x:=⟨h,fun i hi=>absurd hi (Nat.not_lt_zero _)⟩
theorem Bk.Ok.moves {ms:List (List Int)} {B:Bk} (h:B.Ok ms) {m:List Int} (hm:Seat B.n m):B.Ok (ms++[m]) where
 n1:=h.n1
 n2:=h.n2
 pgs:=h.pgs
 reach:=fun p hp q hq=>(h.reach p hp q hq).mono fun z hz=>List.mem_append_left _ hz
 ein:=h.ein
 all:=h.all
 cnt:=h.cnt
 mvs:=fun z hz=>by
  rcases List.mem_append.mp hz with a | a
  ·exact h.mvs z a
  ·rw[List.mem_singleton.mp a];exact hm
 stp:=h.stp.moves
 sn:=h.sn
 z0:=h.z0
def Bk.step (B:Bk) (a:Nat × Stp) (v:List Int):Bk:={ B with sts:=B.sts++[a],vals:=B.vals++[v] }
theorem Bk.Ok.step {ms:List (List Int)} {B:Bk} (h:B.Ok ms) {a:Nat × Stp} {v:List Int} (hs:SVal B.n ms B.vals B.sts.length a.2 v) (hv:Seat B.n v):(B.step a v).Ok ms where
 n1:=h.n1
 n2:=h.n2
 pgs:=h.pgs
 reach:=h.reach
 ein:=h.ein
 all:=h.all
 cnt:=h.cnt
 mvs:=h.mvs
 stp:=by
  show StepsOk B.n ms ((B.sts++[a]).map (·.2)) (B.vals++[v])
  rw[List.map_append]
  exact h.stp.snoc (by rw[List.length_map];exact hs) hv
 sn:=fun p hp q hq=>⟨get_app (h.sn p hp q hq).1,get_app (h.sn p hp q hq).2⟩
 z0:=get_app h.z0
def putPg:List Page->Nat->Int × Ent->List Page
 | [],_,_=>[]
 | p::ps,0,q=>(p++[q])::ps
 | p::ps,k+1,q=>p::putPg ps k q
def Bk.put (B:Bk) (e:Ent):Bk:={ B with pages:=putPg B.pages e.seat (e.t.getD e.seat 0,e),ents:=B.ents++[e] }
theorem putPg_grow:∀ (ps:List Page) (k:Nat) (q:Int × Ent),Grow ps (putPg ps k q)
 | [],_,_=>trivial
 | p::ps,0,q=>⟨fun z hz=>List.mem_append_left _ hz,Grow.refl ps⟩
 | p::ps,k+1,q=>⟨fun _ h=>h,putPg_grow ps k q⟩
theorem putPg_mem:∀ {ps:List Page} {k:Nat} {q:Int × Ent} {p:Page},p∈putPg ps k q->∀ z∈p,z=q\/∃ p'∈ps,z∈p'
 | [],_,_,_,h,_,_=>by cases h
 | p::ps,0,q,p',h,z,hz=>by
  rcases List.mem_cons.mp h with e | e
  ·rw[e]at hz
   rcases List.mem_append.mp hz with a | a
   ·exact .inr ⟨p,List.mem_cons_self,a⟩
   ·exact .inl (List.mem_singleton.mp a)
  ·exact .inr ⟨p',List.mem_cons_of_mem _ e,hz⟩
 | p::ps,k+1,q,p',h,z,hz=>by
  rcases List.mem_cons.mp h with e | e
  ·rw[e]at hz;exact .inr ⟨p,List.mem_cons_self,hz⟩
  ·rcases putPg_mem e z hz with a | ⟨p'',a,b⟩
   ·exact .inl a
   ·exact .inr ⟨p'',List.mem_cons_of_mem _ a,b⟩
theorem putPg_has:∀ {ps:List Page} {k:Nat} {q:Int × Ent},k < ps.length->∃ p∈putPg ps k q,q∈p
 | [],_,_,h=>absurd h (Nat.not_lt_zero _)
 | p::ps,0,q,_=>⟨p++[q],List.mem_cons_self,by simp⟩
 | p::ps,k+1,q,h=>by
  obtain ⟨p',a,b⟩:=putPg_has (ps:=ps) (k:=k) (q:=q) (by simpa using h)
  exact ⟨p',List.mem_cons_of_mem _ a,b⟩
theorem putPg_total:∀ {ps:List Page} {k:Nat} {q:Int × Ent},k < ps.length->(∀ p∈ps,1<=p.length)->total (putPg ps k q)=total ps+1
 | [],_,_,h,_=>absurd h (Nat.not_lt_zero _)
 | p::ps,0,q,_,h=>by
  have:=h p List.mem_cons_self
  show ((p++[q]).length-1)+total ps=(p.length-1)+total ps+1
  rw[List.length_append,List.length_singleton]
  omega
 | p::ps,k+1,q,hk,h=>by
  have:=putPg_total (ps:=ps) (k:=k) (q:=q) (by simpa using hk) fun p' hp'=>h p' (List.mem_cons_of_mem _ hp')
  show (p.length-1)+total (putPg ps k q)=(p.length-1)+total ps+1
  omega
theorem PgsOk.put {n:Nat}:∀ {ps:List Page} {k j:Nat} {p:Page} {q:Int × Ent},PgsOk n k ps->ps[j]?=some p->q.2.seat=k+j->Lev n (k+j) q.2.t->IsInv q.2.t q.2.b->q.2.t.getD (k+j) 0=q.1->pget p q.1=none->PgsOk n k (putPg ps j q)
 | [],_,_,_,_,_,h,_,_,_,_,_=>by simp at h
 | p0::ps,k,0,p,q,⟨h1,h2,h3⟩,h,e1,e2,e3,e4,e5=>by
  have:p0=p:=by simpa using h
  subst this
  refine ⟨h1,⟨fun z hz=>?_,?_,?_⟩,h3⟩
  ·rcases List.mem_append.mp hz with a | a
   ·exact h2.ent z a
   ·rw[List.mem_singleton.mp a];exact ⟨e1,e2,e3,e4⟩
  ·rw[List.map_append]
   refine List.nodup_append.mpr ⟨h2.nd,by simp,fun a ha b hb=>?_⟩
   obtain ⟨z,hz,rfl⟩:=List.mem_map.mp ha
   rw[List.mem_singleton.mp hb]
   intro ee
   exact pget_none e5 z.2 (by rw[<- show z.1=q.1 from ee];exact hz)
  ·obtain ⟨e,a,b⟩:=h2.rst
   exact ⟨e,List.mem_append_left _ a,b⟩
 | p0::ps,k,j+1,p,q,⟨h1,h2,h3⟩,h,e1,e2,e3,e4,e5=>by
  refine ⟨h1,h2,PgsOk.put (k:=k+1) (j:=j) h3 (by simpa using h) (by omega) ?_ e3 ?_ e5⟩
  ·rwa [show k+1+j=k+(j+1) by omega]
  ·rwa [show k+1+j=k+(j+1) by omega]
theorem pgs_pos {n:Nat}:∀ {ps:List Page} {k:Nat},PgsOk n k ps->∀ p∈ps,1<=p.length
 | [],_,_,_,h=>by cases h
 | p::ps,k,⟨h1,h2,h3⟩,p',h=>by
  rcases List.mem_cons.mp h with e | e
  ·rw[e];exact (h2.len h1).1
  ·exact pgs_pos h3 p' e
theorem Bk.Ok.put {ms:List (List Int)} {B:Bk} (h:B.Ok ms) {e:Ent} {p:Page} (hp:B.pages[e.seat]?=some p) (hl:Lev B.n e.seat e.t) (hi:IsInv e.t e.b) (hn:¬ e.t.getD e.seat 0=(e.seat:Int)) (hg:pget p (e.t.getD e.seat 0)=none)
  (hr:Reach B.n ms e.t) (hs:B.vals[e.sn]?=some e.t) (hb:B.vals[e.bn]?=some e.b):(B.put e).Ok ms/\Grow B.pages (B.put e).pages:=by
 have hk:e.seat < B.pages.length:=(List.getElem?_eq_some_iff.mp hp).1
 refine ⟨⟨h.n1,h.n2,?_,fun p' hp' q hq=>?_,fun f hf=>?_,fun p' hp' q hq ne=>?_,?_,h.mvs,h.stp,fun p' hp' q hq=>?_,h.z0⟩,putPg_grow _ _ _⟩
 ·exact PgsOk.put (n:=B.n) (k:=0) (q:=(e.t.getD e.seat 0,e)) h.pgs hp (by simp) (by rw[Nat.zero_add];exact hl) hi (by rw[Nat.zero_add]) hg
 ·rcases putPg_mem hp' q hq with a | ⟨p'',a,b⟩
  ·rw[a];exact hr
  ·exact h.reach p'' a q b
 ·rcases List.mem_append.mp hf with a | a
  ·obtain ⟨p',b,g,c⟩:=h.ein f a
   obtain ⟨p'',d1,d2⟩:=(putPg_grow B.pages e.seat (e.t.getD e.seat 0,e)).mem b c
   exact ⟨p'',d1,g,d2⟩
  ·rw[List.mem_singleton.mp a]
   obtain ⟨p',b,c⟩:=putPg_has (q:=(e.t.getD e.seat 0,e)) hk
   exact ⟨p',b,_,c⟩
 ·rcases putPg_mem hp' q hq with a | ⟨p'',a,b⟩
  ·rw[a];exact List.mem_append_right _ (List.mem_singleton.mpr rfl)
  ·exact List.mem_append_left _ (h.all p'' a q b ne)
 ·show (B.ents++[e]).length=total (putPg B.pages e.seat (e.t.getD e.seat 0,e))
  rw[putPg_total hk (pgs_pos h.pgs),List.length_append,h.cnt]
  rfl
 ·rcases putPg_mem hp' q hq with a | ⟨p'',a,b⟩
  ·rw[a];exact ⟨hs,hb⟩
  ·exact h.sn p'' a q b

def Bk.Pairs (B:Bk) (j i:Nat):Prop:=∀ a b e f,((a < j/\b < j)\/(a=j/\b < i)\/(a < i/\b=j))->B.ents[a]?=some e->B.ents[b]?=some f->e.seat<=f.seat->In B.n B.rows (join e.t f.t)
structure Bk.More (B B':Bk):Prop where
 n:B'.n=B.n
 pages:Grow B.pages B'.pages
 ents:∃ more,B'.ents=B.ents++more
 j:B'.j=B.j
theorem Bk.More.refl (B:Bk):B.More B:=⟨rfl,Grow.refl _,⟨[],by simp⟩,rfl⟩
theorem Bk.More.trans {B B' B'':Bk} (h:B.More B') (g:B'.More B''):B.More B'':=by
 obtain ⟨m,e⟩:=h.ents
 obtain ⟨m',e'⟩:=g.ents
 exact ⟨g.n.trans h.n,h.pages.trans g.pages,⟨m++m',by rw[e',e,List.append_assoc]⟩,g.j.trans h.j⟩
theorem Bk.More.in_ {B B':Bk} (h:B.More B') {x:List Int} (hx:In B.n B.rows x):In B'.n B'.rows x:=by rw[h.n];exact h.pages.in_ hx
theorem Bk.More.pairs {B B':Bk} (h:B.More B') {j i:Nat} (hj:j < B.ents.length\/i=0/\j<=B.ents.length) (hi:i<=j+1) (hp:B.Pairs j i):B'.Pairs j i:=by
 intro a b e f hab ha hb hs
 obtain ⟨more,em⟩:=h.ents
 rw[em]at ha hb
 have la:a < B.ents.length:=by omega
 have lb:b < B.ents.length:=by omega
 rw[List.getElem?_append_left la]at ha
 rw[List.getElem?_append_left lb]at hb
 exact h.in_ (hp a b e f hab ha hb hs)
structure Bk.Full (ms:List (List Int)) (B:Bk):Prop where
 ok:B.Ok ms
 all:B.j=B.ents.length
 prs:B.Pairs B.j 0
 mv:∀ m∈ms,In B.n B.rows m
 few:B.sts.length<=1+17*B.ents.length
theorem Bk.Full.cl {ms:List (List Int)} {B:Bk} (h:B.Full ms):Cl B.n B.rows:=by
 refine cl_of h.ok.pgs fun p hp q hq p' hp' q' hq' hs=>?_
 have T:=h.ok.tab
 have s1:=(h.ok.entLev hp hq).1
 have s2:=(h.ok.entLev hp' hq').1
 have mem:∀ p∈B.pages,∀ q∈p,Mem B.rows q.2.t:=fun p hp q hq=>⟨_,List.mem_map.mpr ⟨p,hp,rfl⟩,List.mem_map.mpr ⟨q,hq,rfl⟩⟩
 have rst:∀ p∈B.pages,∀ q∈p,q.1=(q.2.seat:Int)->q.2.t=zA6 B.n:=by
  intro p hp q hq e
  have:∀ {ps:List Page} {k:Nat},PgsOk B.n k ps->p∈ps->q.2.t=zA6 B.n:=by
   intro ps
   induction ps with
   | nil=>intro k _ a;cases a
   | cons a ps ih =>
    intro k ⟨_,a2,a3⟩ hm
    rcases List.mem_cons.mp hm with z | z
    ·rw[z]at hq
     obtain ⟨f,hf,et⟩:=a2.rst
     have:q.2=f:=a2.one (g:=q.1) hq (by rw[e,(a2.ent q hq).1];exact hf)
     rw[this];exact et
    ·exact ih a3 z
  exact this h.ok.pgs hp
 by_cases e1:q.1=(q.2.seat:Int)
 ·rw[rst p hp q hq e1,rest_join s2];exact Mem.in_ T (mem p' hp' q' hq')
 by_cases e2:q'.1=(q'.2.seat:Int)
 ·rw[rst p' hp' q' hq' e2,zC3 s1];exact Mem.in_ T (mem p hp q hq)
 obtain ⟨a,ha⟩:=List.mem_iff_getElem?.mp (h.ok.all p hp q hq e1)
 obtain ⟨b,hb⟩:=List.mem_iff_getElem?.mp (h.ok.all p' hp' q' hq' e2)
 have la:=(List.getElem?_eq_some_iff.mp ha).1
 have lb:=(List.getElem?_eq_some_iff.mp hb).1
 exact h.prs a b _ _ (.inl ⟨by rw[h.all];exact la,by rw[h.all];exact lb⟩) ha hb hs
theorem Bk.Full.iff {ms:List (List Int)} {B:Bk} (h:B.Full ms) (x:List Int):In B.n B.rows x↔Reach B.n ms x:=by
 refine table_iff' h.ok.tab h.cl h.mv (fun t ⟨r,hr,ht⟩=>?_) x
 obtain ⟨p,hp,rfl⟩:=List.mem_map.mp hr
 obtain ⟨q,hq,rfl⟩:=List.mem_map.mp ht
 exact h.ok.reach p hp q hq
theorem Bk.Ok.sift {ms:List (List Int)} {B:Bk} (h:B.Ok ms) {x:List Int} (hx:Seat B.n x):(B.sift x).1=zA6 B.n↔In B.n B.rows x:=sift_iff h.pgs (lev0 hx)
theorem Bk.Ok.stop {ms:List (List Int)} {B:Bk} (h:B.Ok ms) {x:List Int} (hx:Seat B.n x) (hn:¬ (B.sift x).1=zA6 B.n) :
  ∃ (k:Nat) (p:Page),k < B.n/\B.pages[k]?=some p/\Lev B.n k (B.sift x).1/\¬ (B.sift x).1.getD k 0=(k:Int)/\pget p ((B.sift x).1.getD k 0)=none/\(B.sift x).2.length<=k:=by
 obtain ⟨_,ws,e,_,_,q⟩:=sift_stop (us:=[]) h.pgs (lev0 hx)
 rcases q with q | ⟨j,p,a,b,c,d,m⟩
 ·exact absurd q hn
 ·rw[Nat.zero_add]at b c d
  refine ⟨j,p,?_,a,b,c,d,?_⟩
  ·rw[<- h.plen];exact (List.getElem?_eq_some_iff.mp a).1
  ·show (zBn B.pages 0 x []).2.length<=j
   rw[e];simpa using m
theorem Bk.Ok.used {ms:List (List Int)} {B:Bk} (h:B.Ok ms) {x:List Int} (hx:Seat B.n x):Seat B.n (B.sift x).1/\(∀ e∈(B.sift x).2,∃ p∈B.pages,∃ g,(g,e)∈p)/\(B.sift x).1=(B.sift x).2.foldl (fun z e=>join z e.b) x:=by
 obtain ⟨l,ws,e,a,b,_⟩:=sift_stop (us:=[]) h.pgs (lev0 hx)
 have e':(zBn B.pages 0 x []).2=ws:=by rw[e];simp
 refine ⟨l.seat,fun f hf=>?_,?_⟩
 ·have:f∈(zBn B.pages 0 x []).2:=hf
  rw[e']at this;exact a f this
 ·show (zBn B.pages 0 x []).1=(zBn B.pages 0 x []).2.foldl _ x
  rw[e',b]
theorem Bk.Ok.now {ms:List (List Int)} {B B':Bk} (h:B.Ok ms) (h':B'.Ok ms) (g:B.More B') {x:List Int} (hx:Seat B.n x) {p:Page} (hp:p∈B'.pages) {q:Int × Ent} (hq:q∈p) (e:q.2.t=(B.sift x).1):In B'.n B'.rows x:=by
 have hp':PgsOk B.n 0 B'.pages:=by have:=h'.pgs;rwa [g.n]at this
 rw[g.n]
 refine sift_in (us:=[]) h.pgs hp' g.pages (lev0 hx) ?_
 have:Mem (zCg B'.pages) q.2.t:=⟨_,List.mem_map.mpr ⟨p,hp,rfl⟩,List.mem_map.mpr ⟨q,hq,rfl⟩⟩
 rw[e]at this
 exact Mem.in_ (tab_of hp') this
end Mth

namespace Mth
theorem pgs_at {n:Nat}:∀ {ps:List Page} {k i:Nat} {p:Page},PgsOk n k ps->ps[i]?=some p->PgOk n (k+i) p/\k+i < n
 | [],_,_,_,_,h=>by simp at h
 | p0::ps,k,0,p,⟨h1,h2,_⟩,h=>by
  have:p0=p:=by simpa using h
  subst this
  exact ⟨h2,h1⟩
 | p0::ps,k,i+1,p,⟨_,_,h3⟩,h=>by
  have:=pgs_at (k:=k+1) (i:=i) h3 (by simpa using h)
  rwa [show k+1+i=k+(i+1) by omega]at this
theorem inv_rest (n:Nat):IsInv (zA6 n) (zA6 n):=by
 refine ⟨rfl,fun i z h=>?_⟩
 have hi:i < n:=by have:=(List.getElem?_eq_some_iff.mp h).1;rwa [zAj]at this
 rw[zBc hi]at h
 cases h
 rw[Int.toNat_natCast]
 exact zBc hi
def Page0 (n k:Nat) (p:Page):Prop:=∃ e:Ent,p=[((k:Int),e)]/\e.seat=k/\e.t=zA6 n/\IsInv e.t e.b/\e.sn=0/\e.bn=0
theorem pgs_new {n:Nat}:∀ {ps:List Page} {k:Nat},(∀ i p,ps[i]?=some p->Page0 n (k+i) p)->k+ps.length=n->PgsOk n k ps/\total ps=0
 | [],k,_,h=>⟨by show k=n;simpa using h,rfl⟩
 | p::ps,k,h,hl=>by
  obtain ⟨a,b⟩:=pgs_new (ps:=ps) (k:=k+1) (fun i q hq=>by
   have:=h (i+1) q (by simpa using hq)
   rwa [show k+(i+1)=k+1+i by omega]at this) (by rw[List.length_cons]at hl;omega)
  obtain ⟨e,rfl,e1,e2,e3,e4,e5⟩:=h 0 p rfl
  have hk:k < n:=by rw[List.length_cons]at hl;omega
  refine ⟨⟨hk,⟨fun q hq=>?_,by simp,⟨e,by simp,e2⟩⟩,a⟩,?_⟩
  ·rw[List.mem_singleton.mp hq]
   exact ⟨e1,by show Lev n k e.t;rw[e2];exact Lev.rest n k,e3,by show e.t.getD k 0=_;rw[e2,rest_at hk];simp⟩
  ·show (1-1)+total ps=0
   rw[b]
theorem Bk.new {n a:Nat} {ps:List Page} (n1:1<=n) (n2:n<=16) (hl:ps.length=n) (h:∀ i p,ps[i]?=some p->Page0 n i p):Bk.Full [] ⟨n,[(a,.rest)],[zA6 n],ps,[],0⟩:=by
 obtain ⟨h1,h2⟩:=pgs_new (n:=n) (ps:=ps) (k:=0) (fun i p hp=>by rw[Nat.zero_add];exact h i p hp) (by omega)
 have one:∀ p∈ps,∀ q∈p,q.2.t=zA6 n/\q.2.b=zA6 n/\q.2.sn=0/\q.2.bn=0/\q.1=(q.2.seat:Int):=fun p hp q hq=>by
  obtain ⟨i,hi⟩:=List.mem_iff_getElem?.mp hp
  obtain ⟨e,rfl,e1,e2,e3,e4,e5⟩:=h i p hi
  rw[List.mem_singleton.mp hq]
  refine ⟨e2,?_,e4,e5,by rw[e1]⟩
  rw[e2]at e3
  exact IsInv.unique (zAl n) e3 (inv_rest n)
 refine ⟨⟨n1,n2,h1,fun p hp q hq=>?_,fun e he=>absurd he (by simp),fun p hp q hq ne=>absurd (one p hp q hq).2.2.2.2 ne,h2.symm,fun m hm=>absurd hm (by simp),⟨rfl,fun i s v hs hv=>?_,fun v hv=>?_⟩,fun p hp q hq=>?_,rfl⟩,rfl,fun a b e f _ ha=>?_,fun m hm=>absurd hm (by simp),by show 1<=1+17*0;omega⟩
 ·show Reach n [] q.2.t
  rw[(one p hp q hq).1];exact .rest
 ·have:i=0:=by have:=(List.getElem?_eq_some_iff.mp hv).1;simpa using this
  subst this
  have e1:Stp.rest=s:=by simpa using hs
  have e2:zA6 n=v:=by simpa using hv
  rw[<- e1,<- e2]
  rfl
 ·rw[List.mem_singleton.mp hv];exact zAl n
 ·obtain ⟨a1,a2,a3,a4,_⟩:=one p hp q hq
  show [zA6 n][q.2.sn]?=some q.2.t/\[zA6 n][q.2.bn]?=some q.2.b
  rw[a1,a2,a3,a4]
  exact ⟨rfl,rfl⟩
 ·have:([]:List Ent)[a]?=some e:=ha
  simp at this
end Mth

namespace Mth
def fact:Nat->Nat
 | 0=>1
 | n+1=>(n+1)*fact n
theorem nodup_sub {α:Type} [DecidableEq α]:∀ {L M:List α},L.Nodup->(∀ z∈L,z∈M)->L.length<=M.length
 | [],_,_,_=>Nat.zero_le _
 | x::L,M,h,hs=>by
  obtain ⟨h1,h2⟩:=List.nodup_cons.mp h
  have hx:x∈M:=hs x List.mem_cons_self
  have:=nodup_sub (L:=L) (M:=M.erase x) h2 fun z hz=>by
   have ne:z≠x:=fun e=>h1 (by rw[<- e];exact hz)
   exact (List.mem_erase_of_ne ne).mpr (hs z (List.mem_cons_of_mem _ hz))
  have hp:=List.length_pos_of_mem hx
  rw[List.length_erase_of_mem hx]at this
  rw[List.length_cons]
  omega
def inserts (a:Int) (ys:List Int):List (List Int):=(List.range (ys.length+1)).map fun i=>ys.take i++a::ys.drop i
def permsOf:List Int->List (List Int)
 | []=>[[]]
 | a::L=>(permsOf L).flatMap (inserts a)
theorem mem_perms:∀ {L x:List Int},x.Perm L->x∈permsOf L
 | [],x,h=>by rw[h.eq_nil];exact List.mem_singleton.mpr rfl
 | a::L,x,h=>by
  have ha:a∈x:=h.mem_iff.mpr List.mem_cons_self
  obtain ⟨l1,l2,rfl⟩:=List.append_of_mem ha
  have hp:(l1++l2).Perm L:=(List.perm_cons a).mp ((List.perm_middle.symm).trans h)
  refine List.mem_flatMap.mpr ⟨_,mem_perms hp,List.mem_map.mpr ⟨l1.length,List.mem_range.mpr (by rw[List.length_append];omega),?_⟩⟩
  rw[List.take_left,List.drop_left]
theorem perms_len:∀ (L:List Int),(permsOf L).length=fact L.length/\∀ x∈permsOf L,x.length=L.length
 | []=>⟨rfl,fun x hx=>by rw[List.mem_singleton.mp hx]⟩
 | a::L=>by
  obtain ⟨h1,h2⟩:=perms_len L
  constructor
  ·show ((permsOf L).flatMap (inserts a)).length=(L.length+1)*fact L.length
   rw[List.length_flatMap,<- h1]
   have:∀ M:List (List Int),(∀ x∈M,x.length=L.length)->(M.map fun x=>(inserts a x).length).sum=(L.length+1)*M.length:=by
    intro M
    induction M with
    | nil=>intro _;rfl
    | cons y M ih =>
     intro h
     rw[List.map_cons,List.sum_cons,ih fun x hx=>h x (List.mem_cons_of_mem _ hx),List.length_cons,Nat.mul_succ]
     have:(inserts a y).length=L.length+1:=by unfold inserts;rw[List.length_map,List.length_range,h y List.mem_cons_self]
     omega
   exact this _ h2
  ·intro x hx
   obtain ⟨y,hy,hx'⟩:=List.mem_flatMap.mp hx
   obtain ⟨i,hi,rfl⟩:=List.mem_map.mp hx'
   rw[List.length_append,List.length_cons,List.length_take,List.length_drop,List.length_cons,<- h2 y hy]
   have:=List.mem_range.mp hi
   omega
theorem seats_le {n:Nat} {F:List (List Int)} (h:F.Nodup) (hs:∀ x∈F,Seat n x):F.length<=fact n:=by
 have:=nodup_sub h fun z hz=>mem_perms (hs z hz)
 rw[(perms_len (zA6 n)).1,zAj]at this
 exact this
end Mth

namespace Mth

def Stp.parts:Stp->List Nat
 | .rest=>[]
 | .move _=>[]
 | .back a=>[a]
 | .then_ a b=>[a,b]
theorem SVal.lt {n:Nat} {ms vals:List (List Int)} {i:Nat} {s:Stp} {v:List Int} (h:SVal n ms vals i s v):∀ p∈s.parts,p < i:=by
 intro p hp
 cases s with
 | rest=>cases hp
 | move k=>cases hp
 | back a=>rw[List.mem_singleton.mp hp];exact h.1
 | then_ a b =>
  rcases List.mem_cons.mp hp with e | e
  ·rw[e];exact h.1
  ·rw[List.mem_singleton.mp e];exact h.2.1
end Mth

namespace Mth

structure RowOk (n k:Nat) (row:List (List Int)):Prop where
 lev:∀ t∈row,Lev n k t
 rst:zA6 n∈row
 up:(row.map fun t=>t.getD k 0).Pairwise (· < ·)
structure TabOk (n:Nat) (rows:List (List (List Int))):Prop where
 len:rows.length=n
 row:∀ (k:Nat) (row:List (List Int)),rows[k]?=some row->RowOk n k row
theorem RowOk.one {k:Nat}:∀ {row:List (List Int)},(row.map fun t=>t.getD k 0).Pairwise (· < ·)->∀ u∈row,∀ v∈row,u.getD k 0=v.getD k 0->u=v
 | [],_,u,hu,_,_,_=>by cases hu
 | r::row,h,u,hu,v,hv,e=>by
  rw[List.map_cons,List.pairwise_cons]at h
  rcases List.mem_cons.mp hu with a | a <;> rcases List.mem_cons.mp hv with b | b
  ·rw[a,b]
  ·have:=h.1 _ (List.mem_map.mpr ⟨v,b,rfl⟩)
   rw[a]at e
   rw[e]at this
   exact absurd this (by omega)
  ·have:=h.1 _ (List.mem_map.mpr ⟨u,a,rfl⟩)
   rw[b]at e
   rw[e]at this
   exact absurd this (by omega)
  ·exact RowOk.one h.2 u a v b e
theorem Tab.drop {n:Nat}:∀ {rows:List (List (List Int))} {k:Nat} (i:Nat),Tab n k rows->i<=rows.length->Tab n (k+i) (rows.drop i)
 | rows,k,0,h,_=>h
 | [],k,i+1,h,hi=>absurd hi (by simp)
 | r::rows,k,i+1,⟨_,_,_,_,h⟩,hi=>by
  have:=Tab.drop i h (by simpa using hi)
  rwa [show k+1+i=k+(i+1) by omega]at this
theorem In.none {n k:Nat} {r:List (List Int)} {ts:List (List (List Int))} {x:List Int} (T:Tab n k (r::ts)) (h:∀ u∈r,¬ u.getD k 0=x.getD k 0):¬ In n (r::ts) x:=by
 rintro ⟨s,u,hs,hu,e⟩
 have q:=In.img T hs hu
 rw[<- e]at q
 exact h u hu q.symm
end Mth

namespace Mth

def szs:List Page->Nat
 | []=>1
 | p::ps=>p.length*szs ps
theorem szs_pos {n:Nat}:∀ {ps:List Page} {k:Nat},PgsOk n k ps->0 < szs ps
 | [],_,_=>Nat.one_pos
 | p::ps,k,⟨h1,h2,h3⟩=>Nat.mul_pos (h2.len h1).1 (szs_pos h3)
def endsOf (p:Page) (c:List Int):List Int:=p.map fun q=>c.getD q.1.toNat 0
structure Srt (L es:List Int):Prop where
 perm:es.Perm L
 up:es.Pairwise (·<=·)
def Num:List Page->List Int->Nat->List Int->Prop
 | [],c,m,x=>m=0/\x=c
 | p::ps,c,m,x=>∃ g e es,(g,e)∈p/\Srt (endsOf p c) es/\es[m / szs ps]?=some (c.getD g.toNat 0)/\Num ps (join e.t c) (m % szs ps) x
theorem PgOk.key {n k:Nat} {p:Page} (h:PgOk n k p) (hk:k < n) {q:Int × Ent} (hq:q∈p):(k:Int)<=q.1/\q.1 < n:=by
 obtain ⟨_,l,_,e⟩:=h.ent q hq
 have b:=zCv l.seat hk
 rw[e]at b
 refine ⟨?_,b.2⟩
 by_cases z:(k:Int)<=q.1
 ·exact z
 ·exfalso
  have h1:=l.low q.1.toNat (by omega) (by omega)
  rw[<- e]at h1
  have h2:((q.2.t.getD k 0).toNat:Int)=q.2.t.getD k 0:=by rw[e];omega
  rw[h2]at h1
  have:=seat_inj l.seat (by rw[e];omega) hk h1
  rw[e]at this
  omega
theorem PgOk.end_inj {n k:Nat} {p:Page} (h:PgOk n k p) (hk:k < n) {c:List Int} (hc:Seat n c) {q q':Int × Ent} (h1:q∈p) (h2:q'∈p) (e:c.getD q.1.toNat 0=c.getD q'.1.toNat 0):q=q':=by
 have a:=h.key hk h1
 have b:=h.key hk h2
 have s:=seat_inj hc (by omega) (by omega) e
 have e1:q.1=q'.1:=by omega
 have e2:q.2=q'.2:=h.one (g:=q.1) h1 (by rw[e1];exact h2)
 exact Prod.ext e1 e2
theorem PgOk.ends_nodup {n k:Nat} {p:Page} (h:PgOk n k p) (hk:k < n) {c:List Int} (hc:Seat n c):(endsOf p c).Nodup:=by
 refine List.pairwise_map.mpr ((List.pairwise_map.mp h.nd).imp_of_mem fun {a b} ha hb ne e=>ne ?_)
 rw[h.end_inj hk hc ha hb e]
theorem Srt.lt {L es:List Int} (h:Srt L es) (nd:L.Nodup):es.Pairwise (· < ·):=by
 have d:es.Pairwise (·≠·):=(h.perm.nodup_iff).mpr nd
 exact (h.up.and d).imp fun {a b} ⟨x,y⟩=>by omega
theorem Srt.unique {L es es':List Int} (h:Srt L es) (h':Srt L es'):es=es':=sorted_unique (h.perm.trans h'.perm.symm) h.up h'.up
theorem cnt_lt:∀ {es:List Int} {i:Nat} {v:Int},es.Pairwise (· < ·)->es[i]?=some v->(es.filter fun z=>decide (z < v)).length=i
 | [],i,v,_,h=>by simp at h
 | a::es,0,v,hp,h=>by
  obtain rfl:a=v:=by simpa using h
  rw[List.pairwise_cons]at hp
  rw[List.filter_eq_nil_iff.mpr fun z hz=>?_]
  ·rfl
  ·rcases List.mem_cons.mp hz with e | e
   ·simp [e]
   ·have:=hp.1 z e
    simp
    omega
 | a::es,i+1,v,hp,h=>by
  rw[List.pairwise_cons]at hp
  have h':es[i]?=some v:=by simpa using h
  have:=hp.1 v (List.mem_of_getElem? h')
  rw[List.filter_cons_of_pos (by simpa using this),List.length_cons,cnt_lt hp.2 h']
theorem Srt.cnt {L es:List Int} (h:Srt L es) (nd:L.Nodup) {i:Nat} {v:Int} (e:es[i]?=some v):(L.filter fun z=>decide (z < v)).length=i:=by
 rw[<- cnt_lt (h.lt nd) e]
 exact ((h.perm.filter _).length_eq).symm
theorem lt_at:∀ {es:List Int} {i j:Nat} {v w:Int},es.Pairwise (· < ·)->es[i]?=some v->es[j]?=some w->i < j->v < w
 | es,i,j,v,w,hp,h1,h2,h=>by
  obtain ⟨a1,a2⟩:=List.getElem?_eq_some_iff.mp h1
  obtain ⟨b1,b2⟩:=List.getElem?_eq_some_iff.mp h2
  have:=List.pairwise_iff_getElem.mp hp i j a1 b1 h
  rw[a2,b2]at this
  exact this
theorem Num.in_ {n:Nat}:∀ {ps:List Page} {k m:Nat} {c x:List Int},PgsOk n k ps->Seat n c->Num ps c m x->∃ s,In n (zCg ps) s/\x=join s c
 | [],k,m,c,x,_,hc,⟨_,e⟩=>⟨zA6 n,rfl,by rw[e,rest_join hc]⟩
 | p::ps,k,m,c,x,⟨h1,h2,h3⟩,hc,⟨g,e,es,he,_,_,hn⟩=>by
  have l:=(h2.ent _ he).2.1
  obtain ⟨s,hs,ex⟩:=Num.in_ h3 (zAk l.seat hc) hn
  have ls:=In.lev (tab_of h3) hs
  refine ⟨join s e.t,⟨s,e.t,hs,List.mem_map.mpr ⟨_,he,rfl⟩,rfl⟩,?_⟩
  rw[ex,zBd ls.seat l.seat hc]
theorem Num.img {n:Nat} {p:Page} {ps:List Page} {k m:Nat} {c x:List Int} (h:PgsOk n k (p::ps)) (hc:Seat n c) {g:Int} {e:Ent} (he:(g,e)∈p) (hn:Num ps (join e.t c) m x):x.getD k 0=c.getD g.toNat 0:=by
 obtain ⟨h1,h2,h3⟩:=h
 obtain ⟨_,l,_,eg⟩:=h2.ent _ he
 obtain ⟨s,hs,ex⟩:=Num.in_ h3 (zAk l.seat hc) hn
 have ls:=In.lev (tab_of h3) hs
 rw[ex,zBb ls.seat h1,ls.low k (by omega) h1,Int.toNat_natCast,zBb l.seat h1]
 show c.getD (e.t.getD k 0).toNat 0=_
 rw[show e.t.getD k 0=g from eg]
theorem Num.low {n:Nat} {ps:List Page} {k m:Nat} {c x:List Int} (h:PgsOk n k ps) (hc:Seat n c) (hn:Num ps c m x) {i:Nat} (hi:i < k) (hin:i < n):x.getD i 0=c.getD i 0:=by
 obtain ⟨s,hs,ex⟩:=Num.in_ h hc hn
 have ls:=In.lev (tab_of h) hs
 rw[ex,zBb ls.seat hin,ls.low i hi hin,Int.toNat_natCast]
theorem Num.less {n:Nat}:∀ {ps:List Page} {k m m':Nat} {c x x':List Int},PgsOk n k ps->Seat n c->Num ps c m x->Num ps c m' x'->m < m'->∃ j,k<=j/\j < n/\(∀ i,i < j->x.getD i 0=x'.getD i 0)/\x.getD j 0 < x'.getD j 0
 | [],k,m,m',c,x,x',_,_,⟨e,_⟩,⟨e',_⟩,h=>by omega
 | p::ps,k,m,m',c,x,x',H,hc,⟨g,e,es,he,hs,ha,hn⟩,⟨g',e',es',he',hs',ha',hn'⟩,h=>by
  obtain ⟨h1,h2,h3⟩:=H
  obtain rfl:=hs.unique hs'
  have nd:=h2.ends_nodup h1 hc
  have i1:=Num.img ⟨h1,h2,h3⟩ hc he hn
  have i2:=Num.img ⟨h1,h2,h3⟩ hc he' hn'
  have l:=(h2.ent _ he).2.1
  have l':=(h2.ent _ he').2.1
  by_cases q:m / szs ps=m' / szs ps
  ·rw[q,ha']at ha
   have eq:=h2.end_inj h1 hc he' he (Option.some.inj ha)
   obtain rfl:e'=e:=(Prod.mk.inj eq).2
   have lt:m % szs ps < m' % szs ps:=by
    have a:=Nat.div_add_mod m (szs ps)
    have b:=Nat.div_add_mod m' (szs ps)
    rw[q]at a
    omega
   obtain ⟨j,j1,j2,j3,j4⟩:=Num.less h3 (zAk l.seat hc) hn hn' lt
   exact ⟨j,by omega,j2,j3,j4⟩
  ·have lt:m / szs ps < m' / szs ps:=by
    have:=Nat.div_le_div_right (c:=szs ps) (Nat.le_of_lt h)
    omega
   refine ⟨k,Nat.le_refl _,h1,fun i hi=>?_,?_⟩
   ·have z1:=Num.low h3 (zAk l.seat hc) hn (i:=i) (by omega) (by omega)
    have z2:=Num.low h3 (zAk l'.seat hc) hn' (i:=i) (by omega) (by omega)
    rw[z1,z2,zBb l.seat (by omega),zBb l'.seat (by omega),l.low i hi (by omega),l'.low i hi (by omega)]
   ·rw[i1,i2]
    exact lt_at (hs.lt nd) ha ha' lt
theorem Num.pick {n:Nat} {p:Page} {ps:List Page} {k m:Nat} {c:List Int} (h:PgsOk n k (p::ps)) (hc:Seat n c) (hm:m < szs (p::ps)) {es:List Int} (hs:Srt (endsOf p c) es) :
  m / szs ps < es.length/\m % szs ps < szs ps/\∀ v,es[m / szs ps]?=some v->∃ g e,(g,e)∈p/\c[g.toNat]?=some v/\0<=g/\g < n/\pget p g=some e/\Seat n (join e.t c)/\∀ x,Num ps (join e.t c) (m % szs ps) x->Num (p::ps) c m x:=by
 obtain ⟨h1,h2,h3⟩:=h
 have pos:=szs_pos h3
 refine ⟨?_,Nat.mod_lt _ pos,fun v hv=>?_⟩
 ·rw[hs.perm.length_eq]
  unfold endsOf
  rw[List.length_map]
  exact (Nat.div_lt_iff_lt_mul pos).mpr hm
 ·obtain ⟨q,hq,eq⟩:=List.mem_map.mp (hs.perm.mem_iff.mp (List.mem_of_getElem? hv))
  have b:=h2.key h1 hq
  refine ⟨q.1,q.2,hq,?_,by omega,b.2,h2.get hq,zAk (h2.ent q hq).2.1.seat hc,fun x hx=>⟨q.1,q.2,es,hq,hs,?_,hx⟩⟩
  ·rw[getD_at hc (by omega)]
   exact congrArg some eq
  ·rw[hv]
   exact congrArg some eq.symm
theorem PgsOk.drop {n:Nat}:∀ {ps:List Page} {k:Nat} (i:Nat),PgsOk n k ps->i<=ps.length->PgsOk n (k+i) (ps.drop i)
 | ps,k,0,h,_=>h
 | [],k,i+1,h,hi=>absurd hi (by simp)
 | p::ps,k,i+1,⟨_,_,h⟩,hi=>by
  have:=PgsOk.drop i h (by simpa using hi)
  rwa [show k+1+i=k+(i+1) by omega]at this
theorem Num.seat {n:Nat} {ps:List Page} {k m:Nat} {c x:List Int} (h:PgsOk n k ps) (hc:Seat n c) (hn:Num ps c m x):Seat n x:=by
 obtain ⟨s,hs,ex⟩:=Num.in_ h hc hn
 rw[ex]
 exact zAk (In.lev (tab_of h) hs).seat hc
end Mth

namespace Mth

def val:List Int->Int
 | []=>0
 | a::x=>a*16 ^ x.length+val x
def Dig (x:List Int):Prop:=∀ z∈x,0<=z/\z < 16
theorem Dig.tail {a:Int} {x:List Int} (h:Dig (a::x)):Dig x:=fun z hz=>h z (List.mem_cons_of_mem _ hz)
theorem sort_ex:∀ (L:List Int),∃ es,Srt L es
 | []=>⟨[],.nil,.nil⟩
 | a::L=>by
  obtain ⟨es,h1,h2⟩:=sort_ex L
  have ins:∀ (es:List Int),es.Pairwise (·<=·)->∃ fs:List Int,fs.Perm (a::es)/\fs.Pairwise (·<=·):=by
   intro es
   induction es with
   | nil=>intro _;exact ⟨[a],.refl _,List.pairwise_singleton _ _⟩
   | cons b es ih =>
    intro hp
    rw[List.pairwise_cons]at hp
    by_cases h:a<=b
    ·exact ⟨a::b::es,.refl _,List.pairwise_cons.mpr ⟨fun z hz=>by
      rcases List.mem_cons.mp hz with e | e
      ·rw[e];exact h
      ·have:=hp.1 z e;omega,List.pairwise_cons.mpr hp⟩⟩
    ·obtain ⟨fs,f1,f2⟩:=ih hp.2
     refine ⟨b::fs,(f1.cons b).trans (List.Perm.swap a b es),List.pairwise_cons.mpr ⟨fun z hz=>?_,f2⟩⟩
     rcases List.mem_cons.mp (f1.mem_iff.mp hz) with e | e
     ·rw[e];omega
     ·exact hp.1 z e
  obtain ⟨fs,f1,f2⟩:=ins es h2
  exact ⟨fs,f1.trans (h1.cons a),f2⟩
theorem Num.ex {n:Nat}:∀ {ps:List Page} {k m:Nat} {c:List Int},PgsOk n k ps->Seat n c->m < szs ps->∃ x,Num ps c m x
 | [],k,m,c,_,_,hm=>⟨c,by simp only[szs]at hm;omega,rfl⟩
 | p::ps,k,m,c,h,hc,hm=>by
  obtain ⟨es,hs⟩:=sort_ex (endsOf p c)
  obtain ⟨h1,h2,h3⟩:=Num.pick h hc hm hs
  obtain ⟨g,e,_,_,_,_,_,pj,hcont⟩:=h3 _ (List.getElem?_eq_getElem h1)
  obtain ⟨x,hx⟩:=Num.ex h.2.2 pj h2
  exact ⟨x,hcont x hx⟩
theorem Num.uniq {n:Nat}:∀ {ps:List Page} {k m:Nat} {c x x':List Int},PgsOk n k ps->Seat n c->Num ps c m x->Num ps c m x'->x=x'
 | [],_,_,_,_,_,_,_,⟨_,e⟩,⟨_,e'⟩=>e.trans e'.symm
 | p::ps,k,m,c,x,x',H,hc,⟨g,e,es,he,hs,ha,hn⟩,⟨g',e',es',he',hs',ha',hn'⟩=>by
  obtain ⟨h1,h2,h3⟩:=H
  obtain rfl:=hs.unique hs'
  rw[ha']at ha
  have eq:=h2.end_inj h1 hc he' he (Option.some.inj ha)
  obtain rfl:e'=e:=(Prod.mk.inj eq).2
  exact Num.uniq h3 (zAk (h2.ent _ he).2.1.seat hc) hn hn'
end Mth

namespace Mth

def rowF (n:Nat) (f:Nat->Int):List Int:=(List.range n).map f
theorem rowF_at {n:Nat} {f:Nat->Int} {i:Nat} (hi:i < n):(rowF n f).getD i 0=f i:=by
 unfold rowF
 rw[List.getD_eq_getElem?_getD,List.getElem?_map,List.getElem?_range hi]
 rfl
theorem rowF_len (n:Nat) (f:Nat->Int):(rowF n f).length=n:=by unfold rowF;rw[List.length_map,List.length_range]
theorem rowF_seat {n:Nat} {f:Nat->Int} (h:∀ i,i < n->0<=f i/\f i < n) (inj:∀ i j,i < n->j < n->f i=f j->i=j):Seat n (rowF n f):=by
 refine seat_of ?_ (rowF_len n f) fun z hz=>?_
 ·refine List.pairwise_map.mpr ((List.nodup_range (n:=n)).imp_of_mem fun {a b} ha hb ne e=>ne ?_)
  exact inj a b (List.mem_range.mp ha) (List.mem_range.mp hb) e
 ·obtain ⟨i,hi,rfl⟩:=List.mem_map.mp hz
  exact h i (List.mem_range.mp hi)
def rg (n s c:Nat):List Int:=rowF n fun k=>if s<=k/\k < s+c then (s:Int)+(((k-s+1) % c:Nat):Int) else (k:Int)
theorem rg_at {n s c i:Nat} (hi:i < n):(rg n s c).getD i 0=if s<=i/\i < s+c then (s:Int)+(((i-s+1) % c:Nat):Int) else (i:Int):=rowF_at hi
theorem rg_seat {n s c:Nat} (hc:0 < c) (hn:s+c<=n):Seat n (rg n s c):=by
 have key:∀ k,k < c->(k+1) % c=if k+1=c then 0 else k+1:=fun k hk=>by
  split
  ·rename_i e;rw[e,Nat.mod_self]
  ·exact Nat.mod_eq_of_lt (by omega)
 refine rowF_seat (fun i hi=>?_) fun i j hi hj e=>?_
 ·split
  ·have:=Nat.mod_lt (i-s+1) hc;omega
  ·omega
 ·split at e <;> split at e
  ·rw[key _ (by omega),key _ (by omega)]at e
   split at e <;> split at e <;> omega
  ·have:=Nat.mod_lt (i-s+1) hc;omega
  ·have:=Nat.mod_lt (j-s+1) hc;omega
  ·omega

def ew (c:Nat):List Bool->List Int
 | []=>zA6 c
 | b::w=>join (ew c w) (if b then rg c 0 c else rg c 0 2)
theorem inv_ex {n:Nat} {a:List Int} (h:Seat n a):∃ v,IsInv a v:=by
 have all:∀ k,k<=a.length->∃ L,Half a k L:=fun k=>by
  induction k with
  | zero=>exact fun _=>⟨List.replicate a.length 0,List.length_replicate,fun i z hi=>absurd hi (Nat.not_lt_zero _)⟩
  | succ k ih =>
   intro hk
   obtain ⟨L,d⟩:=ih (Nat.le_of_lt hk)
   exact ⟨_,d.step h (List.getElem?_eq_getElem hk)⟩
 obtain ⟨L,d⟩:=all a.length (Nat.le_refl _)
 exact ⟨L,d.full⟩

def nm (v o r:List Int):List Int:=join (join v r) o

def Bk1 (s c i:Nat) (y:Int):Prop:=(s:Int)<=i/\(i:Int) < s+c/\(s:Int)<=y/\y < s+c
def Blk (p q i:Nat) (y:Int):Prop:=(i:Int)=y\/Bk1 0 p i y\/Bk1 4 q i y\/Bk1 7 2 i y
def IsCut (p q s c:Nat):Prop:=(s=0/\c=p)\/(s=4/\c=q)\/(s=7/\c=2)
theorem bk1_one {s c s' c':Nat} {z z':Int} (d:s+c<=s'\/s'+c'<=s) (a:(s:Int)<=z/\z < s+c) (b:(s':Int)<=z'/\z' < s'+c'):z≠z':=by omega
theorem blk_cut {p q s c i:Nat} {y:Int} (p2:p<=4) (q2:q<=3) (h:IsCut p q s c) (k:Blk p q i y):(i:Int)=y\/Bk1 s c i y\/(¬ ((s:Int)<=i/\(i:Int) < s+c)/\¬ ((s:Int)<=y/\y < s+c)):=by
 have far:∀ {s' c':Nat},s+c<=s'\/s'+c'<=s->Bk1 s' c' i y->¬ ((s:Int)<=i/\(i:Int) < s+c)/\¬ ((s:Int)<=y/\y < s+c):=fun d b=>⟨fun z=>bk1_one d z ⟨b.1,b.2.1⟩ rfl,fun z=>bk1_one d z b.2.2 rfl⟩
 rcases h with ⟨rfl,rfl⟩ | ⟨rfl,rfl⟩ | ⟨rfl,rfl⟩ <;> rcases k with k | k | k | k
 ·exact .inl k
 ·exact .inr (.inl k)
 ·exact .inr (.inr (far (by omega) k))
 ·exact .inr (.inr (far (by omega) k))
 ·exact .inl k
 ·exact .inr (.inr (far (by omega) k))
 ·exact .inr (.inl k)
 ·exact .inr (.inr (far (by omega) k))
 ·exact .inl k
 ·exact .inr (.inr (far (by omega) k))
 ·exact .inr (.inr (far (by omega) k))
 ·exact .inr (.inl k)
theorem blk_out {p q s c i:Nat} {y:Int} (p2:p<=4) (q2:q<=3) (h:IsCut p q s c) (k:Blk p q i y) (a:¬ ((s:Int)<=i/\(i:Int) < s+c)):¬ ((s:Int)<=y/\y < s+c):=by
 rcases blk_cut p2 q2 h k with e | e | e
 ·rw[<- e];exact a
 ·exact absurd ⟨e.1,e.2.1⟩ a
 ·exact e.2
theorem c0 (p q:Nat):IsCut p q 0 p:=.inl ⟨rfl,rfl⟩
theorem c4 (p q:Nat):IsCut p q 4 q:=.inr (.inl ⟨rfl,rfl⟩)
theorem c7 (p q:Nat):IsCut p q 7 2:=.inr (.inr ⟨rfl,rfl⟩)
def j3 (n p q:Nat) (a b c:List Int):List Int:=rowF n fun i=>if i < p then a.getD i 0 else if 4<=i/\i < 4+q then 4+b.getD (i-4) 0 else if 7<=i/\i < 9 then 7+c.getD (i-7) 0 else (i:Int)
def gens (n p q:Nat):List (List Int):=[rg n 0 2,rg n 0 p,rg n 4 2,rg n 4 q,rg n 7 2,rg n 7 2]
structure BlkOk (n p q:Nat):Prop where
 n1:9<=n
 n2:n<=16
 p1:2<=p
 p2:p<=4
 q1:2<=q
 q2:q<=3

def prs {α β:Type} (A:List α) (C:List β):List (α × β):=A.flatMap fun a=>C.map fun c=>(a,c)


theorem Num.of_in {n:Nat}:∀ {ps:List Page} {k:Nat} {c s:List Int},PgsOk n k ps->Seat n c->In n (zCg ps) s->∃ m,m < szs ps/\Num ps c m (join s c)
 | [],k,c,s,_,hc,h=>⟨0,Nat.one_pos,rfl,by rw[show s=zA6 n from h,rest_join hc]⟩
 | p::ps,k,c,s,⟨h1,h2,h3⟩,hc,h=>by
  obtain ⟨s',u,hs',hu,rfl⟩:=h
  obtain ⟨qe,hq,rfl⟩:=List.mem_map.mp hu
  have l:=(h2.ent _ hq).2.1
  obtain ⟨m',hm',hn⟩:=Num.of_in h3 (zAk l.seat hc) hs'
  obtain ⟨es,hes⟩:=sort_ex (endsOf p c)
  have hmem:c.getD qe.1.toNat 0∈es:=hes.perm.mem_iff.mpr (List.mem_map.mpr ⟨qe,hq,rfl⟩)
  obtain ⟨j,hj⟩:=List.mem_iff_getElem?.mp hmem
  have hjl:j < p.length:=by
   have:=(List.getElem?_eq_some_iff.mp hj).1
   rwa [hes.perm.length_eq,show (endsOf p c).length=p.length from List.length_map _]at this
  have pos:0 < szs ps:=szs_pos h3
  have e1:(j*szs ps+m') / szs ps=j:=by rw[Nat.add_comm,Nat.add_mul_div_right _ _ pos,Nat.div_eq_of_lt hm',Nat.zero_add]
  have e2:(j*szs ps+m') % szs ps=m':=by rw[Nat.add_comm,Nat.add_mul_mod_self_right,Nat.mod_eq_of_lt hm']
  refine ⟨j*szs ps+m',?_,qe.1,qe.2,es,hq,hes,by rw[e1];exact hj,?_⟩
  ·show _ < p.length*szs ps
   have:=Nat.mul_le_mul_right (szs ps) (show j+1<=p.length from hjl)
   rw[Nat.succ_mul]at this
   omega
  ·rw[e2,zBd (In.lev (tab_of h3) hs').seat l.seat hc]
   exact hn
theorem Num.of {n:Nat} {ps:List Page} {x:List Int} (h:PgsOk n 0 ps) (hx:In n (zCg ps) x):∃ m,m < szs ps/\Num ps (zA6 n) m x:=by
 obtain ⟨m,a,b⟩:=Num.of_in h (zAl n) hx
 rw[zC3 (In.lev (tab_of h) hx).seat]at b
 exact ⟨m,a,b⟩
theorem Num.cmp {n:Nat} {ps:List Page} {m m':Nat} {x x':List Int} (h:PgsOk n 0 ps) (h1:Num ps (zA6 n) m x) (h2:Num ps (zA6 n) m' x') :
  (∃ j,j < n/\(∀ i,i < j->x.getD i 0=x'.getD i 0)/\x.getD j 0≠x'.getD j 0/\(m < m'↔x.getD j 0 < x'.getD j 0))\/(x=x'/\¬ m < m'):=by
 rcases Nat.lt_trichotomy m m' with c | c | c
 ·obtain ⟨j,_,j2,j3,j4⟩:=Num.less h (zAl n) h1 h2 c
  exact .inl ⟨j,j2,j3,by omega,⟨fun _=>j4,fun _=>c⟩⟩
 ·subst c
  exact .inr ⟨Num.uniq h (zAl n) h1 h2,Nat.lt_irrefl _⟩
 ·obtain ⟨j,_,j2,j3,j4⟩:=Num.less h (zAl n) h2 h1 c
  exact .inl ⟨j,j2,fun i hi=>(j3 i hi).symm,by omega,⟨fun z=>by omega,fun z=>by omega⟩⟩
theorem Num.bool {n:Nat} {ps:List Page} {m m':Nat} {x x':List Int} (h:PgsOk n 0 ps) (h1:Num ps (zA6 n) m x) (h2:Num ps (zA6 n) m' x') {b:Bool} (hb:(∃ j,j < n/\(∀ i,i < j->x.getD i 0=x'.getD i 0)/\x.getD j 0≠x'.getD j 0/\b=decide (x.getD j 0 < x'.getD j 0))\/(x=x'/\b=false)):decide ((m:Int) < (m':Int))=b:=by
 rcases Num.cmp h h1 h2 with ⟨j,j1,j2,j3,j4⟩ | ⟨e,no⟩
 ·rcases hb with ⟨i,i1,i2,i3,rfl⟩ | ⟨rfl,_⟩
  ·obtain rfl:i=j:=by
    rcases Nat.lt_trichotomy i j with c | c | c
    ·exact absurd (j2 i c) i3
    ·exact c
    ·exact absurd (i2 j c) j3
   exact decide_eq_decide.mpr (Iff.trans Int.ofNat_lt j4)
  ·exact absurd rfl j3
 ·subst e
  rcases hb with ⟨i,i1,i2,i3,rfl⟩ | ⟨_,rfl⟩
  ·exact absurd rfl i3
  ·exact decide_eq_false (by omega)
end Mth

namespace Mth

def lessN (x:Int) (xs:List Int):Nat:=(xs.filter fun y=>decide (y < x)).length
def inv:List Int->Nat
 | []=>0
 | x::xs=>lessN x xs+inv xs
def rank:List Int->Nat
 | []=>0
 | x::xs=>lessN x xs*fact xs.length+rank xs
theorem fact_pos:∀ n,0 < fact n
 | 0=>Nat.one_pos
 | n+1=>Nat.mul_pos (Nat.succ_pos _) (fact_pos n)
theorem lessN_perm {x:Int} {xs ys:List Int} (h:xs.Perm ys):lessN x xs=lessN x ys:=(h.filter _).length_eq
theorem lessN_cons (x y:Int) (ys:List Int):lessN x (y::ys)=(if y < x then 1 else 0)+lessN x ys:=by
 unfold lessN
 by_cases h:y < x
 ·rw[List.filter_cons_of_pos (by simpa using h),if_pos h,List.length_cons,Nat.add_comm]
 ·rw[List.filter_cons_of_neg (by simpa using h),if_neg h,Nat.zero_add]
theorem lessN_at:∀ {L:List Int},L.Pairwise (· < ·)->∀ {d:Nat} (hd:d < L.length),lessN L[d] (L.eraseIdx d)=d
 | [],_,d,hd=>absurd hd (Nat.not_lt_zero _)
 | a::L,hp,0,hd=>by
  obtain ⟨h1,_⟩:=List.pairwise_cons.mp hp
  show lessN a L=0
  unfold lessN
  rw[List.length_eq_zero_iff,List.filter_eq_nil_iff]
  intro z hz
  have:=h1 z hz
  simp only[decide_eq_true_eq]
  omega
 | a::L,hp,d+1,hd=>by
  obtain ⟨h1,h2⟩:=List.pairwise_cons.mp hp
  have hd':d < L.length:=by simpa using hd
  show lessN L[d] (a::L.eraseIdx d)=d+1
  rw[lessN_cons,if_pos (h1 _ (List.getElem_mem hd')),lessN_at h2 hd',Nat.add_comm]
theorem erase_perm:∀ {L:List Int} {d:Nat} (hd:d < L.length),(L[d]::L.eraseIdx d).Perm L
 | [],d,hd=>absurd hd (Nat.not_lt_zero _)
 | a::L,0,hd=>.refl _
 | a::L,d+1,hd=>by
  have hd':d < L.length:=by simpa using hd
  show (L[d]::a::L.eraseIdx d).Perm (a::L)
  exact (List.Perm.swap _ _ _).trans ((erase_perm hd').cons a)
theorem rank_ex:∀ (k:Nat) {L:List Int},L.length=k->L.Pairwise (· < ·)->∀ {m:Nat},m < fact k->∃ x,x.Perm L/\rank x=m
 | 0,L,hl,_,m,hm=>⟨L,.refl _,by
   have:L=[]:=List.length_eq_zero_iff.mp hl
   subst this
   have:m < 1:=hm
   show 0=m
   omega⟩
 | k+1,L,hl,hp,m,hm=>by
  have hm:m < (k+1)*fact k:=hm
  have hd:m / fact k < L.length:=by rw[hl];exact (Nat.div_lt_iff_lt_mul (fact_pos k)).mpr hm
  have hel:(L.eraseIdx (m / fact k)).length=k:=by rw[List.length_eraseIdx_of_lt hd];omega
  obtain ⟨xs,h1,h2⟩:=rank_ex k hel (hp.sublist (List.eraseIdx_sublist _ _)) (Nat.mod_lt m (fact_pos k))
  refine ⟨L[m / fact k]::xs,(h1.cons _).trans (erase_perm hd),?_⟩
  show lessN _ xs*fact xs.length+rank xs=m
  rw[lessN_perm h1,lessN_at hp hd,h1.length_eq,hel,h2,Nat.mul_comm]
  exact Nat.div_add_mod _ _
end Mth

namespace Mth

def par (r:List Int):Nat:=inv r % 2

def Lo (n j:Nat) (r:List Int):Prop:=Seat n r/\∀ i,j<=i->i < n->r.getD i 0=(i:Int)
theorem Lo.top {n j:Nat} {r:List Int} (h:Lo n (j+1) r) (hj:j < n):0<=r.getD j 0/\r.getD j 0<=j:=by
 have b:=zCv h.1 hj
 refine ⟨b.1,?_⟩
 have:¬ (j:Int) < r.getD j 0:=fun c=>by
  obtain ⟨z,hz⟩:∃ z:Nat,r.getD j 0=(z:Int):=⟨(r.getD j 0).toNat,by omega⟩
  have e:=h.2 z (by omega) (by omega)
  rw[<- hz]at e
  have:=seat_inj h.1 (i:=z) (j:=j) (by omega) hj e
  omega
 omega
theorem down {n:Nat} {ms:List (List Int)} (hn:n<=16) (hm:∀ m∈ms,Seat n m) {r g:List Int} (hr:Seat n r) (hg:Reach n ms g) (h:Reach n ms (join r g)):Reach n ms r:=by
 have sg:=hg.seat hm
 obtain ⟨v,iv⟩:=inv_ex sg
 have:=Reach.join hm h (hg.back hn hm iv)
 rwa [zBd hr sg (iv.seat sg),inv_r sg iv,zC3 hr]at this
theorem climb {n:Nat} {ms:List (List Int)} {Ev:List Int->Prop} {lo:Nat} (hn:n<=16) (hm:∀ m∈ms,Seat n m)
  (up:∀ j t,lo<=j->j < n->t < j->∃ g,Reach n ms g/\(∀ r,Seat n r->Ev r->Ev (join r g))/\g.getD t 0=((t+1:Nat):Int)/\∀ i,j < i->i < n->g.getD i 0=(i:Int))
  (base:∀ r,Lo n lo r->Ev r->Reach n ms r):∀ (j:Nat),lo<=j->j<=n->∀ r,Lo n j r->Ev r->Reach n ms r
 | j,hj,hjn=>by
  induction j with
  | zero =>
   intro r h he
   exact base r (by rw[show lo=0 by omega];exact h) he
  | succ j ih =>
   by_cases e:lo=j+1
   ·intro r h he
    exact base r (by rw[e];exact h) he
   have inner:∀ d:Nat,∀ r,Lo n (j+1) r->Ev r->r.getD j 0+(d:Int)=(j:Int)->Reach n ms r:=fun d=>by
    induction d with
    | zero =>
     intro r h he ht
     refine ih (by omega) (by omega) r ⟨h.1,fun i h1 h2=>?_⟩ he
     by_cases c:i=j
     ·rw[c];simpa using ht
     ·exact h.2 i (by omega) h2
    | succ d ihd =>
     intro r h he ht
     obtain ⟨b0,b1⟩:=h.top (by omega)
     obtain ⟨t,hz⟩:∃ z:Nat,r.getD j 0=(z:Int):=⟨(r.getD j 0).toNat,by omega⟩
     obtain ⟨g,g1,g2,g3,g4⟩:=up j t (by omega) (by omega) (by omega)
     have sg:=g1.seat hm
     refine down hn hm h.1 g1 (ihd (join r g) ⟨zAk h.1 sg,fun i h1 h2=>?_⟩ (g2 r h.1 he) ?_)
     ·rw[zBb h.1 h2,h.2 i h1 h2,Int.toNat_natCast,g4 i (by omega) h2]
     ·rw[zBb h.1 (by omega),hz,Int.toNat_natCast,g3]
      omega
   intro r h he
   obtain ⟨b0,b1⟩:=h.top (by omega)
   exact inner ((j:Int)-r.getD j 0).toNat r h he (by omega)
theorem lo_zero {n:Nat} {r:List Int} (h:Lo n 0 r):r=zA6 n:=seat_ext h.1 (zAl n) fun i hi=>by rw[h.2 i (Nat.zero_le _) hi,rest_at hi]
theorem all_of_sws {n:Nat} {ms:List (List Int)} (hn:n<=16) (hm:∀ m∈ms,Seat n m) (h:∀ t,t+1 < n->Reach n ms (rg n t 2)) {r:List Int} (hr:Seat n r):Reach n ms r:=by
 refine climb (Ev:=fun _=>True) (lo:=0) hn hm (fun j t _ hj ht=>⟨rg n t 2,h t (by omega),fun _ _ _=>trivial,?_,fun i h1 h2=>?_⟩) (fun r h _=>?_) n (Nat.zero_le _) (Nat.le_refl _) r ⟨hr,fun i h1 h2=>absurd h2 (by omega)⟩ trivial
 ·rw[rg_at (by omega),if_pos (by omega),Nat.sub_self];show (t:Int)+((1 % 2:Nat):Int)=_;omega
 ·rw[rg_at h2,if_neg (by omega)]
 ·rw[lo_zero h];exact .rest
theorem all_of_two {n:Nat} (n2:2<=n) (hn:n<=16) {r:List Int} (hr:Seat n r):Reach n [rg n 0 2,rg n 0 n] r:=by
 have hm:∀ m∈[rg n 0 2,rg n 0 n],Seat n m:=fun m hm=>by
  rcases List.mem_cons.mp hm with e | e
  ·rw[e];exact rg_seat (by decide) (by omega)
  ·rw[List.mem_singleton.mp e];exact rg_seat (by omega) (by omega)
 have hc:Reach n [rg n 0 2,rg n 0 n] (rg n 0 n):=Reach.move hm (by simp)
 have sc:=hc.seat hm
 obtain ⟨v,iv⟩:=inv_ex sc
 refine all_of_sws hn hm (fun t=>?_) hr
 induction t with
 | zero=>exact fun _=>Reach.move hm (by simp)
 | succ t ih =>
  intro ht
  have hs:=ih (by omega)
  have ss:=hs.seat hm
  have s2:Seat n (rg n (t+1) 2):=rg_seat (by decide) (by omega)
  have e:join (rg n 0 n) (rg n (t+1) 2)=join (rg n t 2) (rg n 0 n):=by
   refine seat_ext (zAk sc s2) (zAk ss sc) fun i hi=>?_
   rw[zBb sc hi,zBb ss hi,rg_at hi,rg_at hi,if_pos (by omega),Nat.sub_zero]
   have c1:∀ k,k+1 < n->(k+1) % n=k+1:=fun k hk=>Nat.mod_eq_of_lt hk
   by_cases e1:i=t
   ·subst e1
    rw[if_pos (by omega),Nat.sub_self,c1 i (by omega),show (((0:Nat):Int)+((i+1:Nat):Int)).toNat=i+1 by omega,rg_at (by omega),if_pos (by omega),show ((i:Int)+((((0+1) % 2:Nat)):Int)).toNat=i+1 by omega,rg_at (by omega),if_pos (by omega),Nat.sub_self,Nat.sub_zero,c1 (i+1) (by omega)]
    omega
   by_cases e2:i=t+1
   ·subst e2
    rw[if_pos (by omega),c1 (t+1) (by omega),show (((0:Nat):Int)+((t+1+1:Nat):Int)).toNat=t+2 by omega,rg_at (by omega),if_pos (by omega),show ((t:Int)+(((t+1-t+1) % 2:Nat):Int)).toNat=t by omega,rg_at (by omega),if_pos (by omega),Nat.sub_zero,c1 t (by omega)]
    omega
   ·rw[if_neg (by omega),Int.toNat_natCast,rg_at hi,if_pos (by omega),Nat.sub_zero]
    by_cases c:i+1 < n
    ·rw[c1 i c,show (((0:Nat):Int)+((i+1:Nat):Int)).toNat=i+1 by omega,rg_at c,if_neg (by omega)]
     omega
    ·rw[show i+1=n by omega,Nat.mod_self,show (((0:Nat):Int)+((0:Nat):Int)).toNat=0 by rfl,rg_at (by omega),if_neg (by omega)]
     omega
  have:=Reach.join hm (hc.back hn hm iv) (Reach.join hm hs hc)
  rwa [<- e,<- zBd (iv.seat sc) sc s2,inv_l sc iv,rest_join s2]at this
def trs (n:Nat):List (List Int):=(List.range (n-2)).map fun t=>rg n t 3
end Mth

namespace Mth

theorem Num.lt {n:Nat}:∀ {ps:List Page} {k m:Nat} {c x:List Int},PgsOk n k ps->Num ps c m x->m < szs ps
 | [],_,m,_,_,_,⟨e,_⟩=>by rw[e];exact Nat.one_pos
 | p::ps,k,m,c,x,⟨h1,h2,h3⟩,⟨g,e,es,he,hs,ha,hn⟩=>by
  have l:=(List.getElem?_eq_some_iff.mp ha).1
  rw[hs.perm.length_eq,show (endsOf p c).length=p.length from List.length_map _]at l
  exact (Nat.div_lt_iff_lt_mul (szs_pos h3)).mp l


def rgI (lo n:Nat):List Int:=(List.range (n-lo)).map fun (i:Nat)=>(lo:Int)+(i:Int)

end Mth

namespace Mth

def outS (n:Nat) (ss:List Int):List Int:=(zA6 n).filter fun k=>!decide (k∈ss)
structure Cut (n d:Nat) (ss o:List Int):Prop where
 dn:d<=n
 fro:∀ j,j < d->o.getD j 0∈ss
 too:∀ s∈ss,∃ j,j < d/\o.getD j 0=s

theorem rangeI_up (n:Nat):(zA6 n).Pairwise (· < ·):=by
 rw[List.pairwise_iff_getElem]
 intro i j hi hj hij
 rw[zAj]at hi hj
 have h1:=zBc hi
 have h2:=zBc hj
 rw[List.getElem?_eq_getElem (by rw[zAj];exact hi)]at h1
 rw[List.getElem?_eq_getElem (by rw[zAj];exact hj)]at h2
 rw[Option.some.inj h1,Option.some.inj h2]
 omega
theorem some_seats {c:Nat}:∀ N,N<=fact c->∃ F:List (List Int),F.Nodup/\F.length=N/\∀ x∈F,Seat c x/\rank x < N
 | 0,_=>⟨[],List.nodup_nil,rfl,fun x hx=>by cases hx⟩
 | N+1,h=>by
  obtain ⟨F,h1,h2,h3⟩:=some_seats (c:=c) N (by omega)
  obtain ⟨x,hx,hr⟩:=rank_ex c (zAj c) (rangeI_up c) (m:=N) (by omega)
  refine ⟨x::F,List.nodup_cons.mpr ⟨fun z=>?_,h1⟩,by rw[List.length_cons,h2],fun y hy=>?_⟩
  ·have:=(h3 x z).2
   omega
  ·rcases List.mem_cons.mp hy with rfl | hy
   ·exact ⟨hx,by omega⟩
   ·exact ⟨(h3 y hy).1,by have:=(h3 y hy).2;omega⟩
theorem all_seats (c:Nat):∃ F:List (List Int),F.Nodup/\F.length=fact c/\∀ x,x∈F↔Seat c x:=by
 obtain ⟨F,h1,h2,h3⟩:=some_seats (c:=c) (fact c) (Nat.le_refl _)
 refine ⟨F,h1,h2,fun x=>⟨fun h=>(h3 x h).1,fun h=>Classical.byContradiction fun z=>?_⟩⟩
 have:=seats_le (n:=c) (F:=x::F) (List.nodup_cons.mpr ⟨z,h1⟩) fun y hy=>by
  rcases List.mem_cons.mp hy with rfl | hy
  ·exact h
  ·exact (h3 y hy).1
 rw[List.length_cons]at this
 omega
theorem outS_succ (i:Nat) (ss:List Int):outS (i+1) ss=outS i ss++(if (i:Int)∈ss then [] else [(i:Int)]):=by
 unfold outS
 rw[show zA6 (i+1)=zA6 i++[(i:Int)] by unfold zA6;rw[List.range_succ,List.map_append];rfl,List.filter_append]
 congr 1
 by_cases h:(i:Int)∈ss
 ·rw[if_pos h,List.filter_cons_of_neg (by simpa using h)];rfl
 ·rw[if_neg h,List.filter_cons_of_pos (by simpa using h)];rfl

structure FreeI (n:Nat) (ss:List Int) (k:Nat) (left row:List Int):Prop where
 len:row.length=n
 nd:left.Nodup
 sub:∀ z∈left,z∈outS n ss
 cnt:left.length+(outS k ss).length=(outS n ss).length
 low:∀ j,j < n->((j:Int)∈ss\/k<=j)->row.getD j 0=(j:Int)
 got:∀ j,j < k->j < n->¬ (j:Int)∈ss->row.getD j 0∈outS n ss/\¬ row.getD j 0∈left
 inj:∀ i j,i < k->j < k->i < n->j < n->¬ (i:Int)∈ss->¬ (j:Int)∈ss->row.getD i 0=row.getD j 0->i=j
theorem getD_set {row:List Int} {k j:Nat} {v:Int} (hk:k < row.length):(row.set k v).getD j 0=if j=k then v else row.getD j 0:=by
 rw[List.getD_eq_getElem?_getD,List.getElem?_set]
 by_cases e:k=j
 ·subst e
  rw[if_pos rfl,if_pos hk,if_pos rfl];rfl
 ·rw[if_neg e,if_neg (fun z=>e z.symm),List.getD_eq_getElem?_getD]
theorem FreeI.take {n k i:Nat} {ss left row:List Int} {v:Int} (h:FreeI n ss k left row) (hk:k < n) (hs:¬ (k:Int)∈ss) (hv:left[i]?=some v):FreeI n ss (k+1) (left.eraseIdx i) (row.set k v):=by
 have hi:=(List.getElem?_eq_some_iff.mp hv).1
 have hp:=perm_erase left i v hv
 have nd:=(hp.nodup_iff).mpr h.nd
 rw[List.nodup_cons]at nd
 have mem:∀ z∈left.eraseIdx i,z∈left:=fun z hz=>hp.mem_iff.mp (List.mem_cons_of_mem _ hz)
 have hvl:v∈left:=List.mem_of_getElem? hv
 have g:∀ j,(row.set k v).getD j 0=if j=k then v else row.getD j 0:=fun j=>getD_set (by rw[h.len];exact hk)
 refine ⟨by rw[List.length_set];exact h.len,nd.2,fun z hz=>h.sub z (mem z hz),?_,fun j hj hc=>?_,fun j hj hn hf=>?_,fun a b ha hb an bn af bf e=>?_⟩
 ·have c:=h.cnt
  rw[outS_succ,if_neg hs,List.length_append,List.length_singleton,List.length_eraseIdx_of_lt hi]
  omega
 ·rw[g,if_neg (by rintro rfl;rcases hc with z | z;exact hs z;omega)]
  exact h.low j hj (hc.imp (fun x=>x) fun z=>by omega)
 ·rw[g]
  by_cases e:j=k
  ·rw[if_pos e]
   exact ⟨h.sub v hvl,nd.1⟩
  ·rw[if_neg e]
   obtain ⟨h1,h2⟩:=h.got j (by omega) hn hf
   exact ⟨h1,fun z=>h2 (mem _ z)⟩
 ·rw[g,g]at e
  by_cases e1:a=k
  ·by_cases e2:b=k
   ·omega
   ·rw[if_pos e1,if_neg e2]at e
    exact absurd hvl (by rw[e];exact (h.got b (by omega) bn bf).2)
  ·by_cases e2:b=k
   ·rw[if_neg e1,if_pos e2]at e
    exact absurd hvl (by rw[<- e];exact (h.got a (by omega) an af).2)
   ·rw[if_neg e1,if_neg e2]at e
    exact h.inj a b (by omega) (by omega) an bn af bf e
end Mth

set_option maxHeartbeats 4000000
namespace L2
open PySem PySem.Spec PyProof.Rows

section
variable {prog:Program} {w:World} {A:Around} {E:Value->Shared->Prop} {s:Shared}
end
def revV (n:Nat):List V:=(List.range n).map fun (i:Nat)=>V.int ((n:Int)-1-(i:Int))
def tTupRev (ta:TA):TE:=fun σ H Q=>ta σ H fun vs H1=>∃ (p:Addr) (n:Nat),vs=[.ref p]/\H1 p=some (.rng 0 n)/\n<=1000/\∀ l,H1 l=none->Q (.ref l) (upd H1 l (.tup (revV n)))
theorem r_tupRev {ta:TA} {σ:St} {H:Hp} {Q:VK}:tTupRev ta σ H Q=ta σ H (fun vs H1=>∃ (p:Addr) (n:Nat),vs=[.ref p]/\H1 p=some (.rng 0 n)/\n<=1000/\∀ l,H1 l=none->Q (.ref l) (upd H1 l (.tup (revV n)))):=rfl

def rLIndexI:V->List V->Hp->VK->Prop:=fun x vs H Q=>∃ (p:Addr) (ms:List Int) (k:Int) (j:Nat),x=.ref p/\vs=[.int k]/\H p=some (.lst (ms.map V.int))/\ms.length < 1000/\ms.Nodup/\ms[j]?=some k/\Q (.int (j:Int)) H
theorem r_lindexI {H:Hp} {Q:VK} {p:Addr} {k:Int}:rLIndexI (.ref p) [.int k] H Q=∃ (ms:List Int) (j:Nat),H p=some (.lst (ms.map V.int))/\ms.length < 1000/\ms.Nodup/\ms[j]?=some k/\Q (.int (j:Int)) H:=propext
 ⟨fun ⟨_,ms,_,j,e1,e2,h⟩=>by cases e1;cases e2;exact ⟨ms,j,h⟩,fun ⟨ms,j,h⟩=>⟨_,ms,_,j,rfl,rfl,h⟩⟩
end L2

set_option maxHeartbeats 4000000
namespace L2
open PySem PySem.Spec PyProof.Rows

def fmet (ms:List Int):List Int:=firstMet (fun i=>ms.getD i 0) ms.length
def rSetOf:List V->Hp->VK->Prop:=fun vs H Q=>∃ (p:Addr) (ms:List Int),vs=[.ref p]/\H p=some (.lst (ms.map V.int))/\ms.length<=1000/\∀ l,H l=none->Q (.ref l) (upd H l (.set (fun k=>(fmet ms).any (· == k)) (fmet ms).length))
section
variable {X:Cx}
def rLenZ:List V->Hp->VK->Prop:=fun vs H Q=>∃ p S n,vs=[.ref p]/\H p=some (.set S n)/\Q (.int (n:Int)) H
end
theorem r_setOf {H:Hp} {Q:VK} {p:Addr}:rSetOf [.ref p] H Q=∃ (ms:List Int),H p=some (.lst (ms.map V.int))/\ms.length<=1000/\∀ l,H l=none->Q (.ref l) (upd H l (.set (fun k=>(fmet ms).any (· == k)) (fmet ms).length)):=propext
 ⟨fun ⟨_,ms,e,h⟩=>by cases e;exact ⟨ms,h⟩,fun ⟨ms,h⟩=>⟨_,ms,rfl,h⟩⟩
theorem r_lenZ {H:Hp} {Q:VK} {p:Addr}:rLenZ [.ref p] H Q=∃ S n,H p=some (.set S n)/\Q (.int (n:Int)) H:=propext
 ⟨fun ⟨_,S,n,e,h⟩=>by cases e;exact ⟨S,n,h⟩,fun ⟨S,n,h⟩=>⟨_,S,n,rfl,h⟩⟩

def insI (xs:List V) (k:Nat) (y:V):List V:=xs.take k++y::xs.drop k
def rInsert:V->List V->Hp->VK->Prop:=fun x vs H Q=>∃ (l:Addr) (xs:List V) (k:Nat) (y:V),x=.ref l/\vs=[.int (k:Int),y]/\H l=some (.lst xs)/\k<=xs.length/\xs.length<=1000/\Q .non (upd H l (.lst (insI xs k y)))
theorem r_insert {H:Hp} {Q:VK} {l:Addr} {i:Int} {y:V}:rInsert (.ref l) [.int i,y] H Q=∃ (xs:List V) (k:Nat),i=(k:Int)/\H l=some (.lst xs)/\k<=xs.length/\xs.length<=1000/\Q .non (upd H l (.lst (insI xs k y))):=propext
 ⟨fun ⟨_,xs,k,_,e1,e2,h⟩=>by
  cases e1
  injection e2 with e2 e3
  injection e2 with e2
  injection e3 with e3
  subst e2 e3
  exact ⟨xs,k,rfl,h⟩,fun ⟨xs,k,e,h⟩=>⟨_,xs,k,_,rfl,by rw[e],h⟩⟩
theorem r_slL {K:PySem.W.Frag} {a:Addr} {H:Hp} {Q:VK} {lo hi:Option Int}:rSlL K (.ref a) lo hi H Q=∃ xs,SqL K H a xs/\∀ p,H p=none->Q (.ref p) (upd H p (.lst (cutV xs lo hi))):=propext
 ⟨fun ⟨_,xs,e,h⟩=>by cases e;exact ⟨xs,h⟩,fun ⟨xs,h⟩=>⟨_,xs,rfl,h⟩⟩
end L2

set_option maxHeartbeats 4000000
namespace L2
open PySem PySem.Spec PyProof.Rows

section
variable {M:Model} {A:Around} {E:Value->Shared->Prop} {s:Shared}
theorem leave_any {bs:Heap} {v:Env} {vs:List Env} {L ea:Addr} {cl a0 fl:Value} {Q:Unit->Shared->Prop} (fr:A.frames=some (v::vs)) (hf:v.frame=some L) (kb:bs.StaysIn s.heap) (nb:bs.get? ea=none) (ff:s.heap.FunFrames bs (v::vs))
  (tr:s.heap.TracedAtW bs ea cl a0 fl) (hQ:∀ h',Heap.FlyingW bs (v::vs) ea cl a0 h'->s.heap.UpToSlots h'->Q () { s with heap:=h' }):wpAny M A (leaving v (.ref ea)) Q E s:=by
 by_cases hfl:fl=rawInt L
 ·subst hfl
  unfold leaving
  exact wpAny_bind (wpAny_noteFrame_againW hf tr (wpAny_setFlight_noneW kb ff tr fun h' k1 k2 k3 k4=>hQ h' ⟨k1,nb,k2,k3⟩ fun b o hb hn=>⟨o.slots,k4 b o hb hn⟩))
 obtain ⟨oe,xs,T,oT,ys,he,⟨hcl,h0⟩,hd,h1,nT,Te,hT,dT,h3⟩:=tr
 subst hcl
 unfold leaving noteFrame
 simp only[hf]
 refine wpAny_bind (wpAny_bind (wpAny_field he hd h1 ?_))
 rw[if_pos (by simp:(Value.ref T != Value.none)=true)]
 refine wpAny_bind (wpAny_field hT dT h3 ?_)
 rw[if_neg (fun z=>hfl (by simpa using z))]
 refine wpAny_bind (wpAny_setField hT dT (Array.getElem?_eq_some_iff.mp h3).1 ?_)
 have oth:∀ b,b≠T->(s.heap.update T (Obj.mapFields fun z=>z.setIfInBounds 3 Value.none)).get? b=s.heap.get? b:=fun b hb=>Heap.get?_update_other _ _ hb.symm
 have nr:∀ b o,s.heap.get? b=some o->(∀ zs,o.data≠.fields zs)->b≠T:=fun b o hb hn q=>by
  rw[q,hT]at hb
  cases hb
  exact hn ys dT
 refine wpAny_newEntryW fr (ff.of_keeps fun b o hb hn=>⟨o,by rw[oth b (nr b o hb hn)];exact hb,rfl⟩) hf (by rw[oth ea Te.symm];exact he) (fun b o hb=>by rw[oth b fun q=>by rw[q,nT]at hb;cases hb];exact kb b o hb) nb hd (Array.getElem?_eq_some_iff.mp h1).1 h0 fun h' w=>?_
 obtain ⟨x1,x2,x3,x4⟩:=w
 exact hQ h' ⟨x1,nb,x2,x3⟩ fun b o hb hn=>x4 b o (by rw[oth b (nr b o hb hn)];exact hb) hn
theorem pass_leave {bs:Heap} {v cv:Env} {vs:List Env} {L ea:Addr} {cl a0 fl:Value} {what:String} {α:Type} {R:α->Shared->Prop} {Q:Value->Unit->Shared->Prop} (fr:A.frames=some (v::vs)) (hf:v.frame=some L) (kb:bs.StaysIn s.heap) (nb:bs.get? ea=none) (ff:s.heap.FunFrames bs (v::vs))
  (tr:s.heap.TracedAtW bs ea cl a0 fl) (hQ:∀ h',Heap.FlyingW bs (v::vs) ea cl a0 h'->s.heap.UpToSlots h'->Q (.ref ea) () { s with heap:=h' }):wpAny M A (PySem.passOn what (.ref ea) cv:Sem α) R (fun e s'=>wpAny M A (leaving v e) (Q e) E s') s:=by
 obtain ⟨oe,xs,T,oT,ys,he,hc,hd,h1,nT,Te,hT,dT,h3⟩:=tr
 have sz:=(Array.getElem?_eq_some_iff.mp h3).1
 unfold PySem.passOn
 refine wpAny_bind (wpAny_field he hd h1 ?_)
 rw[if_neg (by simp:¬ (Value.ref T == Value.none)=true)]
 have st:∀ (x:Value) (E':Value->Shared->Prop),wpAny M A (setField (.ref T) 3 x) (fun _ s'=>wpAny M A (leaving v (.ref ea)) (Q (.ref ea)) E s') E' s:=fun x E'=>by
  refine wpAny_setField hT dT sz ?_
  have oth:∀ b,b≠T->(s.heap.update T (Obj.mapFields fun z=>z.setIfInBounds 3 x)).get? b=s.heap.get? b:=fun b hb=>Heap.get?_update_other _ _ hb.symm
  have nr:∀ b o,s.heap.get? b=some o->(∀ zs,o.data≠.fields zs)->b≠T:=fun b o hb hn q=>by
   rw[q,hT]at hb
   cases hb
   exact hn ys dT
  refine leave_any (fl:=x) fr hf (fun b o hb=>by show Heap.get? _ b=_;rw[oth b fun q=>by rw[q,nT]at hb;cases hb];exact kb b o hb) nb (ff.of_keeps fun b o hb hn=>⟨o,by rw[oth b (nr b o hb hn)];exact hb,rfl⟩)
   ⟨oe,xs,T,_,_,by show Heap.get? _ ea=_;rw[oth ea Te.symm];exact he,hc,hd,h1,nT,Te,Heap.get?_update_self _ hT (Obj.isFreed_of_fields (Obj.data_mapFields dT _)),Obj.data_mapFields dT _,by simp [sz]⟩ fun h' w up=>hQ h' w fun b o hb hn=>?_
  exact up b o (by show Heap.get? _ b=_;rw[oth b (nr b o hb hn)];exact hb) hn
 unfold setFlight
 refine wpAny_bind (wpAny_bind (wpAny_field he hd h1 ?_))
 rw[if_pos (by simp:(Value.ref T != Value.none)=true)]
 exact wpAny_mono (st _ _) (fun _ s' h=>wpAny_throw h) fun _ _ h=>h
end
theorem get_less {B B':Heap} (lt:∀ b o,B'.get? b=some o->B.get? b=some o) {L:Addr} (hn:B.get? L=none):B'.get? L=none:=by
 cases e:B'.get? L with
 | none=>rfl
 | some z=>rw[lt L z e]at hn;cases hn
theorem funFrames_less {h B B':Heap} (lt:∀ b o,B'.get? b=some o->B.get? b=some o):∀ {l:List Env},h.FunFrames B l->h.FunFrames B' l
 | [],_=>trivial
 | _::_,⟨hk,⟨L,o,hf,hn,ho,hd⟩,hr⟩=>⟨hk,⟨L,o,hf,get_less lt hn,ho,hd⟩,funFrames_less lt hr⟩
theorem funFrames_but {h h' B:Heap}:∀ {l:List Env},h.FunFrames B l->(∀ a∈frs l,h'.get? a=h.get? a)->h'.FunFrames B l
 | [],_,_=>trivial
 | v::l,⟨hk,⟨L,o,hf,hn,ho,hd⟩,hr⟩,k=>⟨hk,⟨L,o,hf,hn,(k L (List.mem_filterMap.mpr ⟨v,List.mem_cons_self,hf⟩)).trans ho,hd⟩,funFrames_but hr fun a ha=>k a (by
   obtain ⟨u,hu,e⟩:=List.mem_filterMap.mp ha
   exact List.mem_filterMap.mpr ⟨u,List.mem_cons_of_mem _ hu,e⟩)⟩
def Cx.blockX (X:Cx) (P:Program) (w:World) (E:XK) (M:List Str) (scope:Scope) (cl:List (Str × Addr)) (C:Addr) (s₃:Shared) (H₃:Hp) (ex:List Addr):Cx :=
 { X.block M scope cl C s₃ H₃ ex with xe:=fun e s'=>∃ (pins:List (Addr × Obj)) (σ:St) (H:Hp) (s:Shared),Inv (X.block M scope cl C s₃ H₃ ex) pins σ H s/\CXX P w X.stack H s E e s' }
section
variable {X:Cx} {P:Program} {w:World} {E:XK} {M:List Str} {scope:Scope} {cl:List (Str × Addr)} {C:Addr} {s₃:Shared} {H₃:Hp} {ex:List Addr} {pins:List (Addr × Obj)} {σ:St} {H:Hp} {s:Shared}
theorem Inv.toX (I:Inv (X.block M scope cl C s₃ H₃ ex) pins σ H s):Inv (X.blockX P w E M scope cl C s₃ H₃ ex) pins σ H s :=
 ⟨⟨I.ok.mod,I.ok.kind,I.ok.glob,I.ok.blt,I.ok.above,I.ok.inj,I.ok.has,I.ok.cab,I.ok.hd,I.ok.frames,I.ok.stk,I.ok.exf,I.ok.bs,I.ok.bsz,I.ok.noex,I.ok.exfs,I.ok.funs,I.ok.frf⟩,I.os,I.bare,I.base,I.loc,I.cell,I.free,I.freeC,I.pin,I.hok,I.len⟩
theorem Inv.ofX (I:Inv (X.blockX P w E M scope cl C s₃ H₃ ex) pins σ H s):Inv (X.block M scope cl C s₃ H₃ ex) pins σ H s :=
 ⟨⟨I.ok.mod,I.ok.kind,I.ok.glob,I.ok.blt,I.ok.above,I.ok.inj,I.ok.has,I.ok.cab,I.ok.hd,I.ok.frames,I.ok.stk,I.ok.exf,I.ok.bs,I.ok.bsz,I.ok.noex,I.ok.exfs,I.ok.funs,I.ok.frf⟩,I.os,I.bare,I.base,I.loc,I.cell,I.free,I.freeC,I.pin,I.hok,I.len⟩
theorem pass_blk:Passes (CXX P w) (X.blockX P w E M scope cl C s₃ H₃ ex) E:=fun pins σ H s e s' I h=>⟨pins,σ,H,s,I.ofX,h⟩
end
section
variable {P:Program} {w:World} {K:PySem.W.Frag} {mg:Str->Option Value} {base:Heap} {N:List Str} {qual:Str} {dsc:Scope} {f:Addr} {cd:Value} {A:Around} {outer:List Env} {s₀:Shared} {H₀:Hp} {E:XK}
local macro_rules | `(tactic| walk_at "xx")=>`(tactic| exact cxOf (CXX P w) P w K mg base N qual dsc f cd A outer s₀ H₀ E)
theorem blk_out {X:Cx} (hX:X=cxOf (CXX P w) P w K mg base N qual dsc f cd A outer s₀ H₀ E) {M:List Str} {scope:Scope} {cl:List (Str × Addr)} {D:Addr} {fp:List Addr} {pins:List (Addr × Obj)} {σ:St} {H2:Hp} {s3:Shared} {e:Value} {s':Shared} {Q':Value->Shared->Prop}
  (I3:Inv X pins σ H2 s3) (f3:∀ b∈fp,FpOk X pins H2 b) (hD0:X.s₀.heap.objs.size<=D) (hDL:D≠X.env.locals) (hDc:∀ x c,X.env.cells.lookup x=some c->c≠D) (hDp:∀ p∈X.pn++pins,p.1≠D)
  (hy:(X.blockX P w E M scope cl s3.heap.objs.size s3 H2 (D::fp)).xe e s') :
  notedBy (model X.prog X.w) X.A (compEnvC scope cl s3.heap.objs.size X.env) (fun x s''=>compPost (model X.prog X.w) X.A X.xe none Q' (.ref D) s3.heap.objs.size (.error x) s'') e s':=by
 obtain ⟨pins',σ',H,s,I,ea,cls,a0,H',B,rfl,os,bare,un,hok,fl,cv,ne,q⟩:=hy
 have I1:Inv (X.block M scope cl s3.heap.objs.size s3 H2 (D::fp)) pins' σ' H' s':=I.call' os un (by rw[hX];exact hok) bare fun b z=>absurd z (by simp)
 have hCs:s3.heap.objs.size∉frs X.stack:=fun z=>by
  rcases List.mem_cons.mp (I3.stkSub _ z) with r | r
  ·exact Nat.ne_of_gt I3.lt r
  ·exact I3.nofs (Nat.le_refl _) r
 have hCn:H' s3.heap.objs.size=none:=I1.free
 obtain ⟨mC,hnC,_⟩:=id I1.loc
 have hnC':s'.heap.Ns s3.heap.objs.size mC:=hnC
 have hst:X.stack=X.env::outer:=by rw[hX];rfl
 have hfrm:X.A.frames=some (X.env::outer):=by
  have:=I3.ok.frames
  rw[hst]at this
  exact this
 have hfL:X.env.frame=some X.env.locals:=by rw[hX];rfl
 generalize hC:s3.heap.objs.size=C at *
 have less:∀ b o,(B.hide C).get? b=some o->B.get? b=some o:=fun b o z=>Heap.of_hide z
 have bNo:∀ {b:Addr},B.get? b=none->(B.hide C).get? b=none:=get_less less
 obtain ⟨fl1,fl2,fl3,oe,xs,T,oT,ys,t1,t2,t3,t4,t5,t6,t7,t8,t9⟩:=fl
 have flB:Heap.FlyingW (B.hide C) (X.env::outer) ea cls a0 s'.heap:=by
  rw[hst]at fl3
  exact ⟨fun b o z=>fl1 b o (less b o z),bNo fl2,funFrames_less less fl3,oe,xs,T,oT,ys,t1,t2,t3,t4,bNo t5,t6,t7,t8,t9⟩
 show wpAny _ _ (noteFrame (.ref ea) X.env) _ _ s'
 refine wpAny_looks_onW hfrm hfL flB fun h1 held up1=>?_
 refine ⟨mC,up1.ns hnC',fun h2 sb cenv hc=>?_⟩
 obtain ⟨g1,g2,g3,oe2,xs2,T2,oT2,ys2,u1,u2,u3,u4,u5,u6,u7,u8,u9⟩:=held
 have nsC:=up1.ns hnC'
 have notC:∀ {b:Addr} {o:Obj} {zs:Array Value},h1.get? b=some o->o.data=.fields zs->b≠C:=fun {b o zs} e1 e2 z=>by
  obtain ⟨o',es,ep,r1,r2,_⟩:=nsC
  rw[z,r1]at e1
  cases e1
  rw[r2]at e2
  cases e2
 have sb':∀ b,b≠C->h2.get? b=h1.get? b:=sb.2
 have notB:∀ {b:Addr} {o:Obj},(B.hide C).get? b=some o->b≠C:=fun {b o} e z=>by rw[z,Heap.hide_self]at e;cases e
 have hxe:X.xe=fun e s'=>wpAny (model X.prog X.w) X.A (leaving X.env e) (fun _ s''=>CXX P w outer H₀ s₀ E e s'') (fun e' s''=>CXX P w outer H₀ s₀ E e' s'') s':=by rw[hX];rfl
 rw[hxe]
 refine pass_leave (s:={ s' with heap:=h2 }) (Q:=fun e _ s''=>CXX P w outer H₀ s₀ E e s'') (fl:=rawInt X.env.locals) (bs:=B.hide C) (cl:=cls) (a0:=a0) hfrm hfL (fun b o z=>(sb' b (notB z)).trans (g1 b o z)) g2 (funFrames_but g3 fun a ha=>sb' a fun z=>hCs (by rw[hst,<- z];exact ha))
  ⟨oe2,xs2,T2,oT2,ys2,(sb' ea (notC u1 u3)).trans u1,u2,u3,u4,u5,u6,(sb' T2 (notC u7 u8)).trans u7,u8,u9⟩ fun h3 fl3' up3=>?_
 have hsC:Heap.SameBut C s'.heap (s'.heap.hide C):=⟨Heap.hide_size _ _,fun b hb=>Heap.hide_ne _ hb⟩
 have neC:∀ b o,s3.heap.get? b=some o->b≠C:=fun b o e=>by rw[<- hC];exact Nat.ne_of_lt (Heap.lt_size e)
 have un6:Un (frs X.stack) (D::fp) H2 H' s3.heap (s'.heap.hide C):=by
  have B1:=I1.base
  exact ⟨fun b o e n hb hx=>(hsC.2 b (neC b o e)).trans (B1.keep b o e n hb hx),fun b o e n hb hx=>let ⟨sl,q⟩:=B1.slot b o e n hb hx;⟨sl,(hsC.2 b (neC b o e)).trans q⟩,B1.free,
   fun b o e hx=>let ⟨o',q⟩:=B1.there b o e hx;⟨o',(hsC.2 b (neC b o e)).trans q⟩,B1.tups,B1.frzs,B1.tbls⟩
 have hok6:HOk X.prog X.w H' (s'.heap.hide C):=fun b u e=>by
  refine (I1.hok b u e).stay (fun c v hc q=>(hsC.2 c ?_).trans q) (fun _ q=>q) fun _ _ q=>q
  rcases hc with z | z
  ·rw[z];exact fun q=>by rw[q,hCn]at e;cases e
  ·exact fun q=>by rw[q,hCn]at z;cases z
 have I6:Inv X pins σ H' { s' with heap:=s'.heap.hide C }:=I3.call' (s':={ s' with heap:=s'.heap.hide C }) (ch:=D::fp) I1.os un6 hok6 I1.bare fun b hb=>by
  rcases List.mem_cons.mp hb with q | q
  ·rw[q];exact ⟨.inr hD0,hDL,hDc,hDp⟩
  ·obtain ⟨q0,q1,q2,q3,q4,q5⟩:=f3 b q
   exact ⟨q3,q1,q4,q5⟩
 have cov:Cov X [] H' (B.hide C):=by
  refine ⟨fun b u hu=>?_,fun b o ho nb hx=>?_,fun p hp=>?_⟩
  ·obtain ⟨o,r⟩:=cv b (fun z=>by rw[I6.stkFree b z]at hu;cases hu) (.inl ⟨u,hu⟩)
   exact ⟨o,(Heap.hide_ne _ fun z=>by rw[z,hCn]at hu;cases hu).trans r⟩
  ·obtain ⟨o1,r1⟩:=I3.base.there b o ho hx
   have ltb:=Heap.lt_size ho
   have nex:b∉D::fp:=fun z=>by
    rcases List.mem_cons.mp z with r | r
    ·rw[r]at ltb;exact absurd (Nat.lt_of_lt_of_le ltb hD0) (Nat.lt_irrefl _)
    ·rcases (f3 b r).2.2.2.1 with y | y
     ·exact hx y
     ·exact absurd (Nat.lt_of_lt_of_le ltb y) (Nat.lt_irrefl _)
   obtain ⟨o2,r2⟩:=I.base.there b o1 r1 nex
   obtain ⟨o3,r3⟩:=cv b nb (.inr ⟨o2,r2⟩)
   exact ⟨o3,(Heap.hide_ne _ (neC b o1 r1)).trans r3⟩
  ·rw[hX]at hp
   cases hp
 have up6:(s'.heap.hide C).UpToSlots h3:=fun b o e hn=>by
  have nb:b≠C:=fun z=>by rw[z,Heap.hide_self]at e;cases e
  obtain ⟨sl,r1⟩:=up1 b o (Heap.of_hide e) hn
  obtain ⟨sl',r2⟩:=up3 b _ ((sb' b nb).trans r1) hn
  exact ⟨sl',r2⟩
 subst hX
 have fin:=left_cx (s:={ s' with heap:=s'.heap.hide C }) I6 (fun b o z=>(hsC.2 b (notB z)).trans (fl1 b o (less b o z))) ⟨fl3'.1,fl3'.2.1,fl3'.2.2.1.2.2,fl3'.2.2.2⟩ up6 cov ne q
 exact fin
end
section
variable {prog:Program} {w:World} {A:Around} {R:Result->Shared->Prop} {s:Shared}
theorem compLoop_anyX {E':Value->Shared->Prop} {elt target iter:Expr} {ifs:List Expr} {scope:Scope} {pos:Pos} {it acc:Value} {env:Env} (hE:∀ e s',E' e s'->notedBy (model prog w) A env (fun x s''=>R (.error x) s'') e s') (I:Nat->Shared->Prop)
  (turn:∀ n s,I n s->wpAny (model prog w) A (pyNext it) (fun r s₁=>match r with
   | none=>R (.ok .next) s₁
   | some v=>wpAny (model prog w) A (letOwnedTupleGo target it v) (fun _ s₁'=>wpAny (model prog w) A (assign target env v) (fun _ s₂ =>
     wpAny (model prog w) A (forIn ifs true fun c r=>if r=true then do let ok <- isTrue c env (eval c env);pure (ForInStep.yield ok) else pure (ForInStep.yield r)) (fun ok s₃ =>
      if ok=true then wpAny (model prog w) A (eval elt env) (fun x s₄ =>
       wpAny (model prog w) A (call (.builtin "list.append") [acc,x]) (fun _ s₅=>∃ m,m < n/\I m s₅) E' s₄) E' s₃
      else ∃ m,m < n/\I m s₃) E' s₂) E' s₁') E' s₁) E' s)
  (n:Nat) (h:I n s):codeAny (model prog w) A (.compLoop (.ListComp elt [⟨target,iter,ifs,0⟩] scope pos) 0 it acc env) R s:=by
 refine codeAny_loop rfl I (fun n s hI=>?_) n h
 show wpAny _ A ((compTurn (.ListComp elt [⟨target,iter,ifs,0⟩] scope pos) 0 it acc env).onRaise (fun x=>do noteFrame x env;theTreesLotGoes x)) _ _ s
 refine wpAny_noted ?_
 rw[compTurn_list]
 refine wpAny_bind (wpAny_standAt (wpAny_bind (wpAny_mono (turn n s hI) (fun r s₁ h₁=>?_) fun _ _ h'=>hE _ _ h')))
 cases r with
 | none=>exact wpAny_pure h₁
 | some v =>
  refine wpAny_bind (wpAny_mono h₁ (fun _ s₁' h₁'=>?_) fun _ _ h'=>hE _ _ h')
  refine wpAny_bind (wpAny_mono h₁' (fun _ s₂ h₂=>wpAny_bind (wpAny_mono h₂ (fun ok s₃ h₃=>?_) fun _ _ h'=>hE _ _ h')) fun _ _ h'=>hE _ _ h')
  cases ok with
  | false=>exact wpAny_pure ⟨rfl,h₃⟩
  | true =>
   exact wpAny_bind (wpAny_bind (wpAny_mono h₃ (fun x s₄ h₄=>wpAny_bind (wpAny_mono h₄ (fun _ s₅ h₅=>wpAny_pure (wpAny_pure ⟨rfl,h₅⟩)) fun _ _ h'=>hE _ _ h')) fun _ _ h'=>hE _ _ h'))
end
section
variable {P:Program} {w:World} {K:PySem.W.Frag} {mg:Str->Option Value} {base:Heap} {N:List Str} {qual:Str} {dsc:Scope} {f:Addr} {cd:Value} {A:Around} {outer:List Env} {s₀:Shared} {H₀:Hp} {E:XK}
variable {X:Cx} {elt target iter:Expr} {ifs:List Expr} {scope:Scope} {pos:Pos} {M:List Str} {wi:TI} {g:TG} {tt:TT} {te:TE}
theorem comp_coreX (hX:X=cxOf (CXX P w) P w K mg base N qual dsc f cd A outer s₀ H₀ E) (hc:X.calm=true) (S:CompScope X scope) (hi:PI X target iter wi)
  (hg:∀ cl C s₃ H₃ ex,PG (X.block M scope cl C s₃ H₃ ex) target g) (ht:∀ cl C s₃ H₃ ex,PTs (X.block M scope cl C s₃ H₃ ex) ifs tt) (he:∀ cl C s₃ H₃ ex,PE (X.blockX P w E M scope cl C s₃ H₃ ex) elt te)
  (hs:∀ x,foldedSetIterable iter X.env x=pure x) {Q':Value->Shared->Prop} {pos':Pos} {pins:List (Addr × Obj)} {s:Shared} {σ:St} {H:Hp} {Q:VK} (I:Inv X pins σ H s) (h:tCompK M wi g tt te σ H Q)
  (done:∀ (D C:Addr) (H':Hp) (s5:Shared) (mC:Str->Option Value),Q (.ref D) H'->s5.heap.Ns C mC->H' C=none->C≠X.env.locals->X.s₀.heap.objs.size<=C->(∀ x c,X.env.cells.lookup x=some c->c≠C)->(∀ p∈X.pn++pins,p.1≠C) ->
   (∀ h',Heap.SameBut C s5.heap h'->Inv X pins σ H' { s5 with heap:=h' })->∀ r,compPost (model X.prog X.w) X.A X.xe none Q' (.ref D) C (.ok r) s5) :
  wpAny (model X.prog X.w) X.A (comprehension (.ListComp elt [⟨target,iter,ifs,0⟩] scope pos) scope X.env pos' (newList []) false (eval iter X.env) none) Q' X.xe s:=by
 obtain ⟨cl,hclos,hcl1,hcl2⟩:=closureFor_of (scope:=scope) (env:=X.env) fun y hy e=>I.ok.has y.1 (S.free y hy e)
 refine wpAny_comprehension_free (use:=none) rfl hs hclos S.kind S.names ?_
 refine thn (hi pins s σ H _ I h) fun xv s1 h1=>thn h1 fun itv s2 h2=>?_
 obtain ⟨it,fp,tn,J,H2,e,I2,T,st2,f2,W,⟨m0,w0⟩,turn⟩:=h2
 subst e
 refine wpAny_newObj_type (wpAny_newFunctionEnv S.cell (by intro y hy;simp at hy) (fun h₁ hns₁ hsb₁=>?_) S.kind)
 dsimp only at hns₁ hsb₁ ⊢
 have I3:Inv X pins σ H2 { s2 with heap:=s2.heap.push { cls:=.type "list",dict:=none,data:=.seq ([]:List Value).toArray } }:=I2.kept (t':=s2.toks) fun b o e=>Heap.get?_push_of_some _ e
 have hD3:(s2.heap.push { cls:=.type "list",dict:=none,data:=.seq ([]:List Value).toArray }).get? s2.heap.objs.size=some { cls:=.type "list",dict:=none,data:=.seq ([]:List Value).toArray }:=Heap.get?_push_size _ rfl
 have fpLt:∀ b∈fp,b < s2.heap.objs.size:=fun b hb=>by
  obtain ⟨o,e,_⟩:=T.obj 0 s2.heap st2 b hb
  exact Heap.lt_size e
 have st3:tn 0 (s2.heap.push { cls:=.type "list",dict:=none,data:=.seq ([]:List Value).toArray }):=T.keep 0 _ _ st2 fun b _ o e=>Heap.get?_push_of_some _ e
 have f3:∀ b∈fp,FpOk X pins H2 b:=f2
 have hDn:H2 s2.heap.objs.size=none:=I2.hok.fresh (Nat.le_refl _)
 have hDL:s2.heap.objs.size≠X.env.locals:=Nat.ne_of_gt I2.lt
 have hD0:X.s₀.heap.objs.size<=s2.heap.objs.size:=I2.sz
 have hDs:s2.heap.objs.size∉frs X.stack:=fun z=>by
  rcases List.mem_cons.mp (I2.stkSub _ z) with q | q
  ·exact hDL q
  ·exact I2.nofs (Nat.le_refl _) q
 have hDc:∀ x c,X.env.cells.lookup x=some c->c≠s2.heap.objs.size:=fun x c e=>by
  obtain ⟨v,q⟩:=I2.cell x c e
  exact Nat.ne_of_lt q.lt
 have hDp:∀ p∈X.pn++pins,p.1≠s2.heap.objs.size:=fun p hp=>Nat.ne_of_lt (Heap.lt_size (I2.pin p hp).1)
 have hDf:s2.heap.objs.size∉fp:=fun z=>Nat.lt_irrefl _ (fpLt _ z)
 generalize hDe:s2.heap.objs.size=D at hD3 hDn hDL hD0 hDs hDc hDp hDf ⊢
 generalize hS3:({ s2 with heap:=s2.heap.push { cls:=.type "list",dict:=none,data:=.seq ([]:List Value).toArray } }:Shared)=s3 at I3
 have es3:s2.heap.push { cls:=.type "list",dict:=none,data:=.seq ([]:List Value).toArray }=s3.heap:=by rw[<- hS3]
 rw[es3]at hns₁ hsb₁ hD3 st3 ⊢
 have fpLt3:∀ b∈fp,b < s3.heap.objs.size:=fun b hb=>by
  rw[<- es3,Heap.size_push];exact Nat.lt_succ_of_lt (fpLt b hb)
 have hDlt:D < s3.heap.objs.size:=Heap.lt_size hD3
 have kp:∀ b o,s3.heap.get? b=some o->h₁.get? b=some o:=fun b o e=>(hsb₁.2 b (Nat.ne_of_lt (Heap.lt_size e))).trans (Heap.get?_push_of_some _ e)
 have IB:=Inv.block (M:=M) (h₁:=h₁) (t₁:=s2.toks+([]:List (Str × Value)).length) I3 S.free S.cell S.kind S.apart hcl1 hcl2 f3 fpLt3 hDlt hDn hD0 hDL hDs hDc (by simpa using hns₁) kp
 have X'def:X.block M scope cl s3.heap.objs.size s3 H2 (D::fp)=X.block M scope cl s3.heap.objs.size s3 H2 (D::fp):=rfl
 have stat:∀ {H':Hp} {ob:Obj},(∀ b∈fp,H' b=none)->∀ b∈fp,FpOk (X.block M scope cl s3.heap.objs.size s3 H2 (D::fp)) (pins++[(D,ob)]) H' b:=fun {H' ob} hn b hb=>by
  obtain ⟨q0,q1,q2,q3,q4,q5⟩:=f3 b hb
  refine ⟨hn b hb,Nat.ne_of_lt (fpLt3 b hb),fun z=>?_,.inl (List.mem_cons_of_mem _ hb),fun x c e=>q4 x c (hcl1 x c e),fun p hp=>?_⟩
  ·rcases List.mem_cons.mp (I3.stkSub b z) with q | q
   ·exact q1 q
   ·exact q2 q
  ·have hp:p∈X.pn++(pins++[(D,ob)]):=hp
   rw[<- List.append_assoc]at hp
   rcases List.mem_append.mp hp with q | q
   ·exact q5 p q
   ·have q':p=(D,ob):=by simpa using q
    rw[q']
    exact fun z=>hDf (by rw[show D=b from z];exact hb)
 have isL:∀ its:List Value,∀ n:Nat,∀ v,({ cls:=.type "list",data:=.seq its.toArray n }:Obj).data≠.cell v:=fun _ _ _ z=>by cases z
 have loop:∀ s₄:Shared,s₄={ s3 with heap:=h₁,toks:=s2.toks+([]:List (Str × Value)).length } ->
   codeAny (model X.prog X.w) X.A (.compLoop (.ListComp elt [⟨target,iter,ifs,0⟩] scope pos) 0 (.ref it) (.ref D) (compEnvC scope cl s3.heap.objs.size X.env))
    (compPost (model X.prog X.w) X.A X.xe none Q' (.ref D) s3.heap.objs.size) s₄:=by
  rintro s₄ rfl
  refine compLoop_anyX (E':=(X.blockX P w E M scope cl s3.heap.objs.size s3 H2 (D::fp)).xe) (fun _ _ hy=>blk_out hX I3 f3 hD0 hDL hDc hDp hy) (fun n s'=>∃ i ys its k H',Inv (X.block M scope cl s3.heap.objs.size s3 H2 (D::fp)) pins (M.map (fun _=>none)++σ) H' s'/\tn i s'.heap/\(∀ b∈fp,H' b=none)/\H' D=none /\
   Vals ys its/\s'.heap.get? D=some { cls:=.type "list",data:=.seq its.toArray k }/\W i n ys H') ?_ m0 ⟨0,[],[],_,H2,IB,T.keep 0 _ _ st3 fun b _ o e=>kp b o e,fun b hb=>(f3 b hb).1,hDn,.nil,kp _ _ hD3,w0⟩
  rintro n s4 ⟨i,ys,its,k,H4,I4,st4,fr4,hD4,rv4,ho4,w4⟩
  have I4D:Inv (X.block M scope cl s3.heap.objs.size s3 H2 (D::fp)) (pins++[(D,{ cls:=.type "list",data:=.seq its.toArray k })]) (M.map (fun _=>none)++σ) H4 s4:=I4.pins_of fun p hp=>by
   rcases List.mem_append.mp hp with q | q
   ·exact I4.pin p (List.mem_append_right _ q)
   ·have q':p=(D,{ cls:=.type "list",data:=.seq its.toArray k }):=by simpa using q
    subst q'
    exact ⟨ho4,hD4,Nat.ne_of_lt hDlt,hDs,isL _ _⟩
  rcases turn i n ys H4 w4 with ⟨stop,hz,fin⟩ | ⟨go,hz,Nx,hNx,step⟩
  ·refine thn (T.done (X.block M scope cl s3.heap.objs.size s3 H2 (D::fp)) rfl rfl rfl hc i _ s4 _ H4 _ I4D (stat fr4) st4 stop) fun r s5 ⟨hr,I5⟩=>?_
   subst hr
   have ho5:s5.heap.get? D=some { cls:=.type "list",data:=.seq its.toArray k }:=(I5.pin (D,_) (List.mem_append_right _ (List.mem_append_right _ (by simp)))).1
   obtain ⟨mC,hnC,_⟩:=id I5.loc
   have hCn:H4 s3.heap.objs.size=none:=I5.free
   have hCD:s3.heap.objs.size≠D:=Nat.ne_of_gt hDlt
   refine done D s3.heap.objs.size (upd H4 D (.lst ys)) s5 mC (fin D hD4) hnC (by rw[zA8 hCD];exact hCn) (Nat.ne_of_gt I3.lt) I3.sz (fun x c e=>?_) (fun p hp=>Nat.ne_of_lt (Heap.lt_size (I3.pin p hp).1)) (fun h' hs'=>?_) _
   ·obtain ⟨v,q⟩:=I3.cell x c e
    exact Nat.ne_of_lt q.lt
   have hsC:Heap.SameBut s3.heap.objs.size s5.heap h':=hs'
   have un:Un (frs X.stack) (D::fp) H2 H4 s3.heap h':=by
    have B:=I5.base
    have neC:∀ b o,s3.heap.get? b=some o->b≠s3.heap.objs.size:=fun b o e=>Nat.ne_of_lt (Heap.lt_size e)
    exact ⟨fun b o e n hb hx=>(hsC.2 b (neC b o e)).trans (B.keep b o e n hb hx),fun b o e n hb hx=>let ⟨sl,q⟩:=B.slot b o e n hb hx;⟨sl,(hsC.2 b (neC b o e)).trans q⟩,B.free,
     fun b o e hx=>let ⟨o',q⟩:=B.there b o e hx;⟨o',(hsC.2 b (neC b o e)).trans q⟩,B.tups,B.frzs,B.tbls⟩
   have hok':HOk X.prog X.w H4 h':=fun b u e=>by
    refine (I5.hok b u e).stay (fun c v hc q=>(hsC.2 c ?_).trans q) (fun _ q=>q) fun _ _ q=>q
    rcases hc with z | z
    ·rw[z];exact fun q=>by rw[q,hCn]at e;cases e
    ·exact fun q=>by rw[q,hCn]at z;cases z
   have I6:Inv X pins σ H4 { s5 with heap:=h' }:=I3.call' (s':={ s5 with heap:=h' }) (ch:=D::fp) I5.os un hok' I5.bare fun b hb=>by
    rcases List.mem_cons.mp hb with q | q
    ·rw[q];exact ⟨.inr hD0,hDL,hDc,hDp⟩
    ·obtain ⟨q0,q1,q2,q3,q4,q5⟩:=f3 b q
     exact ⟨q3,q1,q4,q5⟩
   have ho6:h'.get? D=some { cls:=.type "list",data:=.seq its.toArray k }:=(hsC.2 D (Nat.ne_of_lt hDlt)).trans ho5
   exact I6.adopt hD4 hD0 hDL hDc hDp ⟨hz,its,k,rv4,ho6⟩
  ·refine thn (T.item (X.block M scope cl s3.heap.objs.size s3 H2 (D::fp)) rfl rfl rfl hc i _ s4 _ H4 _ I4D (stat fr4) st4 go) fun r s5 ⟨u,hr,h5⟩=>?_
   subst hr
   refine thn h5 fun _ s6 ⟨x,H6,I6,r6,y6,st6,fr6⟩=>?_
   have I6':=I6.pinned (stat fr6) (T.obj _ _ st6)
   refine wpAny_mono (hg _ _ _ _ _ _ s6 _ H6 x u _ I6' r6 (step x H6 y6)) (fun _ s7 ⟨σ7,H7,I7,e7,q7⟩=>?_) fun _ _ z=>z.elim
   refine wpAny_mono (ht _ _ _ _ _ _ s7 σ7 H7 _ I7 q7) (fun b s8 ⟨H8,I8,q8⟩=>?_) fun _ _ z=>z.elim
   have wk:∀ {H9:Hp} {s9:Shared},Inv (X.block M scope cl s3.heap.objs.size s3 H2 (D::fp)) pins σ7 H9 s9->Inv (X.block M scope cl s3.heap.objs.size s3 H2 (D::fp)) pins (M.map (fun _=>none)++σ) H9 s9:=fun {H9 s9} I9=>by
    have hl:(M.map (fun _=>(none:Option V))++σ).length=σ7.length:=by rw[I9.len];exact IB.len
    refine I9.weak hl fun j v e=>?_
    by_cases hj:j < M.length
    ·rw[List.getElem?_append_left (by simpa using hj),List.getElem?_map]at e
     cases q:M[j]? with
     | none=>rw[q]at e;cases e
     | some a=>rw[q]at e;cases e
    ·rw[List.getElem?_append_right (by simpa using hj),List.length_map,<- e7,List.getElem?_drop]at e
     have:M.length+(j-M.length)=j:=by omega
     rw[this]at e
     exact e
   have unpin:∀ {H9:Hp} {s9:Shared},Inv (X.block M scope cl s3.heap.objs.size s3 H2 (D::fp)) (pins++[(D,{ cls:=.type "list",data:=.seq its.toArray k })]++pinsAt fp s6.heap) σ7 H9 s9 ->
     Inv (X.block M scope cl s3.heap.objs.size s3 H2 (D::fp)) pins σ7 H9 s9/\s9.heap.get? D=some { cls:=.type "list",data:=.seq its.toArray k }/\H9 D=none/\tn (i+1) s9.heap/\∀ b∈fp,H9 b=none:=fun {H9 s9} I9=>by
    have pD:=I9.pin (D,{ cls:=.type "list",data:=.seq its.toArray k }) (List.mem_append_right _ (List.mem_append_left _ (List.mem_append_right _ (by simp))))
    refine ⟨I9.pins_of fun p hp=>I9.pin p (List.mem_append_right _ (List.mem_append_left _ (List.mem_append_left _ hp))),pD.1,pD.2.1,T.keep _ _ _ st6 fun b hb o e=>(I9.pin (b,o) (List.mem_append_right _ (List.mem_append_right _ (mem_pinsAt hb e)))).1,fun b hb=>?_⟩
    obtain ⟨o,e,d⟩:=T.obj _ _ st6 b hb
    exact (I9.pin (b,o) (List.mem_append_right _ (List.mem_append_right _ (mem_pinsAt hb e)))).2.1
   cases b with
   | false =>
    have q8:Nx ys H8:=by simpa using q8
    obtain ⟨m',hm,w8⟩:=hNx _ _ q8
    obtain ⟨I9,ho9,hD9,st9,fr9⟩:=unpin I8
    exact ⟨m',hm,i+1,ys,its,k,H8,wk I9,st9,fr9,hD9,rv4,ho9,w8⟩
   | true =>
    have q8:te σ7 H8 fun y H4=>Nx (ys++[y]) H4:=by simpa using q8
    rw[if_pos rfl]
    refine thn (he _ _ _ _ _ _ s8 σ7 H8 _ I8.toX q8) fun yv s9 ⟨y,H9,I9x,r9,n9⟩=>?_
    have I9:=I9x.ofX
    obtain ⟨m',hm,w9⟩:=hNx _ _ n9
    obtain ⟨I10,ho10,hD10,st10,fr10⟩:=unpin I9
    have hlen:=rv4.length
    refine append_at (hsz:=by rw[List.size_toArray];omega) ho10 fun h11 hs11 hD11=>?_
    have I11:Inv (X.block M scope cl s3.heap.objs.size s3 H2 (D::fp)) pins σ7 H9 { s9 with heap:=h11 }:=I10.turned (t':=s9.toks) (it:=D) (fun b o hb e=>(hs11.2 b hb).trans e) hD10 (Nat.ne_of_lt hDlt) (.inl List.mem_cons_self) (fun x c e=>hDc x c (hcl1 x c e)) hDp
    refine ⟨m',hm,i+1,ys++[y],its++[yv],k+1,H9,wk I11,T.keep _ _ _ st10 fun b hb o e=>(hs11.2 b (fun z=>hDf (by rw[<- z];exact hb))).trans e,fr10,hD10,rv4.append (.cons r9 .nil),?_,w9⟩
    rw[hD11,List.push_toArray]
 have hst4:tn 0 h₁:=T.keep 0 _ _ st3 fun b _ o e=>kp b o e
 have fin:∀ s₄:Shared,s₄={ s3 with heap:=h₁,toks:=s2.toks+([]:List (Str × Value)).length } ->
   codeAny (model X.prog X.w) X.A (.compStart (.ListComp elt [⟨target,iter,ifs,0⟩] scope pos) 0 (.ref it) (.ref D) (compEnvC scope cl s3.heap.objs.size X.env))
    (compPost (model X.prog X.w) X.A X.xe none Q' (.ref D) s3.heap.objs.size) s₄:=fun s₄ e4 =>
  codeAny_compStart_list (loop s₄ e4) (T.self X.A 0 s₄ _ _ (by rw[e4];exact hst4) (loop s₄ e4))
 exact fin _ (by rw[<- hS3])
theorem pe_compX (hX:X=cxOf (CXX P w) P w K mg base N qual dsc f cd A outer s₀ H₀ E) (hc:X.calm=true) (S:CompScope X scope) (hi:PI X target iter wi)
  (hg:∀ cl C s₃ H₃ ex,PG (X.block M scope cl C s₃ H₃ ex) target g) (ht:∀ cl C s₃ H₃ ex,PTs (X.block M scope cl C s₃ H₃ ex) ifs tt) (he:∀ cl C s₃ H₃ ex,PE (X.blockX P w E M scope cl C s₃ H₃ ex) elt te)
  (hs:∀ x,foldedSetIterable iter X.env x=pure x:=by intro _;rfl):PE X (.ListComp elt [⟨target,iter,ifs,0⟩] scope pos) (tCompK M wi g tt te):=by
 intro pins s σ H Q I h
 rw[eval_ListComp]
 exact comp_coreX hX hc S hi hg ht he hs I h fun D C H' s5 mC q hn _ _ _ _ _ inv _=>⟨mC,hn,fun h' hs'=>⟨.ref D,H',inv h' hs',rfl,q⟩⟩

def tCut (t:TS):TS:=fun D σ H=>t { D with nx:=fun _ _=>False } σ H
theorem zCo {X:Cx} {st:Stmt} {rest:List Stmt} {t:TS} (h:PS X st t):PSs X (st::rest) (tCut t):=by
 intro pins s σ H D I hw
 refine wpAny_execs_cons (thn (h pins s σ H { D with nx:=fun _ _=>False } I hw) fun f s1 q=>?_)
 cases f with
 | next=>obtain ⟨_,_,_,z⟩:=q;exact z.elim
 | ret v=>exact q
 | brk=>exact q
 | cont=>exact q
theorem r_cut {t:TS} {D:Ends} {σ:St} {H:Hp}:tCut t D σ H=t { D with nx:=fun _ _=>False } σ H:=rfl
def tStop (te:TE):TS:=fun _ σ H=>te σ H fun _ _=>False
theorem ps_forStop {X:Cx} {tg iter:Expr} {body:List Stmt} {te:TE} {pos:Pos} (h:PE X iter te) (hs:∀ x,foldedSetIterable iter X.env x=pure x:=by intro _;rfl):PS X (.For tg iter body [] pos) (tStop te):=by
 intro pins s σ H D I hw
 exact wpAny_For (thn (h pins s σ H _ I hw) fun v s1 ⟨_,_,_,_,z⟩=>z.elim) hs
theorem r_stop {te:TE} {D:Ends} {σ:St} {H:Hp}:tStop te D σ H=te σ H fun _ _=>False:=rfl
def tHalt (te:TE):TE:=fun σ H _=>te σ H fun _ _=>False
theorem pe_compStop {X:Cx} {elt target iter:Expr} {ifs:List Expr} {scope:Scope} {pos:Pos} {te:TE} (S:CompScope X scope) (h:PE X iter te) (hs:∀ x,foldedSetIterable iter X.env x=pure x:=by intro _;rfl):PE X (.ListComp elt [⟨target,iter,ifs,0⟩] scope pos) (tHalt te):=by
 intro pins s σ H Q I hw
 rw[eval_ListComp]
 obtain ⟨cl,hclos,_,_⟩:=closureFor_of (scope:=scope) (env:=X.env) fun y hy e=>I.ok.has y.1 (S.free y hy e)
 refine wpAny_comprehension_free (use:=none) rfl hs hclos S.kind S.names ?_
 exact thn (h pins s σ H _ I hw) fun v s1 ⟨_,_,_,_,z⟩=>z.elim
theorem r_halt {te:TE} {σ:St} {H:Hp} {Q:VK}:tHalt te σ H Q=te σ H fun _ _=>False:=rfl
end
end L2

set_option maxHeartbeats 4000000
namespace L2
open PySem PySem.Builtin PySem.Builtin.Str PySem.StrLaws

def Tn (l:List Nat):PySem.Str:=⟨l.toArray⟩

def dg (k:Nat):List Nat:=if k < 10 then [48+k] else [49,38+k]
theorem dg_str:∀ k,k < 16->PySem.Str.ofString (toString ((k:Nat):Int))=Tn (dg k):=by decide +kernel
end L2
namespace L2
open PySem PySem.Spec PyProof.Rows
section
variable {X:Cx}
theorem strs_of:∀ {ss:List PySem.Str} {us:List Value},Vals (ss.map V.str) us->∃ l:List (PySem.Str × Tok),us=strValues l/\l.map (·.1)=ss
 | [],_,.nil=>⟨[],rfl,rfl⟩
 | s::ss,_,.cons r rr=>by
  obtain ⟨t,e⟩:=r
  obtain ⟨l,e1,e2⟩:=strs_of rr
  exact ⟨(s,t)::l,by rw[e,e1];rfl,by rw[List.map_cons,e2]⟩
theorem vals_strs:∀ (l:List (PySem.Str × Tok)),Vals ((l.map (·.1)).map V.str) (strValues l)
 | []=>.nil
 | p::l=>.cons ⟨p.2,rfl⟩ (vals_strs l)

def rStarts:V->List V->Hp->VK->Prop:=fun x vs H Q=>∃ a b,x=.str a/\vs=[.str b]/\Q (.bl (Txt.startswith a b)) H
theorem mt_starts:MtM X "str.startswith" rStarts:=by
 intro pins s σ H x vs v us Q I rx rv h
 obtain ⟨a,b,rfl,rfl,q⟩:=h
 obtain ⟨t,rfl⟩:=rx
 obtain ⟨u,rfl,ru⟩:=rv.one
 obtain ⟨t',rfl⟩:=ru
 exact SC.startswith ⟨.bl _,H,I,(show Value.bool _=Value.bool _ from rfl),q⟩
def rEnds:V->List V->Hp->VK->Prop:=fun x vs H Q=>∃ a b,x=.str a/\vs=[.str b]/\Q (.bl (Txt.endswith a b)) H
theorem mt_ends:MtM X "str.endswith" rEnds:=by
 intro pins s σ H x vs v us Q I rx rv h
 obtain ⟨a,b,rfl,rfl,q⟩:=h
 obtain ⟨t,rfl⟩:=rx
 obtain ⟨u,rfl,ru⟩:=rv.one
 obtain ⟨t',rfl⟩:=ru
 exact SC.endswith ⟨.bl _,H,I,(show Value.bool _=Value.bool _ from rfl),q⟩
def rJoin (K:PySem.W.Frag):V->List V->Hp->VK->Prop:=fun x vs H Q=>∃ (sep:PySem.Str) (p:Addr) (ss:List PySem.Str),x=.str sep/\vs=[.ref p]/\SqL K H p (ss.map V.str)/\JoinOk sep ss=true/\Q (.str (Txt.join sep ss)) H
def rSplit:V->List V->Hp->VK->Prop:=fun x vs H Q=>∃ a b,x=.str a/\vs=[.str b]/\(b.length == 0)=false/\a.length<=sizeLine/\(Txt.split a b).length<=sizeLine/\∀ l,H l=none->Q (.ref l) (upd H l (.lst ((Txt.split a b).map V.str)))
theorem mt_split:MtM X "str.split" rSplit:=by
 intro pins s σ H x vs v us Q I rx rv h
 obtain ⟨a,b,rfl,rfl,hb,hz,hz2,q⟩:=h
 obtain ⟨t,rfl⟩:=rx
 obtain ⟨u,rfl,ru⟩:=rv.one
 obtain ⟨t',rfl⟩:=ru
 have fin:∀ (l:List (PySem.Str × Tok)) (k:Nat),l.map (·.1)=Txt.split a b->EP X pins σ Q (.ref s.heap.objs.size) { s with heap:=s.heap.push { cls:=.type "list",data:=.seq (strValues l).toArray },toks:=k }:=fun l k e=>by
  refine ⟨.ref s.heap.objs.size,_,I.lnew (t':=k) (vals_strs l) (by rw[List.length_map,e];exact hz2),rfl,?_⟩
  rw[e]
  exact q _ I.fresh
 cases h1:(decide (a.length < b.length) || decide (Builtin.Str.strKind a < Builtin.Str.strKind b)) with
 | false =>
  cases hf:(Builtin.Str.occurrences a b 0 a.length (a.length+1)).isEmpty with
  | false =>
   have es:Txt.split a b=Builtin.Str.partsBetween a (Builtin.Str.occurrences a b 0 a.length (a.length+1)) b.length:=by
    unfold Txt.split
    rw[if_neg (by rw[h1];decide),if_neg (by rw[hf];decide)]
   refine call_meets F.slot_str_split (typeIs_str _ _ _) F.entry_str_split (F.args_str_split_2 _ _) (meets_str_split_sep a b t t' h1 hb hf hz (by rw[<- es];exact hz2)) ?_
   show wants _ _ _ { s with toks:=_,heap:=s.heap.push { cls:=.type "list",data:=.seq (strsFrom s.toks (Builtin.Str.partsBetween a (Builtin.Str.occurrences a b 0 a.length (a.length+1)) b.length)).toArray } }
   rw[strsFrom_eq]
   exact fin _ _ ((numbered_texts _ _).trans es.symm)
  | true =>
   refine call_meets F.slot_str_split (typeIs_str _ _ _) F.entry_str_split (F.args_str_split_2 _ _) (meets_str_split_not_found a b t t' h1 hb hf) ?_
   exact fin [(a,t)] s.toks (by unfold Txt.split;rw[if_neg (by rw[h1];decide),if_pos hf];rfl)
 | true =>
  refine call_meets F.slot_str_split (typeIs_str _ _ _) F.entry_str_split (F.args_str_split_2 _ _) (meets_str_split_cannot_occur a b t t' h1) ?_
  exact fin [(a,t)] s.toks (by unfold Txt.split;rw[if_pos h1];rfl)
def rLIndexS (K:PySem.W.Frag):V->List V->Hp->VK->Prop:=fun x vs H Q=>∃ (p:Addr) (ss:List PySem.Str) (y:PySem.Str) (j:Nat),x=.ref p/\vs=[.str y]/\H p=some (.lst (ss.map V.str))/\ss.length < 1000/\ss[j]?=some y/\(∀ m,m < j->ss[m]?≠some y)/\Q (.int ((j:Nat):Int)) H
theorem mt_lindexS {K:PySem.W.Frag}:MtM X "list.index" (rLIndexS K):=by
 intro pins s σ H x vs v us Q I rx rv h
 obtain ⟨p,ss,y,j,rfl,rfl,hp,hl,hj,hno,q⟩:=h
 cases rx
 obtain ⟨u,rfl,ru⟩:=rv.one
 obtain ⟨t,rfl⟩:=ru
 obtain ⟨z,its,n,r,hlen,e⟩:=I.lstM hp
 obtain ⟨l,e1,e2⟩:=strs_of r
 subst e1 e2
 have hjl:j < l.length:=by have:=(List.getElem?_eq_some_iff.mp hj).1;simpa using this
 have hat:∀ m (hm:m < (strValues l).toArray.size),(strValues l).toArray[m]=.str (l[m]'(by simpa [strValues] using hm)).1 (l[m]'(by simpa [strValues] using hm)).2:=fun m hm=>by simp [strValues]
 have hsz:(strValues l).toArray.size=l.length:=by simp [strValues]
 refine call_meets F.slot_list_index ⟨_,e,rfl⟩ F.entry_list_index (F.args_list_index_2 _ _)
  (MeetsSeq.list_index p (strValues l).toArray n (.str y t) (fun w=>match w with | .str z _=>decide (z=y) | _=>false) (fun w hw=>?_) j (by rw[hsz];exact hjl) (by simp at hl;omega) ?_ fun m hm hmj=>?_) ⟨e,?_⟩
 ·have hw:w∈strValues l:=by simpa using hw
  obtain ⟨⟨z,tz⟩,_,rfl⟩:=List.mem_map.mp hw
  exact fun _ _ _ _ _ _ h=>wpAny_eqBool_str h
 ·rw[hat]
  have:=(List.getElem?_eq_some_iff.mp hj).2
  simp only[List.getElem_map]at this
  simp [this]
 ·rw[hat]
  have hne:=hno m hmj
  simp only[decide_eq_false_iff_not]
  intro z
  apply hne
  have hml:m < l.length:=by rw[hsz]at hm;exact hm
  rw[List.getElem?_map,List.getElem?_eq_getElem hml]
  simp [z]
 ·exact ⟨.int (j:Int),H,I.kept (t':=s.toks+1) fun _ _ e=>e,⟨s.toks,rfl⟩,q⟩

def rSlS:V->Option Int->Option Int->Hp->VK->Prop:=fun x lo hi H Q=>∃ a i j,x=.str a/\lo=some i/\hi=some j/\a.length<=sizeLine/\Q (.str (Txt.slice a (some i) (some j))) H
theorem sl_str:SlR X rSlS:=by
 intro pins s σ H x v vl vu lo hi sl Q I rx hs pl pu h
 obtain ⟨a,i,j,rfl,rfl,rfl,hz,q⟩:=h
 obtain ⟨t,rfl⟩:=rx
 cases pl
 cases pu
 rename_i ti tj
 refine ⟨"str",_,F.slot_str_getitem.lookup,typeIs_str _ _ _,?_⟩
 refine wpAny_getItem_str_slice (l:=some (i,ti)) (u:=some (j,tj)) (st:=none) hs rfl (post_val_or_str ⟨Nat.le_trans (Txt.slice_le a _ _) hz,fun t' k=>?_⟩)
 exact ⟨.str _,H,I.kept (t':=k) fun _ _ e=>e,⟨t',rfl⟩,q⟩
theorem pe_gstr {x:Str} {pos:Pos} {z:PySem.Str} {t:Tok} (hg:Gl X x) (hm:X.mg x=some (.str z t)) (hd:(x == ("__debug__":Str))=false:=by decide):PE X (.Name x pos) (tC (.str z)):=pe_glob hg hm ⟨t,rfl⟩ hd
end
section
variable {K:PySem.W.Frag} {H:Hp} {Q:VK} {p:Addr}
theorem r_starts {a b:PySem.Str}:rStarts (.str a) [.str b] H Q=Q (.bl (Txt.startswith a b)) H:=propext ⟨fun ⟨_,_,e1,e2,h⟩=>by cases e1;cases e2;exact h,fun h=>⟨_,_,rfl,rfl,h⟩⟩
theorem r_ends {a b:PySem.Str}:rEnds (.str a) [.str b] H Q=Q (.bl (Txt.endswith a b)) H:=propext ⟨fun ⟨_,_,e1,e2,h⟩=>by cases e1;cases e2;exact h,fun h=>⟨_,_,rfl,rfl,h⟩⟩
theorem r_join {sep:PySem.Str}:rJoin K (.str sep) [.ref p] H Q=∃ ss:List PySem.Str,SqL K H p (ss.map V.str)/\JoinOk sep ss=true/\Q (.str (Txt.join sep ss)) H:=propext ⟨fun ⟨_,_,ss,e1,e2,h⟩=>by cases e1;cases e2;exact ⟨ss,h⟩,fun ⟨ss,h⟩=>⟨_,_,ss,rfl,rfl,h⟩⟩
theorem r_split {a b:PySem.Str}:rSplit (.str a) [.str b] H Q=((b.length == 0)=false/\a.length<=sizeLine/\(Txt.split a b).length<=sizeLine/\∀ l,H l=none->Q (.ref l) (upd H l (.lst ((Txt.split a b).map V.str)))):=propext ⟨fun ⟨_,_,e1,e2,h⟩=>by cases e1;cases e2;exact h,fun h=>⟨_,_,rfl,rfl,h⟩⟩
theorem r_lindexS {y:PySem.Str}:rLIndexS K (.ref p) [.str y] H Q=∃ (ss:List PySem.Str) (j:Nat),H p=some (.lst (ss.map V.str))/\ss.length < 1000/\ss[j]?=some y/\(∀ m,m < j->ss[m]?≠some y)/\Q (.int ((j:Nat):Int)) H:=propext
 ⟨fun ⟨_,ss,_,j,e1,e2,h⟩=>by cases e1;cases e2;exact ⟨ss,j,h⟩,fun ⟨ss,j,h⟩=>⟨_,ss,_,j,rfl,rfl,h⟩⟩
theorem r_slS {a:PySem.Str} {i j:Int}:rSlS (.str a) (some i) (some j) H Q=(a.length<=sizeLine/\Q (.str (Txt.slice a (some i) (some j))) H):=propext ⟨fun ⟨_,_,_,e1,e2,e3,h⟩=>by cases e1;cases e2;cases e3;exact h,fun h=>⟨_,_,_,rfl,rfl,rfl,h⟩⟩
theorem r_dget2 {td ty tx:TE} {σ:St}:tDGet2 td ty tx σ H Q=td σ H fun x H1=>∃ a,x=.ref a/\IsD H1 a/\ty σ H1 fun y H2=>tx σ H2 fun z H3=>∃ o,DGet H3 a y o/\Q (o.getD z) H3:=rfl
end

theorem r_neStr {x y:PySem.Str} {H:Hp} {Q:VK}:rNe (.str x) (.str y) H Q=Q (.bl (!decide (x=y))) H:=propext
 ⟨fun ⟨_,h⟩=>by rwa [show decide (V.str x=V.str y)=decide (x=y) from decide_eq_decide.mpr ⟨fun z=>V.str.inj z,fun z=>by rw[z]⟩]at h,fun h=>⟨rfl,by rwa [show decide (V.str x=V.str y)=decide (x=y) from decide_eq_decide.mpr ⟨fun z=>V.str.inj z,fun z=>by rw[z]⟩]⟩⟩
theorem r_addS {x y:PySem.Str} {H:Hp} {Q:VK}:(∃ i j,V.str x=V.str i/\V.str y=V.str j/\i.length+j.length<=sizeLine/\Q (.str (i++j)) H)=(x.length+y.length<=sizeLine/\Q (.str (x++y)) H):=propext
 ⟨fun ⟨_,_,e1,e2,h⟩=>by cases e1;cases e2;exact h,fun h=>⟨_,_,rfl,rfl,h⟩⟩

end L2

set_option maxHeartbeats 4000000
namespace L2
open PySem PySem.Spec PyProof.Rows

structure RoomN (k:Nat) (A:Around):Prop where
 dp:A.depth+3*k+5 < recursionLimit
 un:A.units+16*k+200 < cLine
theorem RoomN.deeper {k:Nat} {A:Around} (r:RoomN (k+1) A) (env:Env):RoomN k (A.deeper env) :=
 ⟨by have:=r.dp;show A.depth+1+3*k+5 < _;omega,by have:=r.un;show A.units+3+16*k+200 < _;omega⟩
theorem RoomN.depth {k:Nat} {A:Around} (r:RoomN k A):A.depth < recursionLimit:=by have:=r.dp;omega
theorem Room.hd' {j k:Nat} {A:Around} (r:Room k A) (h:j<=k) (v:Option Value):RoomN j (A.mark v):=⟨by have:=r.dp;show A.depth+3*j+5 < _;omega,by have:=r.un;show A.units+16*j+200 < _;omega⟩
def cxN (CX:CXT) (P:Program) (w:World) (K:PySem.W.Frag) (mg:Str->Option Value) (base:Heap) (N:List Str) (qual:Str) (scope:Scope) (f:Addr) (cd:Value) (A:Around) (outer:List Env) (s:Shared) (H:Hp) (E:XK):Cx :=
 { cxOf CX P w K mg base N qual scope f cd A outer s H E with calm:=false }
structure FnOkN (P:Program) (w:World) (K:PySem.W.Frag) (mg:Str->Option Value) (base:Heap) (CX:CXT) (k:Nat) (f:Addr) (fd:FuncData) (ps:List Str) (sp:Sp):Prop where
 len:∀ vs H Q E,sp vs H Q E->vs.length=ps.length
 run:∀ (A:Around) (outer:List Env) (s:Shared) (H:Hp) (args:Args) (us:List Value) (vs:List V) (Q:VK) (E:XK),RoomN k A->Env0 P w K mg base A outer s H->BindsTo s fd args (ps.zip us)->Vals vs us->sp vs H Q E ->
  codeAny (model P w) A (.call (.ref f) args) (CR CX outer P w H s Q E) s
theorem inv_startN {CX:CXT} {P:Program} {w:World} {K:PySem.W.Frag} {mg:Str->Option Value} {base:Heap} {N ps:List Str} {qual:Str} {scope:Scope} {f:Addr} {cd:Value} {A:Around} {outer:List Env} {s s1:Shared} {H:Hp} {E:XK} {us:List Value} {vs:List V}
  (S:FnScope N ps scope) (e0:Env0 P w K mg base A outer s H) (hl:vs.length=ps.length) (r:Vals vs us)
  (x:InCallC s s.heap.objs.size (bindL (envOfC qual scope s.heap.objs.size f cd).kindOf (ps.zip us) fun _=>none) (cellsFrom (s.heap.objs.size+1) scope.names []) (bindC (envOfC qual scope s.heap.objs.size f cd).kindOf (ps.zip us) fun _=>none) s1) :
  Inv (cxN CX P w K mg base N qual scope f cd A outer s H E) [] (start N vs) H s1:=by
 have hpl:ps.length<=N.length:=by have:=congrArg List.length S.pre;rw[List.length_take]at this;omega
 obtain ⟨h1,tk,rfl,hk⟩:=x.done
 have noA:∀ b:Addr,b∉(cxN CX P w K mg base N qual scope f cd A outer s H E).ex:=fun b z=>absurd (show b∈([]:List Addr) from z) (by simp)
 refine ⟨⟨e0.mod,S.kind,rfl,rfl,Nat.le_refl _,fun y z c h1 h2=>?_,fun y hy=>?_,fun y c _ h=>?_,fun z=>(by cases z),Around.frames_deeper e0.frames,.inr ⟨rfl,rfl⟩,fun b z=>absurd z (noA b),e0.bs,e0.bsz,fun b _ _=>noA b,fun b z=>absurd z (noA b),e0.funs,e0.frf⟩,
  rfl,e0.bare,Un.kept hk,⟨_,x.toInCall.ns,fun i y v h1 h2 h3=>?_⟩,fun y c h=>⟨_,x.cell y c h⟩,e0.hok.fresh (Nat.le_refl _),fun y c h=>?_,fun p hp=>absurd (show p∈([]:List (Addr × Obj)) from hp) (by simp),e0.hok.kept hk,?_⟩
 ·exact name_of_addr x.apart (PySem.mem_of_lookup h1) (PySem.mem_of_lookup h2)
 ·have hy:scope.names.lookup y=some .cell\/scope.names.lookup y=some .free:=hy
  rcases hy with hy | hy
  ·exact cell_has hy
  ·exact absurd rfl (S.nofree _ (PySem.mem_of_lookup hy))
 ·exact Nat.le_of_lt (x.above y c (PySem.mem_of_lookup h))
 ·have hi:i < vs.length:=by
   unfold start at h2
   by_cases hi:i < vs.length
   ·exact hi
   ·rw[List.getElem?_append_right (by simpa using hi)]at h2
    rw[List.getElem?_replicate]at h2
    split at h2 <;> cases h2
  have ha:vs[i]?=some v:=by
   unfold start at h2
   rw[List.getElem?_append_left (by simpa using hi),List.getElem?_map]at h2
   cases e:vs[i]? with
   | none=>rw[e]at h2;cases h2
   | some a=>rw[e]at h2;cases h2;rfl
  obtain ⟨u,hu,rv⟩:=r.get ha
  have hp:ps[i]?=some y:=by
   rw[<- S.pre,List.getElem?_take_of_lt (by omega)];exact h1
  have ndP:ps.Nodup:=by rw[<- S.pre];exact S.nd.sublist (List.take_sublist _ _)
  refine ⟨u,rv,?_⟩
  rcases S.par y (List.mem_of_getElem? hp) with k | k
  ·exact .inl ⟨k,bindL_get ndP hp hu k⟩
  ·obtain ⟨c,e⟩:=cell_has (n:=s.heap.objs.size+1) k
   refine .inr ⟨.inl k,c,e,?_⟩
   have q:=x.cell y c e
   rw[bindC_get ndP hp hu (by show scope.names.lookup y≠_;rw[k];decide)]at q
   exact q
 ·exact e0.hok.fresh (Nat.le_of_lt (x.above y c (PySem.mem_of_lookup h)))
 ·unfold start
  show _=N.length
  rw[List.length_append,List.length_map,List.length_replicate]
  omega

theorem fn_ofN {CX:CXT} {P:Program} {w:World} {K:PySem.W.Frag} {mg:Str->Option Value} {base:Heap} {k:Nat} {f:Addr} {name qual:Str} {params:Arguments} {body:List Stmt} {scope:Scope} {dV kV doc pm cdv ct oc:Value} {an od:Option Addr}
  {osl:Array (Option Value)} {N ps:List Str} {sp:Sp} (lk:K.lookup f=some ⟨oc,od,.func (PySem.W.fnOf name qual params body scope dV kV doc pm an cdv ct),osl⟩) (hcd:PySem.W.codeIn K cdv qual=true) (S:FnScope N ps scope)
  (len:∀ vs H Q E,sp vs H Q E->vs.length=ps.length)
  (hbody:∀ (A:Around) (outer:List Env) (s:Shared) (H:Hp) (vs:List V) (Q:VK) (E:XK),RoomN k (A.deeper (envOfC qual scope s.heap.objs.size f cdv))->sp vs H Q E ->
   ∃ t,PSs (cxN CX P w K mg base N qual scope f cdv A outer s H E) body t/\t { nx:=fun _ H'=>Q .non H',rt:=Q } (start N vs) H) :
  FnOkN P w K mg base CX (k+1) f (PySem.W.fnOf name qual params body scope dV kV doc pm an cdv ct) ps sp:=by
 refine ⟨len,fun A outer s H args us vs Q E hr e0 hb r hsp=>?_⟩
 have hl:=len _ _ _ _ hsp
 have KX:K.In s.heap:=e0.mod.kin.keeps fun b o e=>(e0.bs b o e).1
 have lim:s.heap.NoLimit:=e0.mod.nolimit.keeps fun b o e=>(e0.bs b o e).1
 have hkind:∀ y∈ps.zip us,scope.names.lookup y.1=some .local\/(scope.names.lookup y.1=some .cell/\((cellsFrom (s.heap.objs.size+1) scope.names []).lookup y.1).isSome=true):=fun ⟨n,v⟩ hy=>by
  rcases S.par n (List.of_mem_zip hy).1 with q | q
  ·exact .inl q
  ·exact .inr ⟨q,PySem.W.cellsFrom_some _ _ _ (.inl q)⟩
 refine codeAny_call_function hr.depth (KX _ _ lk) rfl S.co S.gen rfl (PySem.W.codeRec_of KX hcd) (hb _ _ _ _ ?_)
 refine wpAny_newFunctionEnv_cells S.kind hkind fun env he s1 x=>?_
 subst he
 refine ⟨lim.keeps x.toInCall.keep,codeAny_func ?_⟩
 obtain ⟨t,ht,hq⟩:=hbody A outer s H vs Q E (hr.deeper _) hsp
 have I:Inv (cxN CX P w K mg base N qual scope f cdv A outer s H E) [] (start N vs) H s1:=inv_startN S e0 hl r x
 refine wpAny_mono (ht [] s1 (start N vs) H _ I hq) (fun fl s' hs=>?_) fun e s' hs=>hs
 have fin:∀ {σ':St} {H':Hp} {v:V} {u:Value},Inv (cxN CX P w K mg base N qual scope f cdv A outer s H E) [] σ' H' s'->RelV v u->Q v H'->CE outer P w H s Q u s' :=
  fun {σ' H' v u} J rv q=>⟨v,H',J.os,J.bare,J.base,J.hok,rv,q⟩
 cases fl with
 | ret u =>
  obtain ⟨v,σ',H',J,rv,q⟩:=hs
  exact fin J rv q
 | next =>
  obtain ⟨σ',H',J,q⟩:=hs
  exact fin (v:=V.non) (u:=Value.none) J rfl q
 | brk =>
  obtain ⟨_,_,_,q⟩:=hs
  exact False.elim q
 | cont =>
  obtain ⟨_,_,_,q⟩:=hs
  exact False.elim q
section
variable {X:Cx} {CX:CXT} {k:Nat} {f C:Addr} {fd:FuncData} {ps:List Str} {sp:Sp} {dvs:List V} {ds:List Value} {E:XK} {x m:Str} {p pos apos:Pos} {e o:Expr} {es:List Expr} {ta:TE} {t:TA}
theorem run_fnN {pins:List (Addr × Obj)} {σ:St} {H:Hp} {s:Shared} {Q:VK} {us:List Value} {vs:List V} (F:FnOkN X.prog X.w X.K X.mg X.base CX k f fd ps sp) (hr:RoomN k X.A) (hb:Binds X.K fd ps ds) (hd:Vals dvs ds) (hx:Passes CX X E)
  (I:Inv X pins σ H s) (r:Vals vs us) (h:sp (vs++dvs) H Q E):wpAny (model X.prog X.w) X.A (call (.ref f) us) (EP X pins σ Q) X.xe s:=by
 have r2:Vals (vs++dvs) (us++ds):=r.append hd
 have hl:(us++ds).length=ps.length:=by rw[<- r2.length];exact F.len _ _ _ _ h
 refine wpAny_call (codeAny_mono (F.run X.A X.stack s H ⟨us,[]⟩ (us++ds) (vs++dvs) Q E hr I.env0 (hb s us I.kIn hl) r2 h) fun r s' hq=>?_)
 cases r with
 | error e=>exact hx pins σ H s e s' I hq
 | ok fl =>
  cases fl with
  | ret u=>exact I.after hq
  | next=>exact False.elim hq
  | brk=>exact False.elim hq
  | cont=>exact False.elim hq

theorem pe_callN (F:FnOkN X.prog X.w X.K X.mg X.base CX k f fd ps sp) (hr:RoomN k X.A) (hg:Gl X x) (hm:X.mg x=some (.ref f)) (hk:PySem.W.keepIn X.K (.ref f)=true) (hb:Binds X.K fd ps ds) (hd:Vals dvs ds) (hx:Passes CX X E)
  (ha:PA X (e::es) t) (hdb:(x == ("__debug__":Str))=false:=by decide) (he:starEach (e::es) X.env=(false,eval e X.env)::starEach es X.env:=by rfl) (hpl:(backTo pos (starEach es X.env)).any (·.1)=false:=by rfl) :
  PE X (.Call (.Name x p) (e::es) [] pos) (tCall sp dvs E t):=by
 intro pins s σ H Q I h
 refine wpAny_Call_Name_kw (ld_glob I hg hm ?_ hdb)
 refine PySem.W.callWith_K (h₀:=X.base) I.ok.mod.kin hk (thn (ha pos pins s σ H _ I h) fun us s1 ⟨vs,H1,I1,r,q⟩=>⟨I1.kIn,?_⟩) he hpl
 exact run_fnN F hr hb hd hx I1 r q
end
section
variable {P:Program} {w:World} {K:PySem.W.Frag} {mg:Str->Option Value} {base:Heap}
theorem Fun.okN {x qual:Str} {st:Stmt} {f:Addr} {fd:FuncData} {N ps:List Str} {k:Nat} {sp:Sp} (F:Fun K x qual st f fd) (S:FnScope N ps (defScope st)) (len:∀ vs H Q E,sp vs H Q E->vs.length=ps.length)
  (hbody:∀ (cdv:Value) (A:Around) (outer:List Env) (s:Shared) (H:Hp) (vs:List V) (Q:VK) (E:XK),RoomN k (A.deeper (envOfC qual (defScope st) s.heap.objs.size f cdv))->sp vs H Q E ->
   ∃ t,PSs (cxN CX0 P w K mg base N qual (defScope st) f cdv A outer s H E).nox (defBody st) t/\t { nx:=fun _ H'=>Q .non H',rt:=Q } (start N vs) H):FnOkN P w K mg base CX0 (k+1) f fd ps sp:=by
 obtain ⟨oc,od,kV,doc,pm,an,cdv,ct,osl,rfl,lk,hcd⟩:=F.ex
 refine fn_ofN lk hcd S len fun A outer s H vs Q E hr hsp=>?_
 obtain ⟨t,h,q⟩:=hbody cdv A outer s H vs Q E hr hsp
 exact ⟨t,h.nox,q⟩
end
end L2


open PySem L2
local macro_rules | `(tactic| walk_at "rd")=>`(tactic| (try simp (maxSteps:=2000000) only [L2.start,List.map_cons,List.map_nil,List.length_cons,List.length_nil,Nat.zero_add,Nat.reduceAdd,Nat.reduceSub,List.replicate,Nat.sub_self,Nat.sub_zero,
 r_seq,r_next,r_setOf,r_cut,r_stop,r_halt,r_addS,r_dget2,r_ends,r_join,r_lindexS,r_neStr,r_slS,r_split,r_starts,r_slL,r_lenZ,r_insert,r_drop,r_ret,r_retN,r_if,r_never,r_break,r_cont,r_asg,r_gname,r_gsub,r_gtupR,r_gnil,r_gcons,r_var,r_c,r_op,r_un,r_rI,r_rI0,r_rU,r_eqI,r_neI,r_eqB,r_neB,r_ebl,r_eint,r_eref,r_eargI,r_earg2,r_esome,r_test,r_tB,r_and,r_or,r_not,r_andV,r_orV,r_notV,
 r_chain,r_all,r_ifE,r_tup,r_lst,r_nil,r_cons,r_call,r_cb,r_bm,r_bm0,r_for,r_irng1,r_irng2,r_ilist,r_itup,r_comp,r_yes,r_append,r_len,r_listOf,r_tupOf,r_sorted,r_isinst,r_isinstC,r_range1,r_range2,r_listRng,r_ixL,r_ixT,r_eqS,r_in,r_notIn,r_popAt,r_setL,r_rep,r_ienum,r_eargR,r_tupRng,r_min,r_sum,r_while,r_neS,r_ints,r_raise,r_callX,r_try,r_isX,r_isXT,r_fldC,r_sfldC,r_methC,r_methCX,r_makeC,r_dgetK,r_dinK,r_dnotinK,r_dputK,r_lenD,r_dnew,r_ienumL,r_eqD,r_inD,r_notInD,r_try0,r_irev,r_idown,r_slice,r_nopart,r_part,r_slT,r_cat,r_clear,r_eqStr,r_sortedD,r_compD,r_tindex,r_bmT,r_hide,r_tupRev,r_lindexI,
 List.getElem?_cons_zero,List.getElem?_cons_succ,List.set_cons_zero,List.set_cons_succ,List.cons_append,List.nil_append,List.append_nil,
 decide_eq_true_eq,Bool.not_eq_true',decide_eq_false_iff_not,if_true,if_false,Bool.false_eq_true,List.drop_succ_cons,List.drop_zero]))
namespace Prf
open PySem L2 Mth
set_option maxHeartbeats 4000000
abbrev s_is_size:Stmt:=top 14
theorem sc_is_size:FnScope ["size"] ["size"] (defScope s_is_size):=⟨rfl,rfl,rfl,by decide +kernel,rfl,by decide +kernel,by decide +kernel⟩
abbrev zCq:Stmt:=top 15
theorem sc_is_seating:FnScope ["row"] ["row"] (defScope zCq):=⟨rfl,rfl,rfl,by decide +kernel,rfl,by decide +kernel,by decide +kernel⟩
abbrev s_need_size:Stmt:=top 16
theorem sc_need_size:FnScope ["size"] ["size"] (defScope s_need_size):=⟨rfl,rfl,rfl,by decide +kernel,rfl,by decide +kernel,by decide +kernel⟩
abbrev zC4:Stmt:=top 17
theorem sc_need_seating:FnScope ["row"] ["row"] (defScope zC4):=⟨rfl,rfl,rfl,by decide +kernel,rfl,by decide +kernel,by decide +kernel⟩
abbrev s_rest:Stmt:=top 18
theorem sc_rest:FnScope ["size"] ["size"] (defScope s_rest):=⟨rfl,rfl,rfl,by decide +kernel,rfl,by decide +kernel,by decide +kernel⟩
abbrev s_joined:Stmt:=top 19
theorem sc_joined:FnScope ["a","b"] ["a","b"] (defScope s_joined):=⟨rfl,rfl,rfl,by decide +kernel,rfl,by decide +kernel,by decide +kernel⟩
abbrev s_turned:Stmt:=top 20
theorem sc_turned:FnScope ["a","senders","sender","seat"] ["a"] (defScope s_turned):=⟨rfl,rfl,rfl,by decide +kernel,rfl,by decide +kernel,by decide +kernel⟩
abbrev s_then:Stmt:=top 21
theorem sc_then:FnScope ["a","b"] ["a","b"] (defScope s_then):=⟨rfl,rfl,rfl,by decide +kernel,rfl,by decide +kernel,by decide +kernel⟩
abbrev s_back:Stmt:=top 22
theorem sc_back:FnScope ["a"] ["a"] (defScope s_back):=⟨rfl,rfl,rfl,by decide +kernel,rfl,by decide +kernel,by decide +kernel⟩
abbrev zBe:Stmt:=inClass (top 24) 0
theorem sc_Entry___init__:FnScope ["self","seat","seating","step_number","back_number"] ["self","seat","seating","step_number","back_number"] (defScope zBe):=⟨rfl,rfl,rfl,by decide +kernel,rfl,by decide +kernel,by decide +kernel⟩
abbrev zB1:Stmt:=inClass (top 25) 0
theorem sc_Sifting___init__:FnScope ["self","seating"] ["self","seating"] (defScope zB1):=⟨rfl,rfl,rfl,by decide +kernel,rfl,by decide +kernel,by decide +kernel⟩
abbrev zB2:Stmt:=inClass (top 25) 1
theorem sc_Sifting_take_off:FnScope ["self","entry"] ["self","entry"] (defScope zB2):=⟨rfl,rfl,rfl,by decide +kernel,rfl,by decide +kernel,by decide +kernel⟩
abbrev zB7:Stmt:=inClass (top 31) 0
theorem sc_Book___init__:FnScope ["self","size"] ["self","size"] (defScope zB7):=⟨rfl,rfl,rfl,by decide +kernel,rfl,by decide +kernel,by decide +kernel⟩
abbrev s_Book_sift:Stmt:=inClass (top 31) 1
theorem sc_Book_sift:FnScope ["self","seating","sifting","seat","page","goal"] ["self","seating"] (defScope s_Book_sift):=⟨rfl,rfl,rfl,by decide +kernel,rfl,by decide +kernel,by decide +kernel⟩
abbrev zC5:Stmt:=inClass (top 31) 2
theorem sc_Book_reaches:FnScope ["self","seating"] ["self","seating"] (defScope zC5):=⟨rfl,rfl,rfl,by decide +kernel,rfl,by decide +kernel,by decide +kernel⟩
abbrev zBr:Stmt:=inClass (top 31) 3
theorem sc_Book_put_move:FnScope ["self","move","number","sifting"] ["self","move","number"] (defScope zBr):=⟨rfl,rfl,rfl,by decide +kernel,rfl,by decide +kernel,by decide +kernel⟩
abbrev zBs:Stmt:=inClass (top 31) 4
theorem sc_Book_put_step:FnScope ["self","step"] ["self","step"] (defScope zBs):=⟨rfl,rfl,rfl,by decide +kernel,rfl,by decide +kernel,by decide +kernel⟩
abbrev zBf:Stmt:=inClass (top 31) 5
theorem sc_Book_put_entry:FnScope ["self","sifting","first_step","number","entry","seat","back_number","fresh"] ["self","sifting","first_step"] (defScope zBf):=⟨rfl,rfl,rfl,by decide +kernel,rfl,by decide +kernel,by decide +kernel⟩
abbrev zAt:Stmt:=inClass (top 31) 6
theorem sc_Book_first_sent:FnScope ["self","seating"] ["self","seating"] (defScope zAt):=⟨rfl,rfl,rfl,by decide +kernel,rfl,by decide +kernel,by decide +kernel⟩
abbrev s_Book_fill:Stmt:=inClass (top 31) 7
theorem sc_Book_fill:FnScope ["self","late","place","early"] ["self"] (defScope s_Book_fill):=⟨rfl,rfl,rfl,by decide +kernel,rfl,by decide +kernel,by decide +kernel⟩
abbrev zAu:Stmt:=inClass (top 31) 8
theorem sc_Book_join_entries:FnScope ["self","one","other","sifting"] ["self","one","other"] (defScope zAu):=⟨rfl,rfl,rfl,by decide +kernel,rfl,by decide +kernel,by decide +kernel⟩
abbrev zBt:Stmt:=inClass (top 31) 9
theorem sc_Book_how_many:FnScope ["self","count","page"] ["self"] (defScope zBt):=⟨rfl,rfl,rfl,by decide +kernel,rfl,by decide +kernel,by decide +kernel⟩
abbrev zBu:Stmt:=inClass (top 34) 0
theorem sc_Room___init__:FnScope ["self","size"] ["self","size"] (defScope zBu):=⟨rfl,rfl,rfl,by decide +kernel,rfl,by decide +kernel,by decide +kernel⟩
abbrev zAv:Stmt:=inClass (top 34) 1
theorem sc_Room_need_fitting:FnScope ["self","a"] ["self","a"] (defScope zAv):=⟨rfl,rfl,rfl,by decide +kernel,rfl,by decide +kernel,by decide +kernel⟩
abbrev zAw:Stmt:=inClass (top 34) 2
theorem sc_Room_need_reached:FnScope ["self","a"] ["self","a"] (defScope zAw):=⟨rfl,rfl,rfl,by decide +kernel,rfl,by decide +kernel,by decide +kernel⟩
abbrev zBv:Stmt:=inClass (top 34) 3
theorem sc_Room_put_move:FnScope ["self","move","more"] ["self","move"] (defScope zBv):=⟨rfl,rfl,rfl,by decide +kernel,rfl,by decide +kernel,by decide +kernel⟩
abbrev zBw:Stmt:=inClass (top 34) 5
theorem sc_Room_how_many:FnScope ["self"] ["self"] (defScope zBw):=⟨rfl,rfl,rfl,by decide +kernel,rfl,by decide +kernel,by decide +kernel⟩
abbrev zC6:Stmt:=inClass (top 34) 6
theorem sc_Room_reaches:FnScope ["self","a"] ["self","a"] (defScope zC6):=⟨rfl,rfl,rfl,by decide +kernel,rfl,by decide +kernel,by decide +kernel⟩
abbrev zCa:Stmt:=inClass (top 34) 7
theorem sc_Room_recipe:FnScope ["self","a"] ["self","a"] (defScope zCa):=⟨rfl,rfl,rfl,by decide +kernel,rfl,by decide +kernel,by decide +kernel⟩
abbrev zBx:Stmt:=inClass (top 34) 9
theorem sc_Room_numbered:FnScope ["self","n"] ["self","n"] (defScope zBx):=⟨rfl,rfl,rfl,by decide +kernel,rfl,by decide +kernel,by decide +kernel⟩
abbrev zBg:Stmt:=inClass (top 34) 10
theorem sc_Room_number_of:FnScope ["self","a"] ["self","a"] (defScope zBg):=⟨rfl,rfl,rfl,by decide +kernel,rfl,by decide +kernel,by decide +kernel⟩
abbrev s_rings:Stmt:=top 37
theorem sc_rings:FnScope ["a","found","first","ring"] ["a"] (defScope s_rings):=⟨rfl,rfl,rfl,by decide +kernel,rfl,by decide +kernel,by decide +kernel⟩
abbrev s_age:Stmt:=top 38
theorem sc_age:FnScope ["a","count","ring","step"] ["a"] (defScope s_age):=⟨rfl,rfl,rfl,by decide +kernel,rfl,by decide +kernel,by decide +kernel⟩
abbrev s_even:Stmt:=top 39
theorem sc_even:FnScope ["a"] ["a"] (defScope s_even):=⟨rfl,rfl,rfl,by decide +kernel,rfl,by decide +kernel,by decide +kernel⟩
abbrev s_times:Stmt:=top 40
theorem sc_times:FnScope ["a","n","sent","ring","place","seat"] ["a","n"] (defScope s_times):=⟨rfl,rfl,rfl,by decide +kernel,rfl,by decide +kernel,by decide +kernel⟩
abbrev s_need_seat:Stmt:=top 44
theorem sc_need_seat:FnScope ["room","seat"] ["room","seat"] (defScope s_need_seat):=⟨rfl,rfl,rfl,by decide +kernel,rfl,by decide +kernel,by decide +kernel⟩
abbrev s_ring_of:Stmt:=top 45
theorem sc_ring_of:FnScope ["room","seat","moves","found","place","move"] ["room","seat"] (defScope s_ring_of):=⟨rfl,rfl,rfl,by decide +kernel,rfl,by decide +kernel,by decide +kernel⟩
abbrev s_parting:Stmt:=top 47
theorem sc_parting:FnScope ["room","one","other","parts","seat","first"] ["room","one","other"] (defScope s_parting):=⟨rfl,rfl,rfl,by decide +kernel,rfl,by decide +kernel,by decide +kernel⟩
abbrev s_within:Stmt:=top 48
theorem sc_within:FnScope ["room","other"] ["room","other"] (defScope s_within):=⟨rfl,rfl,rfl,by decide +kernel,rfl,by decide +kernel,by decide +kernel⟩
abbrev s_holding:Stmt:=top 51
theorem sc_holding:FnScope ["room","seats","seat","order","renamed","move","held","row","entry","seating"] ["room","seats"] (defScope s_holding):=⟨rfl,rfl,rfl,by decide +kernel,rfl,by decide +kernel,by decide +kernel⟩
abbrev s_dyed:Stmt:=top 55
theorem sc_dyed:FnScope ["room","dyes","ways","left_alike"] ["room","dyes"] (defScope s_dyed):=⟨rfl,rfl,rfl,by decide +kernel,rfl,by decide +kernel,by decide +kernel⟩
abbrev s_shown:Stmt:=top 59
theorem sc_shown:FnScope ["a","found"] ["a"] (defScope s_shown):=⟨rfl,rfl,rfl,by decide +kernel,rfl,by decide +kernel,by decide +kernel⟩
abbrev zCr:Stmt:=top 60
theorem sc_ring_texts:FnScope ["text"] ["text"] (defScope zCr):=⟨rfl,rfl,rfl,by decide +kernel,rfl,by decide +kernel,by decide +kernel⟩
abbrev s_ring_read:Stmt:=top 61
theorem sc_ring_read:FnScope ["text","figures","ring","word"] ["text","figures"] (defScope s_ring_read):=⟨rfl,rfl,rfl,by decide +kernel,rfl,by decide +kernel,by decide +kernel⟩
abbrev zAr:Stmt:=top 62
theorem sc_all_rings_read:FnScope ["text","size","figures"] ["text","size"] (defScope zAr):=⟨rfl,rfl,rfl,by decide +kernel,rfl,by decide +kernel,by decide +kernel⟩
abbrev zBy:Stmt:=top 63
theorem sc_sent_by_rings:FnScope ["found","size","sent","ring","place","seat"] ["found","size"] (defScope zBy):=⟨rfl,rfl,rfl,by decide +kernel,rfl,by decide +kernel,by decide +kernel⟩
abbrev s_read:Stmt:=top 64
theorem sc_read:FnScope ["text","size"] ["text","size"] (defScope s_read):=⟨rfl,rfl,rfl,by decide +kernel,rfl,by decide +kernel,by decide +kernel⟩
abbrev zCb:Stmt:=top 66
theorem sc_law_cell_at:FnScope ["script","k"] ["script","k"] (defScope zCb):=⟨rfl,rfl,rfl,by decide +kernel,rfl,by decide +kernel,by decide +kernel⟩
abbrev s_law_far:Stmt:=top 67
theorem sc_law_far:FnScope ["cell","size","left","row","k"] ["cell","size"] (defScope s_law_far):=⟨rfl,rfl,rfl,by decide +kernel,rfl,by decide +kernel,by decide +kernel⟩
abbrev s_law_which:Stmt:=top 68
theorem sc_law_which:FnScope ["e","first","then_more"] ["e"] (defScope s_law_which):=⟨rfl,rfl,rfl,by decide +kernel,rfl,by decide +kernel,by decide +kernel⟩
abbrev s_law_bad:Stmt:=top 69
theorem sc_law_bad:FnScope ["cell","size","row","at"] ["cell"] (defScope s_law_bad):=⟨rfl,rfl,rfl,by decide +kernel,rfl,by decide +kernel,by decide +kernel⟩
abbrev zCc:Stmt:=top 70
theorem sc_law_no_size:FnScope ["cell","far","size","way"] ["cell","far"] (defScope zCc):=⟨rfl,rfl,rfl,by decide +kernel,rfl,by decide +kernel,by decide +kernel⟩
abbrev zBh:Stmt:=top 71
theorem sc_law_no_seating:FnScope ["room","bad","way"] ["room","bad","way"] (defScope zBh):=⟨rfl,rfl,rfl,by decide +kernel,rfl,by decide +kernel,by decide +kernel⟩
abbrev zBi:Stmt:=top 72
theorem sc_law_other_size:FnScope ["room","other","way"] ["room","other","way"] (defScope zBi):=⟨rfl,rfl,rfl,by decide +kernel,rfl,by decide +kernel,by decide +kernel⟩
abbrev zCd:Stmt:=top 73
theorem sc_law_no_seat:FnScope ["room","seat","way"] ["room","seat","way"] (defScope zCd):=⟨rfl,rfl,rfl,by decide +kernel,rfl,by decide +kernel,by decide +kernel⟩
abbrev s_law_full:Stmt:=top 74
theorem sc_law_full:FnScope ["size","room","k"] ["size"] (defScope s_law_full):=⟨rfl,rfl,rfl,by decide +kernel,rfl,by decide +kernel,by decide +kernel⟩
abbrev zBz:Stmt:=top 75
theorem sc_law_unreached:FnScope ["size","way","room","one"] ["size","way"] (defScope zBz):=⟨rfl,rfl,rfl,by decide +kernel,rfl,by decide +kernel,by decide +kernel⟩
abbrev s_law_wide:Stmt:=top 76
theorem sc_law_wide:FnScope ["room"] [] (defScope s_law_wide):=⟨rfl,rfl,rfl,by decide +kernel,rfl,by decide +kernel,by decide +kernel⟩
abbrev zCs:Stmt:=top 77
theorem sc_law_done:FnScope ["way","size","cell","far","room"] ["way","size","cell","far"] (defScope zCs):=⟨rfl,rfl,rfl,by decide +kernel,rfl,by decide +kernel,by decide +kernel⟩
abbrev s_law:Stmt:=top 78
theorem sc_law:FnScope ["script","way","size","far","told","e"] ["script"] (defScope s_law):=⟨rfl,rfl,rfl,by decide +kernel,rfl,by decide +kernel,by decide +kernel⟩
def fn_Entry:List Str:=["seat","seating","way_back","step_number","back_number"]
def zAy (x0 x1 x2 x3 x4:V):List (Str × V):=[("seat",x0),("seating",x1),("way_back",x2),("step_number",x3),("back_number",x4)]
theorem fl_Entry_names {x0 x1 x2 x3 x4:V}:(zAy x0 x1 x2 x3 x4).map (·.1)=fn_Entry:=rfl
theorem fl_Entry_few {x0 x1 x2 x3 x4:V}:(zAy x0 x1 x2 x3 x4).length < 1000:=by show 5 < 1000;decide
theorem zCe {x0 x1 x2 x3 x4:V}:(zAy x0 x1 x2 x3 x4).lookup ("seat":Str)=some x0:=lk_hit
theorem pf_Entry_seat {x0 x1 x2 x3 x4 y:V}:putF "seat" y (zAy x0 x1 x2 x3 x4)=zAy y x1 x2 x3 x4:=pf_hit
theorem pn_Entry_seat {x0:V}:putF "seat" x0 ([]:List (Str × V))=[(("seat":Str),x0)]:=rfl
theorem lk_Entry_seating {x0 x1 x2 x3 x4:V}:(zAy x0 x1 x2 x3 x4).lookup ("seating":Str)=some x1:=(zB3 (by decide +kernel)).trans (lk_hit)
theorem pf_Entry_seating {x0 x1 x2 x3 x4 y:V}:putF "seating" y (zAy x0 x1 x2 x3 x4)=zAy x0 y x2 x3 x4:=(zAf (by decide +kernel)).trans (congrArg (List.cons _) (pf_hit))
theorem pn_Entry_seating {x0 x1:V}:putF "seating" x1 ([(("seat":Str),x0)]:List (Str × V))=[(("seat":Str),x0),(("seating":Str),x1)]:=(zAf (by decide +kernel)).trans (congrArg (List.cons _) (rfl))
theorem lk_Entry_way_back {x0 x1 x2 x3 x4:V}:(zAy x0 x1 x2 x3 x4).lookup ("way_back":Str)=some x2:=(zB3 (by decide +kernel)).trans ((zB3 (by decide +kernel)).trans (lk_hit))
theorem pf_Entry_way_back {x0 x1 x2 x3 x4 y:V}:putF "way_back" y (zAy x0 x1 x2 x3 x4)=zAy x0 x1 y x3 x4:=(zAf (by decide +kernel)).trans (congrArg (List.cons _) ((zAf (by decide +kernel)).trans (congrArg (List.cons _) (pf_hit))))
theorem pn_Entry_way_back {x0 x1 x2:V}:putF "way_back" x2 ([(("seat":Str),x0),(("seating":Str),x1)]:List (Str × V))=[(("seat":Str),x0),(("seating":Str),x1),(("way_back":Str),x2)]:=(zAf (by decide +kernel)).trans (congrArg (List.cons _) ((zAf (by decide +kernel)).trans (congrArg (List.cons _) (rfl))))
theorem lk_Entry_step_number {x0 x1 x2 x3 x4:V}:(zAy x0 x1 x2 x3 x4).lookup ("step_number":Str)=some x3:=(zB3 (by decide +kernel)).trans ((zB3 (by decide +kernel)).trans ((zB3 (by decide +kernel)).trans (lk_hit)))
theorem pf_Entry_step_number {x0 x1 x2 x3 x4 y:V}:putF "step_number" y (zAy x0 x1 x2 x3 x4)=zAy x0 x1 x2 y x4:=(zAf (by decide +kernel)).trans (congrArg (List.cons _) ((zAf (by decide +kernel)).trans (congrArg (List.cons _) ((zAf (by decide +kernel)).trans (congrArg (List.cons _) (pf_hit))))))
theorem pn_Entry_step_number {x0 x1 x2 x3:V}:putF "step_number" x3 ([(("seat":Str),x0),(("seating":Str),x1),(("way_back":Str),x2)]:List (Str × V))=[(("seat":Str),x0),(("seating":Str),x1),(("way_back":Str),x2),(("step_number":Str),x3)]:=(zAf (by decide +kernel)).trans (congrArg (List.cons _) ((zAf (by decide +kernel)).trans (congrArg (List.cons _) ((zAf (by decide +kernel)).trans (congrArg (List.cons _) (rfl))))))
theorem lk_Entry_back_number {x0 x1 x2 x3 x4:V}:(zAy x0 x1 x2 x3 x4).lookup ("back_number":Str)=some x4:=(zB3 (by decide +kernel)).trans ((zB3 (by decide +kernel)).trans ((zB3 (by decide +kernel)).trans ((zB3 (by decide +kernel)).trans (lk_hit))))
theorem pf_Entry_back_number {x0 x1 x2 x3 x4 y:V}:putF "back_number" y (zAy x0 x1 x2 x3 x4)=zAy x0 x1 x2 x3 y:=(zAf (by decide +kernel)).trans (congrArg (List.cons _) ((zAf (by decide +kernel)).trans (congrArg (List.cons _) ((zAf (by decide +kernel)).trans (congrArg (List.cons _) ((zAf (by decide +kernel)).trans (congrArg (List.cons _) (pf_hit))))))))
theorem pn_Entry_back_number {x0 x1 x2 x3 x4:V}:putF "back_number" x4 ([(("seat":Str),x0),(("seating":Str),x1),(("way_back":Str),x2),(("step_number":Str),x3)]:List (Str × V))=[(("seat":Str),x0),(("seating":Str),x1),(("way_back":Str),x2),(("step_number":Str),x3),(("back_number":Str),x4)]:=(zAf (by decide +kernel)).trans (congrArg (List.cons _) ((zAf (by decide +kernel)).trans (congrArg (List.cons _) ((zAf (by decide +kernel)).trans (congrArg (List.cons _) ((zAf (by decide +kernel)).trans (congrArg (List.cons _) (rfl))))))))
def fn_Sifting:List Str:=["left","used"]
def zCf (x0 x1:V):List (Str × V):=[("left",x0),("used",x1)]
theorem fl_Sifting_names {x0 x1:V}:(zCf x0 x1).map (·.1)=fn_Sifting:=rfl
theorem fl_Sifting_few {x0 x1:V}:(zCf x0 x1).length < 1000:=by show 2 < 1000;decide
theorem zB0 {x0 x1:V}:(zCf x0 x1).lookup ("left":Str)=some x0:=lk_hit
theorem pf_Sifting_left {x0 x1 y:V}:putF "left" y (zCf x0 x1)=zCf y x1:=pf_hit
theorem pn_Sifting_left {x0:V}:putF "left" x0 ([]:List (Str × V))=[(("left":Str),x0)]:=rfl
theorem lk_Sifting_used {x0 x1:V}:(zCf x0 x1).lookup ("used":Str)=some x1:=(zB3 (by decide +kernel)).trans (lk_hit)
theorem pf_Sifting_used {x0 x1 y:V}:putF "used" y (zCf x0 x1)=zCf x0 y:=(zAf (by decide +kernel)).trans (congrArg (List.cons _) (pf_hit))
theorem pn_Sifting_used {x0 x1:V}:putF "used" x1 ([(("left":Str),x0)]:List (Str × V))=[(("left":Str),x0),(("used":Str),x1)]:=(zAf (by decide +kernel)).trans (congrArg (List.cons _) (rfl))
def zAq:List Str:=["resting","steps","pages","entries","joined_so_far"]
def zBm (x0 x1 x2 x3 x4:V):List (Str × V):=[("resting",x0),("steps",x1),("pages",x2),("entries",x3),("joined_so_far",x4)]
theorem fl_Book_names {x0 x1 x2 x3 x4:V}:(zBm x0 x1 x2 x3 x4).map (·.1)=zAq:=rfl
theorem fl_Book_few {x0 x1 x2 x3 x4:V}:(zBm x0 x1 x2 x3 x4).length < 1000:=by show 5 < 1000;decide
theorem zCw {x0 x1 x2 x3 x4:V}:(zBm x0 x1 x2 x3 x4).lookup ("resting":Str)=some x0:=lk_hit
theorem pf_Book_resting {x0 x1 x2 x3 x4 y:V}:putF "resting" y (zBm x0 x1 x2 x3 x4)=zBm y x1 x2 x3 x4:=pf_hit
theorem pn_Book_resting {x0:V}:putF "resting" x0 ([]:List (Str × V))=[(("resting":Str),x0)]:=rfl
theorem lk_Book_steps {x0 x1 x2 x3 x4:V}:(zBm x0 x1 x2 x3 x4).lookup ("steps":Str)=some x1:=(zB3 (by decide +kernel)).trans (lk_hit)
theorem pf_Book_steps {x0 x1 x2 x3 x4 y:V}:putF "steps" y (zBm x0 x1 x2 x3 x4)=zBm x0 y x2 x3 x4:=(zAf (by decide +kernel)).trans (congrArg (List.cons _) (pf_hit))
theorem pn_Book_steps {x0 x1:V}:putF "steps" x1 ([(("resting":Str),x0)]:List (Str × V))=[(("resting":Str),x0),(("steps":Str),x1)]:=(zAf (by decide +kernel)).trans (congrArg (List.cons _) (rfl))
theorem lk_Book_pages {x0 x1 x2 x3 x4:V}:(zBm x0 x1 x2 x3 x4).lookup ("pages":Str)=some x2:=(zB3 (by decide +kernel)).trans ((zB3 (by decide +kernel)).trans (lk_hit))
theorem pf_Book_pages {x0 x1 x2 x3 x4 y:V}:putF "pages" y (zBm x0 x1 x2 x3 x4)=zBm x0 x1 y x3 x4:=(zAf (by decide +kernel)).trans (congrArg (List.cons _) ((zAf (by decide +kernel)).trans (congrArg (List.cons _) (pf_hit))))
theorem pn_Book_pages {x0 x1 x2:V}:putF "pages" x2 ([(("resting":Str),x0),(("steps":Str),x1)]:List (Str × V))=[(("resting":Str),x0),(("steps":Str),x1),(("pages":Str),x2)]:=(zAf (by decide +kernel)).trans (congrArg (List.cons _) ((zAf (by decide +kernel)).trans (congrArg (List.cons _) (rfl))))
theorem zCx {x0 x1 x2 x3 x4:V}:(zBm x0 x1 x2 x3 x4).lookup ("entries":Str)=some x3:=(zB3 (by decide +kernel)).trans ((zB3 (by decide +kernel)).trans ((zB3 (by decide +kernel)).trans (lk_hit)))
theorem pf_Book_entries {x0 x1 x2 x3 x4 y:V}:putF "entries" y (zBm x0 x1 x2 x3 x4)=zBm x0 x1 x2 y x4:=(zAf (by decide +kernel)).trans (congrArg (List.cons _) ((zAf (by decide +kernel)).trans (congrArg (List.cons _) ((zAf (by decide +kernel)).trans (congrArg (List.cons _) (pf_hit))))))
theorem pn_Book_entries {x0 x1 x2 x3:V}:putF "entries" x3 ([(("resting":Str),x0),(("steps":Str),x1),(("pages":Str),x2)]:List (Str × V))=[(("resting":Str),x0),(("steps":Str),x1),(("pages":Str),x2),(("entries":Str),x3)]:=(zAf (by decide +kernel)).trans (congrArg (List.cons _) ((zAf (by decide +kernel)).trans (congrArg (List.cons _) ((zAf (by decide +kernel)).trans (congrArg (List.cons _) (rfl))))))
theorem zBl {x0 x1 x2 x3 x4:V}:(zBm x0 x1 x2 x3 x4).lookup ("joined_so_far":Str)=some x4:=(zB3 (by decide +kernel)).trans ((zB3 (by decide +kernel)).trans ((zB3 (by decide +kernel)).trans ((zB3 (by decide +kernel)).trans (lk_hit))))
theorem pf_Book_joined_so_far {x0 x1 x2 x3 x4 y:V}:putF "joined_so_far" y (zBm x0 x1 x2 x3 x4)=zBm x0 x1 x2 x3 y:=(zAf (by decide +kernel)).trans (congrArg (List.cons _) ((zAf (by decide +kernel)).trans (congrArg (List.cons _) ((zAf (by decide +kernel)).trans (congrArg (List.cons _) ((zAf (by decide +kernel)).trans (congrArg (List.cons _) (pf_hit))))))))
theorem pn_Book_joined_so_far {x0 x1 x2 x3 x4:V}:putF "joined_so_far" x4 ([(("resting":Str),x0),(("steps":Str),x1),(("pages":Str),x2),(("entries":Str),x3)]:List (Str × V))=[(("resting":Str),x0),(("steps":Str),x1),(("pages":Str),x2),(("entries":Str),x3),(("joined_so_far":Str),x4)]:=(zAf (by decide +kernel)).trans (congrArg (List.cons _) ((zAf (by decide +kernel)).trans (congrArg (List.cons _) ((zAf (by decide +kernel)).trans (congrArg (List.cons _) ((zAf (by decide +kernel)).trans (congrArg (List.cons _) (rfl))))))))
def zB4:List Str:=["size","put_in","book"]
def zC0 (x0 x1 x2:V):List (Str × V):=[("size",x0),("put_in",x1),("book",x2)]
theorem fl_Room_names {x0 x1 x2:V}:(zC0 x0 x1 x2).map (·.1)=zB4:=rfl
theorem fl_Room_few {x0 x1 x2:V}:(zC0 x0 x1 x2).length < 1000:=by show 3 < 1000;decide
theorem zCt {x0 x1 x2:V}:(zC0 x0 x1 x2).lookup ("size":Str)=some x0:=lk_hit
theorem pf_Room_size {x0 x1 x2 y:V}:putF "size" y (zC0 x0 x1 x2)=zC0 y x1 x2:=pf_hit
theorem pn_Room_size {x0:V}:putF "size" x0 ([]:List (Str × V))=[(("size":Str),x0)]:=rfl
theorem lk_Room_put_in {x0 x1 x2:V}:(zC0 x0 x1 x2).lookup ("put_in":Str)=some x1:=(zB3 (by decide +kernel)).trans (lk_hit)
theorem pf_Room_put_in {x0 x1 x2 y:V}:putF "put_in" y (zC0 x0 x1 x2)=zC0 x0 y x2:=(zAf (by decide +kernel)).trans (congrArg (List.cons _) (pf_hit))
theorem pn_Room_put_in {x0 x1:V}:putF "put_in" x1 ([(("size":Str),x0)]:List (Str × V))=[(("size":Str),x0),(("put_in":Str),x1)]:=(zAf (by decide +kernel)).trans (congrArg (List.cons _) (rfl))
theorem lk_Room_book {x0 x1 x2:V}:(zC0 x0 x1 x2).lookup ("book":Str)=some x2:=(zB3 (by decide +kernel)).trans ((zB3 (by decide +kernel)).trans (lk_hit))
theorem pf_Room_book {x0 x1 x2 y:V}:putF "book" y (zC0 x0 x1 x2)=zC0 x0 x1 y:=(zAf (by decide +kernel)).trans (congrArg (List.cons _) ((zAf (by decide +kernel)).trans (congrArg (List.cons _) (pf_hit))))
theorem pn_Room_book {x0 x1 x2:V}:putF "book" x2 ([(("size":Str),x0),(("put_in":Str),x1)]:List (Str × V))=[(("size":Str),x0),(("put_in":Str),x1),(("book":Str),x2)]:=(zAf (by decide +kernel)).trans (congrArg (List.cons _) ((zAf (by decide +kernel)).trans (congrArg (List.cons _) (rfl))))
set_option genInjectivity false in
set_option genSizeOf false in
structure Tx (K:PySem.W.Frag) (mg:Str->Option Value) where
 f_is_size:Addr
 d_is_size:FuncData
 F_is_size:Fun K "is_size" "is_size" s_is_size f_is_size d_is_size
 m_is_size:mg "is_size"=some (.ref f_is_size)
 b_is_size:Binds K d_is_size ["size"] []
 f_is_seating:Addr
 d_is_seating:FuncData
 F_is_seating:Fun K "is_seating" "is_seating" zCq f_is_seating d_is_seating
 m_is_seating:mg "is_seating"=some (.ref f_is_seating)
 b_is_seating:Binds K d_is_seating ["row"] []
 f_need_size:Addr
 d_need_size:FuncData
 F_need_size:Fun K "need_size" "need_size" s_need_size f_need_size d_need_size
 m_need_size:mg "need_size"=some (.ref f_need_size)
 b_need_size:Binds K d_need_size ["size"] []
 f_need_seating:Addr
 d_need_seating:FuncData
 F_need_seating:Fun K "need_seating" "need_seating" zC4 f_need_seating d_need_seating
 m_need_seating:mg "need_seating"=some (.ref f_need_seating)
 b_need_seating:Binds K d_need_seating ["row"] []
 f_rest:Addr
 d_rest:FuncData
 F_rest:Fun K "rest" "rest" s_rest f_rest d_rest
 m_rest:mg "rest"=some (.ref f_rest)
 b_rest:Binds K d_rest ["size"] []
 f_joined:Addr
 d_joined:FuncData
 F_joined:Fun K "joined" "joined" s_joined f_joined d_joined
 m_joined:mg "joined"=some (.ref f_joined)
 b_joined:Binds K d_joined ["a","b"] []
 f_turned:Addr
 d_turned:FuncData
 F_turned:Fun K "turned" "turned" s_turned f_turned d_turned
 m_turned:mg "turned"=some (.ref f_turned)
 b_turned:Binds K d_turned ["a"] []
 f_then:Addr
 d_then:FuncData
 F_then:Fun K "then" "then" s_then f_then d_then
 m_then:mg "then"=some (.ref f_then)
 b_then:Binds K d_then ["a","b"] []
 f_back:Addr
 d_back:FuncData
 F_back:Fun K "back" "back" s_back f_back d_back
 m_back:mg "back"=some (.ref f_back)
 b_back:Binds K d_back ["a"] []
 f_Entry___init__:Addr
 d_Entry___init__:FuncData
 F_Entry___init__:Fun K "__init__" "Entry.__init__" zBe f_Entry___init__ d_Entry___init__
 b_Entry___init__:Binds K d_Entry___init__ ["self","seat","seating","step_number","back_number"] []
 f_Sifting___init__:Addr
 d_Sifting___init__:FuncData
 F_Sifting___init__:Fun K "__init__" "Sifting.__init__" zB1 f_Sifting___init__ d_Sifting___init__
 b_Sifting___init__:Binds K d_Sifting___init__ ["self","seating"] []
 f_Sifting_take_off:Addr
 d_Sifting_take_off:FuncData
 F_Sifting_take_off:Fun K "take_off" "Sifting.take_off" zB2 f_Sifting_take_off d_Sifting_take_off
 b_Sifting_take_off:Binds K d_Sifting_take_off ["self","entry"] []
 f_Book___init__:Addr
 d_Book___init__:FuncData
 F_Book___init__:Fun K "__init__" "Book.__init__" zB7 f_Book___init__ d_Book___init__
 b_Book___init__:Binds K d_Book___init__ ["self","size"] []
 f_Book_sift:Addr
 d_Book_sift:FuncData
 F_Book_sift:Fun K "sift" "Book.sift" s_Book_sift f_Book_sift d_Book_sift
 b_Book_sift:Binds K d_Book_sift ["self","seating"] []
 f_Book_reaches:Addr
 d_Book_reaches:FuncData
 F_Book_reaches:Fun K "reaches" "Book.reaches" zC5 f_Book_reaches d_Book_reaches
 b_Book_reaches:Binds K d_Book_reaches ["self","seating"] []
 f_Book_put_move:Addr
 d_Book_put_move:FuncData
 F_Book_put_move:Fun K "put_move" "Book.put_move" zBr f_Book_put_move d_Book_put_move
 b_Book_put_move:Binds K d_Book_put_move ["self","move","number"] []
 f_Book_put_step:Addr
 d_Book_put_step:FuncData
 F_Book_put_step:Fun K "put_step" "Book.put_step" zBs f_Book_put_step d_Book_put_step
 b_Book_put_step:Binds K d_Book_put_step ["self","step"] []
 f_Book_put_entry:Addr
 d_Book_put_entry:FuncData
 F_Book_put_entry:Fun K "put_entry" "Book.put_entry" zBf f_Book_put_entry d_Book_put_entry
 b_Book_put_entry:Binds K d_Book_put_entry ["self","sifting","first_step"] []
 f_Book_first_sent:Addr
 d_Book_first_sent:FuncData
 F_Book_first_sent:Fun K "first_sent" "Book.first_sent" zAt f_Book_first_sent d_Book_first_sent
 b_Book_first_sent:Binds K d_Book_first_sent ["self","seating"] []
 f_Book_fill:Addr
 d_Book_fill:FuncData
 F_Book_fill:Fun K "fill" "Book.fill" s_Book_fill f_Book_fill d_Book_fill
 b_Book_fill:Binds K d_Book_fill ["self"] []
 f_Book_join_entries:Addr
 d_Book_join_entries:FuncData
 F_Book_join_entries:Fun K "join_entries" "Book.join_entries" zAu f_Book_join_entries d_Book_join_entries
 b_Book_join_entries:Binds K d_Book_join_entries ["self","one","other"] []
 f_Book_how_many:Addr
 d_Book_how_many:FuncData
 F_Book_how_many:Fun K "how_many" "Book.how_many" zBt f_Book_how_many d_Book_how_many
 b_Book_how_many:Binds K d_Book_how_many ["self"] []
 f_Room___init__:Addr
 d_Room___init__:FuncData
 F_Room___init__:Fun K "__init__" "Room.__init__" zBu f_Room___init__ d_Room___init__
 b_Room___init__:Binds K d_Room___init__ ["self","size"] []
 f_Room_need_fitting:Addr
 d_Room_need_fitting:FuncData
 F_Room_need_fitting:Fun K "need_fitting" "Room.need_fitting" zAv f_Room_need_fitting d_Room_need_fitting
 b_Room_need_fitting:Binds K d_Room_need_fitting ["self","a"] []
 f_Room_need_reached:Addr
 d_Room_need_reached:FuncData
 F_Room_need_reached:Fun K "need_reached" "Room.need_reached" zAw f_Room_need_reached d_Room_need_reached
 b_Room_need_reached:Binds K d_Room_need_reached ["self","a"] []
 f_Room_put_move:Addr
 d_Room_put_move:FuncData
 F_Room_put_move:Fun K "put_move" "Room.put_move" zBv f_Room_put_move d_Room_put_move
 b_Room_put_move:Binds K d_Room_put_move ["self","move"] []
 f_Room_how_many:Addr
 d_Room_how_many:FuncData
 F_Room_how_many:Fun K "how_many" "Room.how_many" zBw f_Room_how_many d_Room_how_many
 b_Room_how_many:Binds K d_Room_how_many ["self"] []
 f_Room_reaches:Addr
 d_Room_reaches:FuncData
 F_Room_reaches:Fun K "reaches" "Room.reaches" zC6 f_Room_reaches d_Room_reaches
 b_Room_reaches:Binds K d_Room_reaches ["self","a"] []
 f_Room_recipe:Addr
 d_Room_recipe:FuncData
 F_Room_recipe:Fun K "recipe" "Room.recipe" zCa f_Room_recipe d_Room_recipe
 b_Room_recipe:Binds K d_Room_recipe ["self","a"] []
 f_Room_numbered:Addr
 d_Room_numbered:FuncData
 F_Room_numbered:Fun K "numbered" "Room.numbered" zBx f_Room_numbered d_Room_numbered
 b_Room_numbered:Binds K d_Room_numbered ["self","n"] []
 f_Room_number_of:Addr
 d_Room_number_of:FuncData
 F_Room_number_of:Fun K "number_of" "Room.number_of" zBg f_Room_number_of d_Room_number_of
 b_Room_number_of:Binds K d_Room_number_of ["self","a"] []
 f_rings:Addr
 d_rings:FuncData
 F_rings:Fun K "rings" "rings" s_rings f_rings d_rings
 m_rings:mg "rings"=some (.ref f_rings)
 b_rings:Binds K d_rings ["a"] []
 f_age:Addr
 d_age:FuncData
 F_age:Fun K "age" "age" s_age f_age d_age
 m_age:mg "age"=some (.ref f_age)
 b_age:Binds K d_age ["a"] []
 f_even:Addr
 d_even:FuncData
 F_even:Fun K "even" "even" s_even f_even d_even
 m_even:mg "even"=some (.ref f_even)
 b_even:Binds K d_even ["a"] []
 f_times:Addr
 d_times:FuncData
 F_times:Fun K "times" "times" s_times f_times d_times
 m_times:mg "times"=some (.ref f_times)
 b_times:Binds K d_times ["a","n"] []
 f_need_seat:Addr
 d_need_seat:FuncData
 F_need_seat:Fun K "need_seat" "need_seat" s_need_seat f_need_seat d_need_seat
 m_need_seat:mg "need_seat"=some (.ref f_need_seat)
 b_need_seat:Binds K d_need_seat ["room","seat"] []
 f_ring_of:Addr
 d_ring_of:FuncData
 F_ring_of:Fun K "ring_of" "ring_of" s_ring_of f_ring_of d_ring_of
 m_ring_of:mg "ring_of"=some (.ref f_ring_of)
 b_ring_of:Binds K d_ring_of ["room","seat"] []
 f_parting:Addr
 d_parting:FuncData
 F_parting:Fun K "parting" "parting" s_parting f_parting d_parting
 m_parting:mg "parting"=some (.ref f_parting)
 b_parting:Binds K d_parting ["room","one","other"] []
 f_within:Addr
 d_within:FuncData
 F_within:Fun K "within" "within" s_within f_within d_within
 m_within:mg "within"=some (.ref f_within)
 b_within:Binds K d_within ["room","other"] []
 f_holding:Addr
 d_holding:FuncData
 F_holding:Fun K "holding" "holding" s_holding f_holding d_holding
 m_holding:mg "holding"=some (.ref f_holding)
 b_holding:Binds K d_holding ["room","seats"] []
 f_dyed:Addr
 d_dyed:FuncData
 F_dyed:Fun K "dyed" "dyed" s_dyed f_dyed d_dyed
 m_dyed:mg "dyed"=some (.ref f_dyed)
 b_dyed:Binds K d_dyed ["room","dyes"] []
 f_shown:Addr
 d_shown:FuncData
 F_shown:Fun K "shown" "shown" s_shown f_shown d_shown
 m_shown:mg "shown"=some (.ref f_shown)
 b_shown:Binds K d_shown ["a"] []
 f_ring_texts:Addr
 d_ring_texts:FuncData
 F_ring_texts:Fun K "ring_texts" "ring_texts" zCr f_ring_texts d_ring_texts
 m_ring_texts:mg "ring_texts"=some (.ref f_ring_texts)
 b_ring_texts:Binds K d_ring_texts ["text"] []
 f_ring_read:Addr
 d_ring_read:FuncData
 F_ring_read:Fun K "ring_read" "ring_read" s_ring_read f_ring_read d_ring_read
 m_ring_read:mg "ring_read"=some (.ref f_ring_read)
 b_ring_read:Binds K d_ring_read ["text","figures"] []
 f_all_rings_read:Addr
 d_all_rings_read:FuncData
 F_all_rings_read:Fun K "all_rings_read" "all_rings_read" zAr f_all_rings_read d_all_rings_read
 m_all_rings_read:mg "all_rings_read"=some (.ref f_all_rings_read)
 b_all_rings_read:Binds K d_all_rings_read ["text","size"] []
 f_sent_by_rings:Addr
 d_sent_by_rings:FuncData
 F_sent_by_rings:Fun K "sent_by_rings" "sent_by_rings" zBy f_sent_by_rings d_sent_by_rings
 m_sent_by_rings:mg "sent_by_rings"=some (.ref f_sent_by_rings)
 b_sent_by_rings:Binds K d_sent_by_rings ["found","size"] []
 f_read:Addr
 d_read:FuncData
 F_read:Fun K "read" "read" s_read f_read d_read
 m_read:mg "read"=some (.ref f_read)
 b_read:Binds K d_read ["text","size"] []
 f_law_cell_at:Addr
 d_law_cell_at:FuncData
 F_law_cell_at:Fun K "_law_cell_at" "_law_cell_at" zCb f_law_cell_at d_law_cell_at
 m_law_cell_at:mg "_law_cell_at"=some (.ref f_law_cell_at)
 b_law_cell_at:Binds K d_law_cell_at ["script","k"] []
 f_law_far:Addr
 d_law_far:FuncData
 F_law_far:Fun K "_law_far" "_law_far" s_law_far f_law_far d_law_far
 m_law_far:mg "_law_far"=some (.ref f_law_far)
 b_law_far:Binds K d_law_far ["cell","size"] []
 f_law_which:Addr
 d_law_which:FuncData
 F_law_which:Fun K "_law_which" "_law_which" s_law_which f_law_which d_law_which
 m_law_which:mg "_law_which"=some (.ref f_law_which)
 b_law_which:Binds K d_law_which ["e"] []
 f_law_bad:Addr
 d_law_bad:FuncData
 F_law_bad:Fun K "_law_bad" "_law_bad" s_law_bad f_law_bad d_law_bad
 m_law_bad:mg "_law_bad"=some (.ref f_law_bad)
 b_law_bad:Binds K d_law_bad ["cell"] []
 f_law_no_size:Addr
 d_law_no_size:FuncData
 F_law_no_size:Fun K "_law_no_size" "_law_no_size" zCc f_law_no_size d_law_no_size
 m_law_no_size:mg "_law_no_size"=some (.ref f_law_no_size)
 b_law_no_size:Binds K d_law_no_size ["cell","far"] []
 f_law_no_seating:Addr
 d_law_no_seating:FuncData
 F_law_no_seating:Fun K "_law_no_seating" "_law_no_seating" zBh f_law_no_seating d_law_no_seating
 m_law_no_seating:mg "_law_no_seating"=some (.ref f_law_no_seating)
 b_law_no_seating:Binds K d_law_no_seating ["room","bad","way"] []
 f_law_other_size:Addr
 d_law_other_size:FuncData
 F_law_other_size:Fun K "_law_other_size" "_law_other_size" zBi f_law_other_size d_law_other_size
 m_law_other_size:mg "_law_other_size"=some (.ref f_law_other_size)
 b_law_other_size:Binds K d_law_other_size ["room","other","way"] []
 f_law_no_seat:Addr
 d_law_no_seat:FuncData
 F_law_no_seat:Fun K "_law_no_seat" "_law_no_seat" zCd f_law_no_seat d_law_no_seat
 m_law_no_seat:mg "_law_no_seat"=some (.ref f_law_no_seat)
 b_law_no_seat:Binds K d_law_no_seat ["room","seat","way"] []
 f_law_full:Addr
 d_law_full:FuncData
 F_law_full:Fun K "_law_full" "_law_full" s_law_full f_law_full d_law_full
 m_law_full:mg "_law_full"=some (.ref f_law_full)
 b_law_full:Binds K d_law_full ["size"] []
 f_law_unreached:Addr
 d_law_unreached:FuncData
 F_law_unreached:Fun K "_law_unreached" "_law_unreached" zBz f_law_unreached d_law_unreached
 m_law_unreached:mg "_law_unreached"=some (.ref f_law_unreached)
 b_law_unreached:Binds K d_law_unreached ["size","way"] []
 f_law_wide:Addr
 d_law_wide:FuncData
 F_law_wide:Fun K "_law_wide" "_law_wide" s_law_wide f_law_wide d_law_wide
 m_law_wide:mg "_law_wide"=some (.ref f_law_wide)
 b_law_wide:Binds K d_law_wide [] []
 f_law_done:Addr
 d_law_done:FuncData
 F_law_done:Fun K "_law_done" "_law_done" zCs f_law_done d_law_done
 m_law_done:mg "_law_done"=some (.ref f_law_done)
 b_law_done:Binds K d_law_done ["way","size","cell","far"] []
 f_law:Addr
 d_law:FuncData
 F_law:Fun K "law" "law" s_law f_law d_law
 m_law:mg "law"=some (.ref f_law)
 b_law:Binds K d_law ["script"] []
 c_Entry:Addr
 k_Entry:mg "Entry"=some (.ref c_Entry)
 cl_Entry:Cls K c_Entry
 n_Entry_seat:NoAttr K c_Entry "seat"
 n_Entry_seating:NoAttr K c_Entry "seating"
 n_Entry_way_back:NoAttr K c_Entry "way_back"
 n_Entry_step_number:NoAttr K c_Entry "step_number"
 n_Entry_back_number:NoAttr K c_Entry "back_number"
 mk_Entry:Mk K c_Entry f_Entry___init__
 c_Sifting:Addr
 k_Sifting:mg "Sifting"=some (.ref c_Sifting)
 cl_Sifting:Cls K c_Sifting
 n_Sifting_left:NoAttr K c_Sifting "left"
 n_Sifting_used:NoAttr K c_Sifting "used"
 mk_Sifting:Mk K c_Sifting f_Sifting___init__
 mt_Sifting_take_off:Meth K c_Sifting "take_off" f_Sifting_take_off
 c_Book:Addr
 k_Book:mg "Book"=some (.ref c_Book)
 cl_Book:Cls K c_Book
 n_Book_resting:NoAttr K c_Book "resting"
 n_Book_steps:NoAttr K c_Book "steps"
 n_Book_pages:NoAttr K c_Book "pages"
 n_Book_entries:NoAttr K c_Book "entries"
 n_Book_joined_so_far:NoAttr K c_Book "joined_so_far"
 mk_Book:Mk K c_Book f_Book___init__
 mt_Book_sift:Meth K c_Book "sift" f_Book_sift
 mt_Book_reaches:Meth K c_Book "reaches" f_Book_reaches
 mt_Book_put_move:Meth K c_Book "put_move" f_Book_put_move
 mt_Book_put_step:Meth K c_Book "put_step" f_Book_put_step
 mt_Book_put_entry:Meth K c_Book "put_entry" f_Book_put_entry
 mt_Book_first_sent:Meth K c_Book "first_sent" f_Book_first_sent
 mt_Book_fill:Meth K c_Book "fill" f_Book_fill
 mt_Book_join_entries:Meth K c_Book "join_entries" f_Book_join_entries
 mt_Book_how_many:Meth K c_Book "how_many" f_Book_how_many
 c_Room:Addr
 k_Room:mg "Room"=some (.ref c_Room)
 cl_Room:Cls K c_Room
 n_Room_size:NoAttr K c_Room "size"
 n_Room_put_in:NoAttr K c_Room "put_in"
 n_Room_book:NoAttr K c_Room "book"
 mk_Room:Mk K c_Room f_Room___init__
 mt_Room_need_fitting:Meth K c_Room "need_fitting" f_Room_need_fitting
 mt_Room_need_reached:Meth K c_Room "need_reached" f_Room_need_reached
 mt_Room_put_move:Meth K c_Room "put_move" f_Room_put_move
 mt_Room_how_many:Meth K c_Room "how_many" f_Room_how_many
 mt_Room_reaches:Meth K c_Room "reaches" f_Room_reaches
 mt_Room_recipe:Meth K c_Room "recipe" f_Room_recipe
 mt_Room_numbered:Meth K c_Room "numbered" f_Room_numbered
 mt_Room_number_of:Meth K c_Room "number_of" f_Room_number_of
 c_RoomError:Addr
 k_RoomError:mg "RoomError"=some (.ref c_RoomError)
 x_RoomError:XCls K c_RoomError
 c_NoSize:Addr
 k_NoSize:mg "NoSize"=some (.ref c_NoSize)
 x_NoSize:XCls K c_NoSize
 c_NoSeating:Addr
 k_NoSeating:mg "NoSeating"=some (.ref c_NoSeating)
 x_NoSeating:XCls K c_NoSeating
 c_OtherSize:Addr
 k_OtherSize:mg "OtherSize"=some (.ref c_OtherSize)
 x_OtherSize:XCls K c_OtherSize
 c_NoSeat:Addr
 k_NoSeat:mg "NoSeat"=some (.ref c_NoSeat)
 x_NoSeat:XCls K c_NoSeat
 c_NoNumber:Addr
 k_NoNumber:mg "NoNumber"=some (.ref c_NoNumber)
 x_NoNumber:XCls K c_NoNumber
 c_TooMany:Addr
 k_TooMany:mg "TooMany"=some (.ref c_TooMany)
 x_TooMany:XCls K c_TooMany
 c_Unreached:Addr
 k_Unreached:mg "Unreached"=some (.ref c_Unreached)
 x_Unreached:XCls K c_Unreached
 c_TooWide:Addr
 k_TooWide:mg "TooWide"=some (.ref c_TooWide)
 x_TooWide:XCls K c_TooWide
 c_NotRead:Addr
 k_NotRead:mg "NotRead"=some (.ref c_NotRead)
 x_NotRead:XCls K c_NotRead
 y_RoomError_RoomError:PySem.W.mroIn K c_RoomError (.ref c_RoomError)=some true
 y_NoSize_RoomError:PySem.W.mroIn K c_NoSize (.ref c_RoomError)=some true
 y_NoSize_NoSize:PySem.W.mroIn K c_NoSize (.ref c_NoSize)=some true
 y_NoSize_NoSeating:PySem.W.mroIn K c_NoSize (.ref c_NoSeating)=some false
 y_NoSize_OtherSize:PySem.W.mroIn K c_NoSize (.ref c_OtherSize)=some false
 y_NoSize_NoSeat:PySem.W.mroIn K c_NoSize (.ref c_NoSeat)=some false
 y_NoSize_NoNumber:PySem.W.mroIn K c_NoSize (.ref c_NoNumber)=some false
 y_NoSize_TooMany:PySem.W.mroIn K c_NoSize (.ref c_TooMany)=some false
 y_NoSize_Unreached:PySem.W.mroIn K c_NoSize (.ref c_Unreached)=some false
 y_NoSize_TooWide:PySem.W.mroIn K c_NoSize (.ref c_TooWide)=some false
 y_NoSize_NotRead:PySem.W.mroIn K c_NoSize (.ref c_NotRead)=some false
 y_NoSeating_RoomError:PySem.W.mroIn K c_NoSeating (.ref c_RoomError)=some true
 y_NoSeating_NoSize:PySem.W.mroIn K c_NoSeating (.ref c_NoSize)=some false
 y_NoSeating_NoSeating:PySem.W.mroIn K c_NoSeating (.ref c_NoSeating)=some true
 y_NoSeating_OtherSize:PySem.W.mroIn K c_NoSeating (.ref c_OtherSize)=some false
 y_NoSeating_NoSeat:PySem.W.mroIn K c_NoSeating (.ref c_NoSeat)=some false
 y_NoSeating_NoNumber:PySem.W.mroIn K c_NoSeating (.ref c_NoNumber)=some false
 y_NoSeating_TooMany:PySem.W.mroIn K c_NoSeating (.ref c_TooMany)=some false
 y_NoSeating_Unreached:PySem.W.mroIn K c_NoSeating (.ref c_Unreached)=some false
 y_NoSeating_TooWide:PySem.W.mroIn K c_NoSeating (.ref c_TooWide)=some false
 y_NoSeating_NotRead:PySem.W.mroIn K c_NoSeating (.ref c_NotRead)=some false
 y_OtherSize_RoomError:PySem.W.mroIn K c_OtherSize (.ref c_RoomError)=some true
 y_OtherSize_NoSize:PySem.W.mroIn K c_OtherSize (.ref c_NoSize)=some false
 y_OtherSize_NoSeating:PySem.W.mroIn K c_OtherSize (.ref c_NoSeating)=some false
 y_OtherSize_OtherSize:PySem.W.mroIn K c_OtherSize (.ref c_OtherSize)=some true
 y_OtherSize_NoSeat:PySem.W.mroIn K c_OtherSize (.ref c_NoSeat)=some false
 y_OtherSize_NoNumber:PySem.W.mroIn K c_OtherSize (.ref c_NoNumber)=some false
 y_OtherSize_TooMany:PySem.W.mroIn K c_OtherSize (.ref c_TooMany)=some false
 y_OtherSize_Unreached:PySem.W.mroIn K c_OtherSize (.ref c_Unreached)=some false
 y_OtherSize_TooWide:PySem.W.mroIn K c_OtherSize (.ref c_TooWide)=some false
 y_OtherSize_NotRead:PySem.W.mroIn K c_OtherSize (.ref c_NotRead)=some false
 y_NoSeat_RoomError:PySem.W.mroIn K c_NoSeat (.ref c_RoomError)=some true
 y_NoSeat_NoSize:PySem.W.mroIn K c_NoSeat (.ref c_NoSize)=some false
 y_NoSeat_NoSeating:PySem.W.mroIn K c_NoSeat (.ref c_NoSeating)=some false
 y_NoSeat_OtherSize:PySem.W.mroIn K c_NoSeat (.ref c_OtherSize)=some false
 y_NoSeat_NoSeat:PySem.W.mroIn K c_NoSeat (.ref c_NoSeat)=some true
 y_NoSeat_NoNumber:PySem.W.mroIn K c_NoSeat (.ref c_NoNumber)=some false
 y_NoSeat_TooMany:PySem.W.mroIn K c_NoSeat (.ref c_TooMany)=some false
 y_NoSeat_Unreached:PySem.W.mroIn K c_NoSeat (.ref c_Unreached)=some false
 y_NoSeat_TooWide:PySem.W.mroIn K c_NoSeat (.ref c_TooWide)=some false
 y_NoSeat_NotRead:PySem.W.mroIn K c_NoSeat (.ref c_NotRead)=some false
 y_NoNumber_RoomError:PySem.W.mroIn K c_NoNumber (.ref c_RoomError)=some true
 y_NoNumber_NoSize:PySem.W.mroIn K c_NoNumber (.ref c_NoSize)=some false
 y_NoNumber_NoSeating:PySem.W.mroIn K c_NoNumber (.ref c_NoSeating)=some false
 y_NoNumber_OtherSize:PySem.W.mroIn K c_NoNumber (.ref c_OtherSize)=some false
 y_NoNumber_NoSeat:PySem.W.mroIn K c_NoNumber (.ref c_NoSeat)=some false
 y_NoNumber_NoNumber:PySem.W.mroIn K c_NoNumber (.ref c_NoNumber)=some true
 y_NoNumber_TooMany:PySem.W.mroIn K c_NoNumber (.ref c_TooMany)=some false
 y_NoNumber_Unreached:PySem.W.mroIn K c_NoNumber (.ref c_Unreached)=some false
 y_NoNumber_TooWide:PySem.W.mroIn K c_NoNumber (.ref c_TooWide)=some false
 y_NoNumber_NotRead:PySem.W.mroIn K c_NoNumber (.ref c_NotRead)=some false
 y_TooMany_RoomError:PySem.W.mroIn K c_TooMany (.ref c_RoomError)=some true
 y_TooMany_NoSize:PySem.W.mroIn K c_TooMany (.ref c_NoSize)=some false
 y_TooMany_NoSeating:PySem.W.mroIn K c_TooMany (.ref c_NoSeating)=some false
 y_TooMany_OtherSize:PySem.W.mroIn K c_TooMany (.ref c_OtherSize)=some false
 y_TooMany_NoSeat:PySem.W.mroIn K c_TooMany (.ref c_NoSeat)=some false
 y_TooMany_NoNumber:PySem.W.mroIn K c_TooMany (.ref c_NoNumber)=some false
 y_TooMany_TooMany:PySem.W.mroIn K c_TooMany (.ref c_TooMany)=some true
 y_TooMany_Unreached:PySem.W.mroIn K c_TooMany (.ref c_Unreached)=some false
 y_TooMany_TooWide:PySem.W.mroIn K c_TooMany (.ref c_TooWide)=some false
 y_TooMany_NotRead:PySem.W.mroIn K c_TooMany (.ref c_NotRead)=some false
 y_Unreached_RoomError:PySem.W.mroIn K c_Unreached (.ref c_RoomError)=some true
 y_Unreached_NoSize:PySem.W.mroIn K c_Unreached (.ref c_NoSize)=some false
 y_Unreached_NoSeating:PySem.W.mroIn K c_Unreached (.ref c_NoSeating)=some false
 y_Unreached_OtherSize:PySem.W.mroIn K c_Unreached (.ref c_OtherSize)=some false
 y_Unreached_NoSeat:PySem.W.mroIn K c_Unreached (.ref c_NoSeat)=some false
 y_Unreached_NoNumber:PySem.W.mroIn K c_Unreached (.ref c_NoNumber)=some false
 y_Unreached_TooMany:PySem.W.mroIn K c_Unreached (.ref c_TooMany)=some false
 y_Unreached_Unreached:PySem.W.mroIn K c_Unreached (.ref c_Unreached)=some true
 y_Unreached_TooWide:PySem.W.mroIn K c_Unreached (.ref c_TooWide)=some false
 y_Unreached_NotRead:PySem.W.mroIn K c_Unreached (.ref c_NotRead)=some false
 y_TooWide_RoomError:PySem.W.mroIn K c_TooWide (.ref c_RoomError)=some true
 y_TooWide_NoSize:PySem.W.mroIn K c_TooWide (.ref c_NoSize)=some false
 y_TooWide_NoSeating:PySem.W.mroIn K c_TooWide (.ref c_NoSeating)=some false
 y_TooWide_OtherSize:PySem.W.mroIn K c_TooWide (.ref c_OtherSize)=some false
 y_TooWide_NoSeat:PySem.W.mroIn K c_TooWide (.ref c_NoSeat)=some false
 y_TooWide_NoNumber:PySem.W.mroIn K c_TooWide (.ref c_NoNumber)=some false
 y_TooWide_TooMany:PySem.W.mroIn K c_TooWide (.ref c_TooMany)=some false
 y_TooWide_Unreached:PySem.W.mroIn K c_TooWide (.ref c_Unreached)=some false
 y_TooWide_TooWide:PySem.W.mroIn K c_TooWide (.ref c_TooWide)=some true
 y_TooWide_NotRead:PySem.W.mroIn K c_TooWide (.ref c_NotRead)=some false
 y_NotRead_RoomError:PySem.W.mroIn K c_NotRead (.ref c_RoomError)=some true
 y_NotRead_NoSize:PySem.W.mroIn K c_NotRead (.ref c_NoSize)=some false
 y_NotRead_NoSeating:PySem.W.mroIn K c_NotRead (.ref c_NoSeating)=some false
 y_NotRead_OtherSize:PySem.W.mroIn K c_NotRead (.ref c_OtherSize)=some false
 y_NotRead_NoSeat:PySem.W.mroIn K c_NotRead (.ref c_NoSeat)=some false
 y_NotRead_NoNumber:PySem.W.mroIn K c_NotRead (.ref c_NoNumber)=some false
 y_NotRead_TooMany:PySem.W.mroIn K c_NotRead (.ref c_TooMany)=some false
 y_NotRead_Unreached:PySem.W.mroIn K c_NotRead (.ref c_Unreached)=some false
 y_NotRead_TooWide:PySem.W.mroIn K c_NotRead (.ref c_TooWide)=some false
 y_NotRead_NotRead:PySem.W.mroIn K c_NotRead (.ref c_NotRead)=some true
 t_LEAST_SIZE:Tok
 g_LEAST_SIZE:mg "LEAST_SIZE"=some (.int 1 t_LEAST_SIZE)
 t_GREATEST_SIZE:Tok
 g_GREATEST_SIZE:mg "GREATEST_SIZE"=some (.int 16 t_GREATEST_SIZE)
 t_MOST_MOVES:Tok
 g_MOST_MOVES:mg "MOST_MOVES"=some (.int 200 t_MOST_MOVES)
 t_MOST_DYES:Tok
 g_MOST_DYES:mg "MOST_DYES"=some (.int 6 t_MOST_DYES)
 t_MOST_GONE_THROUGH:Tok
 g_MOST_GONE_THROUGH:mg "MOST_GONE_THROUGH"=some (.int 2000 t_MOST_GONE_THROUGH)
 t_REST:Tok
 g_REST:mg "REST"=some (.str (PySem.Str.ofString "()") t_REST)
 z_ValueError:mg "ValueError"=none
 z_enumerate:mg "enumerate"=none
 z_isinstance:mg "isinstance"=none
 z_len:mg "len"=none
 z_list:mg "list"=none
 z_min:mg "min"=none
 z_range:mg "range"=none
 z_reversed:mg "reversed"=none
 z_sorted:mg "sorted"=none
 z_str:mg "str"=none
 z_sum:mg "sum"=none
 z_tuple:mg "tuple"=none
section
seal L2.PE L2.PA L2.PS L2.PSs L2.PT L2.PW L2.PI L2.PG L2.PGs L2.PO L2.PTs
variable {P:Program} {w:World} {K:PySem.W.Frag} {mg:Str->Option Value} {base:Heap}
def zAm (ns:List Int):Prop:=1<=ns.length/\ns.length<=16/\Seat ns.length ns
theorem rng_range (n:Nat):rngV 0 (n:Int)=(zA6 n).map V.int:=by
 unfold rngV zA6
 rw[List.map_map]
 simp
theorem at_int {ns:List Int} {i:Nat} {x:V} (h:(ns.map V.int)[i]?=some x):∃ z:Int,x=.int z/\ns[i]?=some z:=by
 rw[List.getElem?_map]at h
 cases e:ns[i]? with
 | none=>rw[e]at h;cases h
 | some z=>rw[e]at h;exact ⟨z,(Option.some.inj h).symm,rfl⟩
theorem ix_of {n:Nat} {z:Int} (h0:0<=z) (h1:z < n):ixN n z=some z.toNat:=by
 unfold ixN
 rw[if_pos h0,if_pos h1]
theorem map_set_int (ms:List Int) (j:Nat) (z:Int):(ms.map V.int).set j (.int z)=(ms.set j z).map V.int:=by
 rw[List.map_set]
theorem atI_int {ns:List Int} {z:Int} {y:Int} (h0:0<=z) (h:ns[z.toNat]?=some y):atI (ns.map V.int) z=some (.int y):=by
 have e:z=((z.toNat:Nat):Int):=by omega
 have q:atI (ns.map V.int) ((z.toNat:Nat):Int)=some (.int y):=zAs (by rw[List.getElem?_map,h];rfl)
 rw[<- e]at q
 exact q
def Tups (H:Hp) (rs:List Addr) (zs:List (List Int)):Prop:=PySem.Paired (fun r (z:List Int)=>H r=some (.tup (z.map V.int))) rs zs
theorem Tups.mono {H H':Hp} {rs:List Addr} {zs:List (List Int)} (s:∀ b xs,H b=some (.tup xs)->H' b=some (.tup xs)) (h:Tups H rs zs):Tups H' rs zs:=L2.Paired.mapP h fun _ _ e=>s _ _ e
theorem Tups.same {H H':Hp} {rs:List Addr} {zs:List (List Int)} (s:Same H H') (h:Tups H rs zs):Tups H' rs zs:=h.mono fun b xs e=>s b _ e
theorem Tups.put {H:Hp} {rs:List Addr} {zs:List (List Int)} {l:Addr} {ys:List V} {o:HO} (hl:H l=some (.lst ys)) (h:Tups H rs zs):Tups (upd H l o) rs zs :=
 h.mono fun b xs e=>by rw[zA8 (ne_of e hl (by intro z;cases z))];exact e
theorem Tups.len {H:Hp} {rs:List Addr} {zs:List (List Int)} (h:Tups H rs zs):rs.length=zs.length:=PySem.Paired.length h
theorem Tups.snoc {H:Hp} {rs:List Addr} {zs:List (List Int)} {r:Addr} {z:List Int} (h:Tups H rs zs) (e:H r=some (.tup (z.map V.int))):Tups H (rs++[r]) (zs++[z]):=PySem.Paired.snoc h e
theorem Tups.get {H:Hp}:∀ {rs:List Addr} {zs:List (List Int)} {j:Nat} {r:Addr},Tups H rs zs->rs[j]?=some r->∃ z,zs[j]?=some z/\H r=some (.tup (z.map V.int))
 | _,_,_,_,.nil,e=>by simp at e
 | _,_,0,_,.cons h _,e=>by simp at e;subst e;exact ⟨_,rfl,h⟩
 | _,_,j+1,r,.cons _ t,e=>by
  obtain ⟨z,e1,e2⟩:=Tups.get (j:=j) (r:=r) t (by simpa using e)
  exact ⟨z,by simpa using e1,e2⟩
theorem at_ref {rs:List Addr} {i:Nat} {x:V} (h:(rs.map V.ref)[i]?=some x):∃ r:Addr,x=.ref r/\rs[i]?=some r:=by
 rw[List.getElem?_map]at h
 cases e:rs[i]? with
 | none=>rw[e]at h;cases h
 | some z=>rw[e]at h;exact ⟨z,(Option.some.inj h).symm,rfl⟩
def sp_is_size:Sp:=fun vs H Q _=>∃ z:Int,vs=[.int z]/\∀ b:Bool,(b=true↔1<=z/\z<=16)->Q (.bl b) H
theorem ok_is_size (T:Tx K mg):FnOk P w K mg base CX0 1 T.f_is_size T.d_is_size ["size"] sp_is_size:=by
 refine T.F_is_size.ok sc_is_size (fun vs H Q E h=>?_) (fun cdv A outer s H vs Q E hr h=>?_)
 ·obtain ⟨z,rfl,_⟩:=h
  rfl
 obtain ⟨z,rfl,q⟩:=h
 refine ⟨_,(zA3 (zB6 (pe_chain op_le op_le (pe_gint rfl T.g_LEAST_SIZE) (pv 0) (pe_gint rfl T.g_GREATEST_SIZE)))),?_⟩
 walk_at "rd"
 split
 ·exact q _ (by rw[decide_eq_true_eq];omega)
 ·rename_i hz
  exact q false ⟨fun h=>(by cases h),fun h=>absurd h.1 hz⟩
def sp_is_seating (K:PySem.W.Frag):Sp:=fun vs H Q _=>∃ (a:Addr) (ns:List Int),vs=[.ref a]/\SqT K H a (ns.map V.int)/\∀ (b:Bool) (H':Hp),Same H H'->(b=true↔zAm ns)->Q (.bl b) H'
theorem ok_is_seating (T:Tx K mg):FnOk P w K mg base CX0 2 T.f_is_seating T.d_is_seating ["row"] (sp_is_seating K):=by
 refine T.F_is_seating.ok sc_is_seating (fun vs H Q E h=>?_) (fun cdv A outer s H vs Q E hr h=>?_)
 ·obtain ⟨a,ns,rfl,_⟩:=h
  rfl
 obtain ⟨a,ns,rfl,hS,q⟩:=h
 have hu0:=hu0_of hr
 refine ⟨_,(zA5 (ps_if (pt_not (pt_val (zAc (ok_is_size T) (hr.mono (by decide)) rfl T.m_is_size T.F_is_size.kp T.b_is_size .nil pass0 (zA0 (zAn (zBq (K:=K) rfl) (by rfl) T.z_len bt_len (zA0 (pv 0) zA1)) zA1)))) (zA3 (zB6 pe_bl)) zAz)
   (zA3 (zB6 (pe_cmpR (op_eq_seqK (K:=K) rfl hu0) (zAn (call_sortedK (K:=K) rfl) (by rfl) T.z_sorted bt_sorted (zA0 (pv 0) zA1)) (zAo (call_list_rngR rfl) (by rfl) T.z_list bt_list (zA0 (zAo zCp (by rfl) T.z_range bt_range (zA0 (zAn (zBq (K:=K) rfl) (by rfl) T.z_len bt_len (zA0 (pv 0) zA1)) zA1)) zA1)) (zAi _))))),?_⟩
 walk_at "rd"
 refine ⟨ns.map V.int,.inr hS,_,rfl,fun b hb=>?_⟩
 rw[List.length_map]at hb
 walk_at "rd"
 cases b with
 | false =>
  have hn:¬ (1<=ns.length/\ns.length<=16):=fun z=>by have:=hb.mpr ⟨by omega,by omega⟩;cases this
  simp only[if_true]
  exact q false H (Same.refl H) ⟨fun z=>(by cases z),fun z=>absurd ⟨z.1,z.2.1⟩ hn⟩
 | true =>
  obtain ⟨h1,h2⟩:=hb.mp rfl
  simp only[Bool.true_eq_false,if_false]
  refine ⟨ns,.inr hS,by omega,fun ns' hp hs l hl=>?_⟩
  have s1:Same H (upd H l (.lst (ns'.map V.int))):=zA7 hl _
  have e1:(upd H l (.lst (ns'.map V.int))) l=some (.lst (ns'.map V.int)):=zA2
  generalize upd H l (.lst (ns'.map V.int))=H1 at s1 e1
  refine ⟨ns.map V.int,.inr (s1.sqT hS),?_⟩
  rw[List.length_map]
  refine ⟨by omega,by omega,fun r hr'=>?_⟩
  have s2:Same H1 (upd H1 r (.rng 0 ns.length)):=zA7 hr' _
  have e2:(upd H1 r (.rng 0 ns.length)) r=some (.rng 0 ns.length):=zA2
  generalize upd H1 r (.rng 0 ns.length)=H2 at s2 e2
  refine ⟨0,ns.length,e2,⟨by omega,by omega,by omega,by omega⟩,zCk (by omega),fun l2 hl2=>?_⟩
  have er:rngV 0 (ns.length:Int)=(zA6 ns.length).map V.int:=by
   unfold rngV zA6
   rw[List.map_map]
   simp
  rw[er]
  have s3:Same H2 (upd H2 l2 (.lst ((zA6 ns.length).map V.int))):=zA7 hl2 _
  have e3:(upd H2 l2 (.lst ((zA6 ns.length).map V.int))) l2=some (.lst ((zA6 ns.length).map V.int)):=zA2
  generalize upd H2 l2 (.lst ((zA6 ns.length).map V.int))=H3 at s3 e3
  refine ⟨ns'.map V.int,(zA6 ns.length).map V.int,.inl ⟨SqL.of (s3.at (s2.at e1)),SqL.of e3⟩,by simp [flatV],by simp [flatV],?_⟩
  refine q _ H3 (s1.trans (s2.trans s3)) ?_
  rw[eqVs_ints,decide_eq_true_eq]
  constructor
  ·intro e
   exact ⟨by omega,by omega,hp.symm.trans (by rw[e])⟩
  ·intro ⟨_,_,z⟩
   exact z.sorted hp hs
def sp_need_size (C:Addr):Sp:=fun vs H Q E=>∃ z:Int,vs=[.int z]/\(1<=z/\z<=16->Q .non H)/\(¬ (1<=z/\z<=16)->E (.ref C) none H)
theorem ok_need_size (T:Tx K mg):FnOk P w K mg base (CXX P w) 2 T.f_need_size T.d_need_size ["size"] (sp_need_size T.c_NoSize):=by
 refine T.F_need_size.okX sc_need_size (fun vs H Q E h=>?_) (fun cdv A outer s H vs Q E hr h=>?_)
 ·obtain ⟨z,rfl,_⟩:=h
  rfl
 obtain ⟨z,rfl,q1,q2⟩:=h
 refine ⟨_,(zA3 (ps_if (pt_not (pt_val (zAc (ok_is_size T) (hr.mono (by decide)) rfl T.m_is_size T.F_is_size.kp T.b_is_size .nil pass0 (zA0 (pv 0) zA1)))) (zA3 (zC2 rfl T.x_NoSize rfl T.k_NoSize zCn (zA0 zB9 zA1))) zAz)),?_⟩
 walk_at "rd"
 refine ⟨z,rfl,fun b hb=>?_⟩
 walk_at "rd"
 cases b with
 | true =>
  simp only[Bool.true_eq_false,if_false]
  exact q1 (hb.mp rfl)
 | false =>
  simp only[if_true]
  exact ⟨by decide,q2 fun z=>by have:=hb.mpr z;cases this⟩
def sp_need_seating (K:PySem.W.Frag) (C:Addr):Sp:=fun vs H Q E=>∃ (a:Addr) (ns:List Int),vs=[.ref a]/\SqT K H a (ns.map V.int)/\∀ H':Hp,Same H H'->(zAm ns->Q .non H')/\(¬ zAm ns->E (.ref C) none H')
theorem zC9 (T:Tx K mg):FnOk P w K mg base (CXX P w) 3 T.f_need_seating T.d_need_seating ["row"] (sp_need_seating K T.c_NoSeating):=by
 refine T.F_need_seating.okX sc_need_seating (fun vs H Q E h=>?_) (fun cdv A outer s H vs Q E hr h=>?_)
 ·obtain ⟨a,ns,rfl,_⟩:=h
  rfl
 obtain ⟨a,ns,rfl,hS,q⟩:=h
 refine ⟨_,(zA3 (ps_if (pt_not (pt_val (zAc (ok_is_seating T) (hr.mono (by decide)) rfl T.m_is_seating T.F_is_seating.kp T.b_is_seating .nil pass0 (zA0 (pv 0) zA1)))) (zA3 (zC2 rfl T.x_NoSeating rfl T.k_NoSeating zCn (zA0 zB9 zA1))) zAz)),?_⟩
 walk_at "rd"
 refine ⟨a,ns,rfl,hS,fun b H1 s1 hb=>?_⟩
 walk_at "rd"
 cases b with
 | true =>
  simp only[Bool.true_eq_false,if_false]
  exact (q H1 s1).1 (hb.mp rfl)
 | false =>
  simp only[if_true]
  exact ⟨by decide,(q H1 s1).2 fun z=>by have:=hb.mpr z;cases this⟩
def sp_rest (C:Addr):Sp:=fun vs H Q E=>∃ z:Int,vs=[.int z]/\(∀ n:Nat,z=n->1<=n->n<=16->∀ (r:Addr) (H':Hp),Same H H'->H' r=some (.tup ((zA6 n).map V.int))->Q (.ref r) H')/\(¬ (1<=z/\z<=16)->E (.ref C) none H)
theorem ok_rest (T:Tx K mg):FnOk P w K mg base (CXX P w) 3 T.f_rest T.d_rest ["size"] (sp_rest T.c_NoSize):=by
 refine T.F_rest.okX sc_rest (fun vs H Q E h=>?_) (fun cdv A outer s H vs Q E hr h=>?_)
 ·obtain ⟨z,rfl,_⟩:=h
  rfl
 obtain ⟨z,rfl,q1,q2⟩:=h
 refine ⟨_,(zA5 (zAb (zAc (ok_need_size T) (hr.mono (by decide)) rfl T.m_need_size T.F_need_size.kp T.b_need_size .nil zAa (zA0 (pv 0) zA1)))
   (zA3 (zB6 (zAo (call_tuple_rngR rfl) (by rfl) T.z_tuple bt_tuple (zA0 (zAo zCp (by rfl) T.z_range bt_range (zA0 (pv 0) zA1)) zA1))))),?_⟩
 walk_at "rd"
 refine ⟨z,rfl,fun hz=>?_,q2⟩
 obtain ⟨n,rfl⟩:∃ n:Nat,z=n:=⟨z.toNat,by omega⟩
 walk_at "rd"
 refine ⟨by omega,by omega,fun p hp=>?_⟩
 refine ⟨0,n,zA2,⟨by omega,by omega,by omega,by omega⟩,zCk (by omega),fun l hl=>?_⟩
 rw[rng_range]
 exact q1 n rfl (by omega) (by omega) l _ ((zA7 hp _).trans (zA7 hl _)) zA2
def sp_then (K:PySem.W.Frag):Sp:=fun vs H Q _=>∃ (a b:Addr) (ns ms:List Int) (n:Nat),vs=[.ref a,.ref b]/\SqT K H a (ns.map V.int)/\SqT K H b (ms.map V.int)/\1<=n/\n<=16/\Seat n ns/\Seat n ms /\
 ∀ (r:Addr) (H':Hp),Same H H'->H' r=some (.tup ((join ns ms).map V.int))->Q (.ref r) H'
theorem at_seat {n:Nat} {ns ms:List Int} (h1:Seat n ns) (h2:Seat n ms) {i:Nat} {x:V} (h:(ns.map V.int)[i]?=some x) :
  ∃ z:Int,x=.int z/\ns[i]?=some z/\atI (ms.map V.int) z=some (.int (ms.getD z.toNat 0)):=by
 rw[List.getElem?_map]at h
 cases e:ns[i]? with
 | none=>rw[e]at h;cases h
 | some z =>
  rw[e]at h
  refine ⟨z,(Option.some.inj h).symm,rfl,?_⟩
  obtain ⟨b1,b2⟩:=h1.mem (List.mem_of_getElem? e)
  have hl:=h2.len
  have hz:z=((z.toNat:Nat):Int):=by omega
  have q:atI (ms.map V.int) ((z.toNat:Nat):Int)=some (.int (ms.getD z.toNat 0)):=zAs (by
   rw[List.getElem?_map,List.getD_eq_getElem?_getD,List.getElem?_eq_getElem (by omega)]
   simp)
  rw[<- hz]at q
  exact q
theorem join_take {ns ms:List Int} {i:Nat} {z:Int} (h:ns[i]?=some z):(join ns ms).take (i+1)=(join ns ms).take i++[ms.getD z.toNat 0]:=by
 rw[List.take_add_one]
 unfold join
 rw[List.getElem?_map,h]
 rfl
theorem ok_joined (T:Tx K mg):FnOk P w K mg base CX0 1 T.f_joined T.d_joined ["a","b"] (sp_then K):=by
 refine T.F_joined.ok sc_joined (fun vs H Q E h=>?_) (fun cdv A outer s H vs Q E hr h=>?_)
 ·obtain ⟨a,b,ns,ms,n,rfl,_⟩:=h
  rfl
 obtain ⟨a,b,ns,ms,n,rfl,hA,hB,n1,n2,p1,p2,q⟩:=h
 have l1:=p1.len
 have l2:=p2.len
 refine ⟨_,(zA3 (zB6 (zAo (zCj (K:=K) rfl) (by rfl) T.z_tuple bt_tuple (zA0 (pe_comp (M:=["seat"]) rfl (zC7 (sc:=defScope s_joined) (N:=["a","b"]) rfl rfl rfl (by decide +kernel) (by decide +kernel)) (pi_tupK (K:=K) rfl (pv 0)) (fun _ _ _ _ _=>(zBo (i:=0) (by show (["seat","a","b"]:List Str).Nodup;decide +kernel) rfl (Or.inl rfl))) (fun _ _ _ _ _=>pts_nil) (fun _ _ _ _ _=>(pe_ix (ix_tupK (K:=K) rfl) (pv 2) (pv 0) (fun _ _=>rfl)))) zA1)))),?_⟩
 walk_at "rd"
 refine ⟨⟨_,hA⟩,?_⟩
 refine comp_tup (xs:=ns.map V.int) (fun i ys H3=>H3=H/\ys=((join ns ms).take i).map V.int) ⟨rfl,rfl⟩ (fun i ys H3 _ h=>by rw[h.1];exact hA) (zCk (by rw[List.length_map];omega)) (fun i ys H3 h=>by rw[h.2,List.length_map,List.length_take];omega) ?_ ?_
 ·rintro i x ys H3 hx ⟨rfl,rfl⟩
  obtain ⟨z,rfl,hz,hat⟩:=at_seat p1 p2 hx
  walk_at "rd"
  refine ⟨trivial,ms.map V.int,_,hB,hat,trivial,?_⟩
  rw[join_take hz,List.map_append]
  rfl
 ·rintro ys H3 ⟨rfl,rfl⟩ p hp
  have e1:(join ns ms).take (ns.map V.int).length=join ns ms:=by
   rw[List.length_map]
   exact List.take_of_length_le (by rw[join_len];exact Nat.le_refl _)
  rw[e1]
  have s3:=zA7 hp (.lst ((join ns ms).map V.int))
  walk_at "rd"
  refine ⟨(join ns ms).map V.int,.inl ⟨SqL.of zA2,fun l hl=>?_⟩⟩
  exact q l _ (s3.trans (zA7 hl _)) zA2
def sp_turned (K:PySem.W.Frag):Sp:=fun vs H Q _=>∃ (a:Addr) (ns:List Int) (n:Nat),vs=[.ref a]/\SqT K H a (ns.map V.int)/\1<=n/\n<=16/\Seat n ns /\
 ∀ (r:Addr) (ms:List Int) (H':Hp),Same H H'->IsInv ns ms->H' r=some (.tup (ms.map V.int))->Q (.ref r) H'
theorem ok_turned (T:Tx K mg):FnOk P w K mg base CX0 1 T.f_turned T.d_turned ["a"] (sp_turned K):=by
 refine T.F_turned.ok sc_turned (fun vs H Q E h=>?_) (fun cdv A outer s H vs Q E hr h=>?_)
 ·obtain ⟨a,ns,n,rfl,_⟩:=h
  rfl
 obtain ⟨a,ns,n,rfl,hA,n1,n2,p1,q⟩:=h
 have l1:=p1.len
 refine ⟨_,(zA5 (zAp (i:=1) sc_turned.nd rfl (Or.inl rfl) (zAo (call_list_ofK (K:=K) rfl) (by rfl) T.z_list bt_list (zA0 (pv 0) zA1)))
   (zA5 (ps_for PassesOwn.never rfl (pi_enum (K:=K) rfl (by rfl) T.z_enumerate (zA0 (pv 0) zA1)) (pg_tupK (K:=K) rfl rfl (pgs_cons (zBo (i:=2) sc_turned.nd rfl (Or.inl rfl)) (pgs_cons (zBo (i:=3) sc_turned.nd rfl (Or.inl rfl)) pgs_nil))) (zA3 (ps_asg (pv 2) (pg_sub (pv 1) (pv 3) set_list))))
   (zA3 (zB6 (zAo (zCj (K:=K) rfl) (by rfl) T.z_tuple bt_tuple (zA0 (pv 1) zA1)))))),?_⟩
 walk_at "rd"
 have s1:=Same.refl H
 refine ⟨ns.map V.int,.inr (s1.sqT hA),fun l hl=>?_⟩
 have hlH:H l=none:=hl
 have s2:=same_put s1 hlH (.lst (ns.map V.int))
 have e2:(upd H l (.lst (ns.map V.int))) l=some (.lst (ns.map V.int)):=zA2
 generalize upd H l (.lst (ns.map V.int))=H2 at s2 e2
 refine ⟨⟨_,s2.sqT hA⟩,?_⟩
 refine loop_enum (xs:=ns.map V.int) (fun i σ H3=>∃ (x y:Option V) (ms:List Int),SEq σ [some (.ref a),some (.ref l),x,y]/\Same H H3/\H3 l=some (.lst (ms.map V.int))/\Half ns i ms) ⟨none,none,ns,⟨rfl⟩,s2,e2,⟨rfl,fun i z hi=>absurd hi (Nat.not_lt_zero _)⟩⟩ (fun i σ H3 _ ⟨_,_,_,_,s3,_⟩=>s3.sqT hA) ?_ ?_
 ·rintro i x σ H3 t hx ⟨x0,y0,ms,⟨rfl⟩,s3,e3,hf⟩ ht
  obtain ⟨z,rfl,hz⟩:=at_int hx
  obtain ⟨b0,b1⟩:=p1.mem (List.mem_of_getElem? hz)
  have hl2:=hf.len
  walk_at "rd"
  refine ⟨[.int i,.int z],SqT.of zA2,rfl,?_⟩
  walk_at "rd"
  refine ⟨trivial,ms.map V.int,z.toNat,by rw[zA8 (zA4 e3 ht)];exact e3,ix_of b0 (by rw[List.length_map];omega),_,_,ms.set z.toNat i,⟨rfl⟩,same_put (s3.trans (zA7 ht _)) hlH _,?_,hf.step p1 hz⟩
  rw[zA2,map_set_int]
 ·rintro σ H3 ⟨x0,y0,ms,⟨rfl⟩,s3,e3,hf⟩
  rw[List.length_map]at hf
  walk_at "rd"
  refine ⟨ms.map V.int,.inl ⟨SqL.of e3,fun t ht=>?_⟩⟩
  exact q t ms _ (s3.trans (zA7 ht _)) hf.full zA2
def vsOf:Stp->List V
 | .rest=>[.str "rest"]
 | .move k=>[.str "move",.int (k:Int)]
 | .back i=>[.str "back",.int (i:Int)]
 | .then_ i j=>[.str "then",.int (i:Int),.int (j:Int)]
def Keep (F:List Addr) (H H':Hp):Prop:=∀ b o,H b=some o->¬ b∈F->H' b=some o
theorem Keep.of {F:List Addr} {H H':Hp} (s:Same H H'):Keep F H H':=fun b o h _=>s b o h
theorem Keep.trans {F:List Addr} {H H1 H2:Hp} (a:Keep F H H1) (b:Keep F H1 H2):Keep F H H2:=fun c o h n=>b c o (a c o h n) n
theorem Keep.mono {F G:List Addr} {H H':Hp} (a:Keep F H H') (h:∀ b∈F,b∈G):Keep G H H':=fun c o q n=>a c o q fun z=>n (h c z)
theorem Keep.upd {F:List Addr} {H H':Hp} {a:Addr} (k:Keep F H H') (h:a∈F) (o:HO):Keep F H (upd H' a o):=fun b u q n=>by
 rw[zA8 (fun z=>n (by rw[z];exact h))];exact k b u q n
theorem Keep.new {F:List Addr} {H H':Hp} {a:Addr} (k:Keep F H H') (h:H' a=none) (o:HO):Keep F H (L2.upd H' a o):=fun b u q n=>by
 rw[zA8 (zA4 (k b u q n) h)];exact k b u q n
theorem Keep.fresh {F:List Addr} {H H':Hp} {a:Addr} (k:Keep F H H') (h:H a=none) (o:HO):Keep F H (L2.upd H' a o):=fun b u q n=>by
 rw[zA8 (zA4 q h)];exact k b u q n
theorem Keep.same {F:List Addr} {H H':Hp} (k:Keep F H H') (h:∀ b∈F,H b=none):Same H H':=fun b o q=>k b o q fun z=>by rw[h b z]at q;cases q
def EntAt (C:Addr) (H:Hp) (e:Ent):Prop:=∃ dx ta ba,H e.ad=some (.ins C dx (zAy (.int (e.seat:Int)) (.ref ta) (.ref ba) (.int (e.sn:Int)) (.int (e.bn:Int))))/\H ta=some (.tup (e.t.map V.int))/\H ba=some (.tup (e.b.map V.int))
theorem EntAt.same {C:Addr} {H H':Hp} {e:Ent} (s:Same H H') (h:EntAt C H e):EntAt C H' e:=by
 obtain ⟨dx,ta,ba,h1,h2,h3⟩:=h
 exact ⟨dx,ta,ba,s _ _ h1,s _ _ h2,s _ _ h3⟩
def kvsOf (p:Page):List (Key × V):=p.map fun q=>(Sum.inl q.1,V.ref q.2.ad)
theorem val_kvs (g:Int):∀ p:Page,valV (kvsOf p) (Sum.inl g)=(pget p g).map fun e=>V.ref e.ad
 | []=>rfl
 | q::p=>by
  have ih:=val_kvs g p
  show valV ((Sum.inl q.1,V.ref q.2.ad)::kvsOf p) (Sum.inl g)=_
  by_cases e:q.1=g
  ·rw[valV_pos (p:=((Sum.inl q.1:Key),V.ref q.2.ad)) (by rw[e])]
   unfold pget
   rw[List.find?_cons_of_pos (by simp [e])]
   rfl
  ·rw[valV_neg (p:=((Sum.inl q.1:Key),V.ref q.2.ad)) (fun z=>e (Sum.inl.inj z)),ih]
   unfold pget
   rw[List.find?_cons_of_neg (by simp [e])]
theorem put_kvs {p:Page} {g:Int} (h:pget p g=none) (e:Ent):putK (kvsOf p) (Sum.inl g) (.ref e.ad)=kvsOf (p++[(g,e)]):=by
 rw[putK_new _ (by rw[val_kvs,h];rfl)]
 unfold kvsOf
 rw[List.map_append]
 rfl
structure BkA where
 r0:Addr
 st:Addr
 pg:Addr
 en:Addr
 ds:List Addr
def fpB (bk:Addr) (A:BkA):List Addr:=bk::A.st::A.en::A.ds
structure BookAt (CB CE:Addr) (H:Hp) (bk:Addr) (A:BkA) (B:Bk):Prop where
 ob:∃ dx,H bk=some (.ins CB dx (zBm (.ref A.r0) (.ref A.st) (.ref A.pg) (.ref A.en) (.int (B.j:Int))))
 r0:H A.r0=some (.tup ((zA6 B.n).map V.int))
 st:H A.st=some (.lst (B.sts.map fun p=>V.ref p.1))
 stt:∀ p∈B.sts,H p.1=some (.tup (vsOf p.2))
 pg:H A.pg=some (.lst (A.ds.map V.ref))
 dd:PySem.Paired (fun d p=>H d=some (.dK (kvsOf p))) A.ds B.pages
 en:H A.en=some (.lst (B.ents.map fun e=>V.ref e.ad))
 pe:∀ p∈B.pages,∀ q∈p,EntAt CE H q.2
 ee:∀ e∈B.ents,EntAt CE H e
 nd:A.ds.Nodup
 n1:A.st≠A.en
 n2:A.st≠A.pg
 n3:A.en≠A.pg
theorem BookAt.same {CB CE:Addr} {H H':Hp} {bk:Addr} {A:BkA} {B:Bk} (s:Same H H') (h:BookAt CB CE H bk A B):BookAt CB CE H' bk A B where
 ob:=let ⟨dx,e⟩:=h.ob;⟨dx,s _ _ e⟩
 r0:=s _ _ h.r0
 st:=s _ _ h.st
 stt:=fun p hp=>s _ _ (h.stt p hp)
 pg:=s _ _ h.pg
 dd:=L2.Paired.mapP h.dd fun _ _ e=>s _ _ e
 en:=s _ _ h.en
 pe:=fun p hp q hq=>(h.pe p hp q hq).same s
 ee:=fun e he=>(h.ee e he).same s
 nd:=h.nd
 n1:=h.n1
 n2:=h.n2
 n3:=h.n3
theorem paired_left {α β:Type} {R:α->β->Prop}:∀ {L:List α} {M:List β},PySem.Paired R L M->∀ a∈L,∃ b∈M,R a b
 | _,_,.nil,_,h=>by cases h
 | _,_,.cons r t,a,h=>by
  rcases List.mem_cons.mp h with e | e
  ·rw[e];exact ⟨_,List.mem_cons_self,r⟩
  ·obtain ⟨b,h1,h2⟩:=paired_left t a e
   exact ⟨b,List.mem_cons_of_mem _ h1,h2⟩
theorem paired_get {α β:Type} {R:α->β->Prop}:∀ {L:List α} {M:List β} {i:Nat} {b:β},PySem.Paired R L M->M[i]?=some b->∃ a,L[i]?=some a/\R a b
 | _,_,_,_,.nil,h=>by simp at h
 | _,_,0,_,.cons r _,h=>by simp at h;subst h;exact ⟨_,rfl,r⟩
 | _,_,i+1,b,.cons _ t,h=>by
  obtain ⟨a,h1,h2⟩:=paired_get (i:=i) (b:=b) t (by simpa using h)
  exact ⟨a,by simpa using h1,h2⟩
theorem paired_get' {α β:Type} {R:α->β->Prop}:∀ {L:List α} {M:List β} {i:Nat} {a:α},PySem.Paired R L M->L[i]?=some a->∃ b,M[i]?=some b/\R a b
 | _,_,_,_,.nil,h=>by simp at h
 | _,_,0,_,.cons r _,h=>by simp at h;subst h;exact ⟨_,rfl,r⟩
 | _,_,i+1,a,.cons _ t,h=>by
  obtain ⟨b,h1,h2⟩:=paired_get' (i:=i) (a:=a) t (by simpa using h)
  exact ⟨b,by simpa using h1,h2⟩
theorem BookAt.shape {CB CE:Addr} {H:Hp} {bk:Addr} {A:BkA} {B:Bk} (h:BookAt CB CE H bk A B) {b:Addr} (hb:b∈fpB bk A):(∃ dx fs,H b=some (.ins CB dx fs)/\fs.map (·.1)=zAq)\/(∃ xs,H b=some (.lst xs))\/∃ kvs,H b=some (.dK kvs):=by
 unfold fpB at hb
 rcases List.mem_cons.mp hb with e | hb
 ·obtain ⟨dx,q⟩:=h.ob
  exact .inl ⟨dx,_,by rw[e];exact q,rfl⟩
 rcases List.mem_cons.mp hb with e | hb
 ·exact .inr (.inl ⟨_,by rw[e];exact h.st⟩)
 rcases List.mem_cons.mp hb with e | hb
 ·exact .inr (.inl ⟨_,by rw[e];exact h.en⟩)
 obtain ⟨p,_,q⟩:=paired_left h.dd b hb
 exact .inr (.inr ⟨_,q⟩)
theorem BookAt.out {CB CE:Addr} {H:Hp} {bk:Addr} {A:BkA} {B:Bk} (h:BookAt CB CE H bk A B) {b:Addr} (hb:H b=none):¬ b∈fpB bk A:=fun z=>by
 rcases h.shape z with ⟨_,_,e,_⟩ | ⟨_,e⟩ | ⟨_,e⟩ <;> rw[hb]at e <;> cases e
theorem BookAt.outT {CB CE:Addr} {H:Hp} {bk:Addr} {A:BkA} {B:Bk} (h:BookAt CB CE H bk A B) {b:Addr} {xs:List V} (hb:H b=some (.tup xs)):¬ b∈fpB bk A:=fun z=>by
 rcases h.shape z with ⟨_,_,e,_⟩ | ⟨_,e⟩ | ⟨_,e⟩ <;> rw[hb]at e <;> cases e
theorem fn_eb:¬ fn_Entry=zAq:=by decide +kernel
theorem BookAt.outE {CB CE C:Addr} {H:Hp} {bk:Addr} {A:BkA} {B:Bk} (h:BookAt CB CE H bk A B) {b:Addr} {dx:Addr} {fs:List (Str × V)} (hb:H b=some (.ins C dx fs)) (hf:¬ fs.map (·.1)=zAq):¬ b∈fpB bk A:=fun z=>by
 rcases h.shape z with ⟨_,_,e,f⟩ | ⟨_,e⟩ | ⟨_,e⟩ <;> rw[hb]at e <;> cases e
 exact hf f
theorem BookAt.entKeep {CB CE C:Addr} {H H':Hp} {bk:Addr} {A:BkA} {B:Bk} (h:BookAt CB CE H bk A B) (k:Keep (fpB bk A) H H') {e:Ent} (he:EntAt C H e):EntAt C H' e:=by
 obtain ⟨dx,ta,ba,h1,h2,h3⟩:=he
 exact ⟨dx,ta,ba,k _ _ h1 (h.outE h1 fn_eb),k _ _ h2 (h.outT h2),k _ _ h3 (h.outT h3)⟩
theorem keep_of {F:List Addr} {H:Hp} {x:Addr} {o:HO} (h:x∈F):Keep F H (L2.upd H x o):=Keep.upd (Keep.of (Same.refl H)) h o
theorem seat_small {n:Nat} {t:List Int} (h:Seat n t) (hn:n<=16):t.length<=16:=by rw[h.len];exact hn
theorem same_keep {F:List Addr} {H H1 H2:Hp} (s:Same H H1) (k:Keep F H1 H2) (h:∀ b∈F,H b=none):Same H H2:=fun b o q=>k b o (s b o q) fun z=>by rw[h b z]at q;cases q
def sp_Entry (C:Addr):Sp:=fun vs H Q _=>∃ (x dx ta:Addr) (k sn bn n:Nat) (t:List Int),vs=[.ref x,.int (k:Int),.ref ta,.int (sn:Int),.int (bn:Int)]/\H x=some (.ins C dx [])/\H ta=some (.tup (t.map V.int))/\1<=n/\n<=16/\Seat n t /\
 ∀ (b:List Int) (H':Hp),IsInv t b->Keep [x] H H'->EntAt C H' ⟨x,k,t,b,sn,bn⟩->Q .non H'
theorem ok_Entry___init__ (T:Tx K mg):FnOk P w K mg base CX0 2 T.f_Entry___init__ T.d_Entry___init__ ["self","seat","seating","step_number","back_number"] (sp_Entry T.c_Entry):=by
 refine T.F_Entry___init__.ok sc_Entry___init__ (fun vs H Q E h=>?_) (fun cdv A outer s H vs Q E hr h=>?_)
 ·obtain ⟨x,dx,ta,k,sn,bn,n,t,rfl,_⟩:=h
  rfl
 obtain ⟨x,dx,ta,k,sn,bn,n,t,rfl,hx,hta,n1,n2,p1,q⟩:=h
 refine ⟨_,(zA5 (zC8 rfl T.cl_Entry T.n_Entry_seat (pv 0) (pv 1) rfl)
   (zA5 (zC8 rfl T.cl_Entry T.n_Entry_seating (pv 0) (pv 2) rfl)
   (zA5 (zC8 rfl T.cl_Entry T.n_Entry_way_back (pv 0) (zAc (ok_turned T) (hr.mono (by decide)) rfl T.m_turned T.F_turned.kp T.b_turned .nil pass0 (zA0 (pv 2) zA1)) rfl)
   (zA5 (zC8 rfl T.cl_Entry T.n_Entry_step_number (pv 0) (pv 3) rfl)
   (zA3 (zC8 rfl T.cl_Entry T.n_Entry_back_number (pv 0) (pv 4) rfl)))))),?_⟩
 walk_at "rd"
 have nx:ta≠x:=ne_of hta hx (by intro z;cases z)
 refine ⟨dx,[],hx,by decide,?_⟩
 walk_at "rd"
 rw[pn_Entry_seat]
 refine ⟨dx,_,zA2,by simp,?_⟩
 rw[pn_Entry_seating,upd_upd]
 walk_at "rd"
 refine ⟨ta,t,n,rfl,SqT.of (by rw[zA8 nx];exact hta),n1,n2,p1,fun ba b H1 s1 iv eb=>?_⟩
 have hx1:=s1.at (a:=x) zA2
 have k1:Keep [x] H H1:=(keep_of (o:=.ins T.c_Entry dx [("seat",.int (k:Int)),("seating",.ref ta)]) (List.mem_singleton.mpr rfl)).trans (Keep.of s1)
 have nb:ba≠x:=ne_of eb hx1 (by intro z;cases z)
 refine ⟨dx,_,hx1,by simp,?_⟩
 rw[pn_Entry_way_back]
 walk_at "rd"
 refine ⟨dx,_,zA2,by simp,?_⟩
 rw[pn_Entry_step_number,upd_upd]
 walk_at "rd"
 refine ⟨dx,_,zA2,by simp,?_⟩
 rw[pn_Entry_back_number,upd_upd]
 refine q b _ iv (Keep.upd k1 (List.mem_singleton.mpr rfl) _) ⟨dx,ta,ba,zA2,?_,?_⟩
 ·rw[zA8 nx];exact k1 _ _ hta (by simpa using nx)
 ·rw[zA8 nb];exact eb
def SiftAt (C:Addr) (H:Hp) (x u:Addr) (left:List Int) (used:List Ent):Prop:=∃ dx ta,H x=some (.ins C dx (zCf (.ref ta) (.ref u)))/\H ta=some (.tup (left.map V.int))/\H u=some (.lst (used.map fun e=>V.ref e.ad))
theorem SiftAt.same {C:Addr} {H H':Hp} {x u:Addr} {left:List Int} {used:List Ent} (s:Same H H') (h:SiftAt C H x u left used):SiftAt C H' x u left used:=by
 obtain ⟨dx,ta,h1,h2,h3⟩:=h
 exact ⟨dx,ta,s _ _ h1,s _ _ h2,s _ _ h3⟩
def sp_Sifting (C:Addr):Sp:=fun vs H Q _=>∃ (x dx ta:Addr) (t:List Int),vs=[.ref x,.ref ta]/\H x=some (.ins C dx [])/\H ta=some (.tup (t.map V.int)) /\
 ∀ (u:Addr) (H':Hp),H u=none->Keep [x] H H'->SiftAt C H' x u t []->Q .non H'
theorem ok_Sifting___init__ (T:Tx K mg):FnOk P w K mg base CX0 1 T.f_Sifting___init__ T.d_Sifting___init__ ["self","seating"] (sp_Sifting T.c_Sifting):=by
 refine T.F_Sifting___init__.ok sc_Sifting___init__ (fun vs H Q E h=>?_) (fun cdv A outer s H vs Q E hr h=>?_)
 ·obtain ⟨x,dx,ta,t,rfl,_⟩:=h
  rfl
 obtain ⟨x,dx,ta,t,rfl,hx,hta,q⟩:=h
 refine ⟨_,(zA5 (zC8 rfl T.cl_Sifting T.n_Sifting_left (pv 0) (pv 1) rfl)
   (zA3 (zC8 rfl T.cl_Sifting T.n_Sifting_used (pv 0) (zCu zA1) rfl))),?_⟩
 walk_at "rd"
 have nx:ta≠x:=ne_of hta hx (by intro z;cases z)
 refine ⟨dx,[],hx,by decide,?_⟩
 rw[pn_Sifting_left]
 walk_at "rd"
 refine ⟨by decide,fun u hu=>?_⟩
 have nu:x≠u:=zA4 (o:=.ins T.c_Sifting dx [("left",.ref ta)]) zA2 hu
 have hu0:H u=none:=by rw[zA8 nu.symm]at hu;exact hu
 refine ⟨dx,_,by rw[zA8 nu];exact zA2,by simp,?_⟩
 rw[pn_Sifting_used]
 refine q u _ hu0 (Keep.upd (Keep.fresh (keep_of (List.mem_singleton.mpr rfl)) hu0 _) (List.mem_singleton.mpr rfl) _) ⟨dx,ta,zA2,?_,?_⟩
 ·rw[zA8 nx,zA8 (zA4 hta hu0),zA8 nx];exact hta
 ·rw[zA8 nu.symm];exact zA2
def sp_take_off (C CE:Addr):Sp:=fun vs H Q _=>∃ (x u:Addr) (left:List Int) (used:List Ent) (e:Ent) (n:Nat),vs=[.ref x,.ref e.ad]/\SiftAt C H x u left used/\EntAt CE H e/\used.length<=100/\1<=n/\n<=16/\Seat n left/\Seat n e.b /\
 ∀ H':Hp,Keep [x,u] H H'->SiftAt C H' x u (Mth.join left e.b) (used++[e])->Q .non H'
theorem ok_Sifting_take_off (T:Tx K mg):FnOk P w K mg base CX0 2 T.f_Sifting_take_off T.d_Sifting_take_off ["self","entry"] (sp_take_off T.c_Sifting T.c_Entry):=by
 refine T.F_Sifting_take_off.ok sc_Sifting_take_off (fun vs H Q E h=>?_) (fun cdv A outer s H vs Q E hr h=>?_)
 ·obtain ⟨x,u,left,used,e,n,rfl,_⟩:=h
  rfl
 obtain ⟨x,u,left,used,e,n,rfl,⟨dx,ta,h1,h2,h3⟩,⟨dy,t0,ba,g1,g2,g3⟩,hl,n1,n2,p1,p2,q⟩:=h
 refine ⟨_,(zA5 (zC8 rfl T.cl_Sifting T.n_Sifting_left (pv 0) (zAc (ok_joined T) (hr.mono (by decide)) rfl T.m_joined T.F_joined.kp T.b_joined .nil pass0 (zA0 (zAd rfl T.cl_Sifting T.n_Sifting_left (pv 0) rfl) (zA0 (zAd rfl T.cl_Entry T.n_Entry_way_back (pv 1) rfl) zA1))) rfl)
   (zA3 (zAb (pe_bmK (K:=K) rfl PySem.F.plainAttrs_list PySem.F.slot_list_append PySem.F.type_list_append mt_append (zAd rfl T.cl_Sifting T.n_Sifting_used (pv 0) rfl) (zA0 (pv 1) zA1))))),?_⟩
 walk_at "rd"
 refine ⟨dx,_,_,h1,zB0,?_⟩
 refine ⟨dy,_,_,g1,lk_Entry_way_back,?_⟩
 refine ⟨ta,ba,left,e.b,n,rfl,SqT.of h2,SqT.of g3,n1,n2,p1,p2,fun r H1 s1 er=>?_⟩
 refine ⟨dx,_,s1.at h1,fl_Sifting_few,?_⟩
 rw[pf_Sifting_left]
 walk_at "rd"
 have nux:u≠x:=ne_of h3 h1 (by intro z;cases z)
 have nrx:r≠x:=ne_of er (s1.at h1) (by intro z;cases z)
 have nru:r≠u:=ne_of er (s1.at h3) (by intro z;cases z)
 refine ⟨dx,_,_,zA2,lk_Sifting_used,.inl ⟨rfl,_,SqL.of (by rw[zA8 nux];exact s1.at h3)⟩,?_⟩
 walk_at "rd"
 refine ⟨_,by rw[zA8 nux];exact s1.at h3,small1000 (by rw[List.length_map];omega),?_⟩
 refine q _ (Keep.upd (Keep.upd (Keep.of s1) (by simp) _) (by simp) _) ⟨dx,r,?_,?_,?_⟩
 ·rw[zA8 nux.symm];exact zA2
 ·rw[zA8 nru,zA8 nrx];exact er
 ·rw[zA2,List.map_append];rfl
def sp_sift (CB CE CS:Addr):Sp:=fun vs H Q _=>∃ (bk ta:Addr) (A:BkA) (B:Bk) (ms:List (List Int)) (x:List Int),vs=[.ref bk,.ref ta]/\BookAt CB CE H bk A B/\B.Ok ms/\H ta=some (.tup (x.map V.int))/\Seat B.n x /\
 ∀ (r u:Addr) (H':Hp),H r=none->H u=none->r≠u->Same H H'->SiftAt CS H' r u (B.sift x).1 (B.sift x).2->Q (.ref r) H'
theorem same_two {H H1 H2:Hp} {r u:Addr} (s:Same H H1) (k:Keep [r,u] H1 H2) (hr:H r=none) (hu:H u=none):Same H H2:=fun b o q=>k b o (s b o q) (by
 intro z
 rcases List.mem_cons.mp z with e | e
 ·rw[e,hr]at q;cases q
 ·rw[List.mem_singleton.mp e,hu]at q;cases q)
theorem at_seat1 {n:Nat} {ms:List Int} (h2:Seat n ms) {i:Nat} (hi:i < n):atI (ms.map V.int) (i:Int)=some (.int (ms.getD i 0)):=zAs (by
 rw[List.getElem?_map,getD_at h2 hi];rfl)
theorem ok_Book_sift (T:Tx K mg):FnOk P w K mg base CX0 3 T.f_Book_sift T.d_Book_sift ["self","seating"] (sp_sift T.c_Book T.c_Entry T.c_Sifting):=by
 refine T.F_Book_sift.ok sc_Book_sift (fun vs H Q E h=>?_) (fun cdv A outer s H vs Q E hr h=>?_)
 ·obtain ⟨bk,ta,A,B,ms,x,rfl,_⟩:=h
  rfl
 obtain ⟨bk,ta,A',B,ms,x,rfl,hB,hO,hta,px,q⟩:=h
 have hu:=hu_of hr
 refine ⟨_,(zA5 (zAp (i:=2) sc_Book_sift.nd rfl (Or.inl rfl) (pe_makeC rfl T.mk_Sifting (ok_Sifting___init__ T) (hr.mono (by decide)) rfl T.k_Sifting T.b_Sifting___init__ pass0 (zA0 (pv 1) zA1)))
   (zA5 (ps_for PassesOwn.never rfl (pi_enumL (K:=K) rfl (by rfl) T.z_enumerate (zA0 (zAd rfl T.cl_Book T.n_Book_pages (pv 0) rfl) zA1)) (pg_tupK (K:=K) rfl rfl (pgs_cons (zBo (i:=3) sc_Book_sift.nd rfl (Or.inl rfl)) (pgs_cons (zBo (i:=4) sc_Book_sift.nd rfl (Or.inl rfl)) pgs_nil))) (zA5 (zAp (i:=5) sc_Book_sift.nd rfl (Or.inl rfl) (pe_ix (ix_tupK (K:=K) rfl) (zAd rfl T.cl_Sifting T.n_Sifting_left (pv 2) rfl) (pv 3) (fun _ _=>rfl)))
   (zA3 (ps_if (zAe op_ne (pv 5) (pv 3) (zAi _)) (zA5 (ps_if (pt_cmp (pc_dnotinK hu (pv 5) (pv 4))) (zA3 (zB6 (pv 2))) zAz)
   (zA3 (zAb (zAh (ns:=fn_Sifting) rfl (pv 2) T.cl_Sifting T.mt_Sifting_take_off (by decide +kernel) (ok_Sifting_take_off T) (hr.mono (by decide)) T.b_Sifting_take_off pass0 (zA0 (pe_dgetK hu (pv 4) (pv 5) (fun _ _=>rfl)) zA1))))) zAz))))
   (zA3 (zB6 (pv 2))))),?_⟩
 walk_at "rd"
 intro r dr hr0 hdr nr
 have s0:Same H (upd (upd H dr (.own r)) r (.ins T.c_Sifting dr [])):=fun b o e=>by rw[zA8 (zA4 e hr0),zA8 (zA4 e hdr)];exact e
 refine ⟨r,dr,ta,x,rfl,zA2,s0.at hta,fun u H1 hu0 k1 S1=>⟨rfl,?_⟩⟩
 have hu1:H u=none:=s0.free hu0
 have nru:r≠u:=zA4 (o:=.ins T.c_Sifting dr []) zA2 hu0
 have s1:Same H H1:=fun b o e=>k1 b o (s0 b o e) (by simpa using zA4 e hr0)
 walk_at "rd"
 obtain ⟨dx,hob⟩:=hB.ob
 refine ⟨dx,_,_,s1.at hob,lk_Book_pages,?_⟩
 walk_at "rd"
 refine ⟨⟨_,SqL.of (s1.at hB.pg)⟩,?_⟩
 refine loop_enumL (xs:=A'.ds.map V.ref) (fun i σ H3=>∃ (v3 v4 v5:Option V) (left:List Int) (used:List Ent),SEq σ [some (.ref bk),some (.ref ta),some (.ref r),v3,v4,v5]/\Same H H3/\SiftAt T.c_Sifting H3 r u left used/\Lev B.n i left /\
  zBn (B.pages.drop i) i left used=B.sift x/\used.length<=i) ⟨none,none,none,x,[],⟨rfl⟩,s1,S1,lev0 px,rfl,Nat.le_refl _⟩ (fun i σ H3 _ ⟨_,_,_,_,_,_,s3,_⟩=>SqL.of (s3.at hB.pg)) ?_ ?_
 ·rintro i y σ H3 t hy ⟨v3,v4,v5,left,used,⟨rfl⟩,s3,S3,lv,hgo,hul⟩ ht
  obtain ⟨d,rfl,hd⟩:∃ d:Addr,y=.ref d/\A'.ds[i]?=some d:=by
   rw[List.getElem?_map]at hy
   cases e:A'.ds[i]? with
   | none=>rw[e]at hy;cases hy
   | some z=>rw[e]at hy;exact ⟨z,(Option.some.inj hy).symm,rfl⟩
  obtain ⟨p,hp,hdk⟩:=paired_get' hB.dd hd
  obtain ⟨hpg,hin⟩:=pgs_at hO.pgs hp
  rw[Nat.zero_add]at hpg hin
  have hdrop:B.pages.drop i=p::B.pages.drop (i+1):=by
   obtain ⟨hlt,e⟩:=List.getElem?_eq_some_iff.mp hp
   rw[List.drop_eq_getElem_cons hlt,e]
  rw[hdrop]at hgo
  have s4:=s3.trans (zA7 ht (.tup [.int i,.ref d]))
  have S4:=S3.same (zA7 ht (.tup [.int i,.ref d]))
  have ht4:(upd H3 t (.tup [.int i,.ref d])) t=some (.tup [.int i,.ref d]):=zA2
  generalize upd H3 t (.tup [.int i,.ref d])=H4 at s4 S4 ht4
  obtain ⟨ds,tl,g1,g2,g3⟩:=id S4
  walk_at "rd"
  refine ⟨_,SqT.of ht4,rfl,?_⟩
  walk_at "rd"
  refine ⟨trivial,ds,_,_,g1,zB0,?_⟩
  walk_at "rd"
  refine ⟨_,_,SqT.of g2,at_seat1 lv.seat hin,?_⟩
  walk_at "rd"
  split
  ·rename_i ne
   refine ⟨_,s4.at hdk,?_⟩
   rw[val_kvs]
   cases hpg':pget p (left.getD i 0) with
   | none =>
    rw[sift_no ne hpg']at hgo
    simp only[Option.map_none,Option.isSome_none,Bool.not_false,if_true]
    refine q r u H4 hr0 hu1 nru s4 ?_
    rw[<- hgo]
    exact S4
   | some e =>
    rw[sift_go ne hpg']at hgo
    simp only[Option.map_some,Option.isSome_some,Bool.not_true,Bool.false_eq_true,if_false]
    obtain ⟨lo,_⟩:=lv.off hpg hin (pget_some hpg')
    have hent:=hB.pe p (List.mem_of_getElem? hp) _ (pget_some hpg')
    obtain ⟨es,eiv⟩:=hO.entLev (List.mem_of_getElem? hp) (pget_some hpg')
    refine ⟨⟨ds,_,g1,rfl⟩,_,_,s4.at hdk,by rw[val_kvs,hpg'];rfl,?_⟩
    refine ⟨r,u,left,used,e,B.n,rfl,S4,hent.same s4,by have:=hO.n2;omega,hO.n1,hO.n2,lv.seat,eiv.seat es,fun H5 k5 S5=>?_⟩
    exact ⟨_,_,_,_,_,⟨rfl⟩,same_two s4 k5 hr0 hu1,S5,lo,hgo,by rw[List.length_append,List.length_singleton];omega⟩
  ·rename_i ne
   have e0:left.getD i 0=(i:Int):=Classical.byContradiction fun z=>ne z
   rw[sift_eq e0]at hgo
   exact ⟨_,_,_,_,_,⟨rfl⟩,s4,S4,lv.succ hin e0,hgo,by omega⟩
 ·rintro σ H3 ⟨v3,v4,v5,left,used,⟨rfl⟩,s3,S3,lv,hgo,hul⟩
  walk_at "rd"
  refine q r u H3 hr0 hu1 nru s3 ?_
  have hl:(A'.ds.map V.ref).length=B.pages.length:=by rw[List.length_map];exact PySem.Paired.length hB.dd
  rw[hl,List.drop_length]at hgo
  rw[<- hgo]
  exact S3
def sp_bk_reaches (CB CE:Addr):Sp:=fun vs H Q _=>∃ (bk ta:Addr) (A:BkA) (B:Bk) (ms:List (List Int)) (x:List Int),vs=[.ref bk,.ref ta]/\BookAt CB CE H bk A B/\B.Ok ms/\H ta=some (.tup (x.map V.int))/\Seat B.n x /\
 ∀ (b:Bool) (H':Hp),(b=true↔In B.n B.rows x)->Same H H'->Q (.bl b) H'
theorem ok_Book_reaches (T:Tx K mg):FnOk P w K mg base CX0 4 T.f_Book_reaches T.d_Book_reaches ["self","seating"] (sp_bk_reaches T.c_Book T.c_Entry):=by
 refine T.F_Book_reaches.ok sc_Book_reaches (fun vs H Q E h=>?_) (fun cdv A outer s H vs Q E hr h=>?_)
 ·obtain ⟨bk,ta,A,B,ms,x,rfl,_⟩:=h
  rfl
 obtain ⟨bk,ta,A',B,ms,x,rfl,hB,hO,hta,px,q⟩:=h
 have hu0:=hu0_of hr
 refine ⟨_,(zA3 (zB6 (pe_cmpR (op_eq_seqK (K:=K) rfl hu0) (zAd rfl T.cl_Sifting T.n_Sifting_left (zAh (ns:=zAq) rfl (pv 0) T.cl_Book T.mt_Book_sift (by decide +kernel) (ok_Book_sift T) (hr.mono (by decide)) T.b_Book_sift pass0 (zA0 (pv 1) zA1)) rfl) (zAd rfl T.cl_Book T.n_Book_resting (pv 0) rfl) (zAi _)))),?_⟩
 walk_at "rd"
 obtain ⟨dx,hob⟩:=hB.ob
 refine ⟨⟨dx,_,hob,rfl⟩,?_⟩
 refine ⟨bk,ta,A',B,ms,x,rfl,hB,hO,hta,px,fun r u H1 hr0 hu1 nru s1 S1=>?_⟩
 obtain ⟨ds,tl,g1,g2,g3⟩:=id S1
 walk_at "rd"
 refine ⟨ds,_,_,g1,zB0,?_⟩
 refine ⟨dx,_,_,s1.at hob,zCw,?_⟩
 walk_at "rd"
 refine ⟨_,_,.inr ⟨SqT.of g2,SqT.of (s1.at hB.r0)⟩,by simp [flatV],by simp [flatV],?_⟩
 refine q _ H1 ?_ s1
 rw[eqVs_ints,decide_eq_true_eq]
 exact hO.sift px
theorem small5000 {n:Nat} (h:n<=5000):n < sizeLine:=Nat.lt_of_le_of_lt h (by decide)
theorem EntAt.but {C:Addr} {H H':Hp} {a:Addr} (k:∀ b o,H b=some o->b≠a->H' b=some o) {e:Ent} (h:EntAt C H e) (h1:∀ dx ta ba,¬ H a=some (.ins C dx (zAy (.int (e.seat:Int)) (.ref ta) (.ref ba) (.int (e.sn:Int)) (.int (e.bn:Int))))) (h2:∀ xs,¬ H a=some (.tup xs)):EntAt C H' e:=by
 obtain ⟨dx,ta,ba,g1,g2,g3⟩:=h
 exact ⟨dx,ta,ba,k _ _ g1 (fun z=>h1 dx ta ba (by rw[<- z];exact g1)),k _ _ g2 (fun z=>h2 _ (by rw[<- z];exact g2)),k _ _ g3 (fun z=>h2 _ (by rw[<- z];exact g3))⟩
theorem BookAt.putSt {CB CE:Addr} {H:Hp} {bk:Addr} {A:BkA} {B:Bk} (h:BookAt CB CE H bk A B) {a:Addr} {s:Stp} (ha:H a=some (.tup (vsOf s))) (v:List Int):BookAt CB CE (L2.upd H A.st (.lst ((B.sts.map fun p=>V.ref p.1)++[.ref a]))) bk A (B.step (a,s) v):=by
 have k:∀ b o,H b=some o->b≠A.st->(L2.upd H A.st (.lst ((B.sts.map fun p=>V.ref p.1)++[.ref a]))) b=some o:=fun b o q n=>by rw[zA8 n];exact q
 have ke:∀ {e:Ent},EntAt CE H e->EntAt CE (L2.upd H A.st (.lst ((B.sts.map fun p=>V.ref p.1)++[.ref a]))) e:=fun he=>he.but k (fun _ _ _ z=>by rw[h.st]at z;cases z) (fun _ z=>by rw[h.st]at z;cases z)
 have nt:∀ b xs,H b=some (.tup xs)->b≠A.st:=fun b xs q=>ne_of q h.st (by intro z;cases z)
 obtain ⟨dx,hob⟩:=h.ob
 refine ⟨⟨dx,k _ _ hob (ne_of hob h.st (by intro z;cases z))⟩,k _ _ h.r0 (nt _ _ h.r0),?_,fun p hp=>?_,k _ _ h.pg h.n2.symm,L2.Paired.mapP h.dd fun d p q=>k _ _ q (ne_of q h.st (by intro z;cases z)),k _ _ h.en h.n1.symm,fun p hp q hq=>ke (h.pe p hp q hq),fun e he=>ke (h.ee e he),h.nd,h.n1,h.n2,h.n3⟩
 ·rw[zA2]
  show some (HO.lst _)=some (HO.lst ((B.sts++[(a,s)]).map fun p=>V.ref p.1))
  rw[List.map_append]
  rfl
 ·rcases List.mem_append.mp hp with z | z
  ·exact k _ _ (h.stt p z) (nt _ _ (h.stt p z))
  ·rw[List.mem_singleton.mp z];exact k _ _ ha (nt _ _ ha)
def sp_put_step (CB CE:Addr):Sp:=fun vs H Q _=>∃ (bk a:Addr) (A:BkA) (B:Bk) (s:Stp),vs=[.ref bk,.ref a]/\BookAt CB CE H bk A B/\H a=some (.tup (vsOf s))/\B.sts.length<=5000 /\
 ∀ H':Hp,Keep (fpB bk A) H H'->(∀ b,H b=none->H' b=none)->(∀ v,BookAt CB CE H' bk A (B.step (a,s) v))->Q (.int (B.sts.length:Int)) H'
theorem ok_Book_put_step (T:Tx K mg):FnOk P w K mg base CX0 1 T.f_Book_put_step T.d_Book_put_step ["self","step"] (sp_put_step T.c_Book T.c_Entry):=by
 refine T.F_Book_put_step.ok sc_Book_put_step (fun vs H Q E h=>?_) (fun cdv A outer s H vs Q E hr h=>?_)
 ·obtain ⟨bk,a,A,B,s,rfl,_⟩:=h
  rfl
 obtain ⟨bk,a,A',B,st,rfl,hB,ha,hl,q⟩:=h
 refine ⟨_,(zA5 (zAb (pe_bmK (K:=K) rfl PySem.F.plainAttrs_list PySem.F.slot_list_append PySem.F.type_list_append mt_append (zAd rfl T.cl_Book T.n_Book_steps (pv 0) rfl) (zA0 (pv 1) zA1)))
   (zA3 (zB6 (pe_op op_sub (zAn (zBq (K:=K) rfl) (by rfl) T.z_len bt_len (zA0 (zAd rfl T.cl_Book T.n_Book_steps (pv 0) rfl) zA1)) zA9)))),?_⟩
 walk_at "rd"
 obtain ⟨dx,hob⟩:=hB.ob
 refine ⟨dx,_,_,hob,lk_Book_steps,.inl ⟨rfl,_,SqL.of hB.st⟩,?_⟩
 walk_at "rd"
 refine ⟨_,hB.st,small5000 (by rw[List.length_map];exact hl),?_⟩
 refine ⟨dx,_,_,by rw[zA8 (ne_of hob hB.st (by intro z;cases z))];exact hob,lk_Book_steps,?_⟩
 walk_at "rd"
 refine ⟨_,.inl (SqL.of zA2),?_⟩
 walk_at "rd"
 have e:(((B.sts.map fun p=>V.ref p.1)++[V.ref a]).length:Int)-1=(B.sts.length:Int):=by rw[List.length_append,List.length_map,List.length_singleton];omega
 rw[e]
 refine q _ (keep_of (by simp [fpB])) (fun b hb=>by rw[zA8 (fun z=>by rw[z,hB.st]at hb;cases hb)];exact hb) fun v=>hB.putSt ha v
def sp_first_sent (CB CE:Addr):Sp:=fun vs H Q _=>∃ (bk ta:Addr) (A:BkA) (B:Bk) (x:List Int) (k:Nat),vs=[.ref bk,.ref ta]/\BookAt CB CE H bk A B/\B.n<=16/\H ta=some (.tup (x.map V.int))/\Lev B.n k x/\k < B.n/\¬ x.getD k 0=(k:Int) /\
 ∀ H':Hp,Same H H'->Q (.int (k:Int)) H'
theorem ok_Book_first_sent (T:Tx K mg):FnOk P w K mg base CX0 1 T.f_Book_first_sent T.d_Book_first_sent ["self","seating"] (sp_first_sent T.c_Book T.c_Entry):=by
 refine T.F_Book_first_sent.ok sc_Book_first_sent (fun vs H Q E h=>?_) (fun cdv A outer s H vs Q E hr h=>?_)
 ·obtain ⟨bk,ta,A,B,x,k,rfl,_⟩:=h
  rfl
 obtain ⟨bk,ta,A',B,x,k,rfl,hB,n2,hta,lv,hk,ne,q⟩:=h
 refine ⟨_,(zA3 (zB6 (zAn (call_minK (K:=K) rfl rfl) (by rfl) T.z_min bt_min (zA0 (pe_comp (M:=["seat"]) rfl (zC7 (sc:=defScope zAt) (N:=["self","seating"]) rfl rfl rfl (by decide +kernel) (by decide +kernel)) (pi_tupK (K:=K) rfl (zAd rfl T.cl_Book T.n_Book_resting (pv 0) rfl)) (fun _ _ _ _ _=>(zBo (i:=0) (by show (["seat","self","seating"]:List Str).Nodup;decide +kernel) rfl (Or.inl rfl))) (fun _ _ _ _ _=>(pts_one (zAe op_ne (pe_ix (ix_tupK (K:=K) rfl) (pv 2) (pv 0) (fun _ _=>rfl)) (pv 0) (zAi _)))) (fun _ _ _ _ _=>(pv 0))) zA1)))),?_⟩
 walk_at "rd"
 obtain ⟨dx,hob⟩:=hB.ob
 refine ⟨dx,_,_,hob,zCw,?_⟩
 walk_at "rd"
 refine ⟨⟨_,SqT.of hB.r0⟩,?_⟩
 refine comp_tup (xs:=(zA6 B.n).map V.int) (fun i ys H3=>H3=H/\∃ L:List Int,ys=L.map V.int/\L.length<=i/\∀ z,z∈L↔(0<=z/\z < i/\¬ x.getD z.toNat 0=z)) ⟨rfl,[],rfl,Nat.le_refl _,fun z=>⟨fun h=>(by cases h),fun h=>(by omega)⟩⟩
  (fun i ys H3 _ h=>by rw[h.1];exact SqT.of hB.r0) (zCk (by rw[List.length_map,zAj];omega)) (fun i ys H3 ⟨_,L,e,hl,_⟩=>by rw[e,List.length_map];exact hl) ?_ ?_
 ·rintro i y ys H3 hy ⟨rfl,L,rfl,hl,hm⟩
  obtain ⟨z,rfl,hz⟩:=at_int hy
  have hi:i < B.n:=by have:=(List.getElem?_eq_some_iff.mp hz).1;rwa [zAj]at this
  rw[zBc hi]at hz
  cases hz
  walk_at "rd"
  refine ⟨trivial,_,_,SqT.of hta,at_seat1 lv.seat hi,?_⟩
  walk_at "rd"
  split
  ·rename_i nz
   refine ⟨trivial,L++[(i:Int)],by rw[List.map_append];rfl,by rw[List.length_append,List.length_singleton];omega,fun z=>?_⟩
   rw[List.mem_append,hm z,List.mem_singleton]
   constructor
   ·rintro (⟨a,b,c⟩ | rfl)
    ·exact ⟨a,by omega,c⟩
    ·exact ⟨by omega,by omega,by rw[Int.toNat_natCast];exact nz⟩
   ·rintro ⟨a,b,c⟩
    by_cases e:z=(i:Int)
    ·exact .inr e
    ·exact .inl ⟨a,by omega,c⟩
  ·rename_i nz
   refine ⟨trivial,L,rfl,by omega,fun z=>?_⟩
   rw[hm z]
   constructor
   ·rintro ⟨a,b,c⟩;exact ⟨a,by omega,c⟩
   ·rintro ⟨a,b,c⟩
    refine ⟨a,?_,c⟩
    have:z≠(i:Int):=fun e=>by
     rw[e,Int.toNat_natCast]at c
     exact nz c
    omega
 ·rintro ys H3 ⟨rfl,L,rfl,hl,hm⟩ p hp
  rw[List.length_map,zAj]at hm hl
  walk_at "rd"
  have hkL:(k:Int)∈L:=(hm k).mpr ⟨by omega,by omega,by rw[Int.toNat_natCast];exact ne⟩
  refine ⟨L,.inl (SqL.of zA2),List.length_pos_of_mem hkL,?_⟩
  ·intro m hmL hmin
   have h1:=hmin _ hkL
   obtain ⟨m0,m1,m2⟩:=(hm m).mp hmL
   have:m=(k:Int):=by
    by_cases lt:m < k
    ·exact absurd (lv.low m.toNat (by omega) (by omega)) (by rw[show ((m.toNat:Nat):Int)=m by omega];exact m2)
    ·omega
   rw[this]
   exact q _ (zA7 hp _)
theorem dd_put {H:Hp} {d:Addr} {q:Int × Ent} {o:HO} (ho:∀ p:Page,H d=some (.dK (kvsOf p))->o=.dK (kvsOf (p++[q]))):∀ {ds:List Addr} {ps:List Page} {k:Nat},PySem.Paired (fun d p=>H d=some (.dK (kvsOf p))) ds ps->ds.Nodup->ds[k]?=some d ->
  PySem.Paired (fun d' p=>(L2.upd H d o) d'=some (.dK (kvsOf p))) ds (putPg ps k q)
 | _,_,_,.nil,_,h=>by simp at h
 | d0::ds,p0::ps,0,.cons r t,nd,h=>by
  have e:d0=d:=by simpa using h
  subst e
  obtain ⟨n1,n2⟩:=List.nodup_cons.mp nd
  refine .cons (by rw[zA2,ho p0 r]) ?_
  have:∀ {ds:List Addr} {ps:List Page},PySem.Paired (fun d p=>H d=some (.dK (kvsOf p))) ds ps->¬ d0∈ds->PySem.Paired (fun d' p=>(L2.upd H d0 o) d'=some (.dK (kvsOf p))) ds ps:=by
   intro ds ps hp
   induction hp with
   | nil=>intro _;exact .nil
   | cons r _ ih =>
    intro hn
    refine .cons ?_ (ih fun z=>hn (List.mem_cons_of_mem _ z))
    rw[zA8 (fun z=>hn (by rw[<- z];exact List.mem_cons_self))]
    exact r
  exact this t n1
 | d0::ds,p0::ps,k+1,.cons r t,nd,h=>by
  obtain ⟨n1,n2⟩:=List.nodup_cons.mp nd
  have h':ds[k]?=some d:=by simpa using h
  refine .cons ?_ (dd_put ho t n2 h')
  rw[zA8 (fun z=>n1 (by rw[z];exact List.mem_of_getElem? h'))]
  exact r
theorem BookAt.putPg {CB CE:Addr} {H:Hp} {bk:Addr} {A:BkA} {B:Bk} (h:BookAt CB CE H bk A B) {d:Addr} {k:Nat} {p:Page} {e:Ent} {g:Int} (hd:A.ds[k]?=some d) (hp:B.pages[k]?=some p) (he:EntAt CE H e) :
  BookAt CB CE (L2.upd H d (.dK (kvsOf (p++[(g,e)])))) bk A { B with pages:=Mth.putPg B.pages k (g,e) }:=by
 obtain ⟨p',hp',hdk⟩:=paired_get' h.dd hd
 rw[hp]at hp'
 cases hp'
 have k':∀ b o,H b=some o->b≠d->(L2.upd H d (.dK (kvsOf (p++[(g,e)])))) b=some o:=fun b o q n=>by rw[zA8 n];exact q
 have ke:∀ {e':Ent},EntAt CE H e'->EntAt CE (L2.upd H d (.dK (kvsOf (p++[(g,e)])))) e':=fun he=>he.but k' (fun _ _ _ z=>by rw[hdk]at z;cases z) (fun _ z=>by rw[hdk]at z;cases z)
 have nt:∀ b xs,H b=some (.tup xs)->b≠d:=fun b xs q=>ne_of q hdk (by intro z;cases z)
 have nl:∀ b xs,H b=some (.lst xs)->b≠d:=fun b xs q=>ne_of q hdk (by intro z;cases z)
 obtain ⟨dx,hob⟩:=h.ob
 refine ⟨⟨dx,k' _ _ hob (ne_of hob hdk (by intro z;cases z))⟩,k' _ _ h.r0 (nt _ _ h.r0),k' _ _ h.st (nl _ _ h.st),fun p hp=>k' _ _ (h.stt p hp) (nt _ _ (h.stt p hp)),k' _ _ h.pg (nl _ _ h.pg),?_,k' _ _ h.en (nl _ _ h.en),fun p1 hp1 q hq=>?_,fun e he=>ke (h.ee e he),h.nd,h.n1,h.n2,h.n3⟩
 ·exact dd_put (fun p1 e1=>by rw[hdk]at e1;have:=Option.some.inj e1;injection this with e2;have:p=p1\/True:=.inr trivial;rw[show kvsOf (p1++[(g,e)])=kvsOf p1++kvsOf [(g,e)] by unfold kvsOf;rw[List.map_append],<- e2];unfold kvsOf;rw[List.map_append]) h.dd h.nd hd
 ·rcases putPg_mem hp1 q hq with z | ⟨p'',z1,z2⟩
  ·rw[z];exact ke he
  ·exact ke (h.pe p'' z1 q z2)
theorem BookAt.putEn {CB CE:Addr} {H:Hp} {bk:Addr} {A:BkA} {B:Bk} (h:BookAt CB CE H bk A B) {e:Ent} (he:EntAt CE H e) :
  BookAt CB CE (L2.upd H A.en (.lst ((B.ents.map fun e=>V.ref e.ad)++[.ref e.ad]))) bk A { B with ents:=B.ents++[e] }:=by
 have k':∀ b o,H b=some o->b≠A.en->(L2.upd H A.en (.lst ((B.ents.map fun e=>V.ref e.ad)++[.ref e.ad]))) b=some o:=fun b o q n=>by rw[zA8 n];exact q
 have ke:∀ {e':Ent},EntAt CE H e'->EntAt CE (L2.upd H A.en (.lst ((B.ents.map fun e=>V.ref e.ad)++[.ref e.ad]))) e':=fun he=>he.but k' (fun _ _ _ z=>by rw[h.en]at z;cases z) (fun _ z=>by rw[h.en]at z;cases z)
 have nt:∀ b xs,H b=some (.tup xs)->b≠A.en:=fun b xs q=>ne_of q h.en (by intro z;cases z)
 obtain ⟨dx,hob⟩:=h.ob
 refine ⟨⟨dx,k' _ _ hob (ne_of hob h.en (by intro z;cases z))⟩,k' _ _ h.r0 (nt _ _ h.r0),k' _ _ h.st h.n1,fun p hp=>k' _ _ (h.stt p hp) (nt _ _ (h.stt p hp)),k' _ _ h.pg h.n3.symm,L2.Paired.mapP h.dd fun d p q=>k' _ _ q (ne_of q h.en (by intro z;cases z)),?_,fun p hp q hq=>ke (h.pe p hp q hq),fun f hf=>?_,h.nd,h.n1,h.n2,h.n3⟩
 ·rw[zA2]
  show some (HO.lst _)=some (HO.lst ((B.ents++[e]).map fun e=>V.ref e.ad))
  rw[List.map_append]
  rfl
 ·rcases List.mem_append.mp hf with z | z
  ·exact ke (h.ee f z)
  ·rw[List.mem_singleton.mp z];exact ke he
theorem SiftAt.keep {C CB CE:Addr} {H H':Hp} {bk:Addr} {A:BkA} {B:Bk} {x u:Addr} {left:List Int} {used:List Ent} (hB:BookAt CB CE H bk A B) (k:Keep (fpB bk A) H H') (nr:¬ x∈fpB bk A) (nu:¬ u∈fpB bk A) (h:SiftAt C H x u left used):SiftAt C H' x u left used:=by
 obtain ⟨dx,ta,h1,h2,h3⟩:=h
 exact ⟨dx,ta,k _ _ h1 nr,k _ _ h2 (hB.outT h2),k _ _ h3 nu⟩
def sp_put_entry (CB CE CS:Addr):Sp:=fun vs H Q _=>∃ (bk r u fa:Addr) (A:BkA) (B:Bk) (ms:List (List Int)) (x:List Int) (st:Stp),vs=[.ref bk,.ref r,.ref fa]/\BookAt CB CE H bk A B/\B.Ok ms/\Reach B.n ms x /\
 SiftAt CS H r u (B.sift x).1 (B.sift x).2/\¬ r∈fpB bk A/\¬ u∈fpB bk A/\¬ (B.sift x).1=zA6 B.n/\H fa=some (.tup (vsOf st))/\SVal B.n ms B.vals B.sts.length st x/\B.sts.length<=3000 /\
 ∀ (B':Bk) (H':Hp),Keep (fpB bk A) H H'->BookAt CB CE H' bk A B'->B'.Ok ms->B.More B'->In B'.n B'.rows x->B'.ents.length=B.ents.length+1->B'.sts.length<=B.sts.length+17->Q .non H'
theorem fold_take {us:List Ent} {i:Nat} {e:Ent} (h:us[i]?=some e) (x:List Int):(us.take (i+1)).foldl (fun z e=>Mth.join z e.b) x=Mth.join ((us.take i).foldl (fun z e=>Mth.join z e.b) x) e.b:=by
 rw[List.take_add_one,h]
 simp [List.foldl_append]
theorem ok_Book_put_entry (T:Tx K mg):FnOk P w K mg base CX0 4 T.f_Book_put_entry T.d_Book_put_entry ["self","sifting","first_step"] (sp_put_entry T.c_Book T.c_Entry T.c_Sifting):=by
 refine T.F_Book_put_entry.ok sc_Book_put_entry (fun vs H Q E h=>?_) (fun cdv A outer s H vs Q E hr h=>?_)
 ·obtain ⟨bk,r,u,fa,A,B,ms,x,st,rfl,_⟩:=h
  rfl
 obtain ⟨bk,r,u,fa,A',B,ms,x,st,rfl,hB,hO,hx,hS,nr,nu,hne,hfa,hsv,hln,q⟩:=h
 have hu:=hu_of hr
 have px:Seat B.n x:=hx.seat hO.mvs
 obtain ⟨ps,hus,hfold⟩:=hO.used px
 obtain ⟨k,p,hk,hp,lv,hnk,hpg,hul⟩:=hO.stop px hne
 have hbk:∃ dx fs,H bk=some (.ins T.c_Book dx fs)/\fs.map (·.1)=zAq:=let ⟨dx,e⟩:=hB.ob;⟨dx,_,e,rfl⟩
 generalize hy:(B.sift x).1=y at *
 generalize hus':(B.sift x).2=us at *
 refine ⟨_,(zA5 (zAp (i:=3) sc_Book_put_entry.nd rfl (Or.inl rfl) (zAh (ns:=zAq) rfl (pv 0) T.cl_Book T.mt_Book_put_step (by decide +kernel) (ok_Book_put_step T) (hr.mono (by decide)) T.b_Book_put_step pass0 (zA0 (pv 2) zA1)))
   (zA5 (ps_for PassesOwn.never rfl (pi_listK (K:=K) rfl (zAd rfl T.cl_Sifting T.n_Sifting_used (pv 1) rfl)) (zBo (i:=4) sc_Book_put_entry.nd rfl (Or.inl rfl)) (zA3 (zAp (i:=3) sc_Book_put_entry.nd rfl (Or.inl rfl) (zAh (ns:=zAq) rfl (pv 0) T.cl_Book T.mt_Book_put_step (by decide +kernel) (ok_Book_put_step T) (hr.mono (by decide)) T.b_Book_put_step pass0 (zA0 (pe_tup (zA0 zB9 (zA0 (pv 3) (zA0 (zAd rfl T.cl_Entry T.n_Entry_back_number (pv 4) rfl) zA1)))) zA1)))))
   (zA5 (zAp (i:=5) sc_Book_put_entry.nd rfl (Or.inl rfl) (zAh (ns:=zAq) rfl (pv 0) T.cl_Book T.mt_Book_first_sent (by decide +kernel) (ok_Book_first_sent T) (hr.mono (by decide)) T.b_Book_first_sent pass0 (zA0 (zAd rfl T.cl_Sifting T.n_Sifting_left (pv 1) rfl) zA1)))
   (zA5 (zAp (i:=6) sc_Book_put_entry.nd rfl (Or.inl rfl) (zAh (ns:=zAq) rfl (pv 0) T.cl_Book T.mt_Book_put_step (by decide +kernel) (ok_Book_put_step T) (hr.mono (by decide)) T.b_Book_put_step pass0 (zA0 (pe_tup (zA0 zB9 (zA0 (pv 3) zA1))) zA1)))
   (zA5 (zAp (i:=7) sc_Book_put_entry.nd rfl (Or.inl rfl) (pe_makeC rfl T.mk_Entry (ok_Entry___init__ T) (hr.mono (by decide)) rfl T.k_Entry T.b_Entry___init__ pass0 (zA0 (pv 5) (zA0 (zAd rfl T.cl_Sifting T.n_Sifting_left (pv 1) rfl) (zA0 (pv 3) (zA0 (pv 6) zA1))))))
   (zA5 (ps_dputK hu (pe_ix (zCl (K:=K) rfl) (zAd rfl T.cl_Book T.n_Book_pages (pv 0) rfl) (pv 5) (fun _ _=>rfl)) (pe_ix (ix_tupK (K:=K) rfl) (zAd rfl T.cl_Sifting T.n_Sifting_left (pv 1) rfl) (pv 5) (fun _ _=>rfl)) (pv 7) rfl)
   (zA3 (zAb (pe_bmK (K:=K) rfl PySem.F.plainAttrs_list PySem.F.slot_list_append PySem.F.type_list_append mt_append (zAd rfl T.cl_Book T.n_Book_entries (pv 0) rfl) (zA0 (pv 7) zA1)))))))))),?_⟩
 walk_at "rd"
 refine ⟨hbk,bk,fa,A',B,st,rfl,hB,hfa,by omega,fun H1 k1 f1 hB1=>?_⟩
 have hO1:(B.step (fa,st) x).Ok ms:=hO.step hsv px
 replace hB1:=hB1 x
 generalize hBi:B.step (fa,st) x=B1 at hO1 hB1
 have c1:B1.pages=B.pages/\B1.ents=B.ents/\B1.n=B.n/\B1.j=B.j/\B1.sts.length=B.sts.length+1/\B1.vals[B.sts.length]?=some x:=by
  subst hBi
  refine ⟨rfl,rfl,rfl,rfl,by show (B.sts++[_]).length=_;simp,?_⟩
  show (B.vals++[x])[B.sts.length]?=_
  have:=hO.stp.len
  rw[List.length_map]at this
  rw[<- this,List.getElem?_append_right (Nat.le_refl _),Nat.sub_self]
  rfl
 have S1:=hS.keep hB k1 nr nu
 obtain ⟨ds,tl,g1,g2,g3⟩:=id S1
 walk_at "rd"
 refine ⟨ds,_,_,g1,lk_Sifting_used,?_⟩
 walk_at "rd"
 refine ⟨⟨_,SqL.of g3⟩,?_⟩
 refine loop_list (xs:=us.map fun e=>V.ref e.ad) (fun i σ H3=>∃ (v4:Option V) (Bi:Bk),SEq σ [some (.ref bk),some (.ref r),some (.ref fa),some (.int ((B.sts.length+i:Nat):Int)),v4,none,none,none]/\Keep (fpB bk A') H H3/\BookAt T.c_Book T.c_Entry H3 bk A' Bi/\Bi.Ok ms /\
  Bi.pages=B.pages/\Bi.ents=B.ents/\Bi.n=B.n/\Bi.j=B.j/\Bi.sts.length=B.sts.length+1+i/\Bi.vals[B.sts.length+i]?=some ((us.take i).foldl (fun z e=>Mth.join z e.b) x)/\Reach B.n ms ((us.take i).foldl (fun z e=>Mth.join z e.b) x))
  ⟨none,B1,⟨rfl⟩,k1,hB1,hO1,c1.1,c1.2.1,c1.2.2.1,c1.2.2.2.1,c1.2.2.2.2.1,c1.2.2.2.2.2,hx⟩ (fun i σ H3 _ ⟨_,_,_,k3,_⟩=>by obtain ⟨_,_,_,_,g⟩:=hS.keep hB k3 nr nu;exact SqL.of g) ?_ ?_
 ·rintro i z σ H3 hz ⟨v4,Bi,⟨rfl⟩,k3,hB3,hO3,d1,d2,d3,d4,d5,d6,d7⟩
  obtain ⟨e,rfl,he⟩:∃ e:Ent,z=.ref e.ad/\us[i]?=some e:=by
   rw[List.getElem?_map]at hz
   cases e:us[i]? with
   | none=>rw[e]at hz;cases hz
   | some z=>rw[e]at hz;exact ⟨z,(Option.some.inj hz).symm,rfl⟩
  have hi:i < us.length:=(List.getElem?_eq_some_iff.mp he).1
  obtain ⟨p',hp',g,hge⟩:=hus e (List.mem_of_getElem? he)
  have hent:=hB3.pe p' (by rw[d1];exact hp') _ hge
  obtain ⟨dy,t0,ba,e1,e2,e3⟩:=id hent
  obtain ⟨se,sb⟩:=hO3.sn p' (by rw[d1];exact hp') _ hge
  obtain ⟨es,eiv⟩:=hO.entLev hp' hge
  have hre:Reach B.n ms e.b:=(hO.reach p' hp' _ hge).back hO.n2 hO.mvs eiv
  have hbk3:∃ dx fs,H3 bk=some (.ins T.c_Book dx fs)/\fs.map (·.1)=zAq:=let ⟨dx,e⟩:=hB3.ob;⟨dx,_,e,rfl⟩
  walk_at "rd"
  refine ⟨hbk3,dy,_,_,e1,lk_Entry_back_number,?_⟩
  walk_at "rd"
  refine ⟨by show 3<=sizeLine;decide,fun t ht=>?_⟩
  have s4:=zA7 ht (.tup [.str "then",.int ((B.sts.length+i:Nat):Int),.int (e.bn:Int)])
  have lb:e.bn < Bi.sts.length:=by
   have h1:e.bn < Bi.vals.length:=(List.getElem?_eq_some_iff.mp sb).1
   have h2:=hO3.stp.len
   rw[List.length_map]at h2
   omega
  refine ⟨bk,t,A',Bi,.then_ (B.sts.length+i) e.bn,rfl,hB3.same s4,zA2,by have:=hO.n2;omega,fun H5 k5 f5 hB5=>?_⟩
  have hsv5:SVal Bi.n ms Bi.vals Bi.sts.length (.then_ (B.sts.length+i) e.bn) ((us.take (i+1)).foldl (fun z e=>Mth.join z e.b) x):=by
   rw[fold_take he]
   exact ⟨by omega,lb,_,_,d6,sb,rfl⟩
  have hr5:Reach B.n ms ((us.take (i+1)).foldl (fun z e=>Mth.join z e.b) x):=by
   rw[fold_take he]
   exact Reach.join hO.mvs d7 hre
  have hl5:=hO3.stp.len
  rw[List.length_map]at hl5
  refine ⟨some (.ref e.ad),Bi.step (t,.then_ (B.sts.length+i) e.bn) ((us.take (i+1)).foldl (fun z e=>Mth.join z e.b) x),⟨?_⟩,(k3.trans (Keep.of s4)).trans k5,hB5 _,hO3.step hsv5 (by rw[d3];exact hr5.seat hO.mvs),d1,d2,d3,d4,?_,?_,hr5⟩
  ·rw[d5]
   show [_,_,_,some (V.int ((B.sts.length+1+i:Nat):Int)),_,_,_,_]=_
   rw[show B.sts.length+1+i=B.sts.length+(i+1) by omega]
  ·show (Bi.sts++[_]).length=_
   rw[List.length_append,d5,List.length_singleton]
   omega
  ·show (Bi.vals++[_])[B.sts.length+(i+1)]?=_
   rw[show B.sts.length+(i+1)=Bi.vals.length by omega,List.getElem?_append_right (Nat.le_refl _),Nat.sub_self]
   rfl
 ·rintro σ H3 ⟨v4,Bi,⟨rfl⟩,k3,hB3,hO3,d1,d2,d3,d4,d5,d6,d7⟩
  rw[List.length_map]at d5 d6 d7
  rw[List.length_map,List.take_length,<- hfold]at *
  have S3:=hS.keep hB k3 nr nu
  obtain ⟨ds3,tl3,m1,m2,m3⟩:=id S3
  have hbk3:∃ dx fs,H3 bk=some (.ins T.c_Book dx fs)/\fs.map (·.1)=zAq:=let ⟨dx,e⟩:=hB3.ob;⟨dx,_,e,rfl⟩
  have lv3:Lev Bi.n k y:=by rw[d3];exact lv
  walk_at "rd"
  refine ⟨hbk3,ds3,_,_,m1,zB0,?_⟩
  refine ⟨bk,tl3,A',Bi,y,k,rfl,hB3,by rw[d3];exact hO.n2,m2,lv3,by rw[d3];exact hk,hnk,fun H4 s4=>?_⟩
  walk_at "rd"
  have hB4:=hB3.same s4
  have S4:=S3.same s4
  have hbk4:∃ dx fs,H4 bk=some (.ins T.c_Book dx fs)/\fs.map (·.1)=zAq:=let ⟨dx,e⟩:=hB4.ob;⟨dx,_,e,rfl⟩
  refine ⟨hbk4,by show 2<=sizeLine;decide,fun t ht=>?_⟩
  have s5:=zA7 ht (.tup [.str "back",.int ((B.sts.length+us.length:Nat):Int)])
  have hn16:=hO.n2
  refine ⟨bk,t,A',Bi,.back (B.sts.length+us.length),rfl,hB4.same s5,zA2,by omega,fun H5 k5 f5 hB5=>?_⟩
  have k5':Keep (fpB bk A') H H5:=((k3.trans (Keep.of s4)).trans (Keep.of s5)).trans k5
  have S5:=hS.keep hB k5' nr nu
  obtain ⟨ds5,tl5,w1,w2,w3⟩:=id S5
  walk_at "rd"
  refine ⟨ds5,_,_,w1,zB0,?_⟩
  walk_at "rd"
  intro ad da had hda nad
  have s6:Same H5 (upd (upd H5 da (.own ad)) ad (.ins T.c_Entry da [])):=fun b o e=>by rw[zA8 (zA4 e had),zA8 (zA4 e hda)];exact e
  rw[d5]
  refine ⟨ad,da,tl5,k,B.sts.length+us.length,B.sts.length+1+us.length,B.n,y,rfl,zA2,s6.at w2,hO.n1,hO.n2,ps,fun b H7 iv k7 he7=>⟨rfl,?_⟩⟩
  have s7:Same H5 H7:=fun b o e=>k7 b o (s6 b o e) (by simpa using zA4 e had)
  generalize hfr:(⟨ad,k,y,b,B.sts.length+us.length,B.sts.length+1+us.length⟩:Ent)=fr at he7
  have hB7:=(hB5 b).same s7
  have S7:=S5.same s7
  obtain ⟨ds7,tl7,y1,y2,y3⟩:=id S7
  obtain ⟨dx7,hob7⟩:=hB7.ob
  have hpi:Bi.pages[k]?=some p:=by rw[d1];exact hp
  obtain ⟨d,hd,hdk⟩:=paired_get hB7.dd (show (Bi.step (t,.back (B.sts.length+us.length)) b).pages[k]?=some p from hpi)
  have efr:fr.ad=ad:=by rw[<- hfr]
  walk_at "rd"
  refine ⟨dx7,_,_,hob7,lk_Book_pages,?_⟩
  walk_at "rd"
  refine ⟨_,_,SqL.of hB7.pg,zAs (by rw[List.getElem?_map,hd];rfl),?_⟩
  refine ⟨ds7,_,_,y1,zB0,?_⟩
  walk_at "rd"
  refine ⟨_,_,SqT.of y2,at_seat1 ps hk,?_⟩
  walk_at "rd"
  refine ⟨_,hdk,small1000 (by
   have:=((pgs_at hO.pgs hp).1.len (pgs_at hO.pgs hp).2).2
   unfold kvsOf
   rw[List.length_map]
   omega),?_⟩
  rw[<- efr,put_kvs hpg]
  have hB8:=hB7.putPg (g:=y.getD k 0) hd (show (Bi.step (t,.back (B.sts.length+us.length)) b).pages[k]?=some p from hpi) he7
  have k8:Keep (fpB bk A') H (upd H7 d (.dK (kvsOf (p++[(y.getD k 0,fr)])))):=Keep.upd (k5'.trans (Keep.of s7)) (by
   have:=List.mem_of_getElem? hd
   simp [fpB,this]) _
  have he8:EntAt T.c_Entry (upd H7 d (.dK (kvsOf (p++[(y.getD k 0,fr)])))) fr:=hB7.entKeep (keep_of (by
   have:=List.mem_of_getElem? hd
   simp [fpB,this])) he7
  generalize upd H7 d (.dK (kvsOf (p++[(y.getD k 0,fr)])))=H8 at hB8 k8 he8
  obtain ⟨dx8,hob8⟩:=hB8.ob
  refine ⟨dx8,_,_,hob8,zCx,.inl ⟨rfl,_,SqL.of hB8.en⟩,?_⟩
  walk_at "rd"
  have hfew:=hO.few
  refine ⟨_,hB8.en,small1000 (by
   rw[List.length_map]
   show Bi.ents.length<=1000
   rw[d2];omega),?_⟩
  have hB9:=hB8.putEn he8
  have hvl:=hO3.stp.len
  rw[List.length_map]at hvl
  have hO5:(Bi.step (t,.back (B.sts.length+us.length)) b).Ok ms:=hO3.step ⟨by omega,y,d6,iv⟩ (by rw[d3];exact iv.seat ps)
  have hput:=hO5.put (e:=fr) (p:=p) (by rw[<- hfr];exact hpi) (by rw[<- hfr];exact lv3) (by rw[<- hfr];exact iv) (by rw[<- hfr];exact hnk) (by rw[<- hfr];exact hpg) (by rw[<- hfr];show Reach Bi.n ms y;rw[d3];exact d7)
   (by rw[<- hfr];exact get_app d6) (by
    rw[<- hfr]
    show (Bi.vals++[b])[B.sts.length+1+us.length]?=some b
    rw[show B.sts.length+1+us.length=Bi.vals.length by omega,List.getElem?_append_right (Nat.le_refl _),Nat.sub_self]
    rfl)
  have eB:({ Bi.step (t,.back (B.sts.length+us.length)) b with pages:=Mth.putPg (Bi.step (t,.back (B.sts.length+us.length)) b).pages k (y.getD k 0,fr),ents:=(Bi.step (t,.back (B.sts.length+us.length)) b).ents++[fr] }:Bk)=(Bi.step (t,.back (B.sts.length+us.length)) b).put fr:=by
   subst hfr
   rfl
  have hB9':BookAt T.c_Book T.c_Entry (upd H8 A'.en (.lst ((Bi.ents.map fun e=>V.ref e.ad)++[.ref fr.ad]))) bk A' ((Bi.step (t,.back (B.sts.length+us.length)) b).put fr):=by rw[<- eB];exact hB9
  have hmore:B.More ((Bi.step (t,.back (B.sts.length+us.length)) b).put fr):=by
   refine ⟨d3,?_,⟨[fr],?_⟩,d4⟩
   ·have:=hput.2
    rw[show (Bi.step (t,.back (B.sts.length+us.length)) b).pages=B.pages from d1]at this
    exact this
   ·show Bi.ents++[fr]=_
    rw[d2]
  obtain ⟨pz,hz1,hz2⟩:=putPg_has (ps:=(Bi.step (t,.back (B.sts.length+us.length)) b).pages) (k:=fr.seat) (q:=(fr.t.getD fr.seat 0,fr)) (by rw[<- hfr];exact (List.getElem?_eq_some_iff.mp hpi).1)
  refine q _ _ (Keep.upd k8 (by simp [fpB]) _) hB9' hput.1 hmore ?_ ?_ ?_
  ·exact hO.now hput.1 hmore px hz1 hz2 (by rw[<- hfr,hy])
  ·show (Bi.ents++[fr]).length=_
   rw[List.length_append,d2,List.length_singleton]
  ·show (Bi.sts++[_]).length<=_
   rw[List.length_append,d5,List.length_singleton]
   omega
def Few (B:Bk):Prop:=B.sts.length<=1+17*B.ents.length
def sp_join_entries (CB CE:Addr):Sp:=fun vs H Q _=>∃ (bk:Addr) (A:BkA) (B:Bk) (ms:List (List Int)) (e f:Ent),vs=[.ref bk,.ref e.ad,.ref f.ad]/\BookAt CB CE H bk A B/\B.Ok ms/\Few B/\e∈B.ents/\f∈B.ents /\
 ∀ (B':Bk) (H':Hp),Keep (fpB bk A) H H'->BookAt CB CE H' bk A B'->B'.Ok ms->B.More B'->Few B'->In B'.n B'.rows (Mth.join e.t f.t)->Q .non H'
theorem ok_Book_join_entries (T:Tx K mg):FnOk P w K mg base CX0 5 T.f_Book_join_entries T.d_Book_join_entries ["self","one","other"] (sp_join_entries T.c_Book T.c_Entry):=by
 refine T.F_Book_join_entries.ok sc_Book_join_entries (fun vs H Q E h=>?_) (fun cdv A outer s H vs Q E hr h=>?_)
 ·obtain ⟨bk,A,B,ms,e,f,rfl,_⟩:=h
  rfl
 obtain ⟨bk,A',B,ms,e,f,rfl,hB,hO,hF,he,hf,q⟩:=h
 have hu0:=hu0_of hr
 obtain ⟨dx,hob⟩:=hB.ob
 obtain ⟨dy,ta,ba,e1,e2,e3⟩:=hB.ee e he
 obtain ⟨dz,tc,bc,f1,f2,f3⟩:=hB.ee f hf
 obtain ⟨p,hp,g,hg⟩:=hO.ein e he
 obtain ⟨p',hp',g',hg'⟩:=hO.ein f hf
 obtain ⟨pe,_⟩:=hO.entLev hp hg
 obtain ⟨pf,_⟩:=hO.entLev hp' hg'
 have hfew:=hO.few
 unfold Few at hF
 refine ⟨_,(zA5 (zAp (i:=3) sc_Book_join_entries.nd rfl (Or.inl rfl) (zAh (ns:=zAq) rfl (pv 0) T.cl_Book T.mt_Book_sift (by decide +kernel) (ok_Book_sift T) (hr.mono (by decide)) T.b_Book_sift pass0 (zA0 (zAc (ok_joined T) (hr.mono (by decide)) rfl T.m_joined T.F_joined.kp T.b_joined .nil pass0 (zA0 (zAd rfl T.cl_Entry T.n_Entry_seating (pv 1) rfl) (zA0 (zAd rfl T.cl_Entry T.n_Entry_seating (pv 2) rfl) zA1))) zA1)))
   (zA3 (ps_if (zAe (op_ne_seqK (K:=K) rfl hu0) (zAd rfl T.cl_Sifting T.n_Sifting_left (pv 3) rfl) (zAd rfl T.cl_Book T.n_Book_resting (pv 0) rfl) (zAi _)) (zA3 (zAb (zAh (ns:=zAq) rfl (pv 0) T.cl_Book T.mt_Book_put_entry (by decide +kernel) (ok_Book_put_entry T) (hr.mono (by decide)) T.b_Book_put_entry pass0 (zA0 (pv 3) (zA0 (pe_tup (zA0 zB9 (zA0 (zAd rfl T.cl_Entry T.n_Entry_step_number (pv 1) rfl) (zA0 (zAd rfl T.cl_Entry T.n_Entry_step_number (pv 2) rfl) zA1)))) zA1))))) zAz))),?_⟩
 walk_at "rd"
 refine ⟨⟨dx,_,hob,rfl⟩,dy,_,_,e1,lk_Entry_seating,?_⟩
 refine ⟨dz,_,_,f1,lk_Entry_seating,?_⟩
 refine ⟨ta,tc,e.t,f.t,B.n,rfl,SqT.of e2,SqT.of f2,hO.n1,hO.n2,pe,pf,fun t H1 s1 et=>?_⟩
 have pj:=zAk pe pf
 refine ⟨bk,t,A',B,ms,Mth.join e.t f.t,rfl,hB.same s1,hO,et,pj,fun r u H2 hr0 hu1 nru s2 S2=>?_⟩
 have hB2:=(hB.same s1).same s2
 have s12:=s1.trans s2
 obtain ⟨ds,tl,g1,g2,g3⟩:=id S2
 walk_at "rd"
 refine ⟨ds,_,_,g1,zB0,?_⟩
 refine ⟨dx,_,_,s12.at hob,zCw,?_⟩
 walk_at "rd"
 refine ⟨_,_,.inr ⟨SqT.of g2,SqT.of (s12.at hB.r0)⟩,by simp [flatV],by simp [flatV],?_⟩
 rw[eqVs_ints]
 by_cases hrest:(B.sift (Mth.join e.t f.t)).1=zA6 B.n
 ·rw[decide_eq_true hrest,if_neg (by decide)]
  exact q B H2 (Keep.of s12) hB2 hO (Bk.More.refl B) hF ((hO.sift pj).mp hrest)
 ·rw[decide_eq_false hrest,if_pos rfl]
  walk_at "rd"
  refine ⟨⟨dx,_,s12.at hob,rfl⟩,dy,_,_,s12.at e1,lk_Entry_step_number,?_⟩
  refine ⟨dz,_,_,s12.at f1,lk_Entry_step_number,?_⟩
  walk_at "rd"
  refine ⟨by show 3<=sizeLine;decide,fun t2 ht2=>?_⟩
  have s3:=zA7 ht2 (.tup [.str "then",.int (e.sn:Int),.int (f.sn:Int)])
  have hB3:=hB2.same s3
  obtain ⟨se,_⟩:=hO.sn p hp _ hg
  obtain ⟨sf,_⟩:=hO.sn p' hp' _ hg'
  have lv:=hO.stp.len
  rw[List.length_map]at lv
  have l1:e.sn < B.vals.length:=(List.getElem?_eq_some_iff.mp se).1
  have l2:f.sn < B.vals.length:=(List.getElem?_eq_some_iff.mp sf).1
  refine ⟨bk,r,u,t2,A',B,ms,Mth.join e.t f.t,.then_ e.sn f.sn,rfl,hB3,hO,Reach.join hO.mvs (hO.reach p hp _ hg) (hO.reach p' hp' _ hg'),S2.same s3,(hB.same s1).out hr0,(hB.same s1).out hu1,hrest,zA2,⟨by omega,by omega,_,_,se,sf,rfl⟩,by omega,fun B' H' k' hB' hO' hm hin hle hls=>?_⟩
  exact q B' H' ((Keep.of s12).trans ((Keep.of s3).trans k')) hB' hO' hm (by unfold Few;omega) hin
theorem BookAt.putJ {CB CE:Addr} {H:Hp} {bk:Addr} {A:BkA} {B:Bk} (h:BookAt CB CE H bk A B) {dx:Addr} (j:Nat) (hd:∃ fs,H bk=some (.ins CB dx fs)) :
  BookAt CB CE (L2.upd H bk (.ins CB dx (zBm (.ref A.r0) (.ref A.st) (.ref A.pg) (.ref A.en) (.int (j:Int))))) bk A { B with j:=j }:=by
 obtain ⟨fs,hob⟩:=hd
 obtain ⟨dx',hob'⟩:=h.ob
 rw[hob]at hob'
 cases hob'
 have k':∀ b o,H b=some o->b≠bk->(L2.upd H bk (.ins CB dx (zBm (.ref A.r0) (.ref A.st) (.ref A.pg) (.ref A.en) (.int (j:Int))))) b=some o:=fun b o q n=>by rw[zA8 n];exact q
 have nt:∀ b xs,H b=some (.tup xs)->b≠bk:=fun b xs q=>ne_of q hob (by intro z;cases z)
 have nl:∀ b xs,H b=some (.lst xs)->b≠bk:=fun b xs q=>ne_of q hob (by intro z;cases z)
 have ke:∀ {e':Ent},EntAt CE H e'->EntAt CE (L2.upd H bk (.ins CB dx (zBm (.ref A.r0) (.ref A.st) (.ref A.pg) (.ref A.en) (.int (j:Int))))) e':=fun he=>he.but k' (fun _ _ _ z=>by
  rw[hob]at z
  have:=Option.some.inj z
  injection this with _ _ e
  exact fn_eb (by have:=congrArg (List.map (·.1)) e;exact this.symm)) (fun _ z=>by rw[hob]at z;cases z)
 exact ⟨⟨dx,zA2⟩,k' _ _ h.r0 (nt _ _ h.r0),k' _ _ h.st (nl _ _ h.st),fun p hp=>k' _ _ (h.stt p hp) (nt _ _ (h.stt p hp)),k' _ _ h.pg (nl _ _ h.pg),L2.Paired.mapP h.dd fun d p q=>k' _ _ q (ne_of q hob (by intro z;cases z)),k' _ _ h.en (nl _ _ h.en),fun p hp q hq=>ke (h.pe p hp q hq),fun f hf=>ke (h.ee f hf),h.nd,h.n1,h.n2,h.n3⟩
def sp_fill (CB CE:Addr):Sp:=fun vs H Q _=>∃ (bk:Addr) (A:BkA) (B:Bk) (ms:List (List Int)),vs=[.ref bk]/\BookAt CB CE H bk A B/\B.Ok ms/\Few B/\B.j<=B.ents.length/\B.Pairs B.j 0 /\
 ∀ (B':Bk) (H':Hp),Keep (fpB bk A) H H'->BookAt CB CE H' bk A B'->B'.Ok ms->B'.n=B.n->Grow B.pages B'.pages->Few B'->B'.j=B'.ents.length->B'.Pairs B'.j 0->Q .non H'
theorem ent_at {B:Bk} {i:Nat} {e:Ent} (h:B.ents[i]?=some e):atI (B.ents.map fun e=>V.ref e.ad) (i:Int)=some (.ref e.ad):=zAs (by rw[List.getElem?_map,h];rfl)
theorem ok_Book_fill (T:Tx K mg):FnOk P w K mg base CX0 6 T.f_Book_fill T.d_Book_fill ["self"] (sp_fill T.c_Book T.c_Entry):=by
 refine T.F_Book_fill.ok sc_Book_fill (fun vs H Q E h=>?_) (fun cdv A outer s H vs Q E hr h=>?_)
 ·obtain ⟨bk,A,B,ms,rfl,_⟩:=h
  rfl
 obtain ⟨bk,A',B,ms,rfl,hB,hO,hF,hj,hP,q⟩:=h
 refine ⟨_,(zA3 (ps_while PassesOwn.never (zAe op_lt (zAd rfl T.cl_Book T.n_Book_joined_so_far (pv 0) rfl) (zAn (zBq (K:=K) rfl) (by rfl) T.z_len bt_len (zA0 (zAd rfl T.cl_Book T.n_Book_entries (pv 0) rfl) zA1)) (zAi _)) (zA5 (zAp (i:=1) sc_Book_fill.nd rfl (Or.inl rfl) (pe_ix (zCl (K:=K) rfl) (zAd rfl T.cl_Book T.n_Book_entries (pv 0) rfl) (zAd rfl T.cl_Book T.n_Book_joined_so_far (pv 0) rfl) (fun _ _=>rfl)))
   (zA5 (ps_for PassesOwn.never rfl (pi_range1 (by rfl) T.z_range (zA0 (pe_op op_add (zAd rfl T.cl_Book T.n_Book_joined_so_far (pv 0) rfl) zA9) zA1)) (zBo (i:=2) sc_Book_fill.nd rfl (Or.inl rfl)) (zA5 (zAp (i:=3) sc_Book_fill.nd rfl (Or.inl rfl) (pe_ix (zCl (K:=K) rfl) (zAd rfl T.cl_Book T.n_Book_entries (pv 0) rfl) (pv 2) (fun _ _=>rfl)))
   (zA5 (ps_if (zAe op_le (zAd rfl T.cl_Entry T.n_Entry_seat (pv 3) rfl) (zAd rfl T.cl_Entry T.n_Entry_seat (pv 1) rfl) (zAi _)) (zA3 (zAb (zAh (ns:=zAq) rfl (pv 0) T.cl_Book T.mt_Book_join_entries (by decide +kernel) (ok_Book_join_entries T) (hr.mono (by decide)) T.b_Book_join_entries pass0 (zA0 (pv 3) (zA0 (pv 1) zA1))))) zAz)
   (zA3 (ps_if (zAe op_le (zAd rfl T.cl_Entry T.n_Entry_seat (pv 1) rfl) (zAd rfl T.cl_Entry T.n_Entry_seat (pv 3) rfl) (zAi _)) (zA3 (zAb (zAh (ns:=zAq) rfl (pv 0) T.cl_Book T.mt_Book_join_entries (by decide +kernel) (ok_Book_join_entries T) (hr.mono (by decide)) T.b_Book_join_entries pass0 (zA0 (pv 1) (zA0 (pv 3) zA1))))) zAz)))))
   (zA3 (zC8 rfl T.cl_Book T.n_Book_joined_so_far (pv 0) (pe_op op_add (zAd rfl T.cl_Book T.n_Book_joined_so_far (pv 0) rfl) zA9) rfl)))))),?_⟩
 walk_at "rd"
 refine wloop (fun m σ H3=>∃ (v1 v2 v3:Option V) (Bi:Bk),m=121-Bi.j/\SEq σ [some (.ref bk),v1,v2,v3]/\Keep (fpB bk A') H H3/\BookAt T.c_Book T.c_Entry H3 bk A' Bi/\Bi.Ok ms/\Bi.n=B.n/\Grow B.pages Bi.pages/\Few Bi/\Bi.j<=Bi.ents.length/\Bi.Pairs Bi.j 0) (121-B.j)
  ⟨none,none,none,B,rfl,⟨rfl⟩,Keep.of (Same.refl H),hB,hO,rfl,Grow.refl _,hF,hj,hP⟩ ?_
 rintro m σ H3 ⟨v1,v2,v3,Bi,rfl,⟨rfl⟩,k3,hB3,hO3,hn3,hg3,hF3,hj3,hP3⟩
 obtain ⟨dx,hob⟩:=hB3.ob
 walk_at "rd"
 refine ⟨dx,_,_,hob,zBl,?_⟩
 refine ⟨dx,_,_,hob,zCx,?_⟩
 walk_at "rd"
 refine ⟨_,.inl (SqL.of hB3.en),?_⟩
 walk_at "rd"
 rw[List.length_map]
 have hfew:=hO3.few
 by_cases hlt:Bi.j < Bi.ents.length
 ·rw[if_pos (by omega)]
  refine ⟨fun σ' H'=>∃ (v1 v2 v3:Option V) (B2:Bk),B2.j=Bi.j+1/\SEq σ' [some (.ref bk),v1,v2,v3]/\Keep (fpB bk A') H H'/\BookAt T.c_Book T.c_Entry H' bk A' B2/\B2.Ok ms/\B2.n=B.n/\Grow B.pages B2.pages/\Few B2/\B2.j<=B2.ents.length/\B2.Pairs B2.j 0,?_,?_⟩
  ·rintro σ' H' ⟨a1,a2,a3,B2,ej,h1,h2,h3,h4,h5,h6,h7,h8,h9⟩
   exact ⟨121-B2.j,by omega,a1,a2,a3,B2,rfl,h1,h2,h3,h4,h5,h6,h7,h8,h9⟩
  have hlate:Bi.ents[Bi.j]?=some Bi.ents[Bi.j]:=List.getElem?_eq_getElem hlt
  generalize Bi.ents[Bi.j]=late at hlate
  refine ⟨dx,_,_,hob,zCx,?_⟩
  refine ⟨dx,_,_,hob,zBl,?_⟩
  walk_at "rd"
  refine ⟨_,_,SqL.of hB3.en,ent_at hlate,?_⟩
  walk_at "rd"
  refine ⟨dx,_,_,hob,zBl,?_⟩
  walk_at "rd"
  refine ⟨by omega,by omega,?_⟩
  have eR:((Bi.j:Int)+1).toNat=Bi.j+1:=by omega
  rw[eR]
  refine loop_range (fun i σ H4=>∃ (v2 v3:Option V) (B2:Bk),SEq σ [some (.ref bk),some (.ref late.ad),v2,v3]/\Keep (fpB bk A') H H4/\BookAt T.c_Book T.c_Entry H4 bk A' B2/\B2.Ok ms/\Bi.More B2/\Few B2/\B2.Pairs Bi.j i) ⟨v2,v3,Bi,⟨rfl⟩,k3,hB3,hO3,Bk.More.refl _,hF3,hP3⟩ ?_ ?_
  ·rintro i σ H4 hi ⟨w2,w3,B2,⟨rfl⟩,k4,hB4,hO4,hm4,hF4,hP4⟩
   obtain ⟨more,em⟩:=hm4.ents
   have hl2:B2.ents.length=Bi.ents.length+more.length:=by rw[em,List.length_append]
   have hlate2:B2.ents[Bi.j]?=some late:=by rw[em];exact get_app hlate
   have hi2:i < B2.ents.length:=by omega
   have hearly:B2.ents[i]?=some B2.ents[i]:=List.getElem?_eq_getElem hi2
   generalize B2.ents[i]=early at hearly
   obtain ⟨dx4,hob4⟩:=hB4.ob
   have me:=List.mem_of_getElem? hearly
   have ml:=List.mem_of_getElem? hlate2
   obtain ⟨dy,ta,ba,e1,e2,e3⟩:=hB4.ee early me
   obtain ⟨dz,tc,bc,f1,f2,f3⟩:=hB4.ee late ml
   walk_at "rd"
   have e0:(0:Int)+(i:Int)=(i:Int):=by omega
   rw[e0]
   refine ⟨dx4,_,_,hob4,zCx,?_⟩
   walk_at "rd"
   refine ⟨_,_,SqL.of hB4.en,ent_at hearly,?_⟩
   walk_at "rd"
   refine ⟨dy,_,_,e1,zCe,?_⟩
   refine ⟨dz,_,_,f1,zCe,?_⟩
   walk_at "rd"
   have last:∀ (B3:Bk) (H5:Hp),Keep (fpB bk A') H H5->BookAt T.c_Book T.c_Entry H5 bk A' B3->B3.Ok ms->B2.More B3->Few B3->(early.seat<=late.seat->In B3.n B3.rows (Mth.join early.t late.t))->(late.seat<=early.seat->In B3.n B3.rows (Mth.join late.t early.t)) ->
     ∃ (v2 v3:Option V) (B4:Bk),SEq [some (.ref bk),some (.ref late.ad),some (.int (i:Int)),some (.ref early.ad)] [some (.ref bk),some (.ref late.ad),v2,v3]/\Keep (fpB bk A') H H5/\BookAt T.c_Book T.c_Entry H5 bk A' B4/\B4.Ok ms/\Bi.More B4/\Few B4/\B4.Pairs Bi.j (i+1):=by
    intro B3 H5 k5 hB5 hO5 hm5 hF5 hi1 hi2
    refine ⟨_,_,B3,⟨rfl⟩,k5,hB5,hO5,hm4.trans hm5,hF5,?_⟩
    have old:=hm5.pairs (j:=Bi.j) (i:=i) (.inl (by omega)) (by omega) hP4
    obtain ⟨more5,em5⟩:=hm5.ents
    intro a b e f hab ha hb hs
    have ei:B3.ents[i]?=some early:=by rw[em5];exact get_app hearly
    have ej:B3.ents[Bi.j]?=some late:=by rw[em5];exact get_app hlate2
    rcases hab with h | ⟨h1,h2⟩ | ⟨h1,h2⟩
    ·exact old a b e f (.inl h) ha hb hs
    ·by_cases hb':b < i
     ·exact old a b e f (.inr (.inl ⟨h1,hb'⟩)) ha hb hs
     ·have eb:b=i:=by omega
      rw[h1,ej]at ha
      rw[eb,ei]at hb
      cases ha
      cases hb
      exact hi2 hs
    ·by_cases ha':a < i
     ·exact old a b e f (.inr (.inr ⟨ha',h2⟩)) ha hb hs
     ·have ea:a=i:=by omega
      rw[ea,ei]at ha
      rw[h2,ej]at hb
      cases ha
      cases hb
      exact hi1 hs
   have third:∀ (B3:Bk) (H5:Hp),Keep (fpB bk A') H H5->BookAt T.c_Book T.c_Entry H5 bk A' B3->B3.Ok ms->B2.More B3->Few B3->(early.seat<=late.seat->In B3.n B3.rows (Mth.join early.t late.t))->late.seat<=early.seat->∀ R:VK,
     (∀ H',(∃ (v2 v3:Option V) (B4:Bk),SEq [some (.ref bk),some (.ref late.ad),some (.int (i:Int)),some (.ref early.ad)] [some (.ref bk),some (.ref late.ad),v2,v3]/\Keep (fpB bk A') H H'/\BookAt T.c_Book T.c_Entry H' bk A' B4/\B4.Ok ms/\Bi.More B4/\Few B4/\B4.Pairs Bi.j (i+1))->R .non H') ->
     (∃ dx fs,H5 bk=some (.ins T.c_Book dx fs)/\fs.map (·.1)=zAq)/\sp_join_entries T.c_Book T.c_Entry [.ref bk,.ref late.ad,.ref early.ad] H5 R E0:=by
    intro B3 H5 k5 hB5 hO5 hm5 hF5 hi1 hs R hR
    obtain ⟨dx5,hob5⟩:=hB5.ob
    obtain ⟨more5,em5⟩:=hm5.ents
    refine ⟨⟨dx5,_,hob5,rfl⟩,bk,A',B3,ms,late,early,rfl,hB5,hO5,hF5,by rw[em5];exact List.mem_append_left _ ml,by rw[em5];exact List.mem_append_left _ me,fun B' H' k' hB' hO' hm' hF' hin=>?_⟩
    exact hR H' (last B' H' (k5.trans k') hB' hO' (hm5.trans hm') hF' (fun z=>hm'.in_ (hi1 z)) fun _=>hin)
   split
   ·rename_i hle
    refine ⟨⟨dx4,_,hob4,rfl⟩,bk,A',B2,ms,early,late,rfl,hB4,hO4,hF4,me,ml,fun B' H' k' hB' hO' hm' hF' hin=>?_⟩
    obtain ⟨more5,em5⟩:=hm'.ents
    obtain ⟨dy',_,_,e1',_,_⟩:=hB'.ee early (by rw[em5];exact List.mem_append_left _ me)
    obtain ⟨dz',_,_,f1',_,_⟩:=hB'.ee late (by rw[em5];exact List.mem_append_left _ ml)
    walk_at "rd"
    refine ⟨dz',_,_,f1',zCe,dy',_,_,e1',zCe,?_⟩
    walk_at "rd"
    split
    ·rename_i hle2
     exact third B' H' (k4.trans k') hB' hO' hm' hF' (fun _=>hin) (by omega) _ fun H' h=>h
    ·rename_i hle2
     exact last B' H' (k4.trans k') hB' hO' hm' hF' (fun _=>hin) fun z=>absurd z (by omega)
   ·rename_i hle
    refine ⟨dz,_,_,f1,zCe,dy,_,_,e1,zCe,?_⟩
    walk_at "rd"
    split
    ·rename_i hle2
     exact third B2 H4 k4 hB4 hO4 (Bk.More.refl _) hF4 (fun z=>absurd z (by omega)) (by omega) _ fun H' h=>h
    ·rename_i hle2
     exact last B2 H4 k4 hB4 hO4 (Bk.More.refl _) hF4 (fun z=>absurd z (by omega)) fun z=>absurd z (by omega)
  ·rintro σ H4 ⟨w2,w3,B2,⟨rfl⟩,k4,hB4,hO4,hm4,hF4,hP4⟩
   obtain ⟨dx4,hob4⟩:=hB4.ob
   obtain ⟨more,em⟩:=hm4.ents
   have hl2:B2.ents.length=Bi.ents.length+more.length:=by rw[em,List.length_append]
   walk_at "rd"
   refine ⟨dx4,_,_,hob4,zBl,?_⟩
   walk_at "rd"
   refine ⟨dx4,_,hob4,fl_Book_few,?_⟩
   rw[pf_Book_joined_so_far,hm4.j,show (Bi.j:Int)+1=((Bi.j+1:Nat):Int) by omega]
   have hB5:=hB4.putJ (dx:=dx4) (Bi.j+1) ⟨_,hob4⟩
   refine ⟨_,_,_,{ B2 with j:=Bi.j+1 },rfl,⟨rfl⟩,Keep.upd k4 (by simp [fpB]) _,hB5,⟨hO4.n1,hO4.n2,hO4.pgs,hO4.reach,hO4.ein,hO4.all,hO4.cnt,hO4.mvs,hO4.stp,hO4.sn,hO4.z0⟩,hm4.n.trans hn3,hg3.trans hm4.pages,hF4,by show Bi.j+1<=B2.ents.length;omega,?_⟩
   intro a b e f hab ha hb hs
   refine hP4 a b e f ?_ ha hb hs
   have hab':(a < Bi.j+1/\b < Bi.j+1)\/(a=Bi.j+1/\b < 0)\/(a < 0/\b=Bi.j+1):=hab
   omega
 ·rw[if_neg (by omega)]
  exact q Bi H3 k3 hB3 hO3 hn3 hg3 hF3 (by omega) hP3
def sp_bk_put (CB CE:Addr):Sp:=fun vs H Q _=>∃ (bk ta:Addr) (A:BkA) (B:Bk) (ms:List (List Int)) (m:List Int),vs=[.ref bk,.ref ta,.int (ms.length:Int)]/\BookAt CB CE H bk A B/\B.Full ms/\H ta=some (.tup (m.map V.int))/\Seat B.n m /\
 ∀ (b:Bool) (B':Bk) (H':Hp),Keep (fpB bk A) H H'->BookAt CB CE H' bk A B'->B'.Full (ms++[m])->B'.n=B.n->(b=true↔¬ Reach B.n ms m)->Q (.bl b) H'
theorem ok_Book_put_move (T:Tx K mg):FnOk P w K mg base CX0 7 T.f_Book_put_move T.d_Book_put_move ["self","move","number"] (sp_bk_put T.c_Book T.c_Entry):=by
 refine T.F_Book_put_move.ok sc_Book_put_move (fun vs H Q E h=>?_) (fun cdv A outer s H vs Q E hr h=>?_)
 ·obtain ⟨bk,ta,A,B,ms,m,rfl,_⟩:=h
  rfl
 obtain ⟨bk,ta,A',B,ms,m,rfl,hB,hFu,hta,pm,q⟩:=h
 have hu0:=hu0_of hr
 obtain ⟨dx,hob⟩:=hB.ob
 have hO:=hFu.ok.moves pm
 have hfew:=hO.few
 have hfw:=hFu.few
 refine ⟨_,(zA5 (zAp (i:=3) sc_Book_put_move.nd rfl (Or.inl rfl) (zAh (ns:=zAq) rfl (pv 0) T.cl_Book T.mt_Book_sift (by decide +kernel) (ok_Book_sift T) (hr.mono (by decide)) T.b_Book_sift pass0 (zA0 (pv 1) zA1)))
   (zA5 (ps_if (zAe (op_eq_seqK (K:=K) rfl hu0) (zAd rfl T.cl_Sifting T.n_Sifting_left (pv 3) rfl) (zAd rfl T.cl_Book T.n_Book_resting (pv 0) rfl) (zAi _)) (zA3 (zB6 pe_bl)) zAz)
   (zA5 (zAb (zAh (ns:=zAq) rfl (pv 0) T.cl_Book T.mt_Book_put_entry (by decide +kernel) (ok_Book_put_entry T) (hr.mono (by decide)) T.b_Book_put_entry pass0 (zA0 (pv 3) (zA0 (pe_tup (zA0 zB9 (zA0 (pv 2) zA1))) zA1))))
   (zA5 (zAb (pe_methC0 (ns:=zAq) rfl (pv 0) T.cl_Book T.mt_Book_fill (by decide +kernel) (ok_Book_fill T) (hr.mono (by decide)) T.b_Book_fill pass0))
   (zA3 (zB6 pe_bl)))))),?_⟩
 walk_at "rd"
 refine ⟨⟨dx,_,hob,rfl⟩,bk,ta,A',B,ms++[m],m,rfl,hB,hO,hta,pm,fun r u H1 hr0 hu1 nru s1 S1=>?_⟩
 have hB1:=hB.same s1
 obtain ⟨ds,tl,g1,g2,g3⟩:=id S1
 walk_at "rd"
 refine ⟨ds,_,_,g1,zB0,?_⟩
 refine ⟨dx,_,_,s1.at hob,zCw,?_⟩
 walk_at "rd"
 refine ⟨_,_,.inr ⟨SqT.of g2,SqT.of (s1.at hB.r0)⟩,by simp [flatV],by simp [flatV],?_⟩
 rw[eqVs_ints]
 by_cases hrest:(B.sift m).1=zA6 B.n
 ·rw[decide_eq_true hrest,if_pos rfl]
  have hin:=(hO.sift pm).mp hrest
  refine q false B H1 (Keep.of s1) hB1 ⟨hO,hFu.all,hFu.prs,fun z hz=>?_,hFu.few⟩ rfl ⟨fun z=>(by cases z),fun z=>absurd ((hFu.iff m).mp hin) z⟩
  rcases List.mem_append.mp hz with a | a
  ·exact hFu.mv z a
  ·rw[List.mem_singleton.mp a];exact hin
 ·rw[decide_eq_false hrest,if_neg (by decide)]
  walk_at "rd"
  refine ⟨⟨dx,_,s1.at hob,rfl⟩,by show 2<=sizeLine;decide,fun t2 ht2=>?_⟩
  have s3:=zA7 ht2 (.tup [.str "move",.int (ms.length:Int)])
  have hB3:=hB1.same s3
  have hre:Reach B.n (ms++[m]) m:=Reach.move hO.mvs (List.mem_append_right _ (List.mem_singleton.mpr rfl))
  refine ⟨bk,r,u,t2,A',B,ms++[m],m,.move ms.length,rfl,hB3,hO,hre,S1.same s3,hB.out hr0,hB.out hu1,hrest,zA2,by show (ms++[m])[ms.length]?=some m;rw[List.getElem?_append_right (Nat.le_refl _),Nat.sub_self];rfl,by omega,fun B' H' k' hB' hO' hm hin hle hls=>?_⟩
  walk_at "rd"
  obtain ⟨dx',hob'⟩:=hB'.ob
  have hP':B'.Pairs B'.j 0:=by
   rw[hm.j]
   exact hm.pairs (.inr ⟨rfl,by rw[hFu.all];exact Nat.le_refl _⟩) (by omega) hFu.prs
  refine ⟨⟨dx',_,hob',rfl⟩,bk,A',B',ms++[m],rfl,hB',hO',by unfold Few;omega,by rw[hm.j,hFu.all];omega,hP',fun B2 H2 k2 hB2 hO2 hn2 hg2 hF2 hj2 hP2=>?_⟩
  walk_at "rd"
  refine q true B2 H2 ((Keep.of s1).trans ((Keep.of s3).trans (k'.trans k2))) hB2 ⟨hO2,hj2,hP2,fun z hz=>?_,hF2⟩ (hn2.trans hm.n) ⟨fun _ z=>hrest ((hO.sift pm).mpr ((hFu.iff m).mpr z)),fun _=>rfl⟩
  rw[hn2]
  refine hg2.in_ ?_
  rcases List.mem_append.mp hz with a | a
  ·exact hm.in_ (hFu.mv z a)
  ·rw[List.mem_singleton.mp a];exact hin
def sp_bk_many (CB CE:Addr):Sp:=fun vs H Q _=>∃ (bk:Addr) (A:BkA) (B:Bk) (ms:List (List Int)),vs=[.ref bk]/\BookAt CB CE H bk A B/\B.Ok ms/\Q (.int (sizes B.rows:Int)) H
theorem sizes_take {ps:List Page} {i:Nat} {p:Page} (h:ps[i]?=some p):((ps.take (i+1)).map fun p=>p.length).foldr (·*·) 1=((ps.take i).map fun p=>p.length).foldr (·*·) 1*p.length:=by
 rw[List.take_add_one,h,List.map_append]
 simp only[Option.toList_some,List.map_cons,List.map_nil]
 generalize (ps.take i).map (fun p=>p.length)=L
 induction L with
 | nil=>simp
 | cons a L ih=>simp only[List.cons_append,List.foldr_cons,ih,Nat.mul_assoc]
theorem ok_Book_how_many (T:Tx K mg):FnOk P w K mg base CX0 1 T.f_Book_how_many T.d_Book_how_many ["self"] (sp_bk_many T.c_Book T.c_Entry):=by
 refine T.F_Book_how_many.ok sc_Book_how_many (fun vs H Q E h=>?_) (fun cdv A outer s H vs Q E hr h=>?_)
 ·obtain ⟨bk,A,B,ms,rfl,_⟩:=h
  rfl
 obtain ⟨bk,A',B,ms,rfl,hB,hO,q⟩:=h
 obtain ⟨dx,hob⟩:=hB.ob
 refine ⟨_,(zA5 (zAp (i:=1) sc_Book_how_many.nd rfl (Or.inl rfl) zA9)
   (zA5 (ps_for PassesOwn.never rfl (pi_listK (K:=K) rfl (zAd rfl T.cl_Book T.n_Book_pages (pv 0) rfl)) (zBo (i:=2) sc_Book_how_many.nd rfl (Or.inl rfl)) (zA3 (zAp (i:=1) sc_Book_how_many.nd rfl (Or.inl rfl) (pe_op op_mul (pv 1) (zAn call_lenDK (by rfl) T.z_len bt_len (zA0 (pv 2) zA1))))))
   (zA3 (zB6 (pv 1))))),?_⟩
 walk_at "rd"
 refine ⟨dx,_,_,hob,lk_Book_pages,?_⟩
 walk_at "rd"
 refine ⟨⟨_,SqL.of hB.pg⟩,?_⟩
 refine loop_list (xs:=A'.ds.map V.ref) (fun i σ H3=>∃ v2:Option V,H3=H/\SEq σ [some (.ref bk),some (.int ((((B.pages.take i).map fun p=>p.length).foldr (·*·) 1:Nat):Int)),v2]) ⟨none,rfl,⟨rfl⟩⟩ (fun i σ H3 _ ⟨_,e,_⟩=>by rw[e];exact SqL.of hB.pg) ?_ ?_
 ·rintro i y σ H3 hy ⟨v2,rfl,⟨rfl⟩⟩
  obtain ⟨d,rfl,hd⟩:∃ d:Addr,y=.ref d/\A'.ds[i]?=some d:=by
   rw[List.getElem?_map]at hy
   cases e:A'.ds[i]? with
   | none=>rw[e]at hy;cases hy
   | some z=>rw[e]at hy;exact ⟨z,(Option.some.inj hy).symm,rfl⟩
  obtain ⟨p,hp,hdk⟩:=paired_get' hB.dd hd
  have hlen:=((pgs_at hO.pgs hp).1.len (pgs_at hO.pgs hp).2).2
  have hn:=hO.n2
  have ekl:(kvsOf p).length=p.length:=by unfold kvsOf;rw[List.length_map]
  walk_at "rd"
  refine ⟨_,hdk,?_⟩
  walk_at "rd"
  rw[ekl]
  refine ⟨.inr ⟨by omega,by omega⟩,some (.ref d),trivial,⟨?_⟩⟩
  rw[sizes_take hp,Int.natCast_mul]
 ·rintro σ H3 ⟨v2,rfl,⟨rfl⟩⟩
  walk_at "rd"
  have hl:(A'.ds.map V.ref).length=B.pages.length:=by rw[List.length_map];exact PySem.Paired.length hB.dd
  rw[hl,List.take_length,<- sizes_rows]
  exact q
def sp_Book (CB CE:Addr):Sp:=fun vs H Q _=>∃ (x dx:Addr) (n:Nat),vs=[.ref x,.int (n:Int)]/\H x=some (.ins CB dx [])/\1<=n/\n<=16 /\
 ∀ (A:BkA) (B:Bk) (H':Hp),Keep [x] H H'->BookAt CB CE H' x A B->B.Full []->B.n=n->(∀ b∈A.st::A.en::A.pg::A.ds,H b=none)->Q .non H'
theorem r_disp1 {tk tv:TE} {σ:St} {H:Hp} {Q:VK}:tDisp [(tk,tv)] σ H Q=∀ p,H p=none->tk σ (upd H p (.dK [])) (fun x H1=>tv σ H1 fun y H2=>H2 p=some (.dK [])/\∃ kvs:List (Key × V),[(x,y)]=kvs.map (fun kv=>(kV kv.1,kv.2))/\kvs.length<=15/\Q (.ref p) (upd H2 p (.dK (mergeK [] kvs)))):=rfl
theorem ok_Book___init__ (T:Tx K mg):FnOk P w K mg base CX0 4 T.f_Book___init__ T.d_Book___init__ ["self","size"] (sp_Book T.c_Book T.c_Entry):=by
 refine T.F_Book___init__.ok sc_Book___init__ (fun vs H Q E h=>?_) (fun cdv A outer s H vs Q E hr h=>?_)
 ·obtain ⟨x,dx,n,rfl,_⟩:=h
  rfl
 obtain ⟨x,dx,n,rfl,hx,n1,n2,q⟩:=h
 refine ⟨_,(zA5 (zC8 rfl T.cl_Book T.n_Book_resting (pv 0) (zAc (ok_rest T) (hr.mono (by decide)) rfl T.m_rest T.F_rest.kp T.b_rest .nil passX0 (zA0 (pv 1) zA1)) rfl)
   (zA5 (zC8 rfl T.cl_Book T.n_Book_steps (pv 0) (zCu (zA0 (pe_tup (zA0 zB9 zA1)) zA1)) rfl)
   (zA5 (zC8 rfl T.cl_Book T.n_Book_pages (pv 0) (pe_comp (M:=["seat"]) rfl (zC7 (sc:=defScope zB7) (N:=["self","size"]) rfl rfl rfl (by decide +kernel) (by decide +kernel)) (pi_range1 (by rfl) T.z_range (zA0 (pv 1) zA1)) (fun _ _ _ _ _=>(zBo (i:=0) (by show (["seat","self","size"]:List Str).Nodup;decide +kernel) rfl (Or.inl rfl))) (fun _ _ _ _ _=>pts_nil) (fun _ _ _ _ _=>(pe_disp (pps_cons (pv 0) (pe_makeC rfl T.mk_Entry (ok_Entry___init__ T) (hr.mono (by decide)) rfl T.k_Entry T.b_Entry___init__ pass0 (zA0 (pv 0) (zA0 (zAd rfl T.cl_Book T.n_Book_resting (pv 1) rfl) (zA0 zA9 (zA0 zA9 zA1))))) pps_nil) rfl rfl (by simp) (by decide)))) rfl)
   (zA5 (zC8 rfl T.cl_Book T.n_Book_entries (pv 0) (zCu zA1) rfl)
   (zA3 (zC8 rfl T.cl_Book T.n_Book_joined_so_far (pv 0) zA9 rfl)))))),?_⟩
 walk_at "rd"
 refine ⟨(n:Int),rfl,fun m em m1 m2 r0 H1 s1 e1=>?_,fun hz=>absurd ⟨by omega,by omega⟩ hz⟩
 have em':n=m:=by omega
 subst em'
 have hx1:=s1.at hx
 have nr0:r0≠x:=ne_of e1 hx1 (by intro z;cases z)
 refine ⟨dx,[],hx1,by simp,?_⟩
 rw[pn_Book_resting]
 have k2:Keep [x] H (upd H1 x (.ins T.c_Book dx [("resting",.ref r0)])):=Keep.upd (Keep.of s1) (List.mem_singleton.mpr rfl) _
 have hx2:(upd H1 x (.ins T.c_Book dx [("resting",.ref r0)])) x=some (.ins T.c_Book dx [("resting",.ref r0)]):=zA2
 have e2:(upd H1 x (.ins T.c_Book dx [("resting",.ref r0)])) r0=some (.tup ((zA6 n).map V.int)):=by rw[zA8 nr0];exact e1
 generalize upd H1 x (.ins T.c_Book dx [("resting",.ref r0)])=H2 at k2 hx2 e2
 walk_at "rd"
 refine ⟨by show 1<=sizeLine;decide,fun t0 ht0=>?_⟩
 walk_at "rd"
 refine ⟨by show 1<=sizeLine;decide,fun st hst=>?_⟩
 have s3:=zA7 ht0 (.tup [.str "rest"])
 have s4:=s3.trans (zA7 hst (.lst [.ref t0]))
 have nst:x≠st:=zA4 (s3.at hx2) hst
 have nt0:x≠t0:=zA4 hx2 ht0
 have nts:t0≠st:=zA4 zA2 hst
 refine ⟨dx,_,s4.at hx2,by simp,?_⟩
 rw[pn_Book_steps]
 have frO:∀ {b:Addr},H2 b=none->b≠x->H b=none:=fun {b} hb nb=>by
  cases e:H b with
  | none=>rfl
  | some o=>have:=k2 b o e (by simpa using nb);rw[hb]at this;cases this
 have hst2:H2 st=none:=s3.free hst
 have hst0:H st=none:=frO hst2 nst.symm
 have k5:Keep [x] H (upd (upd (upd H2 t0 (.tup [.str "rest"])) st (.lst [.ref t0])) x (.ins T.c_Book dx [("resting",.ref r0),("steps",.ref st)])):=Keep.upd (k2.trans (Keep.of s4)) (List.mem_singleton.mpr rfl) _
 have hx5:(upd (upd (upd H2 t0 (.tup [.str "rest"])) st (.lst [.ref t0])) x (.ins T.c_Book dx [("resting",.ref r0),("steps",.ref st)])) x=some (.ins T.c_Book dx [("resting",.ref r0),("steps",.ref st)]):=zA2
 have e5:(upd (upd (upd H2 t0 (.tup [.str "rest"])) st (.lst [.ref t0])) x (.ins T.c_Book dx [("resting",.ref r0),("steps",.ref st)])) r0=some (.tup ((zA6 n).map V.int)):=by rw[zA8 nr0];exact s4.at e2
 have f5:(upd (upd (upd H2 t0 (.tup [.str "rest"])) st (.lst [.ref t0])) x (.ins T.c_Book dx [("resting",.ref r0),("steps",.ref st)])) st=some (.lst [.ref t0]):=by rw[zA8 nst.symm];exact zA2
 have g5:(upd (upd (upd H2 t0 (.tup [.str "rest"])) st (.lst [.ref t0])) x (.ins T.c_Book dx [("resting",.ref r0),("steps",.ref st)])) t0=some (.tup [.str "rest"]):=by rw[zA8 nt0.symm,zA8 nts];exact zA2
 generalize upd (upd (upd H2 t0 (.tup [.str "rest"])) st (.lst [.ref t0])) x (.ins T.c_Book dx [("resting",.ref r0),("steps",.ref st)])=H5 at k5 hx5 e5 f5 g5
 have frN:∀ {b:Addr},H5 b=none->H b=none:=fun {b} hb=>by
  cases e:H b with
  | none=>rfl
  | some o =>
   by_cases nb:b=x
   ·rw[nb,hx5]at hb;cases hb
   ·have:=k5 b o e (by simpa using nb);rw[hb]at this;cases this
 walk_at "rd"
 refine ⟨by omega,by omega,?_⟩
 rw[Int.toNat_natCast]
 refine comp_range (fun i ys H6=>∃ (ds:List Addr) (ps:List Page),ys=ds.map V.ref/\ds.length=i/\Same H5 H6/\PySem.Paired (fun d p=>H6 d=some (.dK (kvsOf p))) ds ps/\ds.Nodup/\(∀ d∈ds,H5 d=none)/\(∀ k p,ps[k]?=some p->Page0 n k p)/\∀ p∈ps,∀ q∈p,EntAt T.c_Entry H6 q.2)
  ⟨[],[],rfl,rfl,Same.refl _,.nil,List.nodup_nil,fun d hd=>(by cases hd),fun k p hp=>(by simp at hp),fun p hp=>(by cases hp)⟩ (zCk (by omega)) (fun i ys H6 ⟨ds,_,e,hl,_⟩=>by rw[e,List.length_map,hl];exact Nat.le_refl _) ?_ ?_
 ·rintro i ys H6 hi ⟨ds,ps,rfl,hdl,s6,hpd,hnd,hfr,hp0,hen⟩
  walk_at "rd"
  rw[r_disp1]
  refine ⟨trivial,fun d hd=>?_⟩
  have e0:(0:Int)+(i:Int)=(i:Int):=by omega
  rw[e0]
  have s7:=s6.trans (zA7 hd (.dK []))
  walk_at "rd"
  refine ⟨dx,_,_,s7.at hx5,lk_hit,?_⟩
  walk_at "rd"
  intro ad da had hda nad
  have s8:Same (upd H6 d (.dK [])) (upd (upd (upd H6 d (.dK [])) da (.own ad)) ad (.ins T.c_Entry da [])):=fun b o e=>by rw[zA8 (zA4 e had),zA8 (zA4 e hda)];exact e
  refine ⟨ad,da,r0,i,0,0,n,zA6 n,rfl,zA2,s8.at (s7.at e5),n1,n2,zAl n,fun b H9 iv k9 he9=>⟨rfl,?_⟩⟩
  have s9:Same (upd H6 d (.dK [])) H9:=fun b o e=>k9 b o (s8 b o e) (by simpa using zA4 e had)
  have hd9:H9 d=some (.dK []):=s9.at zA2
  generalize hee:(⟨ad,i,zA6 n,b,0,0⟩:Ent)=ee at he9
  have ea:ee.ad=ad:=by rw[<- hee]
  refine ⟨hd9,[(Sum.inl (i:Int),V.ref ad)],rfl,by simp,ds++[d],ps++[[((i:Int),ee)]],by rw[List.map_append];rfl,by rw[List.length_append,hdl];rfl,?_,?_,?_,?_,?_,?_⟩
  ·intro b o e
   rw[zA8 (zA4 (s6.at e) hd)]
   exact s9.at ((zA7 hd _).at (s6.at e))
  ·refine PySem.Paired.snoc (L2.Paired.mapP hpd fun d' p' e'=>?_) ?_
   ·rw[zA8 (zA4 e' hd)]
    exact s9.at ((zA7 hd _).at e')
   ·rw[zA2]
    show some (HO.dK [(Sum.inl (i:Int),V.ref ad)])=some (HO.dK [(Sum.inl (i:Int),V.ref ee.ad)])
    rw[ea]
  ·refine List.nodup_append.mpr ⟨hnd,by simp,fun a ha b' hb'=>?_⟩
   rw[List.mem_singleton.mp hb']
   obtain ⟨p',_,e'⟩:=paired_left hpd a ha
   exact zA4 e' hd
  ·intro d' hd'
   rcases List.mem_append.mp hd' with z | z
   ·exact hfr d' z
   ·rw[List.mem_singleton.mp z];exact s6.free hd
  ·intro k p hp
   rcases get_snoc hp with z | ⟨z1,z2⟩
   ·exact hp0 k p z
   ·have hpl:ps.length=i:=by rw[<- hdl];exact (PySem.Paired.length hpd).symm
    rw[z2,z1,hpl]
    exact ⟨ee,rfl,by rw[<- hee],by rw[<- hee],by rw[<- hee];exact iv,by rw[<- hee],by rw[<- hee]⟩
  ·have kE:∀ {e':Ent},EntAt T.c_Entry H9 e'->EntAt T.c_Entry (upd H9 d (.dK (mergeK [] [(Sum.inl (i:Int),V.ref ad)]))) e':=fun h=>h.but (fun b o q n=>by rw[zA8 n];exact q) (fun _ _ _ z=>by rw[hd9]at z;cases z) (fun _ z=>by rw[hd9]at z;cases z)
   intro p hp q' hq'
   rcases List.mem_append.mp hp with z | z
   ·exact kE (((hen p z q' hq').same (zA7 hd (.dK []))).same s9)
   ·rw[List.mem_singleton.mp z]at hq'
    rw[List.mem_singleton.mp hq']
    exact kE he9
 ·rintro ys H6 ⟨ds,ps,rfl,hdl,s6,hpd,hnd,hfr,hp0,hen⟩ pg hpg
  have hpl:ps.length=n:=by rw[<- hdl];exact (PySem.Paired.length hpd).symm
  have s7:=s6.trans (zA7 hpg (.lst (ds.map V.ref)))
  have hpd7:PySem.Paired (fun d p=>(upd H6 pg (.lst (ds.map V.ref))) d=some (.dK (kvsOf p))) ds ps:=L2.Paired.mapP hpd fun d' p' e'=>(zA7 hpg _).at e'
  have hen7:∀ p∈ps,∀ q∈p,EntAt T.c_Entry (upd H6 pg (.lst (ds.map V.ref))) q.2:=fun p hp q' hq'=>(hen p hp q' hq').same (zA7 hpg _)
  have hpg7:(upd H6 pg (.lst (ds.map V.ref))) pg=some (.lst (ds.map V.ref)):=zA2
  have hpg5:H5 pg=none:=s6.free hpg
  have npx:pg≠x:=(zA4 hx5 hpg5).symm
  have nps:st≠pg:=zA4 f5 hpg5
  generalize upd H6 pg (.lst (ds.map V.ref))=H7 at s7 hpd7 hen7 hpg7
  refine ⟨dx,_,s7.at hx5,by simp,?_⟩
  rw[pn_Book_pages]
  walk_at "rd"
  refine ⟨by decide,fun en hen'=>?_⟩
  have nen:en≠x:=fun z=>by rw[z,zA2]at hen';cases hen'
  have hen0:H7 en=none:=by rw[zA8 nen]at hen';exact hen'
  refine ⟨dx,_,by rw[zA8 nen.symm];exact zA2,by simp,?_⟩
  rw[pn_Book_entries]
  walk_at "rd"
  refine ⟨dx,_,zA2,by simp,?_⟩
  rw[pn_Book_joined_so_far,upd_upd]
  have hfull:=Bk.new (n:=n) (a:=t0) (ps:=ps) n1 n2 hpl hp0
  have kk:∀ b o,H7 b=some o->b≠x->(upd (upd (upd H7 x (.ins T.c_Book dx [("resting",.ref r0),("steps",.ref st),("pages",.ref pg)])) en (.lst [])) x (.ins T.c_Book dx [("resting",.ref r0),("steps",.ref st),("pages",.ref pg),("entries",.ref en),("joined_so_far",.int 0)])) b=some o:=fun b o e nb=>by
   rw[zA8 nb,zA8 (zA4 e hen0),zA8 nb];exact e
  have hx7:=s7.at hx5
  have nx:∀ b o,H7 b=some o->(∀ C d fs,o≠.ins C d fs)->b≠x:=fun b o e h=>ne_of e hx7 (h _ _ _)
  refine q ⟨r0,st,pg,en,ds⟩ ⟨n,[(t0,.rest)],[zA6 n],ps,[],0⟩ _ (fun b o e nb=>kk b o (s7.at (k5 b o e nb)) (by simpa using nb)) ⟨⟨dx,zA2⟩,kk _ _ (s7.at e5) nr0,kk _ _ (s7.at f5) nst.symm,fun p hp=>?_,kk _ _ hpg7 npx,L2.Paired.mapP hpd7 fun d' p' e'=>kk _ _ e' (nx _ _ e' (by intro _ _ _ z;cases z)),?_,fun p hp q' hq'=>?_,fun e he=>(by cases he),hnd,?_,nps,?_⟩ hfull rfl ?_
  ·rw[List.mem_singleton.mp hp]
   exact kk _ _ (s7.at g5) nt0.symm
  ·show upd _ x _ en=_
   rw[zA8 nen]
   exact zA2
  ·obtain ⟨dy,ta,ba,z1,z2,z3⟩:=hen7 p hp q' hq'
   refine ⟨dy,ta,ba,kk _ _ z1 (fun z=>?_),kk _ _ z2 (nx _ _ z2 (by intro _ _ _ z;cases z)),kk _ _ z3 (nx _ _ z3 (by intro _ _ _ z;cases z))⟩
   rw[z,hx7]at z1
   have:=Option.some.inj z1
   injection this with _ _ e
   have:=congrArg List.length e
   simp [zAy]at this
  ·exact zA4 (s7.at f5) hen0
  ·exact (zA4 hpg7 hen0).symm
  ·intro b hb
   rcases List.mem_cons.mp hb with z | hb
   ·rw[z];exact hst0
   rcases List.mem_cons.mp hb with z | hb
   ·rw[z];exact frN (s7.free hen0)
   rcases List.mem_cons.mp hb with z | hb
   ·rw[z];exact frN hpg5
   ·exact frN (hfr b hb)
structure RmA where
 put:Addr
 bk:Addr
 A:BkA
def fpR (R:RmA):List Addr:=R.put::fpB R.bk R.A
structure RoomAt (CR CB CE:Addr) (H:Hp) (rm:Addr) (R:RmA) (ms:List (List Int)) (ts:List Addr) (B:Bk):Prop where
 ob:∃ dx,H rm=some (.ins CR dx (zC0 (.int (B.n:Int)) (.ref R.put) (.ref R.bk)))
 pt:H R.put=some (.lst (ts.map V.ref))
 tups:Tups H ts ms
 bk:BookAt CB CE H R.bk R.A B
 full:B.Full ms
 out:¬ R.put∈fpB R.bk R.A
 npg:R.put≠R.A.pg
 le:ms.length<=200
theorem fn_rb:¬ zB4=zAq:=by decide +kernel
theorem RoomAt.same {CR CB CE:Addr} {H H':Hp} {rm:Addr} {R:RmA} {ms:List (List Int)} {ts:List Addr} {B:Bk} (s:Same H H') (h:RoomAt CR CB CE H rm R ms ts B):RoomAt CR CB CE H' rm R ms ts B :=
 ⟨let ⟨dx,e⟩:=h.ob;⟨dx,s _ _ e⟩,s _ _ h.pt,h.tups.same s,h.bk.same s,h.full,h.out,h.npg,h.le⟩
theorem RoomAt.seat {CR CB CE:Addr} {H:Hp} {rm:Addr} {R:RmA} {ms:List (List Int)} {ts:List Addr} {B:Bk} (h:RoomAt CR CB CE H rm R ms ts B):∀ m∈ms,Seat B.n m:=h.full.ok.mvs
theorem RoomAt.outF {CR CB CE:Addr} {H:Hp} {rm:Addr} {R:RmA} {ms:List (List Int)} {ts:List Addr} {B:Bk} (h:RoomAt CR CB CE H rm R ms ts B) {b:Addr} (hb:H b=none):¬ b∈fpR R:=fun z=>by
 rcases List.mem_cons.mp z with e | e
 ·rw[e,h.pt]at hb;cases hb
 ·exact h.bk.out hb e
theorem RoomAt.outT {CR CB CE:Addr} {H:Hp} {rm:Addr} {R:RmA} {ms:List (List Int)} {ts:List Addr} {B:Bk} (h:RoomAt CR CB CE H rm R ms ts B) {b:Addr} {xs:List V} (hb:H b=some (.tup xs)):¬ b∈fpR R:=fun z=>by
 rcases List.mem_cons.mp z with e | e
 ·rw[e,h.pt]at hb;cases hb
 ·exact h.bk.outT hb e
def sp_Room (CR CB CE CN:Addr):Sp:=fun vs H Q E=>∃ (x dx:Addr) (z:Int),vs=[.ref x,.int z]/\H x=some (.ins CR dx []) /\
 (∀ n:Nat,z=n->1<=n->n<=16->∀ (R:RmA) (B:Bk) (H':Hp),Keep [x] H H'->RoomAt CR CB CE H' x R [] [] B->B.n=n->(∀ b∈R.A.pg::fpR R,H b=none)->Q .non H')/\(¬ (1<=z/\z<=16)->E (.ref CN) none H)
theorem zBj (T:Tx K mg):FnOk P w K mg base (CXX P w) 6 T.f_Room___init__ T.d_Room___init__ ["self","size"] (sp_Room T.c_Room T.c_Book T.c_Entry T.c_NoSize):=by
 refine T.F_Room___init__.okX sc_Room___init__ (fun vs H Q E h=>?_) (fun cdv A outer s H vs Q E hr h=>?_)
 ·obtain ⟨x,dx,z,rfl,_⟩:=h
  rfl
 obtain ⟨x,dx,z,rfl,hx,q1,q2⟩:=h
 refine ⟨_,(zA5 (zAb (zAc (ok_need_size T) (hr.mono (by decide)) rfl T.m_need_size T.F_need_size.kp T.b_need_size .nil zAa (zA0 (pv 1) zA1)))
   (zA5 (zC8 rfl T.cl_Room T.n_Room_size (pv 0) (pv 1) rfl)
   (zA5 (zC8 rfl T.cl_Room T.n_Room_put_in (pv 0) (zCu zA1) rfl)
   (zA3 (zC8 rfl T.cl_Room T.n_Room_book (pv 0) (pe_makeC rfl T.mk_Book (ok_Book___init__ T) (hr.mono (by decide)) rfl T.k_Book T.b_Book___init__ pass0 (zA0 (pv 1) zA1)) rfl))))),?_⟩
 walk_at "rd"
 refine ⟨z,rfl,fun hz=>?_,q2⟩
 obtain ⟨n,rfl⟩:∃ n:Nat,z=n:=⟨z.toNat,by omega⟩
 walk_at "rd"
 refine ⟨dx,[],hx,by simp,?_⟩
 rw[pn_Room_size]
 walk_at "rd"
 refine ⟨by decide,fun pt hpt=>?_⟩
 have nx:pt≠x:=fun e=>by rw[e,zA2]at hpt;cases hpt
 have hpt0:H pt=none:=by rw[zA8 nx]at hpt;exact hpt
 refine ⟨dx,_,by rw[zA8 nx.symm];exact zA2,by simp,?_⟩
 rw[pn_Room_put_in]
 have k1:Keep [x] H (upd (upd (upd H x (.ins T.c_Room dx [("size",.int (n:Int))])) pt (.lst [])) x (.ins T.c_Room dx [("size",.int (n:Int)),("put_in",.ref pt)])):=Keep.upd (Keep.fresh (keep_of (List.mem_singleton.mpr rfl)) hpt0 _) (List.mem_singleton.mpr rfl) _
 have h1:(upd (upd (upd H x (.ins T.c_Room dx [("size",.int (n:Int))])) pt (.lst [])) x (.ins T.c_Room dx [("size",.int (n:Int)),("put_in",.ref pt)])) x=some (.ins T.c_Room dx [("size",.int (n:Int)),("put_in",.ref pt)]):=zA2
 have h2:(upd (upd (upd H x (.ins T.c_Room dx [("size",.int (n:Int))])) pt (.lst [])) x (.ins T.c_Room dx [("size",.int (n:Int)),("put_in",.ref pt)])) pt=some (.lst []):=by rw[zA8 nx];exact zA2
 generalize upd (upd (upd H x (.ins T.c_Room dx [("size",.int (n:Int))])) pt (.lst [])) x (.ins T.c_Room dx [("size",.int (n:Int)),("put_in",.ref pt)])=H1 at k1 h1 h2
 have fr:∀ {b:Addr},H1 b=none->H b=none:=fun {b} hb=>by
  cases e:H b with
  | none=>rfl
  | some o =>
   by_cases nb:b=x
   ·rw[nb,h1]at hb;cases hb
   ·have:=k1 b o e (by simpa using nb);rw[hb]at this;cases this
 walk_at "rd"
 intro bk db hbk hdb nbk
 have s2:Same H1 (upd (upd H1 db (.own bk)) bk (.ins T.c_Book db [])):=fun b o e=>by rw[zA8 (zA4 e hbk),zA8 (zA4 e hdb)];exact e
 refine ⟨bk,db,n,rfl,zA2,by omega,by omega,fun A' B H3 k3 hB hF hn hfr=>⟨rfl,?_⟩⟩
 have s3:Same H1 H3:=fun b o e=>k3 b o (s2 b o e) (by simpa using zA4 e hbk)
 have hfr1:∀ b∈A'.st::A'.en::A'.pg::A'.ds,H1 b=none:=fun b hb=>s2.free (hfr b hb)
 have nbx:bk≠x:=(zA4 h1 hbk).symm
 have fpf:∀ b∈fpB bk A',H1 b=none:=fun b hb=>by
  rcases List.mem_cons.mp hb with e | hb
  ·rw[e];exact hbk
  rcases List.mem_cons.mp hb with e | hb
  ·rw[e];exact hfr1 _ (by simp)
  rcases List.mem_cons.mp hb with e | hb
  ·rw[e];exact hfr1 _ (by simp)
  ·exact hfr1 _ (by simp [hb])
 have pgf:H1 A'.pg=none:=hfr1 _ (by simp)
 refine ⟨dx,_,s3.at h1,by simp,?_⟩
 rw[pn_Room_book]
 have xo:¬ x∈fpB bk A':=fun z=>by have:=fpf x z;rw[h1]at this;cases this
 have nxp:x≠A'.pg:=zA4 h1 pgf
 have hk:∀ b o,H3 b=some o->b≠x->(upd H3 x (.ins T.c_Room dx [("size",.int (n:Int)),("put_in",.ref pt),("book",.ref bk)])) b=some o:=fun b o e nb=>by rw[zA8 nb];exact e
 have hx3:=s3.at h1
 have nT:∀ b xs,H3 b=some (.tup xs)->b≠x:=fun b xs e=>ne_of e hx3 (by intro z;cases z)
 have hB':BookAt T.c_Book T.c_Entry (upd H3 x (.ins T.c_Room dx [("size",.int (n:Int)),("put_in",.ref pt),("book",.ref bk)])) bk A' B:=by
  obtain ⟨dz,hob⟩:=hB.ob
  have kE:∀ {e':Ent},EntAt T.c_Entry H3 e'->EntAt T.c_Entry (upd H3 x (.ins T.c_Room dx [("size",.int (n:Int)),("put_in",.ref pt),("book",.ref bk)])) e':=fun h=>h.but hk (fun _ _ _ z=>by
   rw[hx3]at z
   have:=Option.some.inj z
   injection this with _ _ e
   have:=congrArg List.length e
   simp [zAy]at this) (fun _ z=>by rw[hx3]at z;cases z)
  exact ⟨⟨dz,hk _ _ hob nbx⟩,hk _ _ hB.r0 (nT _ _ hB.r0),hk _ _ hB.st (fun z=>xo (by rw[<- z];simp [fpB])),fun p hp=>hk _ _ (hB.stt p hp) (nT _ _ (hB.stt p hp)),hk _ _ hB.pg nxp.symm,L2.Paired.mapP hB.dd fun d p e=>hk _ _ e (ne_of e hx3 (by intro z;cases z)),hk _ _ hB.en (fun z=>xo (by rw[<- z];simp [fpB])),fun p hp q hq=>kE (hB.pe p hp q hq),fun e he=>kE (hB.ee e he),hB.nd,hB.n1,hB.n2,hB.n3⟩
 refine q1 n rfl (by omega) (by omega) ⟨pt,bk,A'⟩ B _ (fun b o e nb=>hk b o (s3.at (k1 b o e nb)) (by simpa using nb)) ⟨⟨dx,by rw[hn];exact zA2⟩,hk _ _ (s3.at h2) nx,.nil,hB',hF,fun z=>?_,?_,Nat.zero_le _⟩ hn fun b hb=>?_
 ·have:=fpf pt z
  rw[h2]at this
  cases this
 ·exact zA4 h2 pgf
 ·rcases List.mem_cons.mp hb with e | hb
  ·rw[e];exact fr pgf
  rcases List.mem_cons.mp hb with e | hb
  ·rw[e];exact hpt0
  ·exact fr (fpf b hb)
def sp_fitting (K:PySem.W.Frag) (CR C D:Addr):Sp:=fun vs H Q E=>∃ (rm ta dx:Addr) (n:Nat) (pt bk:V) (ns:List Int),vs=[.ref rm,.ref ta]/\H rm=some (.ins CR dx (zC0 (.int (n:Int)) pt bk))/\SqT K H ta (ns.map V.int) /\
 (zAm ns->ns.length=n->∀ H',Same H H'->Q .non H')/\(¬ zAm ns->∀ H',Same H H'->E (.ref C) none H')/\(zAm ns->ns.length≠n->∀ H',Same H H'->E (.ref D) none H')
theorem zCh (T:Tx K mg):FnOk P w K mg base (CXX P w) 4 T.f_Room_need_fitting T.d_Room_need_fitting ["self","a"] (sp_fitting K T.c_Room T.c_NoSeating T.c_OtherSize):=by
 refine T.F_Room_need_fitting.okX sc_Room_need_fitting (fun vs H Q E h=>?_) (fun cdv A outer s H vs Q E hr h=>?_)
 ·obtain ⟨rm,ta,dx,n,pt,bk,ns,rfl,_⟩:=h
  rfl
 obtain ⟨rm,ta,dx,n,pt,bk,ns,rfl,hrm,hta,q1,q2,q3⟩:=h
 refine ⟨_,(zA5 (zAb (zAc (zC9 T) (hr.mono (by decide)) rfl T.m_need_seating T.F_need_seating.kp T.b_need_seating .nil zAa (zA0 (pv 1) zA1)))
   (zA3 (ps_if (zAe op_ne (zAn (zBq (K:=K) rfl) (by rfl) T.z_len bt_len (zA0 (pv 1) zA1)) (zAd rfl T.cl_Room T.n_Room_size (pv 0) rfl) (zAi _)) (zA3 (zC2 rfl T.x_OtherSize rfl T.k_OtherSize zCn (zA0 zB9 zA1))) zAz))),?_⟩
 walk_at "rd"
 refine ⟨ta,ns,rfl,hta,fun H1 s1=>⟨fun i1=>?_,fun i1=>q2 i1 H1 s1⟩⟩
 refine ⟨_,.inr (s1.sqT hta),?_⟩
 walk_at "rd"
 refine ⟨dx,_,_,s1.at hrm,zCt,?_⟩
 walk_at "rd"
 rw[List.length_map]
 split
 ·rename_i ne
  exact ⟨by decide,q3 i1 (fun z=>ne (by rw[z])) H1 s1⟩
 ·rename_i ne
  exact q1 i1 (by
   have:(ns.length:Int)=n:=Classical.byContradiction fun z=>ne z
   omega) H1 s1
theorem isSeat {n:Nat} {ns:List Int} (n1:1<=n) (n2:n<=16) (h:Seat n ns):zAm ns/\ns.length=n:=by
 have:=h.len
 exact ⟨⟨by omega,by omega,by rw[this];exact h⟩,this⟩
def sp_rm_put (CR CB CE C D X:Addr):Sp:=fun vs H Q E=>∃ (rm ta:Addr) (R:RmA) (ms:List (List Int)) (ts:List Addr) (B:Bk) (ns:List Int),vs=[.ref rm,.ref ta]/\RoomAt CR CB CE H rm R ms ts B/\H ta=some (.tup (ns.map V.int)) /\
 (¬ zAm ns->∀ H',Same H H'->E (.ref C) none H')/\(zAm ns->ns.length≠B.n->∀ H',Same H H'->E (.ref D) none H')/\(Seat B.n ns->200<=ms.length->∀ H',Same H H'->E (.ref X) none H') /\
 (Seat B.n ns->ms.length < 200->∀ (b:Bool) (B':Bk) (H':Hp),Keep (fpR R) H H'->RoomAt CR CB CE H' rm R (ms++[ns]) (ts++[ta]) B'->B'.n=B.n->(b=true↔¬ Reach B.n ms ns)->Q (.bl b) H')
theorem zBk (T:Tx K mg):FnOk P w K mg base (CXX P w) 8 T.f_Room_put_move T.d_Room_put_move ["self","move"] (sp_rm_put T.c_Room T.c_Book T.c_Entry T.c_NoSeating T.c_OtherSize T.c_TooMany):=by
 refine T.F_Room_put_move.okX sc_Room_put_move (fun vs H Q E h=>?_) (fun cdv A outer s H vs Q E hr h=>?_)
 ·obtain ⟨rm,ta,R,ms,ts,B,ns,rfl,_⟩:=h
  rfl
 obtain ⟨rm,ta,R,ms,ts,B,ns,rfl,hR,hta,q1,q2,q3,q4⟩:=h
 obtain ⟨dx,hob⟩:=hR.ob
 refine ⟨_,(zA5 (zAb (zAh (ns:=zB4) rfl (pv 0) T.cl_Room T.mt_Room_need_fitting (by decide +kernel) (zCh T) (hr.mono (by decide)) T.b_Room_need_fitting zAa (zA0 (pv 1) zA1)))
   (zA5 (ps_if (zAe op_ge (zAn (zBq (K:=K) rfl) (by rfl) T.z_len bt_len (zA0 (zAd rfl T.cl_Room T.n_Room_put_in (pv 0) rfl) zA1)) (pe_gint rfl T.g_MOST_MOVES) (zAi _)) (zA3 (zC2 rfl T.x_TooMany rfl T.k_TooMany zCn (zA0 zB9 zA1))) zAz)
   (zA5 (zAp (i:=2) sc_Room_put_move.nd rfl (Or.inl rfl) (zAh (ns:=zAq) rfl (zAd rfl T.cl_Room T.n_Room_book (pv 0) rfl) T.cl_Book T.mt_Book_put_move (by decide +kernel) (ok_Book_put_move T) (hr.mono (by decide)) T.b_Book_put_move pass0 (zA0 (pv 1) (zA0 (zAn (zBq (K:=K) rfl) (by rfl) T.z_len bt_len (zA0 (zAd rfl T.cl_Room T.n_Room_put_in (pv 0) rfl) zA1)) zA1))))
   (zA5 (zAb (pe_bmK (K:=K) rfl PySem.F.plainAttrs_list PySem.F.slot_list_append PySem.F.type_list_append mt_append (zAd rfl T.cl_Room T.n_Room_put_in (pv 0) rfl) (zA0 (pv 1) zA1)))
   (zA3 (zB6 (pv 2))))))),?_⟩
 walk_at "rd"
 refine ⟨⟨dx,_,hob,rfl⟩,rm,ta,dx,B.n,_,_,ns,rfl,hob,SqT.of hta,fun i1 el H1 s1=>?_,fun i1 H1 s1=>q1 i1 H1 s1,fun i1 nl H1 s1=>q2 i1 nl H1 s1⟩
 have pm:Seat B.n ns:=by rw[<- el];exact i1.2.2
 have hR1:=hR.same s1
 have hml:ts.length=ms.length:=hR.tups.len
 walk_at "rd"
 refine ⟨dx,_,_,s1.at hob,lk_Room_put_in,?_⟩
 walk_at "rd"
 refine ⟨_,.inl (SqL.of hR1.pt),?_⟩
 walk_at "rd"
 rw[List.length_map,hml]
 split
 ·rename_i hge
  exact ⟨by decide,q3 pm (by omega) H1 s1⟩
 rename_i hge
 have hlt:ms.length < 200:=by omega
 walk_at "rd"
 refine ⟨dx,_,_,s1.at hob,lk_Room_book,?_⟩
 walk_at "rd"
 obtain ⟨db,hbk⟩:=hR1.bk.ob
 refine ⟨⟨db,_,hbk,rfl⟩,dx,_,_,s1.at hob,lk_Room_put_in,?_⟩
 walk_at "rd"
 refine ⟨_,.inl (SqL.of hR1.pt),?_⟩
 rw[List.length_map,hml]
 refine ⟨R.bk,ta,R.A,B,ms,ns,rfl,hR1.bk,hR1.full,s1.at hta,pm,fun b B' H2 k2 hB2 hF2 hn2 hb=>?_⟩
 walk_at "rd"
 have hrm2:H2 rm=some (.ins T.c_Room dx (zC0 (.int (B.n:Int)) (.ref R.put) (.ref R.bk))):=k2 _ _ (s1.at hob) (hR1.bk.outE (s1.at hob) fn_rb)
 have hpt2:H2 R.put=some (.lst (ts.map V.ref)):=k2 _ _ hR1.pt hR.out
 refine ⟨dx,_,_,hrm2,lk_Room_put_in,.inl ⟨rfl,_,SqL.of hpt2⟩,?_⟩
 walk_at "rd"
 refine ⟨_,hpt2,small1000 (by rw[List.length_map];omega),?_⟩
 have kp:∀ b o,H2 b=some o->b≠R.put->(upd H2 R.put (.lst (ts.map V.ref++[.ref ta]))) b=some o:=fun b o e nb=>by rw[zA8 nb];exact e
 have nT:∀ b xs,H2 b=some (.tup xs)->b≠R.put:=fun b xs e=>ne_of e hpt2 (by intro z;cases z)
 have hB3:BookAt T.c_Book T.c_Entry (upd H2 R.put (.lst (ts.map V.ref++[.ref ta]))) R.bk R.A B':=by
  obtain ⟨dz,hob2⟩:=hB2.ob
  have kE:∀ {e':Ent},EntAt T.c_Entry H2 e'->EntAt T.c_Entry (upd H2 R.put (.lst (ts.map V.ref++[.ref ta]))) e':=fun h=>h.but kp (fun _ _ _ z=>by rw[hpt2]at z;cases z) (fun _ z=>by rw[hpt2]at z;cases z)
  have no:∀ b∈fpB R.bk R.A,b≠R.put:=fun b hb z=>hR.out (by rw[<- z];exact hb)
  exact ⟨⟨dz,kp _ _ hob2 (no _ (by simp [fpB]))⟩,kp _ _ hB2.r0 (nT _ _ hB2.r0),kp _ _ hB2.st (no _ (by simp [fpB])),fun p hp=>kp _ _ (hB2.stt p hp) (nT _ _ (hB2.stt p hp)),kp _ _ hB2.pg hR.npg.symm,L2.Paired.mapP hB2.dd fun d p e=>kp _ _ e (ne_of e hpt2 (by intro z;cases z)),kp _ _ hB2.en (no _ (by simp [fpB])),fun p hp q hq=>kE (hB2.pe p hp q hq),fun e he=>kE (hB2.ee e he),hB2.nd,hB2.n1,hB2.n2,hB2.n3⟩
 have hta3:(upd H2 R.put (.lst (ts.map V.ref++[.ref ta]))) ta=some (.tup (ns.map V.int)):=by
  have:=k2 _ _ (s1.at hta) (hR1.bk.outT (s1.at hta))
  exact kp _ _ this (nT _ _ this)
 have htups:Tups (upd H2 R.put (.lst (ts.map V.ref++[.ref ta]))) ts ms:=hR1.tups.mono fun b xs e=>by
  have:=k2 _ _ e (hR1.bk.outT e)
  exact kp _ _ this (nT _ _ this)
 refine q4 pm hlt b B' _ ?_ ⟨⟨dx,by rw[hn2];exact kp _ _ hrm2 (ne_of hrm2 hpt2 (by intro z;cases z))⟩,by rw[zA2,List.map_append];rfl,htups.snoc hta3,hB3,hF2,hR.out,hR.npg,by rw[List.length_append,List.length_singleton];omega⟩ hn2 hb
 refine Keep.upd ((Keep.of s1).trans (k2.mono fun b hb=>by simp [fpR,hb])) (by simp [fpR]) _
def sp_rm_many (CR CB CE:Addr):Sp:=fun vs H Q _=>∃ (rm:Addr) (R:RmA) (ms:List (List Int)) (ts:List Addr) (B:Bk),vs=[.ref rm]/\RoomAt CR CB CE H rm R ms ts B/\Q (.int (sizes B.rows:Int)) H
theorem ok_Room_how_many (T:Tx K mg):FnOk P w K mg base CX0 2 T.f_Room_how_many T.d_Room_how_many ["self"] (sp_rm_many T.c_Room T.c_Book T.c_Entry):=by
 refine T.F_Room_how_many.ok sc_Room_how_many (fun vs H Q E h=>?_) (fun cdv A outer s H vs Q E hr h=>?_)
 ·obtain ⟨rm,R,ms,ts,B,rfl,_⟩:=h
  rfl
 obtain ⟨rm,R,ms,ts,B,rfl,hR,q⟩:=h
 obtain ⟨dx,hob⟩:=hR.ob
 obtain ⟨db,hbk⟩:=hR.bk.ob
 refine ⟨_,(zA3 (zB6 (pe_methC0 (ns:=zAq) rfl (zAd rfl T.cl_Room T.n_Room_book (pv 0) rfl) T.cl_Book T.mt_Book_how_many (by decide +kernel) (ok_Book_how_many T) (hr.mono (by decide)) T.b_Book_how_many pass0))),?_⟩
 walk_at "rd"
 refine ⟨dx,_,_,hob,lk_Room_book,?_⟩
 walk_at "rd"
 exact ⟨⟨db,_,hbk,rfl⟩,R.bk,R.A,B,ms,rfl,hR.bk,hR.full.ok,q⟩
def sp_rm_reaches (CR CB CE C D:Addr):Sp:=fun vs H Q E=>∃ (rm ta:Addr) (R:RmA) (ms:List (List Int)) (ts:List Addr) (B:Bk) (ns:List Int),vs=[.ref rm,.ref ta]/\RoomAt CR CB CE H rm R ms ts B/\H ta=some (.tup (ns.map V.int)) /\
 (¬ zAm ns->∀ H',Same H H'->E (.ref C) none H')/\(zAm ns->ns.length≠B.n->∀ H',Same H H'->E (.ref D) none H')/\(Seat B.n ns->∀ (b:Bool) (H':Hp),Same H H'->(b=true↔Reach B.n ms ns)->Q (.bl b) H')
theorem ok_Room_reaches (T:Tx K mg):FnOk P w K mg base (CXX P w) 5 T.f_Room_reaches T.d_Room_reaches ["self","a"] (sp_rm_reaches T.c_Room T.c_Book T.c_Entry T.c_NoSeating T.c_OtherSize):=by
 refine T.F_Room_reaches.okX sc_Room_reaches (fun vs H Q E h=>?_) (fun cdv A outer s H vs Q E hr h=>?_)
 ·obtain ⟨rm,ta,R,ms,ts,B,ns,rfl,_⟩:=h
  rfl
 obtain ⟨rm,ta,R,ms,ts,B,ns,rfl,hR,hta,q1,q2,q3⟩:=h
 obtain ⟨dx,hob⟩:=hR.ob
 refine ⟨_,(zA5 (zAb (zAh (ns:=zB4) rfl (pv 0) T.cl_Room T.mt_Room_need_fitting (by decide +kernel) (zCh T) (hr.mono (by decide)) T.b_Room_need_fitting zAa (zA0 (pv 1) zA1)))
   (zA3 (zB6 (zAh (ns:=zAq) rfl (zAd rfl T.cl_Room T.n_Room_book (pv 0) rfl) T.cl_Book T.mt_Book_reaches (by decide +kernel) (ok_Book_reaches T) (hr.mono (by decide)) T.b_Book_reaches pass0 (zA0 (pv 1) zA1))))),?_⟩
 walk_at "rd"
 refine ⟨⟨dx,_,hob,rfl⟩,rm,ta,dx,B.n,_,_,ns,rfl,hob,SqT.of hta,fun i1 el H1 s1=>?_,fun i1 H1 s1=>q1 i1 H1 s1,fun i1 nl H1 s1=>q2 i1 nl H1 s1⟩
 have pm:Seat B.n ns:=by rw[<- el];exact i1.2.2
 have hR1:=hR.same s1
 obtain ⟨db,hbk⟩:=hR1.bk.ob
 walk_at "rd"
 refine ⟨dx,_,_,s1.at hob,lk_Room_book,?_⟩
 walk_at "rd"
 refine ⟨⟨db,_,hbk,rfl⟩,R.bk,ta,R.A,B,ms,ns,rfl,hR1.bk,hR1.full.ok,s1.at hta,pm,fun b H2 hb s2=>?_⟩
 exact q3 pm b H2 (s1.trans s2) (hb.trans (hR1.full.iff ns))
theorem paired_mapl {α β:Type} {R S:α->β->Prop}:∀ {L:List α} {M:List β},PySem.Paired R L M->(∀ a∈L,∀ b,R a b->S a b)->PySem.Paired S L M
 | _,_,.nil,_=>.nil
 | _,_,.cons r t,h=>.cons (h _ List.mem_cons_self _ r) (paired_mapl t fun a ha=>h a (List.mem_cons_of_mem _ ha))
theorem BookAt.frame {CB CE:Addr} {F:List Addr} {H H':Hp} {bk:Addr} {A:BkA} {B:Bk} (h:BookAt CB CE H bk A B) (k:Keep F H H') (hs:∀ b∈F,(∃ C dx fs,H b=some (.ins C dx fs)/\fs.map (·.1)=zAq)\/(∃ xs,H b=some (.lst xs))\/∃ kvs,H b=some (.dK kvs)) (ho:∀ b∈A.pg::fpB bk A,¬ b∈F):BookAt CB CE H' bk A B:=by
 have nT:∀ b xs,H b=some (.tup xs)->¬ b∈F:=fun b xs e z=>by rcases hs b z with ⟨_,_,_,q,_⟩ | ⟨_,q⟩ | ⟨_,q⟩ <;> rw[e]at q <;> cases q
 have nE:∀ b C dx fs,H b=some (.ins C dx fs)->¬ fs.map (·.1)=zAq->¬ b∈F:=fun b C dx fs e hf z=>by
  rcases hs b z with ⟨_,_,_,q,q2⟩ | ⟨_,q⟩ | ⟨_,q⟩ <;> rw[e]at q <;> cases q
  exact hf q2
 have kE:∀ {e:Ent},EntAt CE H e->EntAt CE H' e:=fun ⟨dx,ta,ba,h1,h2,h3⟩=>⟨dx,ta,ba,k _ _ h1 (nE _ _ _ _ h1 fn_eb),k _ _ h2 (nT _ _ h2),k _ _ h3 (nT _ _ h3)⟩
 obtain ⟨dx,hob⟩:=h.ob
 exact ⟨⟨dx,k _ _ hob (ho _ (by simp [fpB]))⟩,k _ _ h.r0 (nT _ _ h.r0),k _ _ h.st (ho _ (by simp [fpB])),fun p hp=>k _ _ (h.stt p hp) (nT _ _ (h.stt p hp)),k _ _ h.pg (ho _ (by simp)),paired_mapl h.dd fun d hd p e=>k _ _ e (ho _ (by simp [fpB,hd])),k _ _ h.en (ho _ (by simp [fpB])),fun p hp q hq=>kE (h.pe p hp q hq),fun e he=>kE (h.ee e he),h.nd,h.n1,h.n2,h.n3⟩
theorem RoomAt.frame {CR CB CE:Addr} {F:List Addr} {H H':Hp} {rm:Addr} {R:RmA} {ms:List (List Int)} {ts:List Addr} {B:Bk} (h:RoomAt CR CB CE H rm R ms ts B) (k:Keep F H H') (hs:∀ b∈F,(∃ C dx fs,H b=some (.ins C dx fs)/\fs.map (·.1)=zAq)\/(∃ xs,H b=some (.lst xs))\/∃ kvs,H b=some (.dK kvs))
  (ho:∀ b∈R.A.pg::fpR R,¬ b∈F):RoomAt CR CB CE H' rm R ms ts B:=by
 have nT:∀ b xs,H b=some (.tup xs)->¬ b∈F:=fun b xs e z=>by rcases hs b z with ⟨_,_,_,q,_⟩ | ⟨_,q⟩ | ⟨_,q⟩ <;> rw[e]at q <;> cases q
 obtain ⟨dx,hob⟩:=h.ob
 refine ⟨⟨dx,k _ _ hob fun z=>?_⟩,k _ _ h.pt (ho _ (by simp [fpR])),h.tups.mono fun b xs e=>k _ _ e (nT _ _ e),h.bk.frame k hs fun b hb=>ho b ?_,h.full,h.out,h.npg,h.le⟩
 ·rcases hs rm z with ⟨_,_,_,q,q2⟩ | ⟨_,q⟩ | ⟨_,q⟩ <;> rw[hob]at q <;> cases q
  exact fn_rb q2
 ·rcases List.mem_cons.mp hb with e | e
  ·rw[e];simp
  ·simp [fpR,e]
theorem RoomAt.wr {CR CB CE:Addr} {H:Hp} {rm ml:Addr} {R:RmA} {ms:List (List Int)} {ts:List Addr} {B:Bk} {xs ys:List V} (h:RoomAt CR CB CE H rm R ms ts B) (hm:H ml=some (.lst xs)) (no:¬ ml∈R.A.pg::fpR R):RoomAt CR CB CE (L2.upd H ml (.lst ys)) rm R ms ts B:=by
 refine h.frame (F:=[ml]) (keep_of (List.mem_singleton.mpr rfl)) (fun b hb=>.inr (.inl ⟨xs,by rw[List.mem_singleton.mp hb];exact hm⟩)) fun b hb z=>no (by rw[<- List.mem_singleton.mp z];exact hb)
def Rf (C:Addr) (H:Hp) (E:XK):Prop:=∀ H',Same H H'->E (.ref C) none H'
def sp_bad1 (C:Addr):Sp:=fun vs H Q E=>∃ (a:Addr) (ns:List Int),vs=[.ref a]/\H a=some (.tup (ns.map V.int))/\¬ zAm ns/\Rf C H E
theorem ok_rings (T:Tx K mg):FnOk P w K mg base (CXX P w) 4 T.f_rings T.d_rings ["a"] (sp_bad1 T.c_NoSeating):=by
 refine T.F_rings.okX sc_rings (fun vs H Q E h=>?_) (fun cdv A outer s H vs Q E hr h=>?_)
 ·obtain ⟨a,ns,rfl,_⟩:=h
  rfl
 obtain ⟨a,ns,rfl,ha,hno,q⟩:=h
 refine ⟨_,(zCo (zAb (zAc (zC9 T) (hr.mono (by decide)) rfl T.m_need_seating T.F_need_seating.kp T.b_need_seating .nil zAa (zA0 (pv 0) zA1)))),?_⟩
 walk_at "rd"
 exact ⟨a,ns,rfl,SqT.of ha,fun H1 s1=>⟨fun i1=>absurd i1 hno,fun _=>q H1 s1⟩⟩
theorem ok_back (T:Tx K mg):FnOk P w K mg base (CXX P w) 4 T.f_back T.d_back ["a"] (sp_bad1 T.c_NoSeating):=by
 refine T.F_back.okX sc_back (fun vs H Q E h=>?_) (fun cdv A outer s H vs Q E hr h=>?_)
 ·obtain ⟨a,ns,rfl,_⟩:=h
  rfl
 obtain ⟨a,ns,rfl,ha,hno,q⟩:=h
 refine ⟨_,(zCo (zAb (zAc (zC9 T) (hr.mono (by decide)) rfl T.m_need_seating T.F_need_seating.kp T.b_need_seating .nil zAa (zA0 (pv 0) zA1)))),?_⟩
 walk_at "rd"
 exact ⟨a,ns,rfl,SqT.of ha,fun H1 s1=>⟨fun i1=>absurd i1 hno,fun _=>q H1 s1⟩⟩
theorem ok_age (T:Tx K mg):FnOk P w K mg base (CXX P w) 5 T.f_age T.d_age ["a"] (sp_bad1 T.c_NoSeating):=by
 refine T.F_age.okX sc_age (fun vs H Q E h=>?_) (fun cdv A outer s H vs Q E hr h=>?_)
 ·obtain ⟨a,ns,rfl,_⟩:=h
  rfl
 obtain ⟨a,ns,rfl,ha,hno,q⟩:=h
 refine ⟨_,(zA5 (zAp (i:=1) sc_age.nd rfl (Or.inl rfl) zA9)
   (zCo (ps_forStop (zAc (ok_rings T) (hr.mono (by decide)) rfl T.m_rings T.F_rings.kp T.b_rings .nil zAa (zA0 (pv 0) zA1))))),?_⟩
 walk_at "rd"
 exact ⟨a,ns,rfl,ha,hno,q⟩
theorem ok_even (T:Tx K mg):FnOk P w K mg base (CXX P w) 5 T.f_even T.d_even ["a"] (sp_bad1 T.c_NoSeating):=by
 refine T.F_even.okX sc_even (fun vs H Q E h=>?_) (fun cdv A outer s H vs Q E hr h=>?_)
 ·obtain ⟨a,ns,rfl,_⟩:=h
  rfl
 obtain ⟨a,ns,rfl,ha,hno,q⟩:=h
 refine ⟨_,(zA3 (zB6 (pe_cmpR op_eq (pe_op zBp (zAn (call_sumK (K:=K) rfl rfl) (by rfl) T.z_sum bt_sum (zA0 (pe_compStop (zC7 (sc:=defScope s_even) (N:=["a"]) rfl rfl rfl (by decide +kernel) (by decide +kernel)) (zAc (ok_rings T) (hr.mono (by decide)) rfl T.m_rings T.F_rings.kp T.b_rings .nil zAa (zA0 (pv 0) zA1))) zA1)) zA9) zA9 (zAi _)))),?_⟩
 walk_at "rd"
 exact ⟨a,ns,rfl,ha,hno,q⟩
theorem ok_shown (T:Tx K mg):FnOk P w K mg base (CXX P w) 5 T.f_shown T.d_shown ["a"] (sp_bad1 T.c_NoSeating):=by
 refine T.F_shown.okX sc_shown (fun vs H Q E h=>?_) (fun cdv A outer s H vs Q E hr h=>?_)
 ·obtain ⟨a,ns,rfl,_⟩:=h
  rfl
 obtain ⟨a,ns,rfl,ha,hno,q⟩:=h
 refine ⟨_,(zCo (zAp (i:=1) sc_shown.nd rfl (Or.inl rfl) (zAc (ok_rings T) (hr.mono (by decide)) rfl T.m_rings T.F_rings.kp T.b_rings .nil zAa (zA0 (pv 0) zA1)))),?_⟩
 walk_at "rd"
 exact ⟨a,ns,rfl,ha,hno,q⟩
def sp_bad2 (C:Addr):Sp:=fun vs H Q E=>∃ (a:Addr) (ns:List Int) (n:Int),vs=[.ref a,.int n]/\H a=some (.tup (ns.map V.int))/\¬ zAm ns/\Rf C H E
theorem ok_times (T:Tx K mg):FnOk P w K mg base (CXX P w) 5 T.f_times T.d_times ["a","n"] (sp_bad2 T.c_NoSeating):=by
 refine T.F_times.okX sc_times (fun vs H Q E h=>?_) (fun cdv A outer s H vs Q E hr h=>?_)
 ·obtain ⟨a,ns,n,rfl,_⟩:=h
  rfl
 obtain ⟨a,ns,n,rfl,ha,hno,q⟩:=h
 refine ⟨_,(zA5 (zAp (i:=2) sc_times.nd rfl (Or.inl rfl) (zAo (call_list_ofK (K:=K) rfl) (by rfl) T.z_list bt_list (zA0 (pv 0) zA1)))
   (zCo (ps_forStop (zAc (ok_rings T) (hr.mono (by decide)) rfl T.m_rings T.F_rings.kp T.b_rings .nil zAa (zA0 (pv 0) zA1))))),?_⟩
 walk_at "rd"
 refine ⟨_,.inr (SqT.of ha),fun l hl=>?_⟩
 exact ⟨a,ns,rfl,(zA7 hl _).at ha,hno,fun H' s'=>q H' ((zA7 hl _).trans s')⟩
def sp_then_no (C D:Addr):Sp:=fun vs H Q E=>∃ (a b:Addr) (xs ns:List Int),vs=[.ref a,.ref b]/\H a=some (.tup (xs.map V.int))/\H b=some (.tup (ns.map V.int))/\zAm xs/\(¬ zAm ns->Rf C H E)/\(zAm ns->xs.length≠ns.length/\Rf D H E)
theorem ok_then (T:Tx K mg):FnOk P w K mg base (CXX P w) 4 T.f_then T.d_then ["a","b"] (sp_then_no T.c_NoSeating T.c_OtherSize):=by
 refine T.F_then.okX sc_then (fun vs H Q E h=>?_) (fun cdv A outer s H vs Q E hr h=>?_)
 ·obtain ⟨a,b,xs,ns,rfl,_⟩:=h
  rfl
 obtain ⟨a,b,xs,ns,rfl,ha,hb,hx,q1,q2⟩:=h
 refine ⟨_,(zA5 (zAb (zAc (zC9 T) (hr.mono (by decide)) rfl T.m_need_seating T.F_need_seating.kp T.b_need_seating .nil zAa (zA0 (pv 0) zA1)))
   (zA5 (zAb (zAc (zC9 T) (hr.mono (by decide)) rfl T.m_need_seating T.F_need_seating.kp T.b_need_seating .nil zAa (zA0 (pv 1) zA1)))
   (zCo (ps_if (zAe op_ne (zAn (zBq (K:=K) rfl) (by rfl) T.z_len bt_len (zA0 (pv 0) zA1)) (zAn (zBq (K:=K) rfl) (by rfl) T.z_len bt_len (zA0 (pv 1) zA1)) (zAi _)) (zA3 (zC2 rfl T.x_OtherSize rfl T.k_OtherSize zCn (zA0 zB9 zA1))) zAz)))),?_⟩
 walk_at "rd"
 refine ⟨a,xs,rfl,SqT.of ha,fun H1 s1=>⟨fun _=>?_,fun no=>absurd hx no⟩⟩
 refine ⟨b,ns,rfl,SqT.of (s1.at hb),fun H2 s2=>⟨fun i2=>?_,fun no=>q1 no H2 (s1.trans s2)⟩⟩
 obtain ⟨hl,q3⟩:=q2 i2
 have s12:=s1.trans s2
 refine ⟨_,.inr (SqT.of (s12.at ha)),_,.inr (SqT.of (s12.at hb)),?_⟩
 walk_at "rd"
 rw[List.length_map,List.length_map,if_pos (by omega)]
 exact ⟨by decide,q3 H2 s12⟩
def sp_rm_no (CR CB CE C D U:Addr):Sp:=fun vs H Q E=>∃ (rm ta:Addr) (R:RmA) (ms:List (List Int)) (ts:List Addr) (B:Bk) (ns:List Int),vs=[.ref rm,.ref ta]/\RoomAt CR CB CE H rm R ms ts B/\H ta=some (.tup (ns.map V.int)) /\
 (¬ zAm ns->Rf C H E)/\(zAm ns->ns.length≠B.n->Rf D H E)/\(Seat B.n ns->¬ Reach B.n ms ns/\Rf U H E)
theorem ok_Room_need_reached (T:Tx K mg):FnOk P w K mg base (CXX P w) 5 T.f_Room_need_reached T.d_Room_need_reached ["self","a"] (sp_rm_no T.c_Room T.c_Book T.c_Entry T.c_NoSeating T.c_OtherSize T.c_Unreached):=by
 refine T.F_Room_need_reached.okX sc_Room_need_reached (fun vs H Q E h=>?_) (fun cdv A outer s H vs Q E hr h=>?_)
 ·obtain ⟨rm,ta,R,ms,ts,B,ns,rfl,_⟩:=h
  rfl
 obtain ⟨rm,ta,R,ms,ts,B,ns,rfl,hR,hta,q1,q2,q3⟩:=h
 obtain ⟨dx,hob⟩:=hR.ob
 refine ⟨_,(zA5 (zAb (zAh (ns:=zB4) rfl (pv 0) T.cl_Room T.mt_Room_need_fitting (by decide +kernel) (zCh T) (hr.mono (by decide)) T.b_Room_need_fitting zAa (zA0 (pv 1) zA1)))
   (zA3 (ps_if (pt_not (pt_val (zAh (ns:=zAq) rfl (zAd rfl T.cl_Room T.n_Room_book (pv 0) rfl) T.cl_Book T.mt_Book_reaches (by decide +kernel) (ok_Book_reaches T) (hr.mono (by decide)) T.b_Book_reaches pass0 (zA0 (pv 1) zA1)))) (zA3 (zC2 rfl T.x_Unreached rfl T.k_Unreached zCn (zA0 zB9 zA1))) zAz))),?_⟩
 walk_at "rd"
 refine ⟨⟨dx,_,hob,rfl⟩,rm,ta,dx,B.n,_,_,ns,rfl,hob,SqT.of hta,fun i1 el H1 s1=>?_,fun i1 H1 s1=>q1 i1 H1 s1,fun i1 nl H1 s1=>q2 i1 nl H1 s1⟩
 have pm:Seat B.n ns:=by rw[<- el];exact i1.2.2
 obtain ⟨nr,q4⟩:=q3 pm
 have hR1:=hR.same s1
 obtain ⟨db,hbk⟩:=hR1.bk.ob
 walk_at "rd"
 refine ⟨dx,_,_,s1.at hob,lk_Room_book,?_⟩
 walk_at "rd"
 refine ⟨⟨db,_,hbk,rfl⟩,R.bk,ta,R.A,B,ms,ns,rfl,hR1.bk,hR1.full.ok,s1.at hta,pm,fun b H2 hb s2=>?_⟩
 have eb:b=false:=by
  cases b with
  | false=>rfl
  | true=>exact absurd ((hR1.full.iff ns).mp (hb.mp rfl)) nr
 rw[eb]
 walk_at "rd"
 exact ⟨by decide,q4 H2 (s1.trans s2)⟩
theorem ok_Room_recipe (T:Tx K mg):FnOk P w K mg base (CXX P w) 6 T.f_Room_recipe T.d_Room_recipe ["self","a"] (sp_rm_no T.c_Room T.c_Book T.c_Entry T.c_NoSeating T.c_OtherSize T.c_Unreached):=by
 refine T.F_Room_recipe.okX sc_Room_recipe (fun vs H Q E h=>?_) (fun cdv A outer s H vs Q E hr h=>?_)
 ·obtain ⟨rm,ta,R,ms,ts,B,ns,rfl,_⟩:=h
  rfl
 obtain ⟨rm,ta,R,ms,ts,B,ns,rfl,hR,hta,q⟩:=h
 obtain ⟨dx,hob⟩:=hR.ob
 refine ⟨_,(zCo (zAb (zAh (ns:=zB4) rfl (pv 0) T.cl_Room T.mt_Room_need_reached (by decide +kernel) (ok_Room_need_reached T) (hr.mono (by decide)) T.b_Room_need_reached zAa (zA0 (pv 1) zA1)))),?_⟩
 walk_at "rd"
 exact ⟨⟨dx,_,hob,rfl⟩,rm,ta,R,ms,ts,B,ns,rfl,hR,hta,q⟩
theorem ok_Room_number_of (T:Tx K mg):FnOk P w K mg base (CXX P w) 6 T.f_Room_number_of T.d_Room_number_of ["self","a"] (sp_rm_no T.c_Room T.c_Book T.c_Entry T.c_NoSeating T.c_OtherSize T.c_Unreached):=by
 refine T.F_Room_number_of.okX sc_Room_number_of (fun vs H Q E h=>?_) (fun cdv A outer s H vs Q E hr h=>?_)
 ·obtain ⟨rm,ta,R,ms,ts,B,ns,rfl,_⟩:=h
  rfl
 obtain ⟨rm,ta,R,ms,ts,B,ns,rfl,hR,hta,q⟩:=h
 obtain ⟨dx,hob⟩:=hR.ob
 refine ⟨_,(zCo (zAb (zAh (ns:=zB4) rfl (pv 0) T.cl_Room T.mt_Room_need_reached (by decide +kernel) (ok_Room_need_reached T) (hr.mono (by decide)) T.b_Room_need_reached zAa (zA0 (pv 1) zA1)))),?_⟩
 walk_at "rd"
 exact ⟨⟨dx,_,hob,rfl⟩,rm,ta,R,ms,ts,B,ns,rfl,hR,hta,q⟩
def sp_numbered_no (CR CB CE C:Addr):Sp:=fun vs H Q E=>∃ (rm:Addr) (R:RmA) (ms:List (List Int)) (ts:List Addr) (B:Bk) (n:Int),vs=[.ref rm,.int n]/\RoomAt CR CB CE H rm R ms ts B/\¬ (0<=n/\n < sizes B.rows)/\Rf C H E
theorem ok_Room_numbered (T:Tx K mg):FnOk P w K mg base (CXX P w) 3 T.f_Room_numbered T.d_Room_numbered ["self","n"] (sp_numbered_no T.c_Room T.c_Book T.c_Entry T.c_NoNumber):=by
 refine T.F_Room_numbered.okX sc_Room_numbered (fun vs H Q E h=>?_) (fun cdv A outer s H vs Q E hr h=>?_)
 ·obtain ⟨rm,R,ms,ts,B,n,rfl,_⟩:=h
  rfl
 obtain ⟨rm,R,ms,ts,B,n,rfl,hR,hno,q⟩:=h
 obtain ⟨dx,hob⟩:=hR.ob
 refine ⟨_,(zCo (ps_if (pt_not (pt_chain op_le op_lt zA9 (pv 1) (pe_methC0 (ns:=zB4) rfl (pv 0) T.cl_Room T.mt_Room_how_many (by decide +kernel) (ok_Room_how_many T) (hr.mono (by decide)) T.b_Room_how_many pass0))) (zA3 (zC2 rfl T.x_NoNumber rfl T.k_NoNumber zCn (zA0 zB9 zA1))) zAz)),?_⟩
 walk_at "rd"
 split
 ·rename_i h0
  refine ⟨⟨dx,_,hob,rfl⟩,rm,R,ms,ts,B,rfl,hR,?_⟩
  walk_at "rd"
  rw[if_pos (by omega)]
  exact ⟨by decide,q H (Same.refl _)⟩
 ·exact ⟨by decide,q H (Same.refl _)⟩
def sp_need_seat (CR C:Addr):Sp:=fun vs H Q E=>∃ (rm dx:Addr) (n:Nat) (pt bk:V) (k:Int),vs=[.ref rm,.int k]/\H rm=some (.ins CR dx (zC0 (.int (n:Int)) pt bk))/\(0<=k/\k < n->Q .non H)/\(¬ (0<=k/\k < n)->E (.ref C) none H)
theorem ok_need_seat (T:Tx K mg):FnOk P w K mg base (CXX P w) 1 T.f_need_seat T.d_need_seat ["room","seat"] (sp_need_seat T.c_Room T.c_NoSeat):=by
 refine T.F_need_seat.okX sc_need_seat (fun vs H Q E h=>?_) (fun cdv A outer s H vs Q E hr h=>?_)
 ·obtain ⟨rm,dx,n,pt,bk,k,rfl,_⟩:=h
  rfl
 obtain ⟨rm,dx,n,pt,bk,k,rfl,hob,q1,q2⟩:=h
 refine ⟨_,(zA3 (ps_if (pt_not (pt_chain op_le op_lt zA9 (pv 1) (zAd rfl T.cl_Room T.n_Room_size (pv 0) rfl))) (zA3 (zC2 rfl T.x_NoSeat rfl T.k_NoSeat zCn (zA0 zB9 zA1))) zAz)),?_⟩
 walk_at "rd"
 split
 ·rename_i h0
  refine ⟨dx,_,_,hob,zCt,?_⟩
  walk_at "rd"
  split
  ·rename_i h1
   exact ⟨by decide,q2 fun z=>h1 z.2⟩
  ·rename_i h1
   exact q1 ⟨h0,by omega⟩
 ·rename_i h0
  exact ⟨by decide,q2 fun z=>h0 z.1⟩
def sp_ring_no (CR C:Addr):Sp:=fun vs H Q E=>∃ (rm dx:Addr) (n:Nat) (pt bk:V) (k:Int),vs=[.ref rm,.int k]/\H rm=some (.ins CR dx (zC0 (.int (n:Int)) pt bk))/\¬ (0<=k/\k < n)/\Rf C H E
theorem ok_ring_of (T:Tx K mg):FnOk P w K mg base (CXX P w) 2 T.f_ring_of T.d_ring_of ["room","seat"] (sp_ring_no T.c_Room T.c_NoSeat):=by
 refine T.F_ring_of.okX sc_ring_of (fun vs H Q E h=>?_) (fun cdv A outer s H vs Q E hr h=>?_)
 ·obtain ⟨rm,dx,n,pt,bk,k,rfl,_⟩:=h
  rfl
 obtain ⟨rm,dx,n,pt,bk,k,rfl,hob,hno,q⟩:=h
 refine ⟨_,(zCo (zAb (zAc (ok_need_seat T) (hr.mono (by decide)) rfl T.m_need_seat T.F_need_seat.kp T.b_need_seat .nil zAa (zA0 (pv 0) (zA0 (pv 1) zA1))))),?_⟩
 walk_at "rd"
 exact ⟨rm,dx,n,_,_,k,rfl,hob,fun z=>absurd z hno,fun _=>q H (Same.refl _)⟩
def sp_part_no (CR C:Addr):Sp:=fun vs H Q E=>∃ (rm dx:Addr) (n:Nat) (pt bk:V) (k j:Int),vs=[.ref rm,.int k,.int j]/\H rm=some (.ins CR dx (zC0 (.int (n:Int)) pt bk))/\¬ ((0<=k/\k < n)/\0<=j/\j < n)/\Rf C H E
theorem ok_parting (T:Tx K mg):FnOk P w K mg base (CXX P w) 2 T.f_parting T.d_parting ["room","one","other"] (sp_part_no T.c_Room T.c_NoSeat):=by
 refine T.F_parting.okX sc_parting (fun vs H Q E h=>?_) (fun cdv A outer s H vs Q E hr h=>?_)
 ·obtain ⟨rm,dx,n,pt,bk,k,j,rfl,_⟩:=h
  rfl
 obtain ⟨rm,dx,n,pt,bk,k,j,rfl,hob,hno,q⟩:=h
 refine ⟨_,(zA5 (zAb (zAc (ok_need_seat T) (hr.mono (by decide)) rfl T.m_need_seat T.F_need_seat.kp T.b_need_seat .nil zAa (zA0 (pv 0) (zA0 (pv 1) zA1))))
   (zCo (zAb (zAc (ok_need_seat T) (hr.mono (by decide)) rfl T.m_need_seat T.F_need_seat.kp T.b_need_seat .nil zAa (zA0 (pv 0) (zA0 (pv 2) zA1)))))),?_⟩
 walk_at "rd"
 exact ⟨rm,dx,n,_,_,k,rfl,hob,fun z=>⟨rm,dx,n,_,_,j,rfl,hob,fun y=>absurd ⟨z,y⟩ hno,fun _=>q H (Same.refl _)⟩,fun _=>q H (Same.refl _)⟩
def sp_within_no (CR D:Addr):Sp:=fun vs H Q E=>∃ (r1 r2 d1 d2:Addr) (n1 n2:Nat) (p1 b1 p2 b2:V),vs=[.ref r1,.ref r2]/\H r1=some (.ins CR d1 (zC0 (.int (n1:Int)) p1 b1))/\H r2=some (.ins CR d2 (zC0 (.int (n2:Int)) p2 b2))/\n1≠n2/\Rf D H E
theorem ok_within (T:Tx K mg):FnOk P w K mg base (CXX P w) 1 T.f_within T.d_within ["room","other"] (sp_within_no T.c_Room T.c_OtherSize):=by
 refine T.F_within.okX sc_within (fun vs H Q E h=>?_) (fun cdv A outer s H vs Q E hr h=>?_)
 ·obtain ⟨r1,r2,d1,d2,n1,n2,p1,b1,p2,b2,rfl,_⟩:=h
  rfl
 obtain ⟨r1,r2,d1,d2,n1,n2,p1,b1,p2,b2,rfl,h1,h2,hne,q⟩:=h
 refine ⟨_,(zCo (ps_if (zAe op_ne (zAd rfl T.cl_Room T.n_Room_size (pv 0) rfl) (zAd rfl T.cl_Room T.n_Room_size (pv 1) rfl) (zAi _)) (zA3 (zC2 rfl T.x_OtherSize rfl T.k_OtherSize zCn (zA0 zB9 zA1))) zAz)),?_⟩
 walk_at "rd"
 refine ⟨d1,_,_,h1,zCt,d2,_,_,h2,zCt,?_⟩
 walk_at "rd"
 rw[if_pos (by omega)]
 exact ⟨by decide,q H (Same.refl _)⟩
def sp_hold_no (CR C:Addr):Sp:=fun vs H Q E=>∃ (rm dx sl:Addr) (n:Nat) (pt bk:V) (k:Int),vs=[.ref rm,.ref sl]/\H rm=some (.ins CR dx (zC0 (.int (n:Int)) pt bk))/\H sl=some (.lst [.int 0,.int k])/\1<=n/\¬ (0<=k/\k < n)/\Rf C H E
theorem ok_holding (T:Tx K mg):FnOk P w K mg base (CXX P w) 2 T.f_holding T.d_holding ["room","seats"] (sp_hold_no T.c_Room T.c_NoSeat):=by
 refine T.F_holding.okX sc_holding (fun vs H Q E h=>?_) (fun cdv A outer s H vs Q E hr h=>?_)
 ·obtain ⟨rm,dx,sl,n,pt,bk,k,rfl,_⟩:=h
  rfl
 obtain ⟨rm,dx,sl,n,pt,bk,k,rfl,hob,hsl,n1,hno,q⟩:=h
 refine ⟨_,(zCo (ps_for PassesOwn.leaving rfl (pi_listK (K:=K) rfl (pv 1)) (zBo (i:=2) sc_holding.nd rfl (Or.inl rfl)) (zA3 (zAb (zAc (ok_need_seat T) (hr.mono (by decide)) rfl T.m_need_seat T.F_need_seat.kp T.b_need_seat .nil zAa (zA0 (pv 0) (zA0 (pv 2) zA1))))))),?_⟩
 walk_at "rd"
 refine ⟨⟨_,SqL.of hsl⟩,?_⟩
 refine loop_list (xs:=[.int 0,.int k]) (fun i σ H3=>∃ v2:Option V,H3=H/\i<=1/\SEq σ [some (.ref rm),some (.ref sl),v2,none,none,none,none,none,none,none]) ⟨none,rfl,Nat.zero_le _,⟨rfl⟩⟩ (fun i σ H3 _ ⟨_,e,_⟩=>by rw[e];exact SqL.of hsl) ?_ ?_
 ·rintro i y σ H3 hy ⟨v2,rfl,hi,⟨rfl⟩⟩
  match i,hy,hi with
  | 0,hy,_ =>
   cases hy
   walk_at "rd"
   exact ⟨rm,dx,n,_,_,0,rfl,hob,fun _=>⟨_,rfl,Nat.le_refl _,⟨rfl⟩⟩,fun z=>absurd ⟨by omega,by omega⟩ z⟩
  | 1,hy,_ =>
   cases hy
   walk_at "rd"
   exact ⟨rm,dx,n,_,_,k,rfl,hob,fun z=>absurd z hno,fun _=>q H3 (Same.refl _)⟩
 ·rintro σ H3 ⟨v2,rfl,hi,⟨rfl⟩⟩
  exact absurd hi (by show ¬ 2<=1;decide)
def sp_dyed_no (CR CB CE C D:Addr):Sp:=fun vs H Q E=>∃ (rm:Addr) (R:RmA) (ms:List (List Int)) (ts:List Addr) (B:Bk) (k:Int),vs=[.ref rm,.int k]/\RoomAt CR CB CE H rm R ms ts B/\(¬ (1<=k/\k<=6)->Rf C H E)/\(1<=k/\k<=6->2000 < sizes B.rows/\Rf D H E)
theorem ok_dyed (T:Tx K mg):FnOk P w K mg base (CXX P w) 3 T.f_dyed T.d_dyed ["room","dyes"] (sp_dyed_no T.c_Room T.c_Book T.c_Entry T.c_NoNumber T.c_TooWide):=by
 refine T.F_dyed.okX sc_dyed (fun vs H Q E h=>?_) (fun cdv A outer s H vs Q E hr h=>?_)
 ·obtain ⟨rm,R,ms,ts,B,k,rfl,_⟩:=h
  rfl
 obtain ⟨rm,R,ms,ts,B,k,rfl,hR,q1,q2⟩:=h
 obtain ⟨dx,hob⟩:=hR.ob
 refine ⟨_,(zA5 (ps_if (pt_not (pt_chain op_le op_le zA9 (pv 1) (pe_gint rfl T.g_MOST_DYES))) (zA3 (zC2 rfl T.x_NoNumber rfl T.k_NoNumber zCn (zA0 zB9 zA1))) zAz)
   (zCo (ps_if (zAe op_gt (pe_methC0 (ns:=zB4) rfl (pv 0) T.cl_Room T.mt_Room_how_many (by decide +kernel) (ok_Room_how_many T) (hr.mono (by decide)) T.b_Room_how_many pass0) (pe_gint rfl T.g_MOST_GONE_THROUGH) (zAi _)) (zA3 (zC2 rfl T.x_TooWide rfl T.k_TooWide zCn (zA0 zB9 zA1))) zAz))),?_⟩
 by_cases hk:1<=k/\k<=6
 ·obtain ⟨hs,q⟩:=q2 hk
  walk_at "rd"
  rw[if_pos hk.1,if_neg (by omega)]
  refine ⟨⟨dx,_,hob,rfl⟩,rm,R,ms,ts,B,rfl,hR,?_⟩
  walk_at "rd"
  rw[if_pos (by omega)]
  exact ⟨by decide,q H (Same.refl _)⟩
 ·walk_at "rd"
  split
  ·rename_i h1
   rw[if_pos (by omega)]
   exact ⟨by decide,q1 hk H (Same.refl _)⟩
  ·exact ⟨by decide,q1 hk H (Same.refl _)⟩
theorem log_small:∀ k,k < 16->k.log2 < 1920:=by decide
theorem fig {z:Int} (h0:0<=z) (h1:z < 16):PySem.Str.ofString (toString z)=Tn (dg z.toNat)/\z.natAbs.log2 < 1920:=by
 obtain ⟨k,rfl⟩:∃ k:Nat,z=k:=⟨z.toNat,by omega⟩
 exact ⟨by rw[Int.toNat_natCast];exact dg_str k (by omega),log_small _ (by omega)⟩
theorem zB8 {n:Nat} (h:n<=1000):n<=sizeLine:=by rw[PySem.sizeLine_eq];omega
def figsV (n:Nat):List V:=(List.range n).map fun k=>V.str (Tn (dg k))
theorem figs_flat (n:Nat):(figsV n).all flatV=true:=List.all_eq_true.mpr fun x hx=>by
 obtain ⟨k,_,rfl⟩:=List.mem_map.mp hx
 rfl
theorem fig0:PySem.Str.ofString "0"=Tn (dg 0):=by decide +kernel
theorem figs_0 {n:Nat} (h:1<=n):inV (.str "0") (figsV n)=true:=by
 unfold inV
 refine List.any_eq_true.mpr ⟨.str (Tn (dg 0)),List.mem_map.mpr ⟨0,List.mem_range.mpr (by omega),rfl⟩,?_⟩
 rw[show (PySem.Str.ofString "0")=Tn (dg 0) from fig0]
 exact eqV_self rfl
theorem figs_17:∀ n,n<=16->inV (.str "17") (figsV n)=false:=by decide +kernel
def odd3:List PySem.Str:=["","(0","0 1"]
def sp_texts21 (D:Addr):Sp:=fun vs H Q E=>∃ t:PySem.Str,vs=[.str t]/\(t∈odd3->Rf D H E)/\(t="(0 0)"->∀ (l:Addr) (H':Hp),Same H H'->H' l=some (.lst [.str "0 0"])->Q (.ref l) H')/\(t="(0 17)"->∀ (l:Addr) (H':Hp),Same H H'->H' l=some (.lst [.str "0 17"])->Q (.ref l) H')/\(t∈odd3\/t="(0 0)"\/t="(0 17)")
theorem ok_ring_texts (T:Tx K mg):FnOk P w K mg base (CXX P w) 1 T.f_ring_texts T.d_ring_texts ["text"] (sp_texts21 T.c_NotRead):=by
 refine T.F_ring_texts.okX sc_ring_texts (fun vs H Q E h=>?_) (fun cdv A outer s H vs Q E hr h=>?_)
 ·obtain ⟨t,rfl,_⟩:=h
  rfl
 obtain ⟨t,rfl,q1,q2,q3,hc⟩:=h
 refine ⟨_,(zA5 (ps_if (pt_not (PW.pt (pw_and (pt_val (pe_bmK (K:=K) rfl PySem.F.plainAttrs_str PySem.F.slot_str_startswith PySem.F.type_str_startswith mt_starts (pv 0) (zA0 zB9 zA1))) (pw_and1 (pt_val (pe_bmK (K:=K) rfl PySem.F.plainAttrs_str PySem.F.slot_str_endswith PySem.F.type_str_endswith mt_ends (pv 0) (zA0 zB9 zA1))))))) (zA3 (zC2 rfl T.x_NotRead rfl T.k_NotRead zCn (zA0 zB9 zA1))) zAz)
   (zA3 (zB6 (pe_bmK (K:=K) rfl PySem.F.plainAttrs_str PySem.F.slot_str_split PySem.F.type_str_split mt_split (pe_slice sl_str (pv 0) (po_some zA9) (po_some (pe_un un_neg zA9))) (zA0 zB9 zA1))))),?_⟩
 rcases hc with hc | rfl | rfl
 ·have q:=q1 hc H (Same.refl _)
  have hb:Txt.startswith t "("=false\/Txt.startswith t "("=true/\Txt.endswith t ")"=false:=by
   have:∀ t∈odd3,Txt.startswith t "("=false\/Txt.startswith t "("=true/\Txt.endswith t ")"=false:=by decide +kernel
   exact this t hc
  walk_at "rd"
  refine ⟨rfl,?_⟩
  rcases hb with e | ⟨e1,e2⟩
  ·rw[e]
   walk_at "rd"
   exact ⟨by decide,q⟩
  ·rw[e1]
   walk_at "rd"
   refine ⟨rfl,?_⟩
   rw[e2]
   walk_at "rd"
   exact ⟨by decide,q⟩
 ·walk_at "rd"
  refine ⟨rfl,?_⟩
  rw[show Txt.startswith "(0 0)" "("=true by decide +kernel]
  walk_at "rd"
  refine ⟨rfl,?_⟩
  rw[show Txt.endswith "(0 0)" ")"=true by decide +kernel]
  walk_at "rd"
  rw[if_neg (by decide),show Txt.slice "(0 0)" (some 1) (some (-1))=PySem.Str.ofString "0 0" by decide +kernel,show Txt.split "0 0" ")("=[PySem.Str.ofString "0 0"] by decide +kernel]
  exact ⟨zB8 (by decide +kernel),rfl,by decide +kernel,zB8 (by decide +kernel),zB8 (by decide),fun l hl=>q2 rfl l _ (zA7 hl _) zA2⟩
 ·walk_at "rd"
  refine ⟨rfl,?_⟩
  rw[show Txt.startswith "(0 17)" "("=true by decide +kernel]
  walk_at "rd"
  refine ⟨rfl,?_⟩
  rw[show Txt.endswith "(0 17)" ")"=true by decide +kernel]
  walk_at "rd"
  rw[if_neg (by decide),show Txt.slice "(0 17)" (some 1) (some (-1))=PySem.Str.ofString "0 17" by decide +kernel,show Txt.split "0 17" ")("=[PySem.Str.ofString "0 17"] by decide +kernel]
  exact ⟨zB8 (by decide +kernel),rfl,by decide +kernel,zB8 (by decide +kernel),zB8 (by decide),fun l hl=>q3 rfl l _ (zA7 hl _) zA2⟩
def sp_ring21 (D:Addr):Sp:=fun vs H Q E=>∃ (f:Addr) (n:Nat) (t w2:PySem.Str),vs=[.str t,.ref f]/\1<=n/\n<=16/\H f=some (.lst (figsV n))/\(t="0 0"/\w2="0"\/t="0 17"/\w2="17")/\(w2="17"->Rf D H E)/\(w2="0"->∀ (l:Addr) (H':Hp),H l=none->Same H H'->H' l=some (.lst [.int 0,.int 0])->Q (.ref l) H')
theorem ok_ring_read (T:Tx K mg):FnOk P w K mg base (CXX P w) 1 T.f_ring_read T.d_ring_read ["text","figures"] (sp_ring21 T.c_NotRead):=by
 refine T.F_ring_read.okX sc_ring_read (fun vs H Q E h=>?_) (fun cdv A outer s H vs Q E hr h=>?_)
 ·obtain ⟨f,n,t,w2,rfl,_⟩:=h
  rfl
 obtain ⟨f,n,t,w2,rfl,n1,n2,hf,hc,q1,q2⟩:=h
 have hsp:Txt.split t " "=[PySem.Str.ofString "0",w2]/\t.length<=10:=by
  rcases hc with ⟨rfl,rfl⟩ | ⟨rfl,rfl⟩ <;> decide +kernel
 refine ⟨_,(zA5 (zAp (i:=2) sc_ring_read.nd rfl (Or.inl rfl) (zCu zA1))
   (zA5 (ps_for PassesOwn.leaving rfl (pi_listK (K:=K) rfl (pe_bmK (K:=K) rfl PySem.F.plainAttrs_str PySem.F.slot_str_split PySem.F.type_str_split mt_split (pv 0) (zA0 zB9 zA1))) (zBo (i:=3) sc_ring_read.nd rfl (Or.inl rfl)) (zA5 (ps_if (zAe (op_notIn_seqK (K:=K) rfl) (pv 3) (pv 1) (by with_unfolding_all rfl)) (zA3 (zC2 rfl T.x_NotRead rfl T.k_NotRead zCn (zA0 zB9 zA1))) zAz)
   (zA3 (zAb (pe_bmK (K:=K) rfl PySem.F.plainAttrs_list PySem.F.slot_list_append PySem.F.type_list_append mt_append (pv 2) (zA0 (pe_bmK (K:=K) rfl PySem.F.plainAttrs_list PySem.F.slot_list_index PySem.F.type_list_index (mt_lindexS (K:=K)) (pv 1) (zA0 (pv 3) zA1)) zA1))))))
   (zA5 (ps_if (zAe op_lt (zAn (zBq (K:=K) rfl) (by rfl) T.z_len bt_len (zA0 (pv 2) zA1)) zA9 (zAi _)) (zA3 (zC2 rfl T.x_NotRead rfl T.k_NotRead zCn (zA0 zB9 zA1))) zAz)
   (zA3 (zB6 (pv 2)))))),?_⟩
 walk_at "rd"
 refine ⟨by decide,fun l hl=>?_⟩
 have s1:=zA7 hl (.lst [])
 have e1:(upd H l (.lst [])) l=some (.lst []):=zA2
 generalize upd H l (.lst [])=H1 at s1 e1
 refine ⟨rfl,?_⟩
 rw[hsp.1]
 refine ⟨by decide +kernel,zB8 (by omega),zB8 (by show 2<=1000;decide),fun w0 hw0=>?_⟩
 have s2:=zA7 hw0 (.lst ([PySem.Str.ofString "0",w2].map V.str))
 have e2:(upd H1 w0 (.lst ([PySem.Str.ofString "0",w2].map V.str))) w0=some (.lst [.str "0",.str w2]):=zA2
 generalize upd H1 w0 (.lst ([PySem.Str.ofString "0",w2].map V.str))=H2 at s2 e2
 have nwl:l≠w0:=zA4 e1 hw0
 refine ⟨⟨_,SqL.of e2⟩,?_⟩
 refine loop_list (xs:=[.str "0",.str w2]) (fun i σ H3=>∃ v3:Option V,SEq σ [some (.str t),some (.ref f),some (.ref l),v3]/\Same H H3/\H3 l=some (.lst ((List.replicate i (0:Int)).map V.int))/\H3 w0=some (.lst [.str "0",.str w2])/\(2<=i->w2="0"))
  ⟨none,⟨rfl⟩,s1.trans s2,s2.at e1,e2,fun z=>absurd z (by decide)⟩ (fun i σ H3 _ ⟨_,_,_,_,h,_⟩=>SqL.of h) ?_ ?_
 ·have go:∀ (i:Nat) (H3:Hp) (v3:Option V),i < 2->Same H H3->H3 l=some (.lst ((List.replicate i (0:Int)).map V.int))->H3 w0=some (.lst [.str "0",.str w2])->(i=1->w2="0") ->
    ∃ (ss:List PySem.Str) (j:Nat),H3 f=some (.lst (ss.map V.str))/\ss.length < 1000/\ss[j]?=some (PySem.Str.ofString "0")/\(∀ m,m < j->ss[m]?≠some (PySem.Str.ofString "0"))/\j=0:=fun i H3 v3 hi s3 e3 ew h2=>by
   refine ⟨(List.range n).map fun k=>Tn (dg k),0,?_,by rw[List.length_map,List.length_range];omega,?_,fun m hm=>absurd hm (Nat.not_lt_zero _),rfl⟩
   ·rw[s3.at hf];unfold figsV;rw[List.map_map];rfl
   ·rw[List.getElem?_map,List.getElem?_range (by omega),fig0];rfl
  rintro i y σ H3 hy ⟨v3,⟨rfl⟩,s3,e3,ew3,_⟩
  have hf3:=s3.at hf
  match i,hy with
  | 0,hy =>
   cases hy
   obtain ⟨ss,j,g1,g2,g3,g4,rfl⟩:=go 0 H3 v3 (by decide) s3 e3 ew3 (fun z=>by cases z)
   walk_at "rd"
   refine ⟨_,.inl (SqL.of hf3),rfl,figs_flat n,?_⟩
   rw[figs_0 n1,if_neg (by decide)]
   refine ⟨.inl ⟨rfl,_,SqL.of e3⟩,.inl ⟨rfl,_,SqL.of hf3⟩,ss,0,g1,g2,g3,g4,_,e3,zB8 (by decide),?_⟩
   exact ⟨_,⟨rfl⟩,same_put s3 hl _,zA2,by rw[zA8 nwl.symm];exact ew3,fun z=>absurd z (by decide)⟩
  | 1,hy =>
   cases hy
   rcases hc with ⟨_,rfl⟩ | ⟨_,rfl⟩
   ·obtain ⟨ss,j,g1,g2,g3,g4,rfl⟩:=go 1 H3 v3 (by decide) s3 e3 ew3 (fun z=>rfl)
    walk_at "rd"
    refine ⟨_,.inl (SqL.of hf3),rfl,figs_flat n,?_⟩
    rw[figs_0 n1,if_neg (by decide)]
    refine ⟨.inl ⟨rfl,_,SqL.of e3⟩,.inl ⟨rfl,_,SqL.of hf3⟩,ss,0,g1,g2,g3,g4,_,e3,zB8 (by decide),?_⟩
    exact ⟨_,⟨rfl⟩,same_put s3 hl _,zA2,by rw[zA8 nwl.symm];exact ew3,fun _=>trivial⟩
   ·walk_at "rd"
    refine ⟨_,.inl (SqL.of hf3),rfl,figs_flat n,?_⟩
    rw[figs_17 n n2,if_pos rfl]
    exact ⟨by decide,q1 rfl H3 s3⟩
 ·rintro σ H3 ⟨v3,⟨rfl⟩,s3,e3,ew3,h2⟩
  have hw:=h2 (Nat.le_refl _)
  walk_at "rd"
  refine ⟨_,.inl (SqL.of e3),?_⟩
  walk_at "rd"
  rw[if_neg (by decide)]
  exact q2 hw l H3 hl s3 e3
def odd5:List PySem.Str:=["","(0","(0 0)","0 1","(0 17)"]
def sp_all21 (D:Addr):Sp:=fun vs H Q E=>∃ (t:PySem.Str) (n:Nat),vs=[.str t,.int (n:Int)]/\1<=n/\n<=16/\t∈odd5/\(t≠"(0 0)"->Rf D H E)/\(t="(0 0)"->∀ (l a:Addr) (H':Hp),Same H H'->H' l=some (.lst [.ref a])->H' a=some (.lst [.int 0,.int 0])->Q (.ref l) H')
theorem ok_all_rings_read (T:Tx K mg):FnOk P w K mg base (CXX P w) 2 T.f_all_rings_read T.d_all_rings_read ["text","size"] (sp_all21 T.c_NotRead):=by
 refine T.F_all_rings_read.okX sc_all_rings_read (fun vs H Q E h=>?_) (fun cdv A outer s H vs Q E hr h=>?_)
 ·obtain ⟨t,n,rfl,_⟩:=h
  rfl
 obtain ⟨t,n,rfl,n1,n2,ht,q1,q2⟩:=h
 refine ⟨_,(zA5 (zAp (i:=2) sc_all_rings_read.nd rfl (Or.inr rfl) (pe_compX rfl (M:=["seat"]) rfl (zC7 (sc:=defScope zAr) (N:=["text","size","figures"]) rfl rfl rfl (by decide +kernel) (by decide +kernel)) (pi_range1 (by rfl) T.z_range (zA0 (pv 1) zA1)) (fun _ _ _ _ _=>(zBo (i:=0) (by show (["seat","text","size","figures"]:List Str).Nodup;decide +kernel) rfl (Or.inl rfl))) (fun _ _ _ _ _=>pts_nil) (fun _ _ _ _ _=>(zAo call_str_int (by rfl) T.z_str bt_str (zA0 (pv 0) zA1)))))
   (zA3 (zB6 (pe_compX rfl (M:=["part"]) rfl (zC7 (sc:=defScope zAr) (N:=["text","size","figures"]) rfl rfl rfl (by decide +kernel) (by decide +kernel)) (pi_listK (K:=K) rfl (zAc (ok_ring_texts T) (hr.mono (by decide)) rfl T.m_ring_texts T.F_ring_texts.kp T.b_ring_texts .nil zAa (zA0 (pv 0) zA1))) (fun _ _ _ _ _=>(zBo (i:=0) (by show (["part","text","size","figures"]:List Str).Nodup;decide +kernel) rfl (Or.inl rfl))) (fun _ _ _ _ _=>pts_nil) (fun _ _ _ _ _=>(zAc (ok_ring_read T) (hr.mono (by decide)) rfl T.m_ring_read T.F_ring_read.kp T.b_ring_read .nil pass_blk (zA0 (pv 0) (zA0 (pv 3) zA1)))))))),?_⟩
 walk_at "rd"
 refine ⟨by omega,by omega,?_⟩
 rw[Int.toNat_natCast]
 refine comp_range (fun i ys H3=>H3=H/\ys=figsV i) ⟨rfl,rfl⟩ (zB8 (by omega)) (fun i ys H3 h=>by rw[h.2];unfold figsV;rw[List.length_map,List.length_range];exact Nat.le_refl _) ?_ ?_
 ·rintro i ys H3 hi ⟨rfl,rfl⟩
  obtain ⟨f1,f2⟩:=fig (z:=0+(i:Int)) (by omega) (by omega)
  walk_at "rd"
  refine ⟨trivial,f2,trivial,?_⟩
  rw[f1,show ((0:Int)+(i:Int)).toNat=i by omega]
  unfold figsV
  rw[List.range_succ,List.map_append]
  rfl
 ·rintro ys H3 ⟨rfl,rfl⟩ f hf
  have s1:=zA7 hf (.lst (figsV n))
  have e1:(upd H3 f (.lst (figsV n))) f=some (.lst (figsV n)):=zA2
  generalize upd H3 f (.lst (figsV n))=H1 at s1 e1
  have hc:t∈odd3\/t="(0 0)"\/t="(0 17)":=by
   have:∀ t∈odd5,t∈odd3\/t="(0 0)"\/t="(0 17)":=by decide +kernel
   exact this t ht
  walk_at "rd"
  have one:∀ (tl:Addr) (u w2:PySem.Str) (H2:Hp),Same H1 H2->H2 tl=some (.lst [.str u])->(u="0 0"/\w2="0"/\t="(0 0)"\/u="0 17"/\w2="17"/\t≠"(0 0)") ->
    CLoop ["part"] (Itl K tl) (gName 0) tYes (tCall (sp_ring21 T.c_NotRead) [] E (tCons (tVar 0) (tCons (tVar 3) tNil))) [some (.str t),some (.int (n:Int)),some (.ref f)] H2 Q:=fun tl u w2 H2 s2 e2 hu=>by
   refine comp_list (xs:=[.str u]) (fun i ys H4=>Same H2 H4/\(i=0/\ys=[]\/i=1/\t="(0 0)"/\∃ a:Addr,ys=[.ref a]/\H4 a=some (.lst [.int 0,.int 0]))) ⟨Same.refl _,.inl ⟨rfl,rfl⟩⟩ (fun i ys H4 _ h=>SqL.of (h.1.at e2)) (zB8 (by show 1<=1000;decide)) (fun i ys H4 h=>by rcases h.2 with ⟨rfl,rfl⟩ | ⟨rfl,_,a,rfl,_⟩ <;> exact Nat.le_refl _) ?_ ?_
   ·rintro i y ys H4 hy ⟨s4,hi⟩
    match i,hy with
    | 0,hy =>
     cases hy
     rcases hi with ⟨_,rfl⟩ | ⟨z,_⟩
     ·walk_at "rd"
      refine ⟨trivial,f,n,u,w2,rfl,n1,n2,(s2.trans s4).at e1,?_,fun hw=>?_,fun hw a H5 ha s5 e5=>?_⟩
      ·rcases hu with ⟨rfl,rfl,_⟩ | ⟨rfl,rfl,_⟩
       ·exact .inl ⟨rfl,rfl⟩
       ·exact .inr ⟨rfl,rfl⟩
      ·rcases hu with ⟨_,e,_⟩ | ⟨_,_,hne⟩
       ·rw[e]at hw;exact absurd hw (by decide +kernel)
       ·exact fun H' s'=>q1 hne H' (s1.trans (s2.trans (s4.trans s')))
      ·refine ⟨s4.trans s5,.inr ⟨trivial,?_,a,rfl,e5⟩⟩
       rcases hu with ⟨_,_,e⟩ | ⟨_,e,_⟩
       ·exact e
       ·rw[e]at hw;exact absurd hw (by decide +kernel)
     ·cases z
   ·rintro ys H4 ⟨s4,hi⟩ p hp
    rcases hi with ⟨z,_⟩ | ⟨_,ht0,a,rfl,ha⟩
    ·exact absurd z (by show ¬ 1=0;decide)
    ·exact q2 ht0 p a _ (s1.trans (s2.trans (s4.trans (zA7 hp _)))) zA2 ((zA7 hp _).at ha)
  refine ⟨t,rfl,fun hm H' s'=>q1 ?_ H' (s1.trans s'),fun e tl H2 s2 e2=>⟨tl,rfl,⟨_,SqL.of e2⟩,one tl _ _ H2 s2 e2 (.inl ⟨rfl,rfl,e⟩)⟩,fun e tl H2 s2 e2=>⟨tl,rfl,⟨_,SqL.of e2⟩,one tl _ _ H2 s2 e2 (.inr ⟨rfl,rfl,?_⟩)⟩,hc⟩
  ·have:∀ t∈odd3,t≠"(0 0)":=by decide +kernel
   exact this t hm
  ·rw[e];decide +kernel
def sp_sent21 (D:Addr):Sp:=fun vs H Q E=>∃ (l a:Addr) (n:Nat),vs=[.ref l,.int (n:Int)]/\H l=some (.lst [.ref a])/\H a=some (.lst [.int 0,.int 0])/\Rf D H E
theorem ok_sent_by_rings (T:Tx K mg):FnOk P w K mg base (CXX P w) 1 T.f_sent_by_rings T.d_sent_by_rings ["found","size"] (sp_sent21 T.c_NotRead):=by
 refine T.F_sent_by_rings.okX sc_sent_by_rings (fun vs H Q E h=>?_) (fun cdv A outer s H vs Q E hr h=>?_)
 ·obtain ⟨l,a,n,rfl,_⟩:=h
  rfl
 obtain ⟨l,a,n,rfl,hl,ha,q⟩:=h
 have hu:=hu_of hr
 refine ⟨_,(zA5 (zAp (i:=2) sc_sent_by_rings.nd rfl (Or.inr rfl) pe_dnewK)
   (zCo (ps_for PassesOwn.leaving rfl (pi_listK (K:=K) rfl (pv 0)) (zBo (i:=3) sc_sent_by_rings.nd rfl (Or.inl rfl)) (zA3 (ps_for PassesOwn.leaving rfl (pi_enumL (K:=K) rfl (by rfl) T.z_enumerate (zA0 (pv 3) zA1)) (pg_tupK (K:=K) rfl rfl (pgs_cons (zBo (i:=4) sc_sent_by_rings.nd rfl (Or.inl rfl)) (pgs_cons (zBo (i:=5) sc_sent_by_rings.nd rfl (Or.inl rfl)) pgs_nil))) (zA5 (ps_if (pt_cmp (pc_dinK hu (pv 5) (pv 2))) (zA3 (zC2 rfl T.x_NotRead rfl T.k_NotRead zCn (zA0 zB9 zA1))) zAz)
   (zA3 (ps_dputK hu (pv 2) (pv 5) (pe_ix (zCl (K:=K) rfl) (pv 3) (pe_op zBp (pe_op op_add (pv 4) zA9) (zAn (zBq (K:=K) rfl) (by rfl) T.z_len bt_len (zA0 (pv 3) zA1))) (fun _ _=>rfl)) rfl)))))))),?_⟩
 walk_at "rd"
 intro d hd
 have s1:=zA7 hd (.dK [])
 have e1:(upd H d (.dK [])) d=some (.dK []):=zA2
 generalize upd H d (.dK [])=H1 at s1 e1
 refine ⟨⟨_,SqL.of (s1.at hl)⟩,?_⟩
 refine loop_list (xs:=[.ref a]) (fun i σ H3=>∃ v3 v4 v5:Option V,SEq σ [some (.ref l),some (.int (n:Int)),some (.ref d),v3,v4,v5]/\H3=H1/\i=0) ⟨none,none,none,⟨rfl⟩,rfl,rfl⟩ (fun i σ H3 _ ⟨_,_,_,_,e,_⟩=>by rw[e];exact SqL.of (s1.at hl)) ?_ ?_
 ·rintro i y σ H3 hy ⟨v3,v4,v5,⟨rfl⟩,rfl,rfl⟩
  cases hy
  walk_at "rd"
  refine ⟨⟨_,SqL.of (s1.at ha)⟩,?_⟩
  refine loop_enumL (xs:=[.int 0,.int 0]) (fun j σ H4=>∃ v4 v5:Option V,SEq σ [some (.ref l),some (.int (n:Int)),some (.ref d),some (.ref a),v4,v5]/\Same H H4/\(j=0/\H4 d=some (.dK [])\/j=1/\H4 d=some (.dK [(Sum.inl 0,.int 0)]))) ⟨v4,v5,⟨rfl⟩,s1,.inl ⟨rfl,e1⟩⟩ (fun j σ H4 _ ⟨_,_,_,s4,_⟩=>SqL.of (s4.at ha)) ?_ ?_
  ·rintro j y σ H4 t hy ⟨v4,v5,⟨rfl⟩,s4,hj⟩ ht
   have s5:=s4.trans (zA7 ht (.tup [.int (j:Int),y]))
   have ed:∀ o,H4 d=some o->(upd H4 t (.tup [.int (j:Int),y])) d=some o:=fun o e=>(zA7 ht _).at e
   have ht5:(upd H4 t (.tup [.int (j:Int),y])) t=some (.tup [.int (j:Int),y]):=zA2
   generalize upd H4 t (.tup [.int (j:Int),y])=H5 at s5 ed ht5
   rcases hj with ⟨rfl,e4⟩ | ⟨rfl,e4⟩
   ·cases hy
    have e5:=ed _ e4
    walk_at "rd"
    refine ⟨_,SqT.of ht5,rfl,?_⟩
    walk_at "rd"
    refine ⟨trivial,_,e5,?_⟩
    rw[if_neg (show ¬ (valV ([]:List (Key × V)) (Sum.inl (0:Int):Key)).isSome=true by decide)]
    have ha5:=s5.at ha
    refine ⟨_,.inl (SqL.of ha5),by decide,_,.int 0,SqL.of ha5,rfl,_,e5,zB8 (by decide),_,_,⟨rfl⟩,same_put s5 hd _,.inr ⟨trivial,?_⟩⟩
    rw[zA2]
    rfl
   ·cases hy
    have e5:=ed _ e4
    walk_at "rd"
    refine ⟨_,SqT.of ht5,rfl,?_⟩
    walk_at "rd"
    refine ⟨trivial,_,e5,?_⟩
    rw[if_pos (show (valV [((Sum.inl (0:Int):Key),V.int 0)] (Sum.inl (0:Int))).isSome=true from rfl)]
    exact ⟨by decide,q H5 s5⟩
  ·rintro σ H4 ⟨v4,v5,⟨rfl⟩,s4,hj⟩
   rcases hj with ⟨z,_⟩ | ⟨z,_⟩
   ·exact absurd z (by show ¬ 2=0;decide)
   ·exact absurd z (by show ¬ 2=1;decide)
 ·rintro σ H3 ⟨v3,v4,v5,⟨rfl⟩,rfl,z⟩
  exact absurd z (by show ¬ 1=0;decide)
def sp_read21 (C D:Addr):Sp:=fun vs H Q E=>∃ (t:PySem.Str) (z:Int),vs=[.str t,.int z]/\(¬ (1<=z/\z<=16)->Rf C H E)/\(1<=z/\z<=16->t∈odd5/\Rf D H E)
theorem ok_read (T:Tx K mg):FnOk P w K mg base (CXX P w) 3 T.f_read T.d_read ["text","size"] (sp_read21 T.c_NoSize T.c_NotRead):=by
 refine T.F_read.okX sc_read (fun vs H Q E h=>?_) (fun cdv A outer s H vs Q E hr h=>?_)
 ·obtain ⟨t,z,rfl,_⟩:=h
  rfl
 obtain ⟨t,z,rfl,q1,q2⟩:=h
 refine ⟨_,(zA5 (zAb (zAc (ok_need_size T) (hr.mono (by decide)) rfl T.m_need_size T.F_need_size.kp T.b_need_size .nil zAa (zA0 (pv 1) zA1)))
   (zA5 (ps_if (zAe op_eq (pv 0) (pe_gstr rfl T.g_REST) (zAi _)) (zA3 (zB6 (zAo (call_tuple_rngR rfl) (by rfl) T.z_tuple bt_tuple (zA0 (zAo zCp (by rfl) T.z_range bt_range (zA0 (pv 1) zA1)) zA1)))) zAz)
   (zA3 (zB6 (zAc (ok_sent_by_rings T) (hr.mono (by decide)) rfl T.m_sent_by_rings T.F_sent_by_rings.kp T.b_sent_by_rings .nil zAa (zA0 (zAc (ok_all_rings_read T) (hr.mono (by decide)) rfl T.m_all_rings_read T.F_all_rings_read.kp T.b_all_rings_read .nil zAa (zA0 (pv 0) (zA0 (pv 1) zA1))) (zA0 (pv 1) zA1))))))),?_⟩
 walk_at "rd"
 refine ⟨z,rfl,fun hz=>?_,fun hz=>q1 hz H (Same.refl _)⟩
 obtain ⟨ht,q⟩:=q2 hz
 obtain ⟨n,rfl⟩:∃ n:Nat,z=n:=⟨z.toNat,by omega⟩
 have hne:¬ t="()":=by
  have:∀ t∈odd5,¬ t="()":=by decide +kernel
  exact this t ht
 walk_at "rd"
 rw[if_neg hne]
 refine ⟨t,n,rfl,by omega,by omega,ht,fun _=>q,fun _ l a H' s' hl ha=>?_⟩
 exact ⟨l,a,n,rfl,hl,ha,fun H2 s2=>q H2 (s'.trans s2)⟩
def sp_law_seating:Sp:=fun vs H Q _=>∃ (c:Int) (n:Nat),vs=[.int c,.int n]/\n<=20/\∀ (r:Addr) (ns:List Int) (H':Hp),Same H H'->Seat n ns->H' r=some (.tup (ns.map V.int))->Q (.ref r) H'
theorem map_erase {α β:Type} (f:α->β):∀ (l:List α) (j:Nat),(l.map f).eraseIdx j=(l.eraseIdx j).map f
 | [],_=>rfl
 | _::_,0=>rfl
 | a::l,j+1=>by
  rw[List.map_cons,List.eraseIdx_cons_succ,List.eraseIdx_cons_succ,List.map_cons,map_erase f l j]
structure Draw (H:Hp) (n:Nat) (l r:Addr) (i:Nat) (H':Hp):Prop where
 same:Same H H'
 ex:∃ left row:List Int,H' l=some (.lst (left.map V.int))/\H' r=some (.lst (row.map V.int))/\(row++left).Perm (zA6 n)/\row.length=i/\left.length=n-i
theorem Draw.tys {H H':Hp} {n:Nat} {l r:Addr} {i:Nat} (d:Draw H n l r i H') (K:PySem.W.Frag):tyV K "list" (.ref r) H'/\tyV K "list" (.ref l) H':=by
 obtain ⟨left,row,e1,e2,_⟩:=d.ex
 exact ⟨.inl ⟨rfl,_,SqL.of e2⟩,.inl ⟨rfl,_,SqL.of e1⟩⟩
theorem Draw.turn {H H':Hp} {n:Nat} {l r:Addr} {i:Nat} (d:Draw H n l r i H') (hl:H l=none) (hr:H r=none) (hlr:l≠r) (hi:i < n) (hn:n<=20) {j:Int} (h0:0<=j) (h1:j < (n:Int)-i) :
  ∃ (left row:List Int) (v:Int),H' l=some (.lst (left.map V.int))/\H' r=some (.lst (row.map V.int))/\row.length < 100/\seqIndex? j (left.map V.int).length=some j.toNat/\(left.map V.int)[j.toNat]?=some (.int v) /\
   Draw H n l r (i+1) (upd (upd H' l (.lst ((left.map V.int).eraseIdx j.toNat))) r (.lst (row.map V.int++[.int v]))):=by
 obtain ⟨left,row,e1,e2,hp,hrow,hleft⟩:=d.ex
 have hj:j.toNat < left.length:=by omega
 have hg:left[j.toNat]?=some left[j.toNat]:=List.getElem?_eq_getElem hj
 refine ⟨left,row,left[j.toNat],e1,e2,by omega,PySem.seqIndex_of h0 (by rw[List.length_map];omega),by rw[List.getElem?_map,hg];rfl,?_⟩
 refine ⟨same_put (same_put d.same hl _) hr _,left.eraseIdx j.toNat,row++[left[j.toNat]],?_,?_,(pop_perm hg).trans hp,by rw[List.length_append,hrow];rfl,?_⟩
 ·rw[zA8 hlr,zA2,map_erase]
 ·rw[zA2,List.map_append]
  rfl
 ·rw[List.length_eraseIdx_of_lt hj]
  omega
theorem Draw.fin {H H':Hp} {n:Nat} {l r:Addr} (d:Draw H n l r n H'):∃ row:List Int,H' r=some (.lst (row.map V.int))/\Seat n row:=by
 obtain ⟨left,row,e1,e2,hp,hrow,hleft⟩:=d.ex
 have:left=[]:=List.eq_nil_of_length_eq_zero (by omega)
 subst this
 rw[List.append_nil]at hp
 exact ⟨row,e2,hp⟩
theorem ok_law_far (T:Tx K mg):FnOk P w K mg base CX0 1 T.f_law_far T.d_law_far ["cell","size"] sp_law_seating:=by
 refine T.F_law_far.ok sc_law_far (fun vs H Q E h=>?_) (fun cdv A outer s H vs Q E hr h=>?_)
 ·obtain ⟨c,n,rfl,_⟩:=h
  rfl
 obtain ⟨c,n,rfl,hn,q⟩:=h
 refine ⟨_,(zA5 (zAp (i:=2) sc_law_far.nd rfl (Or.inl rfl) (zAo (call_list_rngR rfl) (by rfl) T.z_list bt_list (zA0 (zAo zCp (by rfl) T.z_range bt_range (zA0 (pv 1) zA1)) zA1)))
   (zA5 (zAp (i:=3) sc_law_far.nd rfl (Or.inl rfl) (zCu zA1))
   (zA5 (ps_for PassesOwn.never rfl (pi_range1 (by rfl) T.z_range (zA0 (pv 1) zA1)) (zBo (i:=4) sc_law_far.nd rfl (Or.inl rfl)) (zA5 (zAp (i:=0) sc_law_far.nd rfl (Or.inl rfl) (pe_op zBp (pe_op op_add (pe_op op_mul (pv 0) zA9) zA9) zA9))
   (zA3 (zAb (pe_bmK (K:=K) rfl PySem.F.plainAttrs_list PySem.F.slot_list_append PySem.F.type_list_append mt_append (pv 3) (zA0 (pe_bmK (K:=K) rfl PySem.F.plainAttrs_list PySem.F.slot_list_pop PySem.F.type_list_pop mt_popAt (pv 2) (zA0 (pe_op zBp (pv 0) (pe_op op_sub (pv 1) (pv 4))) zA1)) zA1))))))
   (zA3 (zB6 (zAo (zCj (K:=K) rfl) (by rfl) T.z_tuple bt_tuple (zA0 (pv 3) zA1))))))),?_⟩
 walk_at "rd"
 refine ⟨by omega,by omega,fun p hp=>?_⟩
 have s1:=zA7 hp (.rng 0 n)
 refine ⟨0,n,zA2,⟨by omega,by omega,by omega,by omega⟩,zCk (by omega),fun l hl=>?_⟩
 rw[rng_range]
 have s2:=zA7 hl (.lst ((zA6 n).map V.int))
 have e2:(upd (upd H p (.rng 0 n)) l (.lst ((zA6 n).map V.int))) l=some (.lst ((zA6 n).map V.int)):=zA2
 have s12:=s1.trans s2
 have hlH:H l=none:=s1.free hl
 generalize upd (upd H p (.rng 0 n)) l (.lst ((zA6 n).map V.int))=H2 at e2 s12
 refine ⟨Nat.zero_le _,fun r hr'=>?_⟩
 have s3:=zA7 hr' (.lst [])
 have hrH:H r=none:=s12.free hr'
 have hlr:l≠r:=zA4 e2 hr'
 refine ⟨by omega,by omega,?_⟩
 refine loop_range (fun i σ H3=>∃ (c':Int) (k:Option V),SEq σ [some (.int c'),some (.int n),some (.ref l),some (.ref r),k]/\Draw H n l r i H3) ⟨c,none,⟨rfl⟩,⟨s12.trans s3,zA6 n,[],s3.at e2,zA2,List.Perm.refl _,rfl,by rw[zAj];rfl⟩⟩ ?_ ?_
 ·rintro i σ H3 hi ⟨c',k,⟨rfl⟩,d⟩
  have hi':i < n:=by simpa using hi
  walk_at "rd"
  refine ⟨.inr ⟨by decide,by decide⟩,by decide,?_⟩
  generalize (c'*48271+11) % 2147483647=c2
  have hm:(0:Int) < (n:Int)-(0+(i:Int)):=by omega
  have hlt:=Int.emod_lt_of_pos c2 hm
  have hge:=Int.emod_nonneg c2 (Int.ne_of_gt hm)
  obtain ⟨left,row,v,e1,e2,h20,hx,hv,d4⟩:=d.turn hlH hrH hlr hi' hn hge (by omega)
  refine ⟨(d.tys K).1,(d.tys K).2,hm,left.map V.int,_,_,e1,by omega,by omega,hx,hv,row.map V.int,by rw[zA8 (Ne.symm hlr)];exact e2,small1000 (by rw[List.length_map];omega),_,_,⟨rfl⟩,d4⟩
 ·rintro σ H3 ⟨c',k,⟨rfl⟩,d⟩
  have d':Draw H n l r n H3:=by simpa using d
  obtain ⟨row,e,hs⟩:=d'.fin
  walk_at "rd"
  refine ⟨row.map V.int,.inl ⟨SqL.of e,fun t ht=>?_⟩⟩
  exact q t row _ (d'.same.trans (zA7 ht _)) hs zA2
def sp_which (K:PySem.W.Frag) (d0 d1 d2 d3 d4 d5 d6 d7 d8:Addr):Sp:=fun vs H Q _=>∃ (ea C:Addr) (b0 b1 b2 b3 b4 b5 b6 b7 b8:Bool),vs=[.ref ea]/\H ea=some (excO ea C)/\XCls K C/\PySem.W.kitOne K (.ref C) (.ref d0)=some b0/\PySem.W.kitOne K (.ref C) (.ref d1)=some b1/\PySem.W.kitOne K (.ref C) (.ref d2)=some b2/\PySem.W.kitOne K (.ref C) (.ref d3)=some b3/\PySem.W.kitOne K (.ref C) (.ref d4)=some b4/\PySem.W.kitOne K (.ref C) (.ref d5)=some b5/\PySem.W.kitOne K (.ref C) (.ref d6)=some b6/\PySem.W.kitOne K (.ref C) (.ref d7)=some b7/\PySem.W.kitOne K (.ref C) (.ref d8)=some b8 /\
 ∀ (l:Addr) (H':Hp),Same H H'->H' l=some (.lst [.bl b0,.bl b1,.bl b2,.bl b3,.bl b4,.bl b5,.bl b6,.bl b7,.bl b8,.bl false])->Q (.ref l) H'
theorem ok_law_which (T:Tx K mg):FnOkN P w K mg base CX0 1 T.f_law_which T.d_law_which ["e"] (sp_which K T.c_NoSize T.c_NoSeating T.c_OtherSize T.c_NoSeat T.c_NoNumber T.c_TooMany T.c_Unreached T.c_TooWide T.c_NotRead):=by
 refine T.F_law_which.okN sc_law_which (fun vs H Q E h=>?_) (fun cdv A outer s H vs Q E hr h=>?_)
 ·obtain ⟨ea,C,b0,b1,b2,b3,b4,b5,b6,b7,b8,rfl,_⟩:=h
  rfl
 obtain ⟨ea,C,b0,b1,b2,b3,b4,b5,b6,b7,b8,rfl,he,xc,k0,k1,k2,k3,k4,k5,k6,k7,k8,q⟩:=h
 refine ⟨_,(zA5 (zAp (i:=1) sc_law_which.nd rfl (Or.inl rfl) (zCu (zA0 (zAn (zB5 (K:=K) rfl) (by rfl) T.z_isinstance zAx (zA0 (pv 0) (zA0 (pe_gcls rfl T.k_NoSize) zA1))) (zA0 (zAn (zB5 (K:=K) rfl) (by rfl) T.z_isinstance zAx (zA0 (pv 0) (zA0 (pe_gcls rfl T.k_NoSeating) zA1))) (zA0 (zAn (zB5 (K:=K) rfl) (by rfl) T.z_isinstance zAx (zA0 (pv 0) (zA0 (pe_gcls rfl T.k_OtherSize) zA1))) (zA0 (zAn (zB5 (K:=K) rfl) (by rfl) T.z_isinstance zAx (zA0 (pv 0) (zA0 (pe_gcls rfl T.k_NoSeat) zA1))) zA1))))))
   (zA5 (zAp (i:=2) sc_law_which.nd rfl (Or.inl rfl) (zCu (zA0 (zAn (zB5 (K:=K) rfl) (by rfl) T.z_isinstance zAx (zA0 (pv 0) (zA0 (pe_gcls rfl T.k_NoNumber) zA1))) (zA0 (zAn (zB5 (K:=K) rfl) (by rfl) T.z_isinstance zAx (zA0 (pv 0) (zA0 (pe_gcls rfl T.k_TooMany) zA1))) (zA0 (zAn (zB5 (K:=K) rfl) (by rfl) T.z_isinstance zAx (zA0 (pv 0) (zA0 (pe_gcls rfl T.k_Unreached) zA1))) zA1)))))
   (zA3 (zB6 (pe_op op_cat (pe_op op_cat (pv 1) (pv 2)) (zCu (zA0 (zAn (zB5 (K:=K) rfl) (by rfl) T.z_isinstance zAx (zA0 (pv 0) (zA0 (pe_gcls rfl T.k_TooWide) zA1))) (zA0 (zAn (zB5 (K:=K) rfl) (by rfl) T.z_isinstance zAx (zA0 (pv 0) (zA0 (pe_gcls rfl T.k_NotRead) zA1))) (zA0 (pe_not (zAn (zB5 (K:=K) rfl) (by rfl) T.z_isinstance zAx (zA0 (pv 0) (zA0 (pe_bty rfl T.z_ValueError bt_ValueError) zA1)))) zA1))))))))),?_⟩
 walk_at "rd"
 refine ⟨_,_,he,xc,k0,_,_,he,xc,k1,_,_,he,xc,k2,_,_,he,xc,k3,?_⟩
 walk_at "rd"
 refine ⟨by decide,fun l1 hl1=>?_⟩
 have s1:=zA7 hl1 (.lst [.bl b0,.bl b1,.bl b2,.bl b3])
 have e1:(upd H l1 (.lst [.bl b0,.bl b1,.bl b2,.bl b3])) l1=some (.lst [.bl b0,.bl b1,.bl b2,.bl b3]):=zA2
 generalize upd H l1 (.lst [.bl b0,.bl b1,.bl b2,.bl b3])=H1 at s1 e1
 have he1:=s1.at he
 refine ⟨_,_,he1,xc,k4,_,_,he1,xc,k5,_,_,he1,xc,k6,?_⟩
 walk_at "rd"
 refine ⟨by decide,fun l2 hl2=>?_⟩
 have s2:=zA7 hl2 (.lst [.bl b4,.bl b5,.bl b6])
 have e2:(upd H1 l2 (.lst [.bl b4,.bl b5,.bl b6])) l2=some (.lst [.bl b4,.bl b5,.bl b6]):=zA2
 generalize upd H1 l2 (.lst [.bl b4,.bl b5,.bl b6])=H2 at s2 e2
 refine ⟨_,_,s2.at e1,e2,zCk (by show 7<=100;decide),fun l3 hl3=>?_⟩
 have s3:=zA7 hl3 (.lst ([V.bl b0,.bl b1,.bl b2,.bl b3]++[.bl b4,.bl b5,.bl b6]))
 have e3:(upd H2 l3 (.lst ([V.bl b0,.bl b1,.bl b2,.bl b3]++[.bl b4,.bl b5,.bl b6]))) l3=some (.lst [.bl b0,.bl b1,.bl b2,.bl b3,.bl b4,.bl b5,.bl b6]):=zA2
 generalize upd H2 l3 (.lst ([V.bl b0,.bl b1,.bl b2,.bl b3]++[.bl b4,.bl b5,.bl b6]))=H3 at s3 e3
 have he3:=(s2.trans s3).at he1
 walk_at "rd"
 refine ⟨_,_,he3,xc,k7,_,_,he3,xc,k8,_,_,he3,xc,xc.oneV,?_⟩
 walk_at "rd"
 refine ⟨by decide,fun l4 hl4=>?_⟩
 rw[Bool.not_true]
 have s4:=zA7 hl4 (.lst [.bl b7,.bl b8,.bl false])
 have e4:(upd H3 l4 (.lst [.bl b7,.bl b8,.bl false])) l4=some (.lst [.bl b7,.bl b8,.bl false]):=zA2
 generalize upd H3 l4 (.lst [.bl b7,.bl b8,.bl false])=H4 at s4 e4
 refine ⟨_,_,s4.at e3,e4,zCk (by show 10<=100;decide),fun l5 hl5=>?_⟩
 exact q l5 _ (s1.trans (s2.trans (s3.trans (s4.trans (zA7 hl5 _))))) zA2
theorem set_bad {n at_:Nat} {v:Int} (ha:at_ < n) (hv:v≠(at_:Int)):¬ zAm ((zA6 n).set at_ v):=fun h=>by
 have hs:=h.2.2
 rw[List.length_set,zAj]at hs
 have hm:(at_:Int)∈(zA6 n).set at_ v:=hs.mem_iff.mpr (mem_rangeI.mpr ⟨by omega,by omega⟩)
 obtain ⟨j,hj⟩:=List.mem_iff_getElem?.mp hm
 rw[List.getElem?_set]at hj
 by_cases e:at_=j
 ·subst e
  rw[if_pos rfl,if_pos (by rw[zAj];exact ha)]at hj
  exact hv (Option.some.inj hj)
 ·rw[if_neg e]at hj
  have hjn:j < n:=by have:=(List.getElem?_eq_some_iff.mp hj).1;rwa [zAj]at this
  rw[zBc hjn]at hj
  have:=Option.some.inj hj
  omega
def sp_law_bad:Sp:=fun vs H Q _=>∃ c:Int,vs=[.int c]/\∀ (r:Addr) (ns:List Int) (H':Hp),Same H H'->¬ zAm ns->H' r=some (.tup (ns.map V.int))->Q (.ref r) H'
theorem ok_law_bad (T:Tx K mg):FnOk P w K mg base CX0 1 T.f_law_bad T.d_law_bad ["cell"] sp_law_bad:=by
 refine T.F_law_bad.ok sc_law_bad (fun vs H Q E h=>?_) (fun cdv A outer s H vs Q E hr h=>?_)
 ·obtain ⟨c,rfl,_⟩:=h
  rfl
 obtain ⟨c,rfl,q⟩:=h
 refine ⟨_,(zA5 (ps_if (zAe op_eq (pe_op zBp (pv 0) zA9) zA9 (zAi _)) (zA3 (zB6 (pe_tup zA1))) zAz)
   (zA5 (ps_if (zAe op_eq (pe_op zBp (pv 0) zA9) zA9 (zAi _)) (zA3 (zB6 (zAo (call_tuple_rngR rfl) (by rfl) T.z_tuple bt_tuple (zA0 (zAo zCp (by rfl) T.z_range bt_range (zA0 (pe_op op_add zA9 (pe_op zBp (pe_op op_fdiv (pv 0) zA9) zA9)) zA1)) zA1)))) zAz)
   (zA5 (zAp (i:=1) sc_law_bad.nd rfl (Or.inl rfl) (pe_op op_add zA9 (pe_op zBp (pe_op op_fdiv (pv 0) zA9) zA9)))
   (zA5 (zAp (i:=2) sc_law_bad.nd rfl (Or.inl rfl) (zAo (call_list_rngR rfl) (by rfl) T.z_list bt_list (zA0 (zAo zCp (by rfl) T.z_range bt_range (zA0 (pv 1) zA1)) zA1)))
   (zA5 (zAp (i:=3) sc_law_bad.nd rfl (Or.inl rfl) (pe_op zBp (pe_op op_fdiv (pv 0) zA9) (pv 1)))
   (zA5 (ps_asg (pe_ix (zCl (K:=K) rfl) (zCu (zA0 (pv 1) (zA0 (pe_un un_neg zA9) (zA0 (pe_ix (zCl (K:=K) rfl) (pv 2) (pe_op op_sub (pv 3) zA9) (fun _ _=>rfl)) (zA0 (pe_op op_pow zA9 zA9) zA1))))) (pe_op zBp (pe_op op_fdiv (pv 0) zA9) zA9) (fun _ _=>rfl)) (pg_sub (pv 2) (pv 3) set_list))
   (zA3 (zB6 (zAo (zCj (K:=K) rfl) (by rfl) T.z_tuple bt_tuple (zA0 (pv 2) zA1)))))))))),?_⟩
 walk_at "rd"
 refine ⟨by decide,?_⟩
 split
 ·refine ⟨by decide,fun p hp=>?_⟩
  exact q p [] _ (zA7 hp _) (fun h=>absurd h.1 (by decide)) zA2
 refine ⟨by decide,?_⟩
 split
 ·refine ⟨⟨by decide,by decide⟩,by decide,?_⟩
  have g1:=Int.emod_nonneg (c / 4) (show (2:Int)≠0 by decide)
  have g2:=Int.emod_lt_of_pos (c / 4) (show (0:Int) < 2 by decide)
  obtain ⟨n,hn,n1,n2⟩:∃ n:Nat,17+c / 4 % 2=(n:Int)/\17<=n/\n<=18:=⟨(17+c / 4 % 2).toNat,by omega,by omega,by omega⟩
  rw[hn]
  refine ⟨by omega,by omega,fun p hp=>⟨0,n,zA2,⟨by omega,by omega,by omega,by omega⟩,zCk (by omega),fun t ht=>?_⟩⟩
  rw[rng_range]
  exact q t (zA6 n) _ ((zA7 hp _).trans (zA7 ht _)) (fun h=>absurd h.2.1 (by rw[zAj];omega)) zA2
 walk_at "rd"
 have g1:=Int.emod_nonneg (c / 16) (show (15:Int)≠0 by decide)
 have g2:=Int.emod_lt_of_pos (c / 16) (show (0:Int) < 15 by decide)
 obtain ⟨n,hn,n1,n2⟩:∃ n:Nat,2+c / 16 % 15=(n:Int)/\2<=n/\n<=16:=⟨(2+c / 16 % 15).toNat,by omega,by omega,by omega⟩
 rw[hn]
 have hm:(0:Int) < (n:Int):=by omega
 have g3:=Int.emod_nonneg (c / 240) (Int.ne_of_gt hm)
 have g4:=Int.emod_lt_of_pos (c / 240) hm
 obtain ⟨k,hk⟩:∃ k:Nat,c / 240 % (n:Int)=(k:Int):=⟨(c / 240 % (n:Int)).toNat,by omega⟩
 rw[hk]at g4
 rw[hk]
 have hkn:k < n:=by omega
 refine ⟨⟨by decide,by decide⟩,by decide,by omega,by omega,fun p hp=>⟨0,n,zA2,⟨by omega,by omega,by omega,by omega⟩,zCk (by omega),fun l hl=>?_⟩⟩
 rw[rng_range]
 have s2:=(zA7 hp (.rng 0 n)).trans (zA7 hl (.lst ((zA6 n).map V.int)))
 have hlH:H l=none:=(zA7 hp (.rng 0 n)).free hl
 have e2:(upd (upd H p (.rng 0 n)) l (.lst ((zA6 n).map V.int))) l=some (.lst ((zA6 n).map V.int)):=zA2
 generalize upd (upd H p (.rng 0 n)) l (.lst ((zA6 n).map V.int))=H2 at s2 e2
 obtain ⟨u,hu1,hu2⟩:∃ u:Int,atI ((zA6 n).map V.int) ((k:Int)-1)=some (.int u)/\u≠(k:Int):=by
  cases k with
  | zero =>
   obtain ⟨m,rfl⟩:∃ m,n=m+1:=⟨n-1,by omega⟩
   refine ⟨(m:Int),?_,by omega⟩
   rw[show zA6 (m+1)=zA6 m++[(m:Int)] by unfold zA6;rw[List.range_succ,List.map_append];rfl,List.map_append]
   exact atI_last _ _
  | succ j =>
   refine ⟨(j:Int),?_,by omega⟩
   rw[show (((j+1:Nat):Int)-1)=(j:Int) by omega]
   exact zAs (by rw[List.getElem?_map,zBc (by omega)];rfl)
 refine ⟨⟨by decide,by decide⟩,hm,_,_,SqL.of e2,hu1,⟨by decide,by decide,by decide⟩,by decide,fun p3 hp3=>?_⟩
 have hten:(100:Int)<=10 ^ Int.toNat 30:=by decide
 generalize (10:Int) ^ Int.toNat 30=ten at hten
 have s3:=zA7 hp3 (.lst [V.int (n:Int),.int (-1),.int u,.int ten])
 have e3:(upd H2 p3 (.lst [V.int (n:Int),.int (-1),.int u,.int ten])) p3=some (.lst [V.int (n:Int),.int (-1),.int u,.int ten]):=zA2
 generalize upd H2 p3 (.lst [V.int (n:Int),.int (-1),.int u,.int ten])=H3 at s3 e3
 have g5:=Int.emod_nonneg (c / 4) (show (4:Int)≠0 by decide)
 have g6:=Int.emod_lt_of_pos (c / 4) (show (0:Int) < 4 by decide)
 generalize c / 4 % 4=d at g5 g6
 obtain ⟨z,hz,hzk⟩:∃ z:Int,atI [V.int (n:Int),.int (-1),.int u,.int ten] d=some (.int z)/\z≠(k:Int):=by
  obtain ⟨j,rfl⟩:∃ j:Nat,d=j:=⟨d.toNat,by omega⟩
  match j,g6 with
  | 0,_=>exact ⟨_,zAs (j:=0) rfl,by omega⟩
  | 1,_=>exact ⟨_,zAs (j:=1) rfl,by omega⟩
  | 2,_=>exact ⟨_,zAs (j:=2) rfl,hu2⟩
  | 3,_=>exact ⟨_,zAs (j:=3) rfl,by omega⟩
  | j+4,h=>exact absurd h (by omega)
 refine ⟨⟨by decide,by decide⟩,by decide,_,_,SqL.of e3,hz,_,k,s3.at e2,?_,?_⟩
 ·unfold ixN
  rw[if_pos (by omega),if_pos (by rw[List.length_map,zAj];omega),Int.toNat_natCast]
 rw[<- List.map_set]
 refine ⟨((zA6 n).set k z).map V.int,.inl ⟨SqL.of zA2,fun t ht=>?_⟩⟩
 exact q t _ _ ((same_put (s2.trans s3) hlH _).trans (zA7 ht _)) (set_bad hkn hzk) zA2
def sp_no_size (C:Addr):Sp:=fun vs H Q E=>∃ (c far:Int),vs=[.int c,.int far]/\0<=far/\Rf C H E
theorem ok_law_no_size (T:Tx K mg):FnOk P w K mg base (CXX P w) 8 T.f_law_no_size T.d_law_no_size ["cell","far"] (sp_no_size T.c_NoSize):=by
 refine T.F_law_no_size.okX sc_law_no_size (fun vs H Q E h=>?_) (fun cdv A outer s H vs Q E hr h=>?_)
 ·obtain ⟨c,far,rfl,_⟩:=h
  rfl
 obtain ⟨c,far,rfl,hfar,q⟩:=h
 refine ⟨_,(zA5 (zAp (i:=2) sc_law_no_size.nd rfl (Or.inl rfl) (pe_ix (zCl (K:=K) rfl) (zCu (zA0 zA9 (zA0 zA9 (zA0 (pe_op op_sub (pe_un un_neg zA9) (pv 1)) (zA0 (pe_op op_add zA9 (pv 1)) zA1))))) (pe_op zBp (pv 0) zA9) (fun _ _=>rfl)))
   (zA5 (zAp (i:=3) sc_law_no_size.nd rfl (Or.inl rfl) (pe_op zBp (pe_op op_fdiv (pv 0) zA9) zA9))
   (zA3 (ps_if (zAe op_eq (pv 3) zA9 (zAi _)) (zA3 (zAb (pe_makeC rfl T.mk_Room (zBj T) (hr.mono (by decide)) rfl T.k_Room T.b_Room___init__ zAa (zA0 (pv 2) zA1)))) (zA3 (ps_if (zAe op_eq (pv 3) zA9 (zAi _)) (zA3 (zAb (zAc (ok_rest T) (hr.mono (by decide)) rfl T.m_rest T.F_rest.kp T.b_rest .nil zAa (zA0 (pv 2) zA1)))) (zA3 (zAb (zAc (ok_read T) (hr.mono (by decide)) rfl T.m_read T.F_read.kp T.b_read .nil zAa (zA0 zB9 (zA0 (pv 2) zA1))))))))))),?_⟩
 walk_at "rd"
 refine ⟨by decide,fun p hp=>?_⟩
 have s1:=zA7 hp (.lst [V.int 0,.int 17,.int (-1-far),.int (17+far)])
 have e1:(upd H p (.lst [V.int 0,.int 17,.int (-1-far),.int (17+far)])) p=some (.lst [V.int 0,.int 17,.int (-1-far),.int (17+far)]):=zA2
 generalize upd H p (.lst [V.int 0,.int 17,.int (-1-far),.int (17+far)])=H1 at s1 e1
 have g5:=Int.emod_nonneg c (show (4:Int)≠0 by decide)
 have g6:=Int.emod_lt_of_pos c (show (0:Int) < 4 by decide)
 generalize c % 4=d at g5 g6
 obtain ⟨z,hz,hzk⟩:∃ z:Int,atI [V.int 0,.int 17,.int (-1-far),.int (17+far)] d=some (.int z)/\¬ (1<=z/\z<=16):=by
  obtain ⟨j,rfl⟩:∃ j:Nat,d=j:=⟨d.toNat,by omega⟩
  match j,g6 with
  | 0,_=>exact ⟨_,zAs (j:=0) rfl,by omega⟩
  | 1,_=>exact ⟨_,zAs (j:=1) rfl,by omega⟩
  | 2,_=>exact ⟨_,zAs (j:=2) rfl,by omega⟩
  | 3,_=>exact ⟨_,zAs (j:=3) rfl,by omega⟩
  | j+4,h=>exact absurd h (by omega)
 refine ⟨by decide,_,_,SqL.of e1,hz,⟨by decide,by decide⟩,by decide,?_⟩
 split
 ·intro x dx hx hdx nx
  have s2:Same H1 (upd (upd H1 dx (.own x)) x (.ins T.c_Room dx [])):=fun b o e=>by rw[zA8 (zA4 e hx),zA8 (zA4 e hdx)];exact e
  exact ⟨x,dx,z,rfl,zA2,fun n en a b=>absurd ⟨by omega,by omega⟩ hzk,fun _=>q _ (s1.trans s2)⟩
 split
 ·exact ⟨z,rfl,fun n en a b=>absurd ⟨by omega,by omega⟩ hzk,fun _=>q H1 s1⟩
 ·exact ⟨_,z,rfl,fun _ H' s'=>q H' (s1.trans s'),fun ok=>absurd ok hzk⟩
def sp_no_seating (CR CB CE C:Addr):Sp:=fun vs H Q E=>∃ (rm ta:Addr) (k:Int) (R:RmA) (ms:List (List Int)) (ts:List Addr) (B:Bk) (ns:List Int),vs=[.ref rm,.ref ta,.int k]/\0<=k/\k < 11/\RoomAt CR CB CE H rm R ms ts B/\H ta=some (.tup (ns.map V.int))/\¬ zAm ns/\Rf C H E
theorem ok_law_no_seating (T:Tx K mg):FnOk P w K mg base (CXX P w) 9 T.f_law_no_seating T.d_law_no_seating ["room","bad","way"] (sp_no_seating T.c_Room T.c_Book T.c_Entry T.c_NoSeating):=by
 refine T.F_law_no_seating.okX sc_law_no_seating (fun vs H Q E h=>?_) (fun cdv A outer s H vs Q E hr h=>?_)
 ·obtain ⟨rm,ta,k,R,ms,ts,B,ns,rfl,_⟩:=h
  rfl
 obtain ⟨rm,ta,k,R,ms,ts,B,ns,rfl,k0,k1,hR,hta,hno,q⟩:=h
 obtain ⟨dx,hob⟩:=hR.ob
 have n1:=hR.full.ok.n1
 have n2:=hR.full.ok.n2
 have hseat:¬ Seat B.n ns:=fun z=>hno (isSeat n1 n2 z).1
 refine ⟨_,(zA3 (ps_if (zAe op_eq (pv 2) zA9 (zAi _)) (zA3 (zAb (zAc (ok_rings T) (hr.mono (by decide)) rfl T.m_rings T.F_rings.kp T.b_rings .nil zAa (zA0 (pv 1) zA1)))) (zA3 (ps_if (zAe op_eq (pv 2) zA9 (zAi _)) (zA3 (zAb (zAc (ok_age T) (hr.mono (by decide)) rfl T.m_age T.F_age.kp T.b_age .nil zAa (zA0 (pv 1) zA1)))) (zA3 (ps_if (zAe op_eq (pv 2) zA9 (zAi _)) (zA3 (zAb (zAc (ok_even T) (hr.mono (by decide)) rfl T.m_even T.F_even.kp T.b_even .nil zAa (zA0 (pv 1) zA1)))) (zA3 (ps_if (zAe op_eq (pv 2) zA9 (zAi _)) (zA3 (zAb (zAc (ok_times T) (hr.mono (by decide)) rfl T.m_times T.F_times.kp T.b_times .nil zAa (zA0 (pv 1) (zA0 zA9 zA1))))) (zA3 (ps_if (zAe op_eq (pv 2) zA9 (zAi _)) (zA3 (zAb (zAc (ok_shown T) (hr.mono (by decide)) rfl T.m_shown T.F_shown.kp T.b_shown .nil zAa (zA0 (pv 1) zA1)))) (zA3 (ps_if (zAe op_eq (pv 2) zA9 (zAi _)) (zA3 (zAb (zAc (ok_back T) (hr.mono (by decide)) rfl T.m_back T.F_back.kp T.b_back .nil zAa (zA0 (pv 1) zA1)))) (zA3 (ps_if (zAe op_eq (pv 2) zA9 (zAi _)) (zA3 (zAb (zAh (ns:=zB4) rfl (pv 0) T.cl_Room T.mt_Room_reaches (by decide +kernel) (ok_Room_reaches T) (hr.mono (by decide)) T.b_Room_reaches zAa (zA0 (pv 1) zA1)))) (zA3 (ps_if (zAe op_eq (pv 2) zA9 (zAi _)) (zA3 (zAb (zAh (ns:=zB4) rfl (pv 0) T.cl_Room T.mt_Room_recipe (by decide +kernel) (ok_Room_recipe T) (hr.mono (by decide)) T.b_Room_recipe zAa (zA0 (pv 1) zA1)))) (zA3 (ps_if (zAe op_eq (pv 2) zA9 (zAi _)) (zA3 (zAb (zAh (ns:=zB4) rfl (pv 0) T.cl_Room T.mt_Room_number_of (by decide +kernel) (ok_Room_number_of T) (hr.mono (by decide)) T.b_Room_number_of zAa (zA0 (pv 1) zA1)))) (zA3 (ps_if (zAe op_eq (pv 2) zA9 (zAi _)) (zA3 (zAb (zAh (ns:=zB4) rfl (pv 0) T.cl_Room T.mt_Room_put_move (by decide +kernel) (zBk T) (hr.mono (by decide)) T.b_Room_put_move zAa (zA0 (pv 1) zA1)))) (zA3 (zAb (zAc (ok_then T) (hr.mono (by decide)) rfl T.m_then T.F_then.kp T.b_then .nil zAa (zA0 (zAc (ok_rest T) (hr.mono (by decide)) rfl T.m_rest T.F_rest.kp T.b_rest .nil zAa (zA0 (zAd rfl T.cl_Room T.n_Room_size (pv 0) rfl) zA1)) (zA0 (pv 1) zA1))))))))))))))))))))))))),?_⟩
 have hk:k=0\/k=1\/k=2\/k=3\/k=4\/k=5\/k=6\/k=7\/k=8\/k=9\/k=10:=by omega
 clear k0 k1
 rcases hk with rfl | rfl | rfl | rfl | rfl | rfl | rfl | rfl | rfl | rfl | rfl
 ·walk_at "rd"
  exact ⟨ta,ns,rfl,hta,hno,q⟩
 ·walk_at "rd"
  exact ⟨ta,ns,rfl,hta,hno,q⟩
 ·walk_at "rd"
  exact ⟨ta,ns,rfl,hta,hno,q⟩
 ·walk_at "rd"
  exact ⟨ta,ns,0,rfl,hta,hno,q⟩
 ·walk_at "rd"
  exact ⟨ta,ns,rfl,hta,hno,q⟩
 ·walk_at "rd"
  exact ⟨ta,ns,rfl,hta,hno,q⟩
 ·walk_at "rd"
  exact ⟨⟨dx,_,hob,rfl⟩,rm,ta,R,ms,ts,B,ns,rfl,hR,hta,fun _=>q,fun i1=>absurd i1 hno,fun z=>absurd z hseat⟩
 ·walk_at "rd"
  exact ⟨⟨dx,_,hob,rfl⟩,rm,ta,R,ms,ts,B,ns,rfl,hR,hta,fun _=>q,fun i1=>absurd i1 hno,fun z=>absurd z hseat⟩
 ·walk_at "rd"
  exact ⟨⟨dx,_,hob,rfl⟩,rm,ta,R,ms,ts,B,ns,rfl,hR,hta,fun _=>q,fun i1=>absurd i1 hno,fun z=>absurd z hseat⟩
 ·walk_at "rd"
  exact ⟨⟨dx,_,hob,rfl⟩,rm,ta,R,ms,ts,B,ns,rfl,hR,hta,fun _=>q,fun i1=>absurd i1 hno,fun z=>absurd z hseat,fun z=>absurd z hseat⟩
 ·walk_at "rd"
  refine ⟨dx,_,_,hob,zCt,?_⟩
  refine ⟨(B.n:Int),rfl,fun n en m1 m2 r H1 s1 e1=>?_,fun no=>absurd ⟨by omega,by omega⟩ no⟩
  obtain rfl:B.n=n:=by omega
  exact ⟨r,ta,_,ns,rfl,e1,s1.at hta,(isSeat n1 n2 (zAl _)).1,fun _ H' s'=>q H' (s1.trans s'),fun z=>absurd z hno⟩
def sp_other_size (CR CB CE D:Addr):Sp:=fun vs H Q E=>∃ (rm ta:Addr) (k:Int) (R:RmA) (ms:List (List Int)) (ts:List Addr) (B:Bk) (ns:List Int) (m:Nat),vs=[.ref rm,.ref ta,.int k]/\0<=k/\k < 6/\RoomAt CR CB CE H rm R ms ts B/\H ta=some (.tup (ns.map V.int))/\Seat m ns/\1<=m/\m<=16/\m≠B.n/\Rf D H E
theorem ok_law_other_size (T:Tx K mg):FnOk P w K mg base (CXX P w) 9 T.f_law_other_size T.d_law_other_size ["room","other","way"] (sp_other_size T.c_Room T.c_Book T.c_Entry T.c_OtherSize):=by
 refine T.F_law_other_size.okX sc_law_other_size (fun vs H Q E h=>?_) (fun cdv A outer s H vs Q E hr h=>?_)
 ·obtain ⟨rm,ta,k,R,ms,ts,B,ns,m,rfl,_⟩:=h
  rfl
 obtain ⟨rm,ta,k,R,ms,ts,B,ns,m,rfl,k0,k1,hR,hta,pm,m1,m2,hne,q⟩:=h
 obtain ⟨dx,hob⟩:=hR.ob
 have n1:=hR.full.ok.n1
 have n2:=hR.full.ok.n2
 obtain ⟨is1,is2⟩:=isSeat m1 m2 pm
 have hseat:¬ Seat B.n ns:=fun z=>hne (by rw[<- is2];exact z.len)
 refine ⟨_,(zA3 (ps_if (zAe op_eq (pv 2) zA9 (zAi _)) (zA3 (zAb (zAh (ns:=zB4) rfl (pv 0) T.cl_Room T.mt_Room_reaches (by decide +kernel) (ok_Room_reaches T) (hr.mono (by decide)) T.b_Room_reaches zAa (zA0 (pv 1) zA1)))) (zA3 (ps_if (zAe op_eq (pv 2) zA9 (zAi _)) (zA3 (zAb (zAh (ns:=zB4) rfl (pv 0) T.cl_Room T.mt_Room_recipe (by decide +kernel) (ok_Room_recipe T) (hr.mono (by decide)) T.b_Room_recipe zAa (zA0 (pv 1) zA1)))) (zA3 (ps_if (zAe op_eq (pv 2) zA9 (zAi _)) (zA3 (zAb (zAh (ns:=zB4) rfl (pv 0) T.cl_Room T.mt_Room_number_of (by decide +kernel) (ok_Room_number_of T) (hr.mono (by decide)) T.b_Room_number_of zAa (zA0 (pv 1) zA1)))) (zA3 (ps_if (zAe op_eq (pv 2) zA9 (zAi _)) (zA3 (zAb (zAh (ns:=zB4) rfl (pv 0) T.cl_Room T.mt_Room_put_move (by decide +kernel) (zBk T) (hr.mono (by decide)) T.b_Room_put_move zAa (zA0 (pv 1) zA1)))) (zA3 (ps_if (zAe op_eq (pv 2) zA9 (zAi _)) (zA3 (zAb (zAc (ok_then T) (hr.mono (by decide)) rfl T.m_then T.F_then.kp T.b_then .nil zAa (zA0 (zAc (ok_rest T) (hr.mono (by decide)) rfl T.m_rest T.F_rest.kp T.b_rest .nil zAa (zA0 (zAd rfl T.cl_Room T.n_Room_size (pv 0) rfl) zA1)) (zA0 (pv 1) zA1))))) (zA3 (zAb (zAc (ok_within T) (hr.mono (by decide)) rfl T.m_within T.F_within.kp T.b_within .nil zAa (zA0 (pv 0) (zA0 (pe_makeC rfl T.mk_Room (zBj T) (hr.mono (by decide)) rfl T.k_Room T.b_Room___init__ zAa (zA0 (zAn (zBq (K:=K) rfl) (by rfl) T.z_len bt_len (zA0 (pv 1) zA1)) zA1)) zA1))))))))))))))),?_⟩
 have hk:k=0\/k=1\/k=2\/k=3\/k=4\/k=5:=by omega
 clear k0 k1
 rcases hk with rfl | rfl | rfl | rfl | rfl | rfl
 ·walk_at "rd"
  exact ⟨⟨dx,_,hob,rfl⟩,rm,ta,R,ms,ts,B,ns,rfl,hR,hta,fun no=>absurd is1 no,fun _ _=>q,fun z=>absurd z hseat⟩
 ·walk_at "rd"
  exact ⟨⟨dx,_,hob,rfl⟩,rm,ta,R,ms,ts,B,ns,rfl,hR,hta,fun no=>absurd is1 no,fun _ _=>q,fun z=>absurd z hseat⟩
 ·walk_at "rd"
  exact ⟨⟨dx,_,hob,rfl⟩,rm,ta,R,ms,ts,B,ns,rfl,hR,hta,fun no=>absurd is1 no,fun _ _=>q,fun z=>absurd z hseat⟩
 ·walk_at "rd"
  exact ⟨⟨dx,_,hob,rfl⟩,rm,ta,R,ms,ts,B,ns,rfl,hR,hta,fun no=>absurd is1 no,fun _ _=>q,fun z=>absurd z hseat,fun z=>absurd z hseat⟩
 ·walk_at "rd"
  refine ⟨dx,_,_,hob,zCt,?_⟩
  refine ⟨(B.n:Int),rfl,fun n en x1 x2 r H1 s1 e1=>?_,fun no=>absurd ⟨by omega,by omega⟩ no⟩
  obtain rfl:B.n=n:=by omega
  exact ⟨r,ta,_,ns,rfl,e1,s1.at hta,(isSeat n1 n2 (zAl _)).1,fun no=>absurd is1 no,fun _=>⟨by rw[zAj,is2];exact hne.symm,fun H' s'=>q H' (s1.trans s')⟩⟩
 ·walk_at "rd"
  refine ⟨_,.inr (SqT.of hta),?_⟩
  rw[List.length_map,is2]
  intro x dy hx hdy nx
  have s2:Same H (upd (upd H dy (.own x)) x (.ins T.c_Room dy [])):=fun b o e=>by rw[zA8 (zA4 e hx),zA8 (zA4 e hdy)];exact e
  refine ⟨x,dy,m,rfl,zA2,fun n en x1 x2 R2 B2 H3 k3 hR2 hB2 hfr=>⟨rfl,?_⟩,fun no=>absurd ⟨by omega,by omega⟩ no⟩
  obtain rfl:m=n:=by omega
  have s3:Same H H3:=fun b o e=>k3 b o (s2 b o e) (by simpa using zA4 e hx)
  obtain ⟨dz,hoz⟩:=hR2.ob
  exact ⟨rm,x,dx,dz,B.n,B2.n,_,_,_,_,rfl,s3.at hob,hoz,by rw[hB2];exact hne.symm,fun H' s'=>q H' (s3.trans s')⟩
def sp_no_seat (CR CB CE C:Addr):Sp:=fun vs H Q E=>∃ (rm:Addr) (j k:Int) (R:RmA) (ms:List (List Int)) (ts:List Addr) (B:Bk),vs=[.ref rm,.int j,.int k]/\0<=k/\k < 4/\RoomAt CR CB CE H rm R ms ts B/\¬ (0<=j/\j < B.n)/\Rf C H E
theorem ok_law_no_seat (T:Tx K mg):FnOk P w K mg base (CXX P w) 3 T.f_law_no_seat T.d_law_no_seat ["room","seat","way"] (sp_no_seat T.c_Room T.c_Book T.c_Entry T.c_NoSeat):=by
 refine T.F_law_no_seat.okX sc_law_no_seat (fun vs H Q E h=>?_) (fun cdv A outer s H vs Q E hr h=>?_)
 ·obtain ⟨rm,j,k,R,ms,ts,B,rfl,_⟩:=h
  rfl
 obtain ⟨rm,j,k,R,ms,ts,B,rfl,k0,k1,hR,hno,q⟩:=h
 obtain ⟨dx,hob⟩:=hR.ob
 have n1:=hR.full.ok.n1
 refine ⟨_,(zA3 (ps_if (zAe op_eq (pv 2) zA9 (zAi _)) (zA3 (zAb (zAc (ok_ring_of T) (hr.mono (by decide)) rfl T.m_ring_of T.F_ring_of.kp T.b_ring_of .nil zAa (zA0 (pv 0) (zA0 (pv 1) zA1))))) (zA3 (ps_if (zAe op_eq (pv 2) zA9 (zAi _)) (zA3 (zAb (zAc (ok_parting T) (hr.mono (by decide)) rfl T.m_parting T.F_parting.kp T.b_parting .nil zAa (zA0 (pv 0) (zA0 (pv 1) (zA0 zA9 zA1)))))) (zA3 (ps_if (zAe op_eq (pv 2) zA9 (zAi _)) (zA3 (zAb (zAc (ok_parting T) (hr.mono (by decide)) rfl T.m_parting T.F_parting.kp T.b_parting .nil zAa (zA0 (pv 0) (zA0 zA9 (zA0 (pv 1) zA1)))))) (zA3 (zAb (zAc (ok_holding T) (hr.mono (by decide)) rfl T.m_holding T.F_holding.kp T.b_holding .nil zAa (zA0 (pv 0) (zA0 (zCu (zA0 zA9 (zA0 (pv 1) zA1))) zA1))))))))))),?_⟩
 have hk:k=0\/k=1\/k=2\/k=3:=by omega
 clear k0 k1
 rcases hk with rfl | rfl | rfl | rfl
 ·walk_at "rd"
  exact ⟨rm,dx,B.n,_,_,j,rfl,hob,hno,q⟩
 ·walk_at "rd"
  exact ⟨rm,dx,B.n,_,_,j,0,rfl,hob,fun z=>hno z.1,q⟩
 ·walk_at "rd"
  exact ⟨rm,dx,B.n,_,_,0,j,rfl,hob,fun z=>hno z.2,q⟩
 ·walk_at "rd"
  refine ⟨by decide,fun p hp=>?_⟩
  exact ⟨rm,dx,p,B.n,_,_,j,rfl,(zA7 hp _).at hob,zA2,n1,hno,fun H' s'=>q H' ((zA7 hp _).trans s')⟩
theorem rng_rgI (lo n:Nat):rngV (lo:Int) (n:Int)=(rgI lo n).map V.int:=by
 unfold rngV rgI
 rw[List.map_map,show ((n:Int)-(lo:Int)).toNat=n-lo by omega]
 rfl
def sp_full21 (X:Addr):Sp:=fun vs H Q E=>∃ n:Nat,vs=[.int (n:Int)]/\1<=n/\n<=16/\Rf X H E
theorem ok_law_full (T:Tx K mg):FnOk P w K mg base (CXX P w) 9 T.f_law_full T.d_law_full ["size"] (sp_full21 T.c_TooMany):=by
 refine T.F_law_full.okX sc_law_full (fun vs H Q E h=>?_) (fun cdv A outer s H vs Q E hr h=>?_)
 ·obtain ⟨n,rfl,_⟩:=h
  rfl
 obtain ⟨n,rfl,n1,n2,q⟩:=h
 refine ⟨_,(zA5 (zAp (i:=1) sc_law_full.nd rfl (Or.inl rfl) (pe_makeC rfl T.mk_Room (zBj T) (hr.mono (by decide)) rfl T.k_Room T.b_Room___init__ zAa (zA0 (pv 0) zA1)))
   (zA5 (ps_for PassesOwn.leaving rfl (pi_range1 (by rfl) T.z_range (zA0 zA9 zA1)) (zBo (i:=2) sc_law_full.nd rfl (Or.inl rfl)) (zA3 (zAb (zAh (ns:=zB4) rfl (pv 1) T.cl_Room T.mt_Room_put_move (by decide +kernel) (zBk T) (hr.mono (by decide)) T.b_Room_put_move zAa (zA0 (zAc (ok_rest T) (hr.mono (by decide)) rfl T.m_rest T.F_rest.kp T.b_rest .nil zAa (zA0 (pv 0) zA1)) zA1)))))
   (zA3 (zAb (zAh (ns:=zB4) rfl (pv 1) T.cl_Room T.mt_Room_put_move (by decide +kernel) (zBk T) (hr.mono (by decide)) T.b_Room_put_move zAa (zA0 (zAc (ok_rest T) (hr.mono (by decide)) rfl T.m_rest T.F_rest.kp T.b_rest .nil zAa (zA0 (pv 0) zA1)) zA1)))))),?_⟩
 walk_at "rd"
 intro rm dr hrm hdr nrm
 have s0:Same H (upd (upd H dr (.own rm)) rm (.ins T.c_Room dr [])):=fun b o e=>by rw[zA8 (zA4 e hrm),zA8 (zA4 e hdr)];exact e
 refine ⟨rm,dr,n,rfl,zA2,fun m em m1 m2 R B H1 k1 hR1 hBn hfr=>⟨rfl,?_⟩,fun hz=>absurd ⟨by omega,by omega⟩ hz⟩
 obtain rfl:n=m:=by omega
 have s1:Same H H1:=fun b o e=>k1 b o (s0 b o e) (by simpa using zA4 e hrm)
 have hfrH:∀ b∈fpR R,H b=none:=fun b hb=>s0.free (hfr b (List.mem_cons_of_mem _ hb))
 walk_at "rd"
 refine ⟨by decide,by decide,?_⟩
 refine loop_range (fun i σ H4=>∃ (v2:Option V) (ms:List (List Int)) (ts:List Addr) (B:Bk),SEq σ [some (.int (n:Int)),some (.ref rm),v2]/\Same H H4/\RoomAt T.c_Room T.c_Book T.c_Entry H4 rm R ms ts B/\B.n=n/\ms.length=i) ⟨none,[],[],B,⟨rfl⟩,s1,hR1,hBn,rfl⟩ ?_ ?_
 ·rintro i σ H4 hi ⟨v2,ms,ts,B4,⟨rfl⟩,s4,hR4,hB4,hml⟩
  have hi':i < 200:=hi
  obtain ⟨dx,hob⟩:=hR4.ob
  walk_at "rd"
  refine ⟨⟨dx,_,hob,rfl⟩,(n:Int),rfl,fun m em x1 x2 r H5 s5 e5=>?_,fun no=>absurd ⟨by omega,by omega⟩ no⟩
  obtain rfl:n=m:=by omega
  have pm:Seat B4.n (zA6 n):=by rw[hB4];exact zAl n
  obtain ⟨is1,is2⟩:=isSeat (by rw[hB4];exact n1) (by rw[hB4];exact n2) pm
  refine ⟨rm,r,R,ms,ts,B4,_,rfl,hR4.same s5,e5,fun no=>absurd is1 no,fun _ no=>absurd is2 no,fun _ no=>absurd no (by omega),fun _ _ b B8 H8 k8 hR8 hn8 hb8=>?_⟩
  exact ⟨_,_,_,B8,⟨rfl⟩,same_keep (s4.trans s5) k8 hfrH,hR8,hn8.trans hB4,by rw[List.length_append,hml];rfl⟩
 ·rintro σ H4 ⟨v2,ms,ts,B4,⟨rfl⟩,s4,hR4,hB4,hml⟩
  have hml':ms.length=200:=hml
  obtain ⟨dx,hob⟩:=hR4.ob
  walk_at "rd"
  refine ⟨⟨dx,_,hob,rfl⟩,(n:Int),rfl,fun m em x1 x2 r H5 s5 e5=>?_,fun no=>absurd ⟨by omega,by omega⟩ no⟩
  obtain rfl:n=m:=by omega
  have pm:Seat B4.n (zA6 n):=by rw[hB4];exact zAl n
  obtain ⟨is1,is2⟩:=isSeat (by rw[hB4];exact n1) (by rw[hB4];exact n2) pm
  exact ⟨rm,r,R,ms,ts,B4,_,rfl,hR4.same s5,e5,fun no=>absurd is1 no,fun _ no=>absurd is2 no,fun _ _ H' s'=>q H' (s4.trans (s5.trans s')),fun _ no=>absurd no (by omega)⟩
theorem reach_nil {n:Nat} {y:List Int} (h:Reach n [] y):y=zA6 n:=by
 induction h with
 | rest=>rfl
 | step _ hm _=>cases hm
theorem wr2b {n:Nat} (h1:2<=n) (h2:n<=16):1::0::rgI 2 n=rg n 0 2:=by
 have:∀ n,n<=16->2<=n->1::0::rgI 2 n=rg n 0 2:=by decide +kernel
 exact this n h2 h1
theorem rg2_ne {n:Nat} (h1:2<=n) (h2:n<=16):rg n 0 2≠zA6 n:=fun e=>by
 rw[<- wr2b h1 h2]at e
 have:(1:Int)=(zA6 n).getD 0 0:=by rw[<- e];rfl
 rw[rest_at (by omega)]at this
 exact absurd this (by decide)
def sp_unr21 (U:Addr):Sp:=fun vs H Q E=>∃ (n:Nat) (k:Int),vs=[.int (n:Int),.int k]/\1<=n/\n<=15/\Rf U H E
theorem ok_law_unreached (T:Tx K mg):FnOk P w K mg base (CXX P w) 8 T.f_law_unreached T.d_law_unreached ["size","way"] (sp_unr21 T.c_Unreached):=by
 refine T.F_law_unreached.okX sc_law_unreached (fun vs H Q E h=>?_) (fun cdv A outer s H vs Q E hr h=>?_)
 ·obtain ⟨n,k,rfl,_⟩:=h
  rfl
 obtain ⟨n0,k,rfl,n1,n2,q⟩:=h
 obtain ⟨n,hn,g1,g2⟩:∃ n:Nat,(n0:Int)+1=(n:Int)/\2<=n/\n<=16:=⟨n0+1,by omega,by omega,by omega⟩
 refine ⟨_,(zA5 (zAp (i:=2) sc_law_unreached.nd rfl (Or.inl rfl) (pe_makeC rfl T.mk_Room (zBj T) (hr.mono (by decide)) rfl T.k_Room T.b_Room___init__ zAa (zA0 (pe_op op_add (pv 0) zA9) zA1)))
   (zA5 (zAp (i:=3) sc_law_unreached.nd rfl (Or.inl rfl) (zAo (zCj (K:=K) rfl) (by rfl) T.z_tuple bt_tuple (zA0 (pe_op op_cat (zCu (zA0 zA9 (zA0 zA9 zA1))) (zAo (call_list_rngR rfl) (by rfl) T.z_list bt_list (zA0 (zAo call_range2R (by rfl) T.z_range bt_range (zA0 zA9 (zA0 (pe_op op_add (pv 0) zA9) zA1))) zA1))) zA1)))
   (zA3 (ps_if (zAe op_eq (pv 1) zA9 (zAi _)) (zA3 (zAb (zAh (ns:=zB4) rfl (pv 2) T.cl_Room T.mt_Room_recipe (by decide +kernel) (ok_Room_recipe T) (hr.mono (by decide)) T.b_Room_recipe zAa (zA0 (pv 3) zA1)))) (zA3 (zAb (zAh (ns:=zB4) rfl (pv 2) T.cl_Room T.mt_Room_number_of (by decide +kernel) (ok_Room_number_of T) (hr.mono (by decide)) T.b_Room_number_of zAa (zA0 (pv 3) zA1)))))))),?_⟩
 walk_at "rd"
 rw[hn]
 intro rm dr hrm hdr nrm
 have s0:Same H (upd (upd H dr (.own rm)) rm (.ins T.c_Room dr [])):=fun b o e=>by rw[zA8 (zA4 e hrm),zA8 (zA4 e hdr)];exact e
 refine ⟨rm,dr,n,rfl,zA2,fun m em m1 m2 R B H1 k1 hR1 hBn hfr=>⟨rfl,?_⟩,fun hz=>absurd ⟨by omega,by omega⟩ hz⟩
 obtain rfl:n=m:=by omega
 have s1:Same H H1:=fun b o e=>k1 b o (s0 b o e) (by simpa using zA4 e hrm)
 obtain ⟨dx,hob⟩:=hR1.ob
 walk_at "rd"
 refine ⟨by decide,fun p1 h1=>⟨⟨by decide,by decide,by omega,by omega⟩,fun p2 h2=>⟨2,n,zA2,⟨by decide,by decide,by omega,by omega⟩,zCk (by omega),fun p3 h3=>?_⟩⟩⟩
 rw[show rngV 2 (n:Int)=(rgI 2 n).map V.int from rng_rgI 2 n]
 have k1:=zA7 h1 (.lst [.int 1,.int 0])
 have k2:=zA7 h2 (.rng 2 n)
 have k3:=zA7 h3 (.lst ((rgI 2 n).map V.int))
 have x1:(upd (upd (upd H1 p1 (.lst [.int 1,.int 0])) p2 (.rng 2 n)) p3 (.lst ((rgI 2 n).map V.int))) p1=some (.lst ([1,0].map V.int)):=(k2.trans k3).at zA2
 have x3:(upd (upd (upd H1 p1 (.lst [.int 1,.int 0])) p2 (.rng 2 n)) p3 (.lst ((rgI 2 n).map V.int))) p3=some (.lst ((rgI 2 n).map V.int)):=zA2
 have k13:=k1.trans (k2.trans k3)
 generalize upd (upd (upd H1 p1 (.lst [.int 1,.int 0])) p2 (.rng 2 n)) p3 (.lst ((rgI 2 n).map V.int))=A3 at x1 x3 k13
 have l1:(rgI 2 n).length<=16:=by unfold rgI;rw[List.length_map,List.length_range];omega
 refine ⟨_,_,x1,x3,zCk (by rw[List.length_map,List.length_map];show 2+_<=100;omega),fun p4 h4=>⟨_,.inl ⟨SqL.of zA2,fun t1 ht1=>?_⟩⟩⟩
 rw[<- List.map_append,show [1,0]++rgI 2 n=rg n 0 2 from wr2b g1 g2]at ht1 ⊢
 have sA:=k13.trans ((zA7 h4 (.lst ((rg n 0 2).map V.int))).trans (zA7 ht1 (.tup ((rg n 0 2).map V.int))))
 have e5:(upd (upd A3 p4 (.lst ((rg n 0 2).map V.int))) t1 (.tup ((rg n 0 2).map V.int))) t1=some (.tup ((rg n 0 2).map V.int)):=zA2
 generalize upd (upd A3 p4 (.lst ((rg n 0 2).map V.int))) t1 (.tup ((rg n 0 2).map V.int))=H5 at sA e5
 have pa:Seat n (rg n 0 2):=rg_seat (by decide) (by omega)
 obtain ⟨is1,is2⟩:=isSeat (by omega) (by omega) pa
 have hRA:=hR1.same sA
 have sH:=s1.trans sA
 have hend:∀ (C:Addr),∃ (rm' ta:Addr) (R':RmA) (ms:List (List Int)) (ts:List Addr) (B':Bk) (ns:List Int),[V.ref rm,.ref t1]=[.ref rm',.ref ta]/\RoomAt T.c_Room T.c_Book T.c_Entry H5 rm' R' ms ts B'/\H5 ta=some (.tup (ns.map V.int))/\(¬ zAm ns->Rf T.c_NoSeating H5 E)/\(zAm ns->ns.length≠B'.n->Rf T.c_OtherSize H5 E)/\(Seat B'.n ns->¬ Reach B'.n ms ns/\Rf T.c_Unreached H5 E):=fun _ =>
  ⟨rm,t1,R,[],[],B,_,rfl,hRA,e5,fun no=>absurd is1 no,fun _ no=>absurd (is2.trans hBn.symm) no,fun _=>⟨fun z=>rg2_ne g1 g2 (by rw[hBn]at z;exact reach_nil z),fun H' s'=>q H' (sH.trans s')⟩⟩
 split
 ·exact ⟨⟨dx,_,sA.at hob,rfl⟩,hend rm⟩
 ·exact ⟨⟨dx,_,sA.at hob,rfl⟩,hend rm⟩
def sp_wide21 (D:Addr):Sp:=fun vs H Q E=>vs=[]/\Rf D H E
theorem ok_law_wide (T:Tx K mg):FnOk P w K mg base (CXX P w) 9 T.f_law_wide T.d_law_wide [] (sp_wide21 T.c_TooWide):=by
 refine T.F_law_wide.okX sc_law_wide (fun vs H Q E h=>?_) (fun cdv A outer s H vs Q E hr h=>?_)
 ·obtain ⟨rfl,_⟩:=h
  rfl
 obtain ⟨rfl,q⟩:=h
 refine ⟨_,(zA5 (zAp (i:=0) sc_law_wide.nd rfl (Or.inl rfl) (pe_makeC rfl T.mk_Room (zBj T) (hr.mono (by decide)) rfl T.k_Room T.b_Room___init__ zAa (zA0 zA9 zA1)))
   (zA5 (zAb (zAh (ns:=zB4) rfl (pv 0) T.cl_Room T.mt_Room_put_move (by decide +kernel) (zBk T) (hr.mono (by decide)) T.b_Room_put_move zAa (zA0 (pe_tup (pa_ints rfl)) zA1)))
   (zA5 (zAb (zAh (ns:=zB4) rfl (pv 0) T.cl_Room T.mt_Room_put_move (by decide +kernel) (zBk T) (hr.mono (by decide)) T.b_Room_put_move zAa (zA0 (pe_tup (pa_ints rfl)) zA1)))
   (zA3 (zAb (zAc (ok_dyed T) (hr.mono (by decide)) rfl T.m_dyed T.F_dyed.kp T.b_dyed .nil zAa (zA0 (pv 0) (zA0 zA9 zA1)))))))),?_⟩
 walk_at "rd"
 intro rm dr hrm hdr nrm
 have s0:Same H (upd (upd H dr (.own rm)) rm (.ins T.c_Room dr [])):=fun b o e=>by rw[zA8 (zA4 e hrm),zA8 (zA4 e hdr)];exact e
 refine ⟨rm,dr,7,rfl,zA2,fun m em m1 m2 R B H1 k1 hR1 hBn hfr=>⟨rfl,?_⟩,fun hz=>absurd ⟨by decide,by decide⟩ hz⟩
 obtain rfl:7=m:=by omega
 have s1:Same H H1:=fun b o e=>k1 b o (s0 b o e) (by simpa using zA4 e hrm)
 have hfrH:∀ b∈fpR R,H b=none:=fun b hb=>s0.free (hfr b (List.mem_cons_of_mem _ hb))
 obtain ⟨dx,hob⟩:=hR1.ob
 walk_at "rd"
 refine ⟨⟨dx,_,hob,rfl⟩,?_⟩
 have t1:[1,0,2,3,4,5,6]=rg 7 0 2:=by decide +kernel
 have t2:[1,2,3,4,5,6,0]=rg 7 0 7:=by decide +kernel
 have pa:Seat 7 (rg 7 0 2):=rg_seat (by decide) (by decide)
 have pb:Seat 7 (rg 7 0 7):=rg_seat (by decide) (by decide)
 refine ⟨by decide,fun p1 hp1=>?_⟩
 have e1:(upd H1 p1 (.tup [V.int 1,.int 0,.int 2,.int 3,.int 4,.int 5,.int 6])) p1=some (.tup ((rg 7 0 2).map V.int)):=by rw[<- t1];exact zA2
 have u1:=zA7 hp1 (.tup [V.int 1,.int 0,.int 2,.int 3,.int 4,.int 5,.int 6])
 generalize upd H1 p1 (.tup [V.int 1,.int 0,.int 2,.int 3,.int 4,.int 5,.int 6])=H2 at e1 u1
 have pa':Seat B.n (rg 7 0 2):=by rw[hBn];exact pa
 obtain ⟨is1,is2⟩:=isSeat (by rw[hBn];decide) (by rw[hBn];decide) pa'
 refine ⟨rm,p1,R,_,_,B,_,rfl,hR1.same u1,e1,fun no=>absurd is1 no,fun _ no=>absurd is2 no,fun _ no=>absurd no (by decide),fun _ _ b B3 H3 k3 hR3 hn3 hb3=>?_⟩
 have s3:Same H H3:=same_keep (s1.trans u1) k3 hfrH
 obtain ⟨dx3,hob3⟩:=hR3.ob
 refine ⟨⟨dx3,_,hob3,rfl⟩,by decide,fun p2 hp2=>?_⟩
 have e2:(upd H3 p2 (.tup [V.int 1,.int 2,.int 3,.int 4,.int 5,.int 6,.int 0])) p2=some (.tup ((rg 7 0 7).map V.int)):=by rw[<- t2];exact zA2
 have u2:=zA7 hp2 (.tup [V.int 1,.int 2,.int 3,.int 4,.int 5,.int 6,.int 0])
 generalize upd H3 p2 (.tup [V.int 1,.int 2,.int 3,.int 4,.int 5,.int 6,.int 0])=H4 at e2 u2
 have hB3:=hn3.trans hBn
 have pb':Seat B3.n (rg 7 0 7):=by rw[hB3];exact pb
 obtain ⟨is3,is4⟩:=isSeat (by rw[hB3];decide) (by rw[hB3];decide) pb'
 refine ⟨rm,p2,R,_,_,B3,_,rfl,hR3.same u2,e2,fun no=>absurd is3 no,fun _ no=>absurd is4 no,fun _ no=>absurd no (by show ¬ 200<=1;decide),fun _ _ b5 B5 H5 k5 hR5 hn5 hb5=>?_⟩
 have s5:Same H H5:=same_keep (s3.trans u2) k5 hfrH
 have hB5:=hn5.trans hB3
 obtain ⟨F,f1,f2,f3⟩:=all_seats 7
 have hs5:∀ m∈[]++[rg 7 0 2]++[rg 7 0 7],Seat 7 m:=by have:=hR5.seat;rw[hB5]at this;exact this
 have hcnt:F.length=sizes B5.rows:=count_reached hR5.full.ok.tab (nod_of hR5.full.ok.pgs) hR5.full.iff f1 fun x=>by
  rw[f3,hB5]
  exact ⟨fun h=>all_of_two (by decide) (by decide) h,fun h=>h.seat hs5⟩
 exact ⟨rm,R,_,_,B5,2,rfl,hR5,fun no=>absurd ⟨by decide,by decide⟩ no,fun _=>⟨by rw[<- hcnt,f2];decide,fun H' s'=>q H' (s5.trans s')⟩⟩
def sp_law_cell_at (K:PySem.W.Frag):Sp:=fun vs H Q _=>∃ (a:Addr) (ns:List Int) (k:Int),vs=[.ref a,.int k]/\SqL K H a (ns.map V.int)/\0<=k/\Q (.int (ns.getD k.toNat 0)) H
theorem ok_law_cell_at (T:Tx K mg):FnOk P w K mg base CX0 1 T.f_law_cell_at T.d_law_cell_at ["script","k"] (sp_law_cell_at K):=by
 refine T.F_law_cell_at.ok sc_law_cell_at (fun vs H Q E h=>?_) (fun cdv A outer s H vs Q E hr h=>?_)
 ·obtain ⟨a,ns,k,rfl,_⟩:=h
  rfl
 obtain ⟨a,ns,k,rfl,hS,h0,q⟩:=h
 refine ⟨_,(zA5 (ps_if (zAe op_lt (pv 1) (zAn (zBq (K:=K) rfl) (by rfl) T.z_len bt_len (zA0 (pv 0) zA1)) (zAi _)) (zA3 (zB6 (pe_ix (zCl (K:=K) rfl) (pv 0) (pv 1) (fun _ _=>rfl)))) zAz)
   (zA3 (zB6 zA9))),?_⟩
 walk_at "rd"
 refine ⟨ns.map V.int,.inl hS,?_⟩
 walk_at "rd"
 rw[List.length_map]
 split
 ·rename_i hlt
  refine ⟨ns.map V.int,.int (ns.getD k.toNat 0),hS,?_,q⟩
  have ek:k=((k.toNat:Nat):Int):=by omega
  have z:atI (ns.map V.int) ((k.toNat:Nat):Int)=some (.int (ns.getD k.toNat 0)):=zAs (by
   rw[List.getElem?_map,List.getD_eq_getElem?_getD,List.getElem?_eq_getElem (by omega)]
   simp)
  rw[<- ek]at z
  exact z
 ·rename_i hge
  have e:ns.getD k.toNat 0=0:=by
   rw[List.getD_eq_getElem?_getD,List.getElem?_eq_none (by omega)]
   rfl
  rw[e]at q
  exact q
def sp_law (K:PySem.W.Frag):Sp:=fun vs H Q _=>∃ (a:Addr) (ns:List Int),vs=[.ref a]/\SqL K H a (ns.map V.int)/\ns.length<=63/\∀ H',Q (.bl true) H'
def sp_done (d0 d1 d2 d3 d4 d5 d6 d7 d8:Addr):Sp:=fun vs H Q E=>∃ (w:Int) (n:Nat) (c far:Int),vs=[.int w,.int (n:Int),.int c,.int far]/\0<=w/\w < 9/\1<=n/\n<=16/\0<=far/\(w=0->Rf d0 H E)/\(w=1->Rf d1 H E)/\(w=2->Rf d2 H E)/\(w=3->Rf d3 H E)/\(w=4->Rf d4 H E)/\(w=5->Rf d5 H E)/\(w=6->Rf d6 H E)/\(w=7->Rf d7 H E)/\(w=8->Rf d8 H E)
theorem pick3 {xs:List V} {d:Int} {x y z:Int} (P:Int->Prop) (h0:0<=d) (h1:d < 3) (hx:P x) (hy:P y) (hz:P z):∃ k:Int,atI [V.int x,.int y,.int z] d=some (.int k)/\P k:=by
 obtain ⟨j,rfl⟩:∃ j:Nat,d=j:=⟨d.toNat,by omega⟩
 match j,h1 with
 | 0,_=>exact ⟨_,zAs (j:=0) rfl,hx⟩
 | 1,_=>exact ⟨_,zAs (j:=1) rfl,hy⟩
 | 2,_=>exact ⟨_,zAs (j:=2) rfl,hz⟩
 | j+3,h=>exact absurd h (by omega)
theorem pick4 {d:Int} {x y z u:Int} (P:Int->Prop) (h0:0<=d) (h1:d < 4) (hx:P x) (hy:P y) (hz:P z) (hu:P u):∃ k:Int,atI [V.int x,.int y,.int z,.int u] d=some (.int k)/\P k:=by
 obtain ⟨j,rfl⟩:∃ j:Nat,d=j:=⟨d.toNat,by omega⟩
 match j,h1 with
 | 0,_=>exact ⟨_,zAs (j:=0) rfl,hx⟩
 | 1,_=>exact ⟨_,zAs (j:=1) rfl,hy⟩
 | 2,_=>exact ⟨_,zAs (j:=2) rfl,hz⟩
 | 3,_=>exact ⟨_,zAs (j:=3) rfl,hu⟩
 | j+4,h=>exact absurd h (by omega)
theorem pick5 {d:Int} (h0:0<=d) (h1:d < 5):∃ t:PySem.Str,atI [V.str "",.str "(0",.str "(0 0)",.str "0 1",.str "(0 17)"] d=some (.str t)/\t∈odd5:=by
 obtain ⟨j,rfl⟩:∃ j:Nat,d=j:=⟨d.toNat,by omega⟩
 match j,h1 with
 | 0,_=>exact ⟨_,zAs (j:=0) rfl,by decide +kernel⟩
 | 1,_=>exact ⟨_,zAs (j:=1) rfl,by decide +kernel⟩
 | 2,_=>exact ⟨_,zAs (j:=2) rfl,by decide +kernel⟩
 | 3,_=>exact ⟨_,zAs (j:=3) rfl,by decide +kernel⟩
 | 4,_=>exact ⟨_,zAs (j:=4) rfl,by decide +kernel⟩
 | j+5,h=>exact absurd h (by omega)
theorem ok_law_done (T:Tx K mg):FnOk P w K mg base (CXX P w) 10 T.f_law_done T.d_law_done ["way","size","cell","far"] (sp_done T.c_NoSize T.c_NoSeating T.c_OtherSize T.c_NoSeat T.c_NoNumber T.c_TooMany T.c_Unreached T.c_TooWide T.c_NotRead):=by
 refine T.F_law_done.okX sc_law_done (fun vs H Q E h=>?_) (fun cdv A outer s H vs Q E hr h=>?_)
 ·obtain ⟨w,n,c,far,rfl,_⟩:=h
  rfl
 obtain ⟨w',n,c,far,rfl,w0,w1,n1,n2,hfar,q0,q1,q2,q3,q4,q5,q6,q7,q8⟩:=h
 obtain ⟨t1,ht1,hq1⟩:∃ tl:TS,PSs (cxOf (CXX P w) P w K mg base ["way","size","cell","far","room"] "_law_done" (defScope zCs) T.f_law_done cdv A outer s H E) ((defBody zCs).drop 1) tl/\∀ (rm:Addr) (R:RmA) (B:Bk) (H1:Hp),Same H H1->RoomAt T.c_Room T.c_Book T.c_Entry H1 rm R [] [] B->B.n=n ->
   tl { nx:=fun _ H'=>Q .non H',rt:=Q } [some (.int w'),some (.int (n:Int)),some (.int c),some (.int far),some (.ref rm)] H1:=by
  refine ⟨_,(zA3 (ps_if (zAe op_eq (pv 0) zA9 (zAi _)) (zA3 (zAb (zAc (ok_law_no_size T) (hr.mono (by decide)) rfl T.m_law_no_size T.F_law_no_size.kp T.b_law_no_size .nil zAa (zA0 (pv 2) (zA0 (pv 3) zA1))))) (zA3 (ps_if (zAe op_eq (pv 0) zA9 (zAi _)) (zA3 (zAb (zAc (ok_law_no_seating T) (hr.mono (by decide)) rfl T.m_law_no_seating T.F_law_no_seating.kp T.b_law_no_seating .nil zAa (zA0 (pv 4) (zA0 (zAc (ok_law_bad T) (hr.mono (by decide)) rfl T.m_law_bad T.F_law_bad.kp T.b_law_bad .nil pass0 (zA0 (pv 3) zA1)) (zA0 (pe_op zBp (pv 2) zA9) zA1)))))) (zA3 (ps_if (zAe op_eq (pv 0) zA9 (zAi _)) (zA3 (zAb (zAc (ok_law_other_size T) (hr.mono (by decide)) rfl T.m_law_other_size T.F_law_other_size.kp T.b_law_other_size .nil zAa (zA0 (pv 4) (zA0 (zAc (ok_law_far T) (hr.mono (by decide)) rfl T.m_law_far T.F_law_far.kp T.b_law_far .nil pass0 (zA0 (pv 3) (zA0 (pe_op op_add zA9 (pe_op zBp (pe_op op_add (pv 1) (pe_op zBp (pe_op op_fdiv (pv 2) zA9) zA9)) zA9)) zA1))) (zA0 (pe_op zBp (pv 2) zA9) zA1)))))) (zA3 (ps_if (zAe op_eq (pv 0) zA9 (zAi _)) (zA3 (zAb (zAc (ok_law_no_seat T) (hr.mono (by decide)) rfl T.m_law_no_seat T.F_law_no_seat.kp T.b_law_no_seat .nil zAa (zA0 (pv 4) (zA0 (pe_ix (zCl (K:=K) rfl) (zCu (zA0 (pe_op op_sub (pe_un un_neg zA9) (pv 3)) (zA0 (pv 1) (zA0 (pe_op op_add (pv 1) (pv 3)) zA1)))) (pe_op zBp (pe_op op_fdiv (pv 2) zA9) zA9) (fun _ _=>rfl)) (zA0 (pe_op zBp (pv 2) zA9) zA1)))))) (zA3 (ps_if (PW.pt (pw_and (zAe op_eq (pv 0) zA9 (zAi _)) (pw_and1 (zAe op_eq (pe_op zBp (pv 2) zA9) zA9 (zAi _))))) (zA3 (zAb (zAh (ns:=zB4) rfl (pv 4) T.cl_Room T.mt_Room_numbered (by decide +kernel) (ok_Room_numbered T) (hr.mono (by decide)) T.b_Room_numbered zAa (zA0 (pe_ix (zCl (K:=K) rfl) (zCu (zA0 (pe_op op_sub (pe_un un_neg zA9) (pv 3)) (zA0 zA9 (zA0 (pe_op op_add zA9 (pv 3)) zA1)))) (pe_op zBp (pe_op op_fdiv (pv 2) zA9) zA9) (fun _ _=>rfl)) zA1)))) (zA3 (ps_if (zAe op_eq (pv 0) zA9 (zAi _)) (zA3 (zAb (zAc (ok_dyed T) (hr.mono (by decide)) rfl T.m_dyed T.F_dyed.kp T.b_dyed .nil zAa (zA0 (pv 4) (zA0 (pe_ix (zCl (K:=K) rfl) (zCu (zA0 (pe_un un_neg (pv 3)) (zA0 zA9 (zA0 zA9 (zA0 (pe_op op_add zA9 (pv 3)) zA1))))) (pe_op zBp (pe_op op_fdiv (pv 2) zA9) zA9) (fun _ _=>rfl)) zA1))))) (zA3 (ps_if (zAe op_eq (pv 0) zA9 (zAi _)) (zA3 (zAb (zAc (ok_law_full T) (hr.mono (by decide)) rfl T.m_law_full T.F_law_full.kp T.b_law_full .nil zAa (zA0 (pv 1) zA1)))) (zA3 (ps_if (zAe op_eq (pv 0) zA9 (zAi _)) (zA3 (zAb (zAc (ok_law_unreached T) (hr.mono (by decide)) rfl T.m_law_unreached T.F_law_unreached.kp T.b_law_unreached .nil zAa (zA0 (pe_op op_add zA9 (pe_op zBp (pv 1) zA9)) (zA0 (pe_op zBp (pv 2) zA9) zA1))))) (zA3 (ps_if (zAe op_eq (pv 0) zA9 (zAi _)) (zA3 (zAb (pe_call0 (ok_law_wide T) (hr.mono (by decide)) rfl T.m_law_wide T.F_law_wide.kp T.b_law_wide .nil zAa))) (zA3 (zAb (zAc (ok_read T) (hr.mono (by decide)) rfl T.m_read T.F_read.kp T.b_read .nil zAa (zA0 (pe_ix (zCl (K:=K) rfl) (zCu (zA0 zB9 (zA0 zB9 (zA0 zB9 (zA0 zB9 (zA0 zB9 zA1)))))) (pe_op zBp (pv 2) zA9) (fun _ _=>rfl)) (zA0 (pv 1) zA1))))))))))))))))))))))),fun rm R B H1 s1 hR hn=>?_⟩
  obtain ⟨dx,hob⟩:=hR.ob
  have hw:w'=0\/w'=1\/w'=2\/w'=3\/w'=4\/w'=5\/w'=6\/w'=7\/w'=8:=by omega
  clear w0 w1
  rcases hw with rfl | rfl | rfl | rfl | rfl | rfl | rfl | rfl | rfl
  ·walk_at "rd"
   exact ⟨c,far,rfl,hfar,fun H' s'=>q0 rfl H' (s1.trans s')⟩
  ·walk_at "rd"
   refine ⟨far,rfl,fun r ns H2 s2 hno e2=>?_⟩
   have g1:=Int.emod_nonneg c (show (11:Int)≠0 by decide)
   have g2:=Int.emod_lt_of_pos c (show (0:Int) < 11 by decide)
   walk_at "rd"
   exact ⟨by decide,rm,r,_,R,_,_,B,ns,rfl,g1,g2,hR.same s2,e2,hno,fun H' s'=>q1 rfl H' (s1.trans (s2.trans s'))⟩
  ·walk_at "rd"
   have g1:=Int.emod_nonneg c (show (6:Int)≠0 by decide)
   have g2:=Int.emod_lt_of_pos c (show (0:Int) < 6 by decide)
   obtain ⟨m,hm,m1,m2,mn⟩:∃ m:Nat,1+((n:Int)+c / 6 % 15) % 16=(m:Int)/\1<=m/\m<=16/\m≠n:=⟨(1+((n:Int)+c / 6 % 15) % 16).toNat,by omega,by omega,by omega,by omega⟩
   rw[hm,if_neg (by decide),if_neg (by decide)]
   refine ⟨⟨by decide,by decide⟩,by decide,by decide,far,m,rfl,by omega,fun r ns H2 s2 pm e2=>?_⟩
   exact ⟨by decide,rm,r,_,R,_,_,B,ns,m,rfl,g1,g2,hR.same s2,e2,pm,m1,m2,by rw[hn];exact mn,fun H' s'=>q2 rfl H' (s1.trans (s2.trans s'))⟩
  ·walk_at "rd"
   have g1:=Int.emod_nonneg c (show (4:Int)≠0 by decide)
   have g2:=Int.emod_lt_of_pos c (show (0:Int) < 4 by decide)
   have g3:=Int.emod_nonneg (c / 4) (show (3:Int)≠0 by decide)
   have g4:=Int.emod_lt_of_pos (c / 4) (show (0:Int) < 3 by decide)
   obtain ⟨z,hz,hzn⟩:=pick3 (xs:=[]) (x:=-1-far) (y:=n) (z:=n+far) (fun z=>¬ (0<=z/\z < (B.n:Int))) g3 g4 (by omega) (by omega) (by omega)
   rw[if_neg (by decide),if_neg (by decide),if_neg (by decide)]
   refine ⟨by decide,fun p hp=>?_⟩
   exact ⟨⟨by decide,by decide⟩,by decide,_,_,SqL.of zA2,hz,by decide,rm,z,_,R,_,_,B,rfl,g1,g2,hR.same (zA7 hp _),hzn,fun H' s'=>q3 rfl H' (s1.trans ((zA7 hp _).trans s'))⟩
  ·walk_at "rd"
   have hcnt:sizes B.rows=1:=by
    have:=count_reached (F:=[zA6 n]) hR.full.ok.tab (nod_of hR.full.ok.pgs) hR.full.iff (by simp) fun x=>by
     rw[List.mem_singleton,hn]
     exact ⟨fun h=>by rw[h];exact .rest,reach_nil⟩
    exact this.symm
   rw[if_neg (by decide),if_neg (by decide),if_neg (by decide),if_neg (by decide)]
   refine ⟨by decide,?_⟩
   split
   ·have g3:=Int.emod_nonneg (c / 2) (show (3:Int)≠0 by decide)
    have g4:=Int.emod_lt_of_pos (c / 2) (show (0:Int) < 3 by decide)
    obtain ⟨z,hz,hzn⟩:=pick3 (xs:=[]) (x:=-1-far) (y:=1) (z:=1+far) (fun z=>¬ (0<=z/\z < (sizes B.rows:Int))) g3 g4 (by omega) (by omega) (by omega)
    refine ⟨⟨dx,_,hob,rfl⟩,by decide,fun p hp=>?_⟩
    exact ⟨⟨by decide,by decide⟩,by decide,_,_,SqL.of zA2,hz,rm,R,_,_,B,z,rfl,hR.same (zA7 hp _),hzn,fun H' s'=>q4 rfl H' (s1.trans ((zA7 hp _).trans s'))⟩
   ·have g3:=Int.emod_nonneg (c / 2) (show (4:Int)≠0 by decide)
    have g4:=Int.emod_lt_of_pos (c / 2) (show (0:Int) < 4 by decide)
    obtain ⟨z,hz,hzn⟩:=pick4 (x:=-far) (y:=0) (z:=7) (u:=7+far) (fun z=>¬ (1<=z/\z<=6)) g3 g4 (by omega) (by omega) (by omega) (by omega)
    refine ⟨by decide,fun p hp=>?_⟩
    exact ⟨⟨by decide,by decide⟩,by decide,_,_,SqL.of zA2,hz,rm,R,_,_,B,z,rfl,hR.same (zA7 hp _),fun _ H' s'=>q4 rfl H' (s1.trans ((zA7 hp _).trans s')),fun ok=>absurd ok hzn⟩
  ·walk_at "rd"
   exact ⟨n,rfl,n1,n2,fun H' s'=>q5 rfl H' (s1.trans s')⟩
  ·walk_at "rd"
   rw[if_neg (by decide),if_neg (by decide),if_neg (by decide),if_neg (by decide),if_neg (by decide),if_neg (by decide)]
   obtain ⟨m,hm,m1,m2⟩:∃ m:Nat,1+(n:Int) % 15=(m:Int)/\1<=m/\m<=15:=⟨(1+(n:Int) % 15).toNat,by omega,by omega,by omega⟩
   rw[if_neg (by decide),hm]
   exact ⟨by decide,by decide,m,_,rfl,m1,m2,fun H' s'=>q6 rfl H' (s1.trans s')⟩
  ·walk_at "rd"
   exact ⟨rfl,fun H' s'=>q7 rfl H' (s1.trans s')⟩
  ·walk_at "rd"
   have g1:=Int.emod_nonneg c (show (5:Int)≠0 by decide)
   have g2:=Int.emod_lt_of_pos c (show (0:Int) < 5 by decide)
   obtain ⟨t,ht,hto⟩:=pick5 g1 g2
   refine ⟨by decide,fun p hp=>?_⟩
   exact ⟨by decide,_,_,SqL.of zA2,ht,t,_,rfl,fun no=>absurd ⟨by omega,by omega⟩ no,fun _=>⟨hto,fun H' s'=>q8 rfl H' (s1.trans ((zA7 hp _).trans s'))⟩⟩
 refine ⟨_,(zA5 (zAp (i:=4) sc_law_done.nd rfl (Or.inl rfl) (pe_makeC rfl T.mk_Room (zBj T) (hr.mono (by decide)) rfl T.k_Room T.b_Room___init__ zAa (zA0 (pv 1) zA1)))
   ht1),?_⟩
 walk_at "rd"
 intro rm dr hrm hdr nrm
 have s0:Same H (upd (upd H dr (.own rm)) rm (.ins T.c_Room dr [])):=fun b o e=>by rw[zA8 (zA4 e hrm),zA8 (zA4 e hdr)];exact e
 refine ⟨rm,dr,n,rfl,zA2,fun m em m1 m2 R B H1 k1 hR1 hBn hfr=>⟨rfl,?_⟩,fun hz=>absurd ⟨by omega,by omega⟩ hz⟩
 obtain rfl:n=m:=by omega
 have s1:Same H H1:=fun b o e=>k1 b o (s0 b o e) (by simpa using zA4 e hrm)
 exact hq1 rm R B H1 s1 hR1 hBn
structure Told21 (K:PySem.W.Frag) (r d0 d1 d2 d3 d4 d5 d6 d7 d8:Addr) (w:Int) (C:Addr):Prop where
 xc:XCls K C
 ro:PySem.W.mroIn K C (.ref r)=some true
 al:PySem.W.kitOne K (.ref C) (.ref d0)=some (decide ((0:Int)=w))/\PySem.W.kitOne K (.ref C) (.ref d1)=some (decide ((1:Int)=w))/\PySem.W.kitOne K (.ref C) (.ref d2)=some (decide ((2:Int)=w))/\PySem.W.kitOne K (.ref C) (.ref d3)=some (decide ((3:Int)=w))/\PySem.W.kitOne K (.ref C) (.ref d4)=some (decide ((4:Int)=w))/\PySem.W.kitOne K (.ref C) (.ref d5)=some (decide ((5:Int)=w))/\PySem.W.kitOne K (.ref C) (.ref d6)=some (decide ((6:Int)=w))/\PySem.W.kitOne K (.ref C) (.ref d7)=some (decide ((7:Int)=w))/\PySem.W.kitOne K (.ref C) (.ref d8)=some (decide ((8:Int)=w))
theorem told_0 (T:Tx K mg):Told21 K T.c_RoomError T.c_NoSize T.c_NoSeating T.c_OtherSize T.c_NoSeat T.c_NoNumber T.c_TooMany T.c_Unreached T.c_TooWide T.c_NotRead 0 T.c_NoSize:=⟨T.x_NoSize,T.y_NoSize_RoomError,T.x_NoSize.one T.x_NoSize T.y_NoSize_NoSize,T.x_NoSize.one T.x_NoSeating T.y_NoSize_NoSeating,T.x_NoSize.one T.x_OtherSize T.y_NoSize_OtherSize,T.x_NoSize.one T.x_NoSeat T.y_NoSize_NoSeat,T.x_NoSize.one T.x_NoNumber T.y_NoSize_NoNumber,T.x_NoSize.one T.x_TooMany T.y_NoSize_TooMany,T.x_NoSize.one T.x_Unreached T.y_NoSize_Unreached,T.x_NoSize.one T.x_TooWide T.y_NoSize_TooWide,T.x_NoSize.one T.x_NotRead T.y_NoSize_NotRead⟩
theorem told_1 (T:Tx K mg):Told21 K T.c_RoomError T.c_NoSize T.c_NoSeating T.c_OtherSize T.c_NoSeat T.c_NoNumber T.c_TooMany T.c_Unreached T.c_TooWide T.c_NotRead 1 T.c_NoSeating:=⟨T.x_NoSeating,T.y_NoSeating_RoomError,T.x_NoSeating.one T.x_NoSize T.y_NoSeating_NoSize,T.x_NoSeating.one T.x_NoSeating T.y_NoSeating_NoSeating,T.x_NoSeating.one T.x_OtherSize T.y_NoSeating_OtherSize,T.x_NoSeating.one T.x_NoSeat T.y_NoSeating_NoSeat,T.x_NoSeating.one T.x_NoNumber T.y_NoSeating_NoNumber,T.x_NoSeating.one T.x_TooMany T.y_NoSeating_TooMany,T.x_NoSeating.one T.x_Unreached T.y_NoSeating_Unreached,T.x_NoSeating.one T.x_TooWide T.y_NoSeating_TooWide,T.x_NoSeating.one T.x_NotRead T.y_NoSeating_NotRead⟩
theorem told_2 (T:Tx K mg):Told21 K T.c_RoomError T.c_NoSize T.c_NoSeating T.c_OtherSize T.c_NoSeat T.c_NoNumber T.c_TooMany T.c_Unreached T.c_TooWide T.c_NotRead 2 T.c_OtherSize:=⟨T.x_OtherSize,T.y_OtherSize_RoomError,T.x_OtherSize.one T.x_NoSize T.y_OtherSize_NoSize,T.x_OtherSize.one T.x_NoSeating T.y_OtherSize_NoSeating,T.x_OtherSize.one T.x_OtherSize T.y_OtherSize_OtherSize,T.x_OtherSize.one T.x_NoSeat T.y_OtherSize_NoSeat,T.x_OtherSize.one T.x_NoNumber T.y_OtherSize_NoNumber,T.x_OtherSize.one T.x_TooMany T.y_OtherSize_TooMany,T.x_OtherSize.one T.x_Unreached T.y_OtherSize_Unreached,T.x_OtherSize.one T.x_TooWide T.y_OtherSize_TooWide,T.x_OtherSize.one T.x_NotRead T.y_OtherSize_NotRead⟩
theorem told_3 (T:Tx K mg):Told21 K T.c_RoomError T.c_NoSize T.c_NoSeating T.c_OtherSize T.c_NoSeat T.c_NoNumber T.c_TooMany T.c_Unreached T.c_TooWide T.c_NotRead 3 T.c_NoSeat:=⟨T.x_NoSeat,T.y_NoSeat_RoomError,T.x_NoSeat.one T.x_NoSize T.y_NoSeat_NoSize,T.x_NoSeat.one T.x_NoSeating T.y_NoSeat_NoSeating,T.x_NoSeat.one T.x_OtherSize T.y_NoSeat_OtherSize,T.x_NoSeat.one T.x_NoSeat T.y_NoSeat_NoSeat,T.x_NoSeat.one T.x_NoNumber T.y_NoSeat_NoNumber,T.x_NoSeat.one T.x_TooMany T.y_NoSeat_TooMany,T.x_NoSeat.one T.x_Unreached T.y_NoSeat_Unreached,T.x_NoSeat.one T.x_TooWide T.y_NoSeat_TooWide,T.x_NoSeat.one T.x_NotRead T.y_NoSeat_NotRead⟩
theorem told_4 (T:Tx K mg):Told21 K T.c_RoomError T.c_NoSize T.c_NoSeating T.c_OtherSize T.c_NoSeat T.c_NoNumber T.c_TooMany T.c_Unreached T.c_TooWide T.c_NotRead 4 T.c_NoNumber:=⟨T.x_NoNumber,T.y_NoNumber_RoomError,T.x_NoNumber.one T.x_NoSize T.y_NoNumber_NoSize,T.x_NoNumber.one T.x_NoSeating T.y_NoNumber_NoSeating,T.x_NoNumber.one T.x_OtherSize T.y_NoNumber_OtherSize,T.x_NoNumber.one T.x_NoSeat T.y_NoNumber_NoSeat,T.x_NoNumber.one T.x_NoNumber T.y_NoNumber_NoNumber,T.x_NoNumber.one T.x_TooMany T.y_NoNumber_TooMany,T.x_NoNumber.one T.x_Unreached T.y_NoNumber_Unreached,T.x_NoNumber.one T.x_TooWide T.y_NoNumber_TooWide,T.x_NoNumber.one T.x_NotRead T.y_NoNumber_NotRead⟩
theorem told_5 (T:Tx K mg):Told21 K T.c_RoomError T.c_NoSize T.c_NoSeating T.c_OtherSize T.c_NoSeat T.c_NoNumber T.c_TooMany T.c_Unreached T.c_TooWide T.c_NotRead 5 T.c_TooMany:=⟨T.x_TooMany,T.y_TooMany_RoomError,T.x_TooMany.one T.x_NoSize T.y_TooMany_NoSize,T.x_TooMany.one T.x_NoSeating T.y_TooMany_NoSeating,T.x_TooMany.one T.x_OtherSize T.y_TooMany_OtherSize,T.x_TooMany.one T.x_NoSeat T.y_TooMany_NoSeat,T.x_TooMany.one T.x_NoNumber T.y_TooMany_NoNumber,T.x_TooMany.one T.x_TooMany T.y_TooMany_TooMany,T.x_TooMany.one T.x_Unreached T.y_TooMany_Unreached,T.x_TooMany.one T.x_TooWide T.y_TooMany_TooWide,T.x_TooMany.one T.x_NotRead T.y_TooMany_NotRead⟩
theorem told_6 (T:Tx K mg):Told21 K T.c_RoomError T.c_NoSize T.c_NoSeating T.c_OtherSize T.c_NoSeat T.c_NoNumber T.c_TooMany T.c_Unreached T.c_TooWide T.c_NotRead 6 T.c_Unreached:=⟨T.x_Unreached,T.y_Unreached_RoomError,T.x_Unreached.one T.x_NoSize T.y_Unreached_NoSize,T.x_Unreached.one T.x_NoSeating T.y_Unreached_NoSeating,T.x_Unreached.one T.x_OtherSize T.y_Unreached_OtherSize,T.x_Unreached.one T.x_NoSeat T.y_Unreached_NoSeat,T.x_Unreached.one T.x_NoNumber T.y_Unreached_NoNumber,T.x_Unreached.one T.x_TooMany T.y_Unreached_TooMany,T.x_Unreached.one T.x_Unreached T.y_Unreached_Unreached,T.x_Unreached.one T.x_TooWide T.y_Unreached_TooWide,T.x_Unreached.one T.x_NotRead T.y_Unreached_NotRead⟩
theorem told_7 (T:Tx K mg):Told21 K T.c_RoomError T.c_NoSize T.c_NoSeating T.c_OtherSize T.c_NoSeat T.c_NoNumber T.c_TooMany T.c_Unreached T.c_TooWide T.c_NotRead 7 T.c_TooWide:=⟨T.x_TooWide,T.y_TooWide_RoomError,T.x_TooWide.one T.x_NoSize T.y_TooWide_NoSize,T.x_TooWide.one T.x_NoSeating T.y_TooWide_NoSeating,T.x_TooWide.one T.x_OtherSize T.y_TooWide_OtherSize,T.x_TooWide.one T.x_NoSeat T.y_TooWide_NoSeat,T.x_TooWide.one T.x_NoNumber T.y_TooWide_NoNumber,T.x_TooWide.one T.x_TooMany T.y_TooWide_TooMany,T.x_TooWide.one T.x_Unreached T.y_TooWide_Unreached,T.x_TooWide.one T.x_TooWide T.y_TooWide_TooWide,T.x_TooWide.one T.x_NotRead T.y_TooWide_NotRead⟩
theorem told_8 (T:Tx K mg):Told21 K T.c_RoomError T.c_NoSize T.c_NoSeating T.c_OtherSize T.c_NoSeat T.c_NoNumber T.c_TooMany T.c_Unreached T.c_TooWide T.c_NotRead 8 T.c_NotRead:=⟨T.x_NotRead,T.y_NotRead_RoomError,T.x_NotRead.one T.x_NoSize T.y_NotRead_NoSize,T.x_NotRead.one T.x_NoSeating T.y_NotRead_NoSeating,T.x_NotRead.one T.x_OtherSize T.y_NotRead_OtherSize,T.x_NotRead.one T.x_NoSeat T.y_NotRead_NoSeat,T.x_NotRead.one T.x_NoNumber T.y_NotRead_NoNumber,T.x_NotRead.one T.x_TooMany T.y_NotRead_TooMany,T.x_NotRead.one T.x_Unreached T.y_NotRead_Unreached,T.x_NotRead.one T.x_TooWide T.y_NotRead_TooWide,T.x_NotRead.one T.x_NotRead T.y_NotRead_NotRead⟩
theorem ok_law (T:Tx K mg):FnOk P w K mg base CX0 11 T.f_law T.d_law ["script"] (sp_law K):=by
 refine T.F_law.ok sc_law (fun vs H Q E h=>?_) (fun cdv A outer s H vs Q E hr h=>?_)
 ·obtain ⟨a,ns,rfl,_⟩:=h
  rfl
 obtain ⟨a,ns,rfl,hS,h63,q⟩:=h
 have hu0:=hu0_of hr
 refine ⟨_,(zA5 (zAp (i:=1) sc_law.nd rfl (Or.inr rfl) (pe_op zBp (zAc (ok_law_cell_at T) (hr.mono (by decide)) rfl T.m_law_cell_at T.F_law_cell_at.kp T.b_law_cell_at .nil pass0 (zA0 (pv 0) (zA0 zA9 zA1))) zA9))
   (zA5 (zAp (i:=2) sc_law.nd rfl (Or.inl rfl) (pe_op op_add zA9 (pe_op zBp (pe_op op_fdiv (zAc (ok_law_cell_at T) (hr.mono (by decide)) rfl T.m_law_cell_at T.F_law_cell_at.kp T.b_law_cell_at .nil pass0 (zA0 (pv 0) (zA0 zA9 zA1))) zA9) zA9)))
   (zA5 (zAp (i:=3) sc_law.nd rfl (Or.inl rfl) (pe_op zBp (zAc (ok_law_cell_at T) (hr.mono (by decide)) rfl T.m_law_cell_at T.F_law_cell_at.kp T.b_law_cell_at .nil pass0 (zA0 (pv 0) (zA0 zA9 zA1))) (pe_op op_pow zA9 zA9)))
   (zA5 (zAp (i:=4) sc_law.nd rfl (Or.inl rfl) (zCu zA1))
   (zA5 (ps_try (i:=5) rfl rfl rfl sc_law.nd rfl rfl T.x_RoomError rfl T.k_RoomError (fun _ _=>(zA3 (zAb (pe_callX (ok_law_done T) (hr.mono (by decide)) rfl T.m_law_done T.F_law_done.kp T.b_law_done .nil passT (zA0 (pv 1) (zA0 (pv 2) (zA0 (zAc (ok_law_cell_at T) (hr.mono (by decide)) rfl T.m_law_cell_at T.F_law_cell_at.kp T.b_law_cell_at .nil pass0 (zA0 (pv 0) (zA0 zA9 zA1))) (zA0 (pv 3) zA1)))))))) (fun _=>(zA3 (zAp (i:=4) sc_law.nd rfl (Or.inl rfl) (pe_callN (ok_law_which T) (hr.hd' (by decide) _) rfl T.m_law_which T.F_law_which.kp T.b_law_which .nil pass0 (zA0 (pv 5) zA1))))))
   (zA3 (zB6 (pe_cmpR (op_eq_seqK (K:=K) rfl hu0) (pv 4) (pe_op op_cat (pe_comp (M:=["k"]) rfl (zC7 (sc:=defScope s_law) (N:=["script","way","size","far","told","e"]) rfl rfl rfl (by decide +kernel) (by decide +kernel)) (pi_range1 (by rfl) T.z_range (zA0 zA9 zA1)) (fun _ _ _ _ _=>(zBo (i:=0) (by show (["k","script","way","size","far","told","e"]:List Str).Nodup;decide +kernel) rfl (Or.inl rfl))) (fun _ _ _ _ _=>pts_nil) (fun _ _ _ _ _=>(pe_cmpR op_eq (pv 0) (pv 2) (zAi _)))) (zCu (zA0 pe_bl zA1))) (zAi _))))))))),?_⟩
 walk_at "rd"
 refine ⟨a,ns,0,rfl,hS,by decide,?_⟩
 walk_at "rd"
 have g1:=Int.emod_nonneg (ns.getD (0:Int).toNat 0) (show (9:Int)≠0 by decide)
 have g2:=Int.emod_lt_of_pos (ns.getD (0:Int).toNat 0) (show (0:Int) < 9 by decide)
 generalize ns.getD (0:Int).toNat 0 % 9=w' at g1 g2
 refine ⟨by decide,a,ns,0,rfl,hS,by decide,?_⟩
 walk_at "rd"
 obtain ⟨n,hn,n1,n2⟩:∃ n:Nat,1+ns.getD (0:Int).toNat 0 / 9 % 16=(n:Int)/\1<=n/\n<=16:=⟨(1+ns.getD (0:Int).toNat 0 / 9 % 16).toNat,by omega,by omega,by omega⟩
 rw[hn]
 refine ⟨⟨by decide,by decide⟩,by decide,a,ns,2,rfl,hS,by decide,⟨by decide,by decide,by decide⟩,?_⟩
 walk_at "rd"
 have hten:(0:Int) < 10 ^ Int.toNat 59:=by decide
 have hfar:=Int.emod_nonneg (ns.getD (2:Int).toNat 0) (Int.ne_of_gt hten)
 refine ⟨hten,by decide,fun p hp=>?_⟩
 generalize ns.getD (2:Int).toNat 0 % 10 ^ Int.toNat 59=far at hfar
 have s1:=zA7 hp (.lst [])
 generalize upd H p (.lst [])=H1 at s1
 refine try_by (fun σ' cls _ H'=>SEq σ' [some (.ref a),some (.int w'),some (.int (n:Int)),some (.int far),some (.ref p),none]/\Same H1 H'/\∃ C:Addr,cls=.ref C/\Told21 K T.c_RoomError T.c_NoSize T.c_NoSeating T.c_OtherSize T.c_NoSeat T.c_NoNumber T.c_TooMany T.c_Unreached T.c_TooWide T.c_NotRead w' C) ?_ ?_
 ·walk_at "rd"
  refine ⟨a,ns,1,rfl,s1.seq hS,by decide,?_⟩
  exact ⟨w',n,_,far,rfl,g1,g2,n1,n2,hfar,fun e H' s'=>⟨⟨rfl⟩,s',T.c_NoSize,rfl,by rw[e];exact told_0 T⟩,fun e H' s'=>⟨⟨rfl⟩,s',T.c_NoSeating,rfl,by rw[e];exact told_1 T⟩,fun e H' s'=>⟨⟨rfl⟩,s',T.c_OtherSize,rfl,by rw[e];exact told_2 T⟩,fun e H' s'=>⟨⟨rfl⟩,s',T.c_NoSeat,rfl,by rw[e];exact told_3 T⟩,fun e H' s'=>⟨⟨rfl⟩,s',T.c_NoNumber,rfl,by rw[e];exact told_4 T⟩,fun e H' s'=>⟨⟨rfl⟩,s',T.c_TooMany,rfl,by rw[e];exact told_5 T⟩,fun e H' s'=>⟨⟨rfl⟩,s',T.c_Unreached,rfl,by rw[e];exact told_6 T⟩,fun e H' s'=>⟨⟨rfl⟩,s',T.c_TooWide,rfl,by rw[e];exact told_7 T⟩,fun e H' s'=>⟨⟨rfl⟩,s',T.c_NotRead,rfl,by rw[e];exact told_8 T⟩⟩
 ·rintro σ' cls H' ⟨⟨rfl⟩,s',C,rfl,tw⟩
  refine ⟨_,rfl,tw.xc,tw.ro,fun ea hea=>?_⟩
  have e2:(upd H' ea (excO ea C)) ea=some (excO ea C):=zA2
  generalize upd H' ea (excO ea C)=H2 at e2
  obtain ⟨k0,k1,k2,k3,k4,k5,k6,k7,k8⟩:=tw.al
  walk_at "rd"
  refine ⟨ea,C,_,_,_,_,_,_,_,_,_,rfl,e2,tw.xc,k0,k1,k2,k3,k4,k5,k6,k7,k8,fun l H3 s3 e3=>?_⟩
  walk_at "rd"
  refine ⟨by decide,by decide,?_⟩
  refine comp_range (n:=9) (fun i ys H4=>H4=H3/\ys=(List.range i).map fun k:Nat=>V.bl (decide ((k:Int)=w'))) ⟨rfl,rfl⟩ (zB8 (by decide)) (fun i ys H4 ⟨_,e⟩=>by rw[e,List.length_map,List.length_range];exact Nat.le_refl _) ?_ ?_
  ·rintro i ys H4 hi ⟨rfl,rfl⟩
   walk_at "rd"
   refine ⟨trivial,trivial,?_⟩
   rw[List.range_succ,List.map_append,Int.zero_add]
   rfl
  ·rintro ys H4 ⟨rfl,rfl⟩ l4 hl4
   have u4:=zA7 hl4 (.lst ((List.range 9).map fun k:Nat=>V.bl (decide ((k:Int)=w'))))
   have e4:(upd H4 l4 (.lst ((List.range 9).map fun k:Nat=>V.bl (decide ((k:Int)=w'))))) l4=some (.lst ((List.range 9).map fun k:Nat=>V.bl (decide ((k:Int)=w')))):=zA2
   generalize upd H4 l4 (.lst ((List.range 9).map fun k:Nat=>V.bl (decide ((k:Int)=w'))))=H5 at u4 e4
   refine ⟨by decide,fun l5 hl5=>?_⟩
   have u5:=zA7 hl5 (.lst [.bl false])
   have e5:(upd H5 l5 (.lst [.bl false])) l5=some (.lst [.bl false]):=zA2
   generalize upd H5 l5 (.lst [.bl false])=H6 at u5 e5
   walk_at "rd"
   refine ⟨_,_,u5.at e4,e5,zB8 (by rw[List.length_map,List.length_range];decide),fun l6 hl6=>?_⟩
   have e6:=(u4.trans (u5.trans (zA7 hl6 (.lst (((List.range 9).map fun k:Nat=>V.bl (decide ((k:Int)=w')))++[.bl false]))))).at e3
   walk_at "rd"
   refine ⟨_,_,.inl ⟨SqL.of e6,SqL.of zA2⟩,rfl,rfl,?_⟩
   have key:eqVs [V.bl (decide ((0:Int)=w')),.bl (decide ((1:Int)=w')),.bl (decide ((2:Int)=w')),.bl (decide ((3:Int)=w')),.bl (decide ((4:Int)=w')),.bl (decide ((5:Int)=w')),.bl (decide ((6:Int)=w')),.bl (decide ((7:Int)=w')),.bl (decide ((8:Int)=w')),.bl false] (((List.range 9).map fun k:Nat=>V.bl (decide ((k:Int)=w')))++[.bl false])=true:=by
    have hw:w'=0\/w'=1\/w'=2\/w'=3\/w'=4\/w'=5\/w'=6\/w'=7\/w'=8:=by omega
    clear g1 g2 tw k0 k1 k2 k3 k4 k5 k6 k7 k8 e3 e4 u4 u5 e6
    rcases hw with rfl | rfl | rfl | rfl | rfl | rfl | rfl | rfl | rfl <;> rfl
   rw[key]
   exact q _
end
local macro_rules | `(tactic| walk_at "b1")=>`(tactic| exact fun _ _ _ _ _ _ us hl=>match us,hl with | [_],_=>rfl)
local macro_rules | `(tactic| walk_at "b2")=>`(tactic| exact fun _ _ _ _ _ _ us hl=>match us,hl with | [_,_],_=>rfl)
local macro_rules | `(tactic| walk_at "b3")=>`(tactic| exact fun _ _ _ _ _ _ us hl=>match us,hl with | [_,_,_],_=>rfl)
local macro_rules | `(tactic| walk_at "b4")=>`(tactic| exact fun _ _ _ _ _ _ us hl=>match us,hl with | [_,_,_,_],_=>rfl)
local macro_rules | `(tactic| walk_at "b5")=>`(tactic| exact fun _ _ _ _ _ _ us hl=>match us,hl with | [_,_,_,_,_],_=>rfl)
open PySem.W in
theorem all_mk {l:OpenLaw} {w:World} {K:Frag} {h:Heap} {mg:Str->Option Value} {fa f0 f1 f2 f3 f4 f5 f6 f7 f8 f9 f10 f11 f12 f13 f14 f15 f16 f17 f18 f19 f20 f21 f22 f23 f24 f25 f26 f27 f28 f29 f30 f31 f32 f33 f34 f35 f36 f37 f38 f39 f40 f41 f42 f43 f44 f45 f46 f47 f48 f49 f50 f51 f52 f53 f54 f55 f56 f57 f58 f59:Addr} {t_LEAST_SIZE:Tok} {t_GREATEST_SIZE:Tok} {t_MOST_MOVES:Tok} {t_MOST_DYES:Tok} {t_MOST_GONE_THROUGH:Tok} {t_REST:Tok} {C_RoomError:Addr} {C_NoSize:Addr} {C_NoSeating:Addr} {C_OtherSize:Addr} {C_NoSeat:Addr} {C_NoNumber:Addr} {C_TooMany:Addr} {C_Unreached:Addr} {C_TooWide:Addr} {C_NotRead:Addr} {C_Entry:Addr} {C_Sifting:Addr} {C_Book:Addr} {C_Room:Addr} (X:K.In h) (G:h.Ns mainGlobals mg) (hfa:mg "law"=some (.ref fa))
 {od0 an0:Option Addr} {sl0:Array (Option Value)} {oc0 kV0 dc0 pm0 cd0 ct0:Value}
 {od1 an1:Option Addr} {sl1:Array (Option Value)} {oc1 kV1 dc1 pm1 cd1 ct1:Value}
 {od2 an2:Option Addr} {sl2:Array (Option Value)} {oc2 kV2 dc2 pm2 cd2 ct2:Value}
 {od3 an3:Option Addr} {sl3:Array (Option Value)} {oc3 kV3 dc3 pm3 cd3 ct3:Value}
 {od4 an4:Option Addr} {sl4:Array (Option Value)} {oc4 kV4 dc4 pm4 cd4 ct4:Value}
 {od5 an5:Option Addr} {sl5:Array (Option Value)} {oc5 kV5 dc5 pm5 cd5 ct5:Value}
 {od6 an6:Option Addr} {sl6:Array (Option Value)} {oc6 kV6 dc6 pm6 cd6 ct6:Value}
 {od7 an7:Option Addr} {sl7:Array (Option Value)} {oc7 kV7 dc7 pm7 cd7 ct7:Value}
 {od8 an8:Option Addr} {sl8:Array (Option Value)} {oc8 kV8 dc8 pm8 cd8 ct8:Value}
 {od9 an9:Option Addr} {sl9:Array (Option Value)} {oc9 kV9 dc9 pm9 cd9 ct9:Value}
 {od10 an10:Option Addr} {sl10:Array (Option Value)} {oc10 kV10 dc10 pm10 cd10 ct10:Value}
 {od11 an11:Option Addr} {sl11:Array (Option Value)} {oc11 kV11 dc11 pm11 cd11 ct11:Value}
 {od12 an12:Option Addr} {sl12:Array (Option Value)} {oc12 kV12 dc12 pm12 cd12 ct12:Value}
 {od13 an13:Option Addr} {sl13:Array (Option Value)} {oc13 kV13 dc13 pm13 cd13 ct13:Value}
 {od14 an14:Option Addr} {sl14:Array (Option Value)} {oc14 kV14 dc14 pm14 cd14 ct14:Value}
 {od15 an15:Option Addr} {sl15:Array (Option Value)} {oc15 kV15 dc15 pm15 cd15 ct15:Value}
 {od16 an16:Option Addr} {sl16:Array (Option Value)} {oc16 kV16 dc16 pm16 cd16 ct16:Value}
 {od17 an17:Option Addr} {sl17:Array (Option Value)} {oc17 kV17 dc17 pm17 cd17 ct17:Value}
 {od18 an18:Option Addr} {sl18:Array (Option Value)} {oc18 kV18 dc18 pm18 cd18 ct18:Value}
 {od19 an19:Option Addr} {sl19:Array (Option Value)} {oc19 kV19 dc19 pm19 cd19 ct19:Value}
 {od20 an20:Option Addr} {sl20:Array (Option Value)} {oc20 kV20 dc20 pm20 cd20 ct20:Value}
 {od21 an21:Option Addr} {sl21:Array (Option Value)} {oc21 kV21 dc21 pm21 cd21 ct21:Value}
 {od22 an22:Option Addr} {sl22:Array (Option Value)} {oc22 kV22 dc22 pm22 cd22 ct22:Value}
 {od23 an23:Option Addr} {sl23:Array (Option Value)} {oc23 kV23 dc23 pm23 cd23 ct23:Value}
 {od24 an24:Option Addr} {sl24:Array (Option Value)} {oc24 kV24 dc24 pm24 cd24 ct24:Value}
 {od25 an25:Option Addr} {sl25:Array (Option Value)} {oc25 kV25 dc25 pm25 cd25 ct25:Value}
 {od26 an26:Option Addr} {sl26:Array (Option Value)} {oc26 kV26 dc26 pm26 cd26 ct26:Value}
 {od27 an27:Option Addr} {sl27:Array (Option Value)} {oc27 kV27 dc27 pm27 cd27 ct27:Value}
 {od28 an28:Option Addr} {sl28:Array (Option Value)} {oc28 kV28 dc28 pm28 cd28 ct28:Value}
 {od29 an29:Option Addr} {sl29:Array (Option Value)} {oc29 kV29 dc29 pm29 cd29 ct29:Value}
 {od30 an30:Option Addr} {sl30:Array (Option Value)} {oc30 kV30 dc30 pm30 cd30 ct30:Value}
 {od31 an31:Option Addr} {sl31:Array (Option Value)} {oc31 kV31 dc31 pm31 cd31 ct31:Value}
 {od32 an32:Option Addr} {sl32:Array (Option Value)} {oc32 kV32 dc32 pm32 cd32 ct32:Value}
 {od33 an33:Option Addr} {sl33:Array (Option Value)} {oc33 kV33 dc33 pm33 cd33 ct33:Value}
 {od34 an34:Option Addr} {sl34:Array (Option Value)} {oc34 kV34 dc34 pm34 cd34 ct34:Value}
 {od35 an35:Option Addr} {sl35:Array (Option Value)} {oc35 kV35 dc35 pm35 cd35 ct35:Value}
 {od36 an36:Option Addr} {sl36:Array (Option Value)} {oc36 kV36 dc36 pm36 cd36 ct36:Value}
 {od37 an37:Option Addr} {sl37:Array (Option Value)} {oc37 kV37 dc37 pm37 cd37 ct37:Value}
 {od38 an38:Option Addr} {sl38:Array (Option Value)} {oc38 kV38 dc38 pm38 cd38 ct38:Value}
 {od39 an39:Option Addr} {sl39:Array (Option Value)} {oc39 kV39 dc39 pm39 cd39 ct39:Value}
 {od40 an40:Option Addr} {sl40:Array (Option Value)} {oc40 kV40 dc40 pm40 cd40 ct40:Value}
 {od41 an41:Option Addr} {sl41:Array (Option Value)} {oc41 kV41 dc41 pm41 cd41 ct41:Value}
 {od42 an42:Option Addr} {sl42:Array (Option Value)} {oc42 kV42 dc42 pm42 cd42 ct42:Value}
 {od43 an43:Option Addr} {sl43:Array (Option Value)} {oc43 kV43 dc43 pm43 cd43 ct43:Value}
 {od44 an44:Option Addr} {sl44:Array (Option Value)} {oc44 kV44 dc44 pm44 cd44 ct44:Value}
 {od45 an45:Option Addr} {sl45:Array (Option Value)} {oc45 kV45 dc45 pm45 cd45 ct45:Value}
 {od46 an46:Option Addr} {sl46:Array (Option Value)} {oc46 kV46 dc46 pm46 cd46 ct46:Value}
 {od47 an47:Option Addr} {sl47:Array (Option Value)} {oc47 kV47 dc47 pm47 cd47 ct47:Value}
 {od48 an48:Option Addr} {sl48:Array (Option Value)} {oc48 kV48 dc48 pm48 cd48 ct48:Value}
 {od49 an49:Option Addr} {sl49:Array (Option Value)} {oc49 kV49 dc49 pm49 cd49 ct49:Value}
 {od50 an50:Option Addr} {sl50:Array (Option Value)} {oc50 kV50 dc50 pm50 cd50 ct50:Value}
 {od51 an51:Option Addr} {sl51:Array (Option Value)} {oc51 kV51 dc51 pm51 cd51 ct51:Value}
 {od52 an52:Option Addr} {sl52:Array (Option Value)} {oc52 kV52 dc52 pm52 cd52 ct52:Value}
 {od53 an53:Option Addr} {sl53:Array (Option Value)} {oc53 kV53 dc53 pm53 cd53 ct53:Value}
 {od54 an54:Option Addr} {sl54:Array (Option Value)} {oc54 kV54 dc54 pm54 cd54 ct54:Value}
 {od55 an55:Option Addr} {sl55:Array (Option Value)} {oc55 kV55 dc55 pm55 cd55 ct55:Value}
 {od56 an56:Option Addr} {sl56:Array (Option Value)} {oc56 kV56 dc56 pm56 cd56 ct56:Value}
 {od57 an57:Option Addr} {sl57:Array (Option Value)} {oc57 kV57 dc57 pm57 cd57 ct57:Value}
 {od58 an58:Option Addr} {sl58:Array (Option Value)} {oc58 kV58 dc58 pm58 cd58 ct58:Value}
 {od59 an59:Option Addr} {sl59:Array (Option Value)} {oc59 kV59 dc59 pm59 cd59 ct59:Value}
 (a0:nsIn K mainGlobals "is_size"=some (some (.ref f0)))
 (l0:K.lookup f0=some ⟨oc0,od0,.func (fnOf "is_size" "is_size" (defArgs s_is_size) (defBody s_is_size) (defScope s_is_size) .none kV0 dc0 pm0 an0 cd0 ct0),sl0⟩) (c0:codeIn K cd0 "is_size"=true) (k0:keepIn K (.ref f0)=true)
 (a1:nsIn K mainGlobals "is_seating"=some (some (.ref f1)))
 (l1:K.lookup f1=some ⟨oc1,od1,.func (fnOf "is_seating" "is_seating" (defArgs zCq) (defBody zCq) (defScope zCq) .none kV1 dc1 pm1 an1 cd1 ct1),sl1⟩) (c1:codeIn K cd1 "is_seating"=true) (k1:keepIn K (.ref f1)=true)
 (a2:nsIn K mainGlobals "need_size"=some (some (.ref f2)))
 (l2:K.lookup f2=some ⟨oc2,od2,.func (fnOf "need_size" "need_size" (defArgs s_need_size) (defBody s_need_size) (defScope s_need_size) .none kV2 dc2 pm2 an2 cd2 ct2),sl2⟩) (c2:codeIn K cd2 "need_size"=true) (k2:keepIn K (.ref f2)=true)
 (a3:nsIn K mainGlobals "need_seating"=some (some (.ref f3)))
 (l3:K.lookup f3=some ⟨oc3,od3,.func (fnOf "need_seating" "need_seating" (defArgs zC4) (defBody zC4) (defScope zC4) .none kV3 dc3 pm3 an3 cd3 ct3),sl3⟩) (c3:codeIn K cd3 "need_seating"=true) (k3:keepIn K (.ref f3)=true)
 (a4:nsIn K mainGlobals "rest"=some (some (.ref f4)))
 (l4:K.lookup f4=some ⟨oc4,od4,.func (fnOf "rest" "rest" (defArgs s_rest) (defBody s_rest) (defScope s_rest) .none kV4 dc4 pm4 an4 cd4 ct4),sl4⟩) (c4:codeIn K cd4 "rest"=true) (k4:keepIn K (.ref f4)=true)
 (a5:nsIn K mainGlobals "joined"=some (some (.ref f5)))
 (l5:K.lookup f5=some ⟨oc5,od5,.func (fnOf "joined" "joined" (defArgs s_joined) (defBody s_joined) (defScope s_joined) .none kV5 dc5 pm5 an5 cd5 ct5),sl5⟩) (c5:codeIn K cd5 "joined"=true) (k5:keepIn K (.ref f5)=true)
 (a6:nsIn K mainGlobals "turned"=some (some (.ref f6)))
 (l6:K.lookup f6=some ⟨oc6,od6,.func (fnOf "turned" "turned" (defArgs s_turned) (defBody s_turned) (defScope s_turned) .none kV6 dc6 pm6 an6 cd6 ct6),sl6⟩) (c6:codeIn K cd6 "turned"=true) (k6:keepIn K (.ref f6)=true)
 (a7:nsIn K mainGlobals "then"=some (some (.ref f7)))
 (l7:K.lookup f7=some ⟨oc7,od7,.func (fnOf "then" "then" (defArgs s_then) (defBody s_then) (defScope s_then) .none kV7 dc7 pm7 an7 cd7 ct7),sl7⟩) (c7:codeIn K cd7 "then"=true) (k7:keepIn K (.ref f7)=true)
 (a8:nsIn K mainGlobals "back"=some (some (.ref f8)))
 (l8:K.lookup f8=some ⟨oc8,od8,.func (fnOf "back" "back" (defArgs s_back) (defBody s_back) (defScope s_back) .none kV8 dc8 pm8 an8 cd8 ct8),sl8⟩) (c8:codeIn K cd8 "back"=true) (k8:keepIn K (.ref f8)=true)
 (a9:findIn K (.ref C_Entry) "__init__"=some (some (.ref f9))) (i9:isFn K (.ref f9)=true)
 (l9:K.lookup f9=some ⟨oc9,od9,.func (fnOf "__init__" "Entry.__init__" (defArgs zBe) (defBody zBe) (defScope zBe) .none kV9 dc9 pm9 an9 cd9 ct9),sl9⟩) (c9:codeIn K cd9 "Entry.__init__"=true) (k9:keepIn K (.ref f9)=true)
 (a10:findIn K (.ref C_Sifting) "__init__"=some (some (.ref f10))) (i10:isFn K (.ref f10)=true)
 (l10:K.lookup f10=some ⟨oc10,od10,.func (fnOf "__init__" "Sifting.__init__" (defArgs zB1) (defBody zB1) (defScope zB1) .none kV10 dc10 pm10 an10 cd10 ct10),sl10⟩) (c10:codeIn K cd10 "Sifting.__init__"=true) (k10:keepIn K (.ref f10)=true)
 (a11:findIn K (.ref C_Sifting) "take_off"=some (some (.ref f11))) (i11:isFn K (.ref f11)=true)
 (l11:K.lookup f11=some ⟨oc11,od11,.func (fnOf "take_off" "Sifting.take_off" (defArgs zB2) (defBody zB2) (defScope zB2) .none kV11 dc11 pm11 an11 cd11 ct11),sl11⟩) (c11:codeIn K cd11 "Sifting.take_off"=true) (k11:keepIn K (.ref f11)=true)
 (a12:findIn K (.ref C_Book) "__init__"=some (some (.ref f12))) (i12:isFn K (.ref f12)=true)
 (l12:K.lookup f12=some ⟨oc12,od12,.func (fnOf "__init__" "Book.__init__" (defArgs zB7) (defBody zB7) (defScope zB7) .none kV12 dc12 pm12 an12 cd12 ct12),sl12⟩) (c12:codeIn K cd12 "Book.__init__"=true) (k12:keepIn K (.ref f12)=true)
 (a13:findIn K (.ref C_Book) "sift"=some (some (.ref f13))) (i13:isFn K (.ref f13)=true)
 (l13:K.lookup f13=some ⟨oc13,od13,.func (fnOf "sift" "Book.sift" (defArgs s_Book_sift) (defBody s_Book_sift) (defScope s_Book_sift) .none kV13 dc13 pm13 an13 cd13 ct13),sl13⟩) (c13:codeIn K cd13 "Book.sift"=true) (k13:keepIn K (.ref f13)=true)
 (a14:findIn K (.ref C_Book) "reaches"=some (some (.ref f14))) (i14:isFn K (.ref f14)=true)
 (l14:K.lookup f14=some ⟨oc14,od14,.func (fnOf "reaches" "Book.reaches" (defArgs zC5) (defBody zC5) (defScope zC5) .none kV14 dc14 pm14 an14 cd14 ct14),sl14⟩) (c14:codeIn K cd14 "Book.reaches"=true) (k14:keepIn K (.ref f14)=true)
 (a15:findIn K (.ref C_Book) "put_move"=some (some (.ref f15))) (i15:isFn K (.ref f15)=true)
 (l15:K.lookup f15=some ⟨oc15,od15,.func (fnOf "put_move" "Book.put_move" (defArgs zBr) (defBody zBr) (defScope zBr) .none kV15 dc15 pm15 an15 cd15 ct15),sl15⟩) (c15:codeIn K cd15 "Book.put_move"=true) (k15:keepIn K (.ref f15)=true)
 (a16:findIn K (.ref C_Book) "put_step"=some (some (.ref f16))) (i16:isFn K (.ref f16)=true)
 (l16:K.lookup f16=some ⟨oc16,od16,.func (fnOf "put_step" "Book.put_step" (defArgs zBs) (defBody zBs) (defScope zBs) .none kV16 dc16 pm16 an16 cd16 ct16),sl16⟩) (c16:codeIn K cd16 "Book.put_step"=true) (k16:keepIn K (.ref f16)=true)
 (a17:findIn K (.ref C_Book) "put_entry"=some (some (.ref f17))) (i17:isFn K (.ref f17)=true)
 (l17:K.lookup f17=some ⟨oc17,od17,.func (fnOf "put_entry" "Book.put_entry" (defArgs zBf) (defBody zBf) (defScope zBf) .none kV17 dc17 pm17 an17 cd17 ct17),sl17⟩) (c17:codeIn K cd17 "Book.put_entry"=true) (k17:keepIn K (.ref f17)=true)
 (a18:findIn K (.ref C_Book) "first_sent"=some (some (.ref f18))) (i18:isFn K (.ref f18)=true)
 (l18:K.lookup f18=some ⟨oc18,od18,.func (fnOf "first_sent" "Book.first_sent" (defArgs zAt) (defBody zAt) (defScope zAt) .none kV18 dc18 pm18 an18 cd18 ct18),sl18⟩) (c18:codeIn K cd18 "Book.first_sent"=true) (k18:keepIn K (.ref f18)=true)
 (a19:findIn K (.ref C_Book) "fill"=some (some (.ref f19))) (i19:isFn K (.ref f19)=true)
 (l19:K.lookup f19=some ⟨oc19,od19,.func (fnOf "fill" "Book.fill" (defArgs s_Book_fill) (defBody s_Book_fill) (defScope s_Book_fill) .none kV19 dc19 pm19 an19 cd19 ct19),sl19⟩) (c19:codeIn K cd19 "Book.fill"=true) (k19:keepIn K (.ref f19)=true)
 (a20:findIn K (.ref C_Book) "join_entries"=some (some (.ref f20))) (i20:isFn K (.ref f20)=true)
 (l20:K.lookup f20=some ⟨oc20,od20,.func (fnOf "join_entries" "Book.join_entries" (defArgs zAu) (defBody zAu) (defScope zAu) .none kV20 dc20 pm20 an20 cd20 ct20),sl20⟩) (c20:codeIn K cd20 "Book.join_entries"=true) (k20:keepIn K (.ref f20)=true)
 (a21:findIn K (.ref C_Book) "how_many"=some (some (.ref f21))) (i21:isFn K (.ref f21)=true)
 (l21:K.lookup f21=some ⟨oc21,od21,.func (fnOf "how_many" "Book.how_many" (defArgs zBt) (defBody zBt) (defScope zBt) .none kV21 dc21 pm21 an21 cd21 ct21),sl21⟩) (c21:codeIn K cd21 "Book.how_many"=true) (k21:keepIn K (.ref f21)=true)
 (a22:findIn K (.ref C_Room) "__init__"=some (some (.ref f22))) (i22:isFn K (.ref f22)=true)
 (l22:K.lookup f22=some ⟨oc22,od22,.func (fnOf "__init__" "Room.__init__" (defArgs zBu) (defBody zBu) (defScope zBu) .none kV22 dc22 pm22 an22 cd22 ct22),sl22⟩) (c22:codeIn K cd22 "Room.__init__"=true) (k22:keepIn K (.ref f22)=true)
 (a23:findIn K (.ref C_Room) "need_fitting"=some (some (.ref f23))) (i23:isFn K (.ref f23)=true)
 (l23:K.lookup f23=some ⟨oc23,od23,.func (fnOf "need_fitting" "Room.need_fitting" (defArgs zAv) (defBody zAv) (defScope zAv) .none kV23 dc23 pm23 an23 cd23 ct23),sl23⟩) (c23:codeIn K cd23 "Room.need_fitting"=true) (k23:keepIn K (.ref f23)=true)
 (a24:findIn K (.ref C_Room) "need_reached"=some (some (.ref f24))) (i24:isFn K (.ref f24)=true)
 (l24:K.lookup f24=some ⟨oc24,od24,.func (fnOf "need_reached" "Room.need_reached" (defArgs zAw) (defBody zAw) (defScope zAw) .none kV24 dc24 pm24 an24 cd24 ct24),sl24⟩) (c24:codeIn K cd24 "Room.need_reached"=true) (k24:keepIn K (.ref f24)=true)
 (a25:findIn K (.ref C_Room) "put_move"=some (some (.ref f25))) (i25:isFn K (.ref f25)=true)
 (l25:K.lookup f25=some ⟨oc25,od25,.func (fnOf "put_move" "Room.put_move" (defArgs zBv) (defBody zBv) (defScope zBv) .none kV25 dc25 pm25 an25 cd25 ct25),sl25⟩) (c25:codeIn K cd25 "Room.put_move"=true) (k25:keepIn K (.ref f25)=true)
 (a26:findIn K (.ref C_Room) "how_many"=some (some (.ref f26))) (i26:isFn K (.ref f26)=true)
 (l26:K.lookup f26=some ⟨oc26,od26,.func (fnOf "how_many" "Room.how_many" (defArgs zBw) (defBody zBw) (defScope zBw) .none kV26 dc26 pm26 an26 cd26 ct26),sl26⟩) (c26:codeIn K cd26 "Room.how_many"=true) (k26:keepIn K (.ref f26)=true)
 (a27:findIn K (.ref C_Room) "reaches"=some (some (.ref f27))) (i27:isFn K (.ref f27)=true)
 (l27:K.lookup f27=some ⟨oc27,od27,.func (fnOf "reaches" "Room.reaches" (defArgs zC6) (defBody zC6) (defScope zC6) .none kV27 dc27 pm27 an27 cd27 ct27),sl27⟩) (c27:codeIn K cd27 "Room.reaches"=true) (k27:keepIn K (.ref f27)=true)
 (a28:findIn K (.ref C_Room) "recipe"=some (some (.ref f28))) (i28:isFn K (.ref f28)=true)
 (l28:K.lookup f28=some ⟨oc28,od28,.func (fnOf "recipe" "Room.recipe" (defArgs zCa) (defBody zCa) (defScope zCa) .none kV28 dc28 pm28 an28 cd28 ct28),sl28⟩) (c28:codeIn K cd28 "Room.recipe"=true) (k28:keepIn K (.ref f28)=true)
 (a29:findIn K (.ref C_Room) "numbered"=some (some (.ref f29))) (i29:isFn K (.ref f29)=true)
 (l29:K.lookup f29=some ⟨oc29,od29,.func (fnOf "numbered" "Room.numbered" (defArgs zBx) (defBody zBx) (defScope zBx) .none kV29 dc29 pm29 an29 cd29 ct29),sl29⟩) (c29:codeIn K cd29 "Room.numbered"=true) (k29:keepIn K (.ref f29)=true)
 (a30:findIn K (.ref C_Room) "number_of"=some (some (.ref f30))) (i30:isFn K (.ref f30)=true)
 (l30:K.lookup f30=some ⟨oc30,od30,.func (fnOf "number_of" "Room.number_of" (defArgs zBg) (defBody zBg) (defScope zBg) .none kV30 dc30 pm30 an30 cd30 ct30),sl30⟩) (c30:codeIn K cd30 "Room.number_of"=true) (k30:keepIn K (.ref f30)=true)
 (a31:nsIn K mainGlobals "rings"=some (some (.ref f31)))
 (l31:K.lookup f31=some ⟨oc31,od31,.func (fnOf "rings" "rings" (defArgs s_rings) (defBody s_rings) (defScope s_rings) .none kV31 dc31 pm31 an31 cd31 ct31),sl31⟩) (c31:codeIn K cd31 "rings"=true) (k31:keepIn K (.ref f31)=true)
 (a32:nsIn K mainGlobals "age"=some (some (.ref f32)))
 (l32:K.lookup f32=some ⟨oc32,od32,.func (fnOf "age" "age" (defArgs s_age) (defBody s_age) (defScope s_age) .none kV32 dc32 pm32 an32 cd32 ct32),sl32⟩) (c32:codeIn K cd32 "age"=true) (k32:keepIn K (.ref f32)=true)
 (a33:nsIn K mainGlobals "even"=some (some (.ref f33)))
 (l33:K.lookup f33=some ⟨oc33,od33,.func (fnOf "even" "even" (defArgs s_even) (defBody s_even) (defScope s_even) .none kV33 dc33 pm33 an33 cd33 ct33),sl33⟩) (c33:codeIn K cd33 "even"=true) (k33:keepIn K (.ref f33)=true)
 (a34:nsIn K mainGlobals "times"=some (some (.ref f34)))
 (l34:K.lookup f34=some ⟨oc34,od34,.func (fnOf "times" "times" (defArgs s_times) (defBody s_times) (defScope s_times) .none kV34 dc34 pm34 an34 cd34 ct34),sl34⟩) (c34:codeIn K cd34 "times"=true) (k34:keepIn K (.ref f34)=true)
 (a35:nsIn K mainGlobals "need_seat"=some (some (.ref f35)))
 (l35:K.lookup f35=some ⟨oc35,od35,.func (fnOf "need_seat" "need_seat" (defArgs s_need_seat) (defBody s_need_seat) (defScope s_need_seat) .none kV35 dc35 pm35 an35 cd35 ct35),sl35⟩) (c35:codeIn K cd35 "need_seat"=true) (k35:keepIn K (.ref f35)=true)
 (a36:nsIn K mainGlobals "ring_of"=some (some (.ref f36)))
 (l36:K.lookup f36=some ⟨oc36,od36,.func (fnOf "ring_of" "ring_of" (defArgs s_ring_of) (defBody s_ring_of) (defScope s_ring_of) .none kV36 dc36 pm36 an36 cd36 ct36),sl36⟩) (c36:codeIn K cd36 "ring_of"=true) (k36:keepIn K (.ref f36)=true)
 (a37:nsIn K mainGlobals "parting"=some (some (.ref f37)))
 (l37:K.lookup f37=some ⟨oc37,od37,.func (fnOf "parting" "parting" (defArgs s_parting) (defBody s_parting) (defScope s_parting) .none kV37 dc37 pm37 an37 cd37 ct37),sl37⟩) (c37:codeIn K cd37 "parting"=true) (k37:keepIn K (.ref f37)=true)
 (a38:nsIn K mainGlobals "within"=some (some (.ref f38)))
 (l38:K.lookup f38=some ⟨oc38,od38,.func (fnOf "within" "within" (defArgs s_within) (defBody s_within) (defScope s_within) .none kV38 dc38 pm38 an38 cd38 ct38),sl38⟩) (c38:codeIn K cd38 "within"=true) (k38:keepIn K (.ref f38)=true)
 (a39:nsIn K mainGlobals "holding"=some (some (.ref f39)))
 (l39:K.lookup f39=some ⟨oc39,od39,.func (fnOf "holding" "holding" (defArgs s_holding) (defBody s_holding) (defScope s_holding) .none kV39 dc39 pm39 an39 cd39 ct39),sl39⟩) (c39:codeIn K cd39 "holding"=true) (k39:keepIn K (.ref f39)=true)
 (a40:nsIn K mainGlobals "dyed"=some (some (.ref f40)))
 (l40:K.lookup f40=some ⟨oc40,od40,.func (fnOf "dyed" "dyed" (defArgs s_dyed) (defBody s_dyed) (defScope s_dyed) .none kV40 dc40 pm40 an40 cd40 ct40),sl40⟩) (c40:codeIn K cd40 "dyed"=true) (k40:keepIn K (.ref f40)=true)
 (a41:nsIn K mainGlobals "shown"=some (some (.ref f41)))
 (l41:K.lookup f41=some ⟨oc41,od41,.func (fnOf "shown" "shown" (defArgs s_shown) (defBody s_shown) (defScope s_shown) .none kV41 dc41 pm41 an41 cd41 ct41),sl41⟩) (c41:codeIn K cd41 "shown"=true) (k41:keepIn K (.ref f41)=true)
 (a42:nsIn K mainGlobals "ring_texts"=some (some (.ref f42)))
 (l42:K.lookup f42=some ⟨oc42,od42,.func (fnOf "ring_texts" "ring_texts" (defArgs zCr) (defBody zCr) (defScope zCr) .none kV42 dc42 pm42 an42 cd42 ct42),sl42⟩) (c42:codeIn K cd42 "ring_texts"=true) (k42:keepIn K (.ref f42)=true)
 (a43:nsIn K mainGlobals "ring_read"=some (some (.ref f43)))
 (l43:K.lookup f43=some ⟨oc43,od43,.func (fnOf "ring_read" "ring_read" (defArgs s_ring_read) (defBody s_ring_read) (defScope s_ring_read) .none kV43 dc43 pm43 an43 cd43 ct43),sl43⟩) (c43:codeIn K cd43 "ring_read"=true) (k43:keepIn K (.ref f43)=true)
 (a44:nsIn K mainGlobals "all_rings_read"=some (some (.ref f44)))
 (l44:K.lookup f44=some ⟨oc44,od44,.func (fnOf "all_rings_read" "all_rings_read" (defArgs zAr) (defBody zAr) (defScope zAr) .none kV44 dc44 pm44 an44 cd44 ct44),sl44⟩) (c44:codeIn K cd44 "all_rings_read"=true) (k44:keepIn K (.ref f44)=true)
 (a45:nsIn K mainGlobals "sent_by_rings"=some (some (.ref f45)))
 (l45:K.lookup f45=some ⟨oc45,od45,.func (fnOf "sent_by_rings" "sent_by_rings" (defArgs zBy) (defBody zBy) (defScope zBy) .none kV45 dc45 pm45 an45 cd45 ct45),sl45⟩) (c45:codeIn K cd45 "sent_by_rings"=true) (k45:keepIn K (.ref f45)=true)
 (a46:nsIn K mainGlobals "read"=some (some (.ref f46)))
 (l46:K.lookup f46=some ⟨oc46,od46,.func (fnOf "read" "read" (defArgs s_read) (defBody s_read) (defScope s_read) .none kV46 dc46 pm46 an46 cd46 ct46),sl46⟩) (c46:codeIn K cd46 "read"=true) (k46:keepIn K (.ref f46)=true)
 (a47:nsIn K mainGlobals "_law_cell_at"=some (some (.ref f47)))
 (l47:K.lookup f47=some ⟨oc47,od47,.func (fnOf "_law_cell_at" "_law_cell_at" (defArgs zCb) (defBody zCb) (defScope zCb) .none kV47 dc47 pm47 an47 cd47 ct47),sl47⟩) (c47:codeIn K cd47 "_law_cell_at"=true) (k47:keepIn K (.ref f47)=true)
 (a48:nsIn K mainGlobals "_law_far"=some (some (.ref f48)))
 (l48:K.lookup f48=some ⟨oc48,od48,.func (fnOf "_law_far" "_law_far" (defArgs s_law_far) (defBody s_law_far) (defScope s_law_far) .none kV48 dc48 pm48 an48 cd48 ct48),sl48⟩) (c48:codeIn K cd48 "_law_far"=true) (k48:keepIn K (.ref f48)=true)
 (a49:nsIn K mainGlobals "_law_which"=some (some (.ref f49)))
 (l49:K.lookup f49=some ⟨oc49,od49,.func (fnOf "_law_which" "_law_which" (defArgs s_law_which) (defBody s_law_which) (defScope s_law_which) .none kV49 dc49 pm49 an49 cd49 ct49),sl49⟩) (c49:codeIn K cd49 "_law_which"=true) (k49:keepIn K (.ref f49)=true)
 (a50:nsIn K mainGlobals "_law_bad"=some (some (.ref f50)))
 (l50:K.lookup f50=some ⟨oc50,od50,.func (fnOf "_law_bad" "_law_bad" (defArgs s_law_bad) (defBody s_law_bad) (defScope s_law_bad) .none kV50 dc50 pm50 an50 cd50 ct50),sl50⟩) (c50:codeIn K cd50 "_law_bad"=true) (k50:keepIn K (.ref f50)=true)
 (a51:nsIn K mainGlobals "_law_no_size"=some (some (.ref f51)))
 (l51:K.lookup f51=some ⟨oc51,od51,.func (fnOf "_law_no_size" "_law_no_size" (defArgs zCc) (defBody zCc) (defScope zCc) .none kV51 dc51 pm51 an51 cd51 ct51),sl51⟩) (c51:codeIn K cd51 "_law_no_size"=true) (k51:keepIn K (.ref f51)=true)
 (a52:nsIn K mainGlobals "_law_no_seating"=some (some (.ref f52)))
 (l52:K.lookup f52=some ⟨oc52,od52,.func (fnOf "_law_no_seating" "_law_no_seating" (defArgs zBh) (defBody zBh) (defScope zBh) .none kV52 dc52 pm52 an52 cd52 ct52),sl52⟩) (c52:codeIn K cd52 "_law_no_seating"=true) (k52:keepIn K (.ref f52)=true)
 (a53:nsIn K mainGlobals "_law_other_size"=some (some (.ref f53)))
 (l53:K.lookup f53=some ⟨oc53,od53,.func (fnOf "_law_other_size" "_law_other_size" (defArgs zBi) (defBody zBi) (defScope zBi) .none kV53 dc53 pm53 an53 cd53 ct53),sl53⟩) (c53:codeIn K cd53 "_law_other_size"=true) (k53:keepIn K (.ref f53)=true)
 (a54:nsIn K mainGlobals "_law_no_seat"=some (some (.ref f54)))
 (l54:K.lookup f54=some ⟨oc54,od54,.func (fnOf "_law_no_seat" "_law_no_seat" (defArgs zCd) (defBody zCd) (defScope zCd) .none kV54 dc54 pm54 an54 cd54 ct54),sl54⟩) (c54:codeIn K cd54 "_law_no_seat"=true) (k54:keepIn K (.ref f54)=true)
 (a55:nsIn K mainGlobals "_law_full"=some (some (.ref f55)))
 (l55:K.lookup f55=some ⟨oc55,od55,.func (fnOf "_law_full" "_law_full" (defArgs s_law_full) (defBody s_law_full) (defScope s_law_full) .none kV55 dc55 pm55 an55 cd55 ct55),sl55⟩) (c55:codeIn K cd55 "_law_full"=true) (k55:keepIn K (.ref f55)=true)
 (a56:nsIn K mainGlobals "_law_unreached"=some (some (.ref f56)))
 (l56:K.lookup f56=some ⟨oc56,od56,.func (fnOf "_law_unreached" "_law_unreached" (defArgs zBz) (defBody zBz) (defScope zBz) .none kV56 dc56 pm56 an56 cd56 ct56),sl56⟩) (c56:codeIn K cd56 "_law_unreached"=true) (k56:keepIn K (.ref f56)=true)
 (a57:nsIn K mainGlobals "_law_wide"=some (some (.ref f57)))
 (l57:K.lookup f57=some ⟨oc57,od57,.func (fnOf "_law_wide" "_law_wide" (defArgs s_law_wide) (defBody s_law_wide) (defScope s_law_wide) .none kV57 dc57 pm57 an57 cd57 ct57),sl57⟩) (c57:codeIn K cd57 "_law_wide"=true) (k57:keepIn K (.ref f57)=true)
 (a58:nsIn K mainGlobals "_law_done"=some (some (.ref f58)))
 (l58:K.lookup f58=some ⟨oc58,od58,.func (fnOf "_law_done" "_law_done" (defArgs zCs) (defBody zCs) (defScope zCs) .none kV58 dc58 pm58 an58 cd58 ct58),sl58⟩) (c58:codeIn K cd58 "_law_done"=true) (k58:keepIn K (.ref f58)=true)
 (a59:nsIn K mainGlobals "law"=some (some (.ref f59)))
 (l59:K.lookup f59=some ⟨oc59,od59,.func (fnOf "law" "law" (defArgs s_law) (defBody s_law) (defScope s_law) .none kV59 dc59 pm59 an59 cd59 ct59),sl59⟩) (c59:codeIn K cd59 "law"=true) (k59:keepIn K (.ref f59)=true)
 (ok_Entry:nsIn K mainGlobals "Entry"=some (some (.ref C_Entry))) (og_Entry:plainGet K C_Entry Str.empty=true) (oh_Entry:hasDictIn K C_Entry=true) (op_Entry:plainOver K C_Entry=true) (os_Entry:findIn K (.ref C_Entry) "__setattr__"=some (some (.builtin "object.__setattr__"))) (om_Entry:makesIn K C_Entry=true) (oc_Entry:keepIn K (.ref C_Entry)=true)
 (on_Entry_seat:findIn K (.ref C_Entry) "seat"=some none)
 (on_Entry_seating:findIn K (.ref C_Entry) "seating"=some none)
 (on_Entry_way_back:findIn K (.ref C_Entry) "way_back"=some none)
 (on_Entry_step_number:findIn K (.ref C_Entry) "step_number"=some none)
 (on_Entry_back_number:findIn K (.ref C_Entry) "back_number"=some none)
 (ok_Sifting:nsIn K mainGlobals "Sifting"=some (some (.ref C_Sifting))) (og_Sifting:plainGet K C_Sifting Str.empty=true) (oh_Sifting:hasDictIn K C_Sifting=true) (op_Sifting:plainOver K C_Sifting=true) (os_Sifting:findIn K (.ref C_Sifting) "__setattr__"=some (some (.builtin "object.__setattr__"))) (om_Sifting:makesIn K C_Sifting=true) (oc_Sifting:keepIn K (.ref C_Sifting)=true)
 (on_Sifting_left:findIn K (.ref C_Sifting) "left"=some none)
 (on_Sifting_used:findIn K (.ref C_Sifting) "used"=some none)
 (ok_Book:nsIn K mainGlobals "Book"=some (some (.ref C_Book))) (og_Book:plainGet K C_Book Str.empty=true) (oh_Book:hasDictIn K C_Book=true) (op_Book:plainOver K C_Book=true) (os_Book:findIn K (.ref C_Book) "__setattr__"=some (some (.builtin "object.__setattr__"))) (om_Book:makesIn K C_Book=true) (oc_Book:keepIn K (.ref C_Book)=true)
 (on_Book_resting:findIn K (.ref C_Book) "resting"=some none)
 (on_Book_steps:findIn K (.ref C_Book) "steps"=some none)
 (on_Book_pages:findIn K (.ref C_Book) "pages"=some none)
 (on_Book_entries:findIn K (.ref C_Book) "entries"=some none)
 (on_Book_joined_so_far:findIn K (.ref C_Book) "joined_so_far"=some none)
 (ok_Room:nsIn K mainGlobals "Room"=some (some (.ref C_Room))) (og_Room:plainGet K C_Room Str.empty=true) (oh_Room:hasDictIn K C_Room=true) (op_Room:plainOver K C_Room=true) (os_Room:findIn K (.ref C_Room) "__setattr__"=some (some (.builtin "object.__setattr__"))) (om_Room:makesIn K C_Room=true) (oc_Room:keepIn K (.ref C_Room)=true)
 (on_Room_size:findIn K (.ref C_Room) "size"=some none)
 (on_Room_put_in:findIn K (.ref C_Room) "put_in"=some none)
 (on_Room_book:findIn K (.ref C_Room) "book"=some none)
 (xs0:specialIn K (.builtin "object.__class__") "__get__"=some (some (.builtin "getset_descriptor.__get__"))) (xt0:takesIn K (.builtin "object.__class__")=some true)
 (xk_RoomError:nsIn K mainGlobals "RoomError"=some (some (.ref C_RoomError)))
 (xe_RoomError:excIn K C_RoomError L2.bmV "ValueError.__new__"=true)
 (xa_RoomError:findIn K (.ref C_RoomError) "__getattribute__"=some (some (.builtin "BaseException.__getattribute__")))
 (xb_RoomError:findIn K (.ref C_RoomError) "__getattr__"=some none)
 (xc_RoomError:findIn K (.ref C_RoomError) "__class__"=some (some (.builtin "object.__class__")))
 (xf_RoomError:mroIn K C_RoomError (.type "object")=some true)
 (xg_RoomError:mroIn K C_RoomError (.type "BaseException")=some true)
 (xh_RoomError:mroIn K C_RoomError (.type "ValueError")=some true)
 (xi_RoomError:typeIn K (.ref C_RoomError)=some (.type "type"))
 (xk_NoSize:nsIn K mainGlobals "NoSize"=some (some (.ref C_NoSize)))
 (xe_NoSize:excIn K C_NoSize L2.bmV "ValueError.__new__"=true)
 (xa_NoSize:findIn K (.ref C_NoSize) "__getattribute__"=some (some (.builtin "BaseException.__getattribute__")))
 (xb_NoSize:findIn K (.ref C_NoSize) "__getattr__"=some none)
 (xc_NoSize:findIn K (.ref C_NoSize) "__class__"=some (some (.builtin "object.__class__")))
 (xf_NoSize:mroIn K C_NoSize (.type "object")=some true)
 (xg_NoSize:mroIn K C_NoSize (.type "BaseException")=some true)
 (xh_NoSize:mroIn K C_NoSize (.type "ValueError")=some true)
 (xi_NoSize:typeIn K (.ref C_NoSize)=some (.type "type"))
 (xk_NoSeating:nsIn K mainGlobals "NoSeating"=some (some (.ref C_NoSeating)))
 (xe_NoSeating:excIn K C_NoSeating L2.bmV "ValueError.__new__"=true)
 (xa_NoSeating:findIn K (.ref C_NoSeating) "__getattribute__"=some (some (.builtin "BaseException.__getattribute__")))
 (xb_NoSeating:findIn K (.ref C_NoSeating) "__getattr__"=some none)
 (xc_NoSeating:findIn K (.ref C_NoSeating) "__class__"=some (some (.builtin "object.__class__")))
 (xf_NoSeating:mroIn K C_NoSeating (.type "object")=some true)
 (xg_NoSeating:mroIn K C_NoSeating (.type "BaseException")=some true)
 (xh_NoSeating:mroIn K C_NoSeating (.type "ValueError")=some true)
 (xi_NoSeating:typeIn K (.ref C_NoSeating)=some (.type "type"))
 (xk_OtherSize:nsIn K mainGlobals "OtherSize"=some (some (.ref C_OtherSize)))
 (xe_OtherSize:excIn K C_OtherSize L2.bmV "ValueError.__new__"=true)
 (xa_OtherSize:findIn K (.ref C_OtherSize) "__getattribute__"=some (some (.builtin "BaseException.__getattribute__")))
 (xb_OtherSize:findIn K (.ref C_OtherSize) "__getattr__"=some none)
 (xc_OtherSize:findIn K (.ref C_OtherSize) "__class__"=some (some (.builtin "object.__class__")))
 (xf_OtherSize:mroIn K C_OtherSize (.type "object")=some true)
 (xg_OtherSize:mroIn K C_OtherSize (.type "BaseException")=some true)
 (xh_OtherSize:mroIn K C_OtherSize (.type "ValueError")=some true)
 (xi_OtherSize:typeIn K (.ref C_OtherSize)=some (.type "type"))
 (xk_NoSeat:nsIn K mainGlobals "NoSeat"=some (some (.ref C_NoSeat)))
 (xe_NoSeat:excIn K C_NoSeat L2.bmV "ValueError.__new__"=true)
 (xa_NoSeat:findIn K (.ref C_NoSeat) "__getattribute__"=some (some (.builtin "BaseException.__getattribute__")))
 (xb_NoSeat:findIn K (.ref C_NoSeat) "__getattr__"=some none)
 (xc_NoSeat:findIn K (.ref C_NoSeat) "__class__"=some (some (.builtin "object.__class__")))
 (xf_NoSeat:mroIn K C_NoSeat (.type "object")=some true)
 (xg_NoSeat:mroIn K C_NoSeat (.type "BaseException")=some true)
 (xh_NoSeat:mroIn K C_NoSeat (.type "ValueError")=some true)
 (xi_NoSeat:typeIn K (.ref C_NoSeat)=some (.type "type"))
 (xk_NoNumber:nsIn K mainGlobals "NoNumber"=some (some (.ref C_NoNumber)))
 (xe_NoNumber:excIn K C_NoNumber L2.bmV "ValueError.__new__"=true)
 (xa_NoNumber:findIn K (.ref C_NoNumber) "__getattribute__"=some (some (.builtin "BaseException.__getattribute__")))
 (xb_NoNumber:findIn K (.ref C_NoNumber) "__getattr__"=some none)
 (xc_NoNumber:findIn K (.ref C_NoNumber) "__class__"=some (some (.builtin "object.__class__")))
 (xf_NoNumber:mroIn K C_NoNumber (.type "object")=some true)
 (xg_NoNumber:mroIn K C_NoNumber (.type "BaseException")=some true)
 (xh_NoNumber:mroIn K C_NoNumber (.type "ValueError")=some true)
 (xi_NoNumber:typeIn K (.ref C_NoNumber)=some (.type "type"))
 (xk_TooMany:nsIn K mainGlobals "TooMany"=some (some (.ref C_TooMany)))
 (xe_TooMany:excIn K C_TooMany L2.bmV "ValueError.__new__"=true)
 (xa_TooMany:findIn K (.ref C_TooMany) "__getattribute__"=some (some (.builtin "BaseException.__getattribute__")))
 (xb_TooMany:findIn K (.ref C_TooMany) "__getattr__"=some none)
 (xc_TooMany:findIn K (.ref C_TooMany) "__class__"=some (some (.builtin "object.__class__")))
 (xf_TooMany:mroIn K C_TooMany (.type "object")=some true)
 (xg_TooMany:mroIn K C_TooMany (.type "BaseException")=some true)
 (xh_TooMany:mroIn K C_TooMany (.type "ValueError")=some true)
 (xi_TooMany:typeIn K (.ref C_TooMany)=some (.type "type"))
 (xk_Unreached:nsIn K mainGlobals "Unreached"=some (some (.ref C_Unreached)))
 (xe_Unreached:excIn K C_Unreached L2.bmV "ValueError.__new__"=true)
 (xa_Unreached:findIn K (.ref C_Unreached) "__getattribute__"=some (some (.builtin "BaseException.__getattribute__")))
 (xb_Unreached:findIn K (.ref C_Unreached) "__getattr__"=some none)
 (xc_Unreached:findIn K (.ref C_Unreached) "__class__"=some (some (.builtin "object.__class__")))
 (xf_Unreached:mroIn K C_Unreached (.type "object")=some true)
 (xg_Unreached:mroIn K C_Unreached (.type "BaseException")=some true)
 (xh_Unreached:mroIn K C_Unreached (.type "ValueError")=some true)
 (xi_Unreached:typeIn K (.ref C_Unreached)=some (.type "type"))
 (xk_TooWide:nsIn K mainGlobals "TooWide"=some (some (.ref C_TooWide)))
 (xe_TooWide:excIn K C_TooWide L2.bmV "ValueError.__new__"=true)
 (xa_TooWide:findIn K (.ref C_TooWide) "__getattribute__"=some (some (.builtin "BaseException.__getattribute__")))
 (xb_TooWide:findIn K (.ref C_TooWide) "__getattr__"=some none)
 (xc_TooWide:findIn K (.ref C_TooWide) "__class__"=some (some (.builtin "object.__class__")))
 (xf_TooWide:mroIn K C_TooWide (.type "object")=some true)
 (xg_TooWide:mroIn K C_TooWide (.type "BaseException")=some true)
 (xh_TooWide:mroIn K C_TooWide (.type "ValueError")=some true)
 (xi_TooWide:typeIn K (.ref C_TooWide)=some (.type "type"))
 (xk_NotRead:nsIn K mainGlobals "NotRead"=some (some (.ref C_NotRead)))
 (xe_NotRead:excIn K C_NotRead L2.bmV "ValueError.__new__"=true)
 (xa_NotRead:findIn K (.ref C_NotRead) "__getattribute__"=some (some (.builtin "BaseException.__getattribute__")))
 (xb_NotRead:findIn K (.ref C_NotRead) "__getattr__"=some none)
 (xc_NotRead:findIn K (.ref C_NotRead) "__class__"=some (some (.builtin "object.__class__")))
 (xf_NotRead:mroIn K C_NotRead (.type "object")=some true)
 (xg_NotRead:mroIn K C_NotRead (.type "BaseException")=some true)
 (xh_NotRead:mroIn K C_NotRead (.type "ValueError")=some true)
 (xi_NotRead:typeIn K (.ref C_NotRead)=some (.type "type"))
 (y_RoomError_RoomError:mroIn K C_RoomError (.ref C_RoomError)=some true)
 (y_NoSize_RoomError:mroIn K C_NoSize (.ref C_RoomError)=some true)
 (y_NoSize_NoSize:mroIn K C_NoSize (.ref C_NoSize)=some true)
 (y_NoSize_NoSeating:mroIn K C_NoSize (.ref C_NoSeating)=some false)
 (y_NoSize_OtherSize:mroIn K C_NoSize (.ref C_OtherSize)=some false)
 (y_NoSize_NoSeat:mroIn K C_NoSize (.ref C_NoSeat)=some false)
 (y_NoSize_NoNumber:mroIn K C_NoSize (.ref C_NoNumber)=some false)
 (y_NoSize_TooMany:mroIn K C_NoSize (.ref C_TooMany)=some false)
 (y_NoSize_Unreached:mroIn K C_NoSize (.ref C_Unreached)=some false)
 (y_NoSize_TooWide:mroIn K C_NoSize (.ref C_TooWide)=some false)
 (y_NoSize_NotRead:mroIn K C_NoSize (.ref C_NotRead)=some false)
 (y_NoSeating_RoomError:mroIn K C_NoSeating (.ref C_RoomError)=some true)
 (y_NoSeating_NoSize:mroIn K C_NoSeating (.ref C_NoSize)=some false)
 (y_NoSeating_NoSeating:mroIn K C_NoSeating (.ref C_NoSeating)=some true)
 (y_NoSeating_OtherSize:mroIn K C_NoSeating (.ref C_OtherSize)=some false)
 (y_NoSeating_NoSeat:mroIn K C_NoSeating (.ref C_NoSeat)=some false)
 (y_NoSeating_NoNumber:mroIn K C_NoSeating (.ref C_NoNumber)=some false)
 (y_NoSeating_TooMany:mroIn K C_NoSeating (.ref C_TooMany)=some false)
 (y_NoSeating_Unreached:mroIn K C_NoSeating (.ref C_Unreached)=some false)
 (y_NoSeating_TooWide:mroIn K C_NoSeating (.ref C_TooWide)=some false)
 (y_NoSeating_NotRead:mroIn K C_NoSeating (.ref C_NotRead)=some false)
 (y_OtherSize_RoomError:mroIn K C_OtherSize (.ref C_RoomError)=some true)
 (y_OtherSize_NoSize:mroIn K C_OtherSize (.ref C_NoSize)=some false)
 (y_OtherSize_NoSeating:mroIn K C_OtherSize (.ref C_NoSeating)=some false)
 (y_OtherSize_OtherSize:mroIn K C_OtherSize (.ref C_OtherSize)=some true)
 (y_OtherSize_NoSeat:mroIn K C_OtherSize (.ref C_NoSeat)=some false)
 (y_OtherSize_NoNumber:mroIn K C_OtherSize (.ref C_NoNumber)=some false)
 (y_OtherSize_TooMany:mroIn K C_OtherSize (.ref C_TooMany)=some false)
 (y_OtherSize_Unreached:mroIn K C_OtherSize (.ref C_Unreached)=some false)
 (y_OtherSize_TooWide:mroIn K C_OtherSize (.ref C_TooWide)=some false)
 (y_OtherSize_NotRead:mroIn K C_OtherSize (.ref C_NotRead)=some false)
 (y_NoSeat_RoomError:mroIn K C_NoSeat (.ref C_RoomError)=some true)
 (y_NoSeat_NoSize:mroIn K C_NoSeat (.ref C_NoSize)=some false)
 (y_NoSeat_NoSeating:mroIn K C_NoSeat (.ref C_NoSeating)=some false)
 (y_NoSeat_OtherSize:mroIn K C_NoSeat (.ref C_OtherSize)=some false)
 (y_NoSeat_NoSeat:mroIn K C_NoSeat (.ref C_NoSeat)=some true)
 (y_NoSeat_NoNumber:mroIn K C_NoSeat (.ref C_NoNumber)=some false)
 (y_NoSeat_TooMany:mroIn K C_NoSeat (.ref C_TooMany)=some false)
 (y_NoSeat_Unreached:mroIn K C_NoSeat (.ref C_Unreached)=some false)
 (y_NoSeat_TooWide:mroIn K C_NoSeat (.ref C_TooWide)=some false)
 (y_NoSeat_NotRead:mroIn K C_NoSeat (.ref C_NotRead)=some false)
 (y_NoNumber_RoomError:mroIn K C_NoNumber (.ref C_RoomError)=some true)
 (y_NoNumber_NoSize:mroIn K C_NoNumber (.ref C_NoSize)=some false)
 (y_NoNumber_NoSeating:mroIn K C_NoNumber (.ref C_NoSeating)=some false)
 (y_NoNumber_OtherSize:mroIn K C_NoNumber (.ref C_OtherSize)=some false)
 (y_NoNumber_NoSeat:mroIn K C_NoNumber (.ref C_NoSeat)=some false)
 (y_NoNumber_NoNumber:mroIn K C_NoNumber (.ref C_NoNumber)=some true)
 (y_NoNumber_TooMany:mroIn K C_NoNumber (.ref C_TooMany)=some false)
 (y_NoNumber_Unreached:mroIn K C_NoNumber (.ref C_Unreached)=some false)
 (y_NoNumber_TooWide:mroIn K C_NoNumber (.ref C_TooWide)=some false)
 (y_NoNumber_NotRead:mroIn K C_NoNumber (.ref C_NotRead)=some false)
 (y_TooMany_RoomError:mroIn K C_TooMany (.ref C_RoomError)=some true)
 (y_TooMany_NoSize:mroIn K C_TooMany (.ref C_NoSize)=some false)
 (y_TooMany_NoSeating:mroIn K C_TooMany (.ref C_NoSeating)=some false)
 (y_TooMany_OtherSize:mroIn K C_TooMany (.ref C_OtherSize)=some false)
 (y_TooMany_NoSeat:mroIn K C_TooMany (.ref C_NoSeat)=some false)
 (y_TooMany_NoNumber:mroIn K C_TooMany (.ref C_NoNumber)=some false)
 (y_TooMany_TooMany:mroIn K C_TooMany (.ref C_TooMany)=some true)
 (y_TooMany_Unreached:mroIn K C_TooMany (.ref C_Unreached)=some false)
 (y_TooMany_TooWide:mroIn K C_TooMany (.ref C_TooWide)=some false)
 (y_TooMany_NotRead:mroIn K C_TooMany (.ref C_NotRead)=some false)
 (y_Unreached_RoomError:mroIn K C_Unreached (.ref C_RoomError)=some true)
 (y_Unreached_NoSize:mroIn K C_Unreached (.ref C_NoSize)=some false)
 (y_Unreached_NoSeating:mroIn K C_Unreached (.ref C_NoSeating)=some false)
 (y_Unreached_OtherSize:mroIn K C_Unreached (.ref C_OtherSize)=some false)
 (y_Unreached_NoSeat:mroIn K C_Unreached (.ref C_NoSeat)=some false)
 (y_Unreached_NoNumber:mroIn K C_Unreached (.ref C_NoNumber)=some false)
 (y_Unreached_TooMany:mroIn K C_Unreached (.ref C_TooMany)=some false)
 (y_Unreached_Unreached:mroIn K C_Unreached (.ref C_Unreached)=some true)
 (y_Unreached_TooWide:mroIn K C_Unreached (.ref C_TooWide)=some false)
 (y_Unreached_NotRead:mroIn K C_Unreached (.ref C_NotRead)=some false)
 (y_TooWide_RoomError:mroIn K C_TooWide (.ref C_RoomError)=some true)
 (y_TooWide_NoSize:mroIn K C_TooWide (.ref C_NoSize)=some false)
 (y_TooWide_NoSeating:mroIn K C_TooWide (.ref C_NoSeating)=some false)
 (y_TooWide_OtherSize:mroIn K C_TooWide (.ref C_OtherSize)=some false)
 (y_TooWide_NoSeat:mroIn K C_TooWide (.ref C_NoSeat)=some false)
 (y_TooWide_NoNumber:mroIn K C_TooWide (.ref C_NoNumber)=some false)
 (y_TooWide_TooMany:mroIn K C_TooWide (.ref C_TooMany)=some false)
 (y_TooWide_Unreached:mroIn K C_TooWide (.ref C_Unreached)=some false)
 (y_TooWide_TooWide:mroIn K C_TooWide (.ref C_TooWide)=some true)
 (y_TooWide_NotRead:mroIn K C_TooWide (.ref C_NotRead)=some false)
 (y_NotRead_RoomError:mroIn K C_NotRead (.ref C_RoomError)=some true)
 (y_NotRead_NoSize:mroIn K C_NotRead (.ref C_NoSize)=some false)
 (y_NotRead_NoSeating:mroIn K C_NotRead (.ref C_NoSeating)=some false)
 (y_NotRead_OtherSize:mroIn K C_NotRead (.ref C_OtherSize)=some false)
 (y_NotRead_NoSeat:mroIn K C_NotRead (.ref C_NoSeat)=some false)
 (y_NotRead_NoNumber:mroIn K C_NotRead (.ref C_NoNumber)=some false)
 (y_NotRead_TooMany:mroIn K C_NotRead (.ref C_TooMany)=some false)
 (y_NotRead_Unreached:mroIn K C_NotRead (.ref C_Unreached)=some false)
 (y_NotRead_TooWide:mroIn K C_NotRead (.ref C_TooWide)=some false)
 (y_NotRead_NotRead:mroIn K C_NotRead (.ref C_NotRead)=some true)
 (g_LEAST_SIZE:nsIn K mainGlobals "LEAST_SIZE"=some (some (.int 1 t_LEAST_SIZE)))
 (g_GREATEST_SIZE:nsIn K mainGlobals "GREATEST_SIZE"=some (some (.int 16 t_GREATEST_SIZE)))
 (g_MOST_MOVES:nsIn K mainGlobals "MOST_MOVES"=some (some (.int 200 t_MOST_MOVES)))
 (g_MOST_DYES:nsIn K mainGlobals "MOST_DYES"=some (some (.int 6 t_MOST_DYES)))
 (g_MOST_GONE_THROUGH:nsIn K mainGlobals "MOST_GONE_THROUGH"=some (some (.int 2000 t_MOST_GONE_THROUGH)))
 (g_REST:nsIn K mainGlobals "REST"=some (some (.str (PySem.Str.ofString "()") t_REST)))
 (z_ValueError:nsIn K mainGlobals "ValueError"=some none)
 (z_enumerate:nsIn K mainGlobals "enumerate"=some none)
 (z_isinstance:nsIn K mainGlobals "isinstance"=some none)
 (z_len:nsIn K mainGlobals "len"=some none)
 (z_list:nsIn K mainGlobals "list"=some none)
 (z_min:nsIn K mainGlobals "min"=some none)
 (z_range:nsIn K mainGlobals "range"=some none)
 (z_reversed:nsIn K mainGlobals "reversed"=some none)
 (z_sorted:nsIn K mainGlobals "sorted"=some none)
 (z_str:nsIn K mainGlobals "str"=some none)
 (z_sum:nsIn K mainGlobals "sum"=some none)
 (z_tuple:nsIn K mainGlobals "tuple"=some none) :
 ∃ fd:FuncData,(∀ (s:Shared) (v:Value),BindsTo s fd ⟨[v],[]⟩ [("script",v)])/\∀ base:Heap,K.In base->base.Ns mainGlobals mg->FnOk l.prog w K mg base CX0 11 fa fd ["script"] (sp_law K):=by
  have e:=hfa.symm.trans (mg_of X G a59)
  cases e
  have F0:=zAg (st:=s_is_size) l0 c0 k0
  have b0:=F0.binds (ps:=["size"]) (by walk_at "b1")
  have F1:=zAg (st:=zCq) l1 c1 k1
  have b1:=F1.binds (ps:=["row"]) (by walk_at "b1")
  have F2:=zAg (st:=s_need_size) l2 c2 k2
  have b2:=F2.binds (ps:=["size"]) (by walk_at "b1")
  have F3:=zAg (st:=zC4) l3 c3 k3
  have b3:=F3.binds (ps:=["row"]) (by walk_at "b1")
  have F4:=zAg (st:=s_rest) l4 c4 k4
  have b4:=F4.binds (ps:=["size"]) (by walk_at "b1")
  have F5:=zAg (st:=s_joined) l5 c5 k5
  have b5:=F5.binds (ps:=["a","b"]) (by walk_at "b2")
  have F6:=zAg (st:=s_turned) l6 c6 k6
  have b6:=F6.binds (ps:=["a"]) (by walk_at "b1")
  have F7:=zAg (st:=s_then) l7 c7 k7
  have b7:=F7.binds (ps:=["a","b"]) (by walk_at "b2")
  have F8:=zAg (st:=s_back) l8 c8 k8
  have b8:=F8.binds (ps:=["a"]) (by walk_at "b1")
  have F9:=zAg (st:=zBe) l9 c9 k9
  have b9:=F9.binds (ps:=["self","seat","seating","step_number","back_number"]) (by walk_at "b5")
  have F10:=zAg (st:=zB1) l10 c10 k10
  have b10:=F10.binds (ps:=["self","seating"]) (by walk_at "b2")
  have F11:=zAg (st:=zB2) l11 c11 k11
  have b11:=F11.binds (ps:=["self","entry"]) (by walk_at "b2")
  have F12:=zAg (st:=zB7) l12 c12 k12
  have b12:=F12.binds (ps:=["self","size"]) (by walk_at "b2")
  have F13:=zAg (st:=s_Book_sift) l13 c13 k13
  have b13:=F13.binds (ps:=["self","seating"]) (by walk_at "b2")
  have F14:=zAg (st:=zC5) l14 c14 k14
  have b14:=F14.binds (ps:=["self","seating"]) (by walk_at "b2")
  have F15:=zAg (st:=zBr) l15 c15 k15
  have b15:=F15.binds (ps:=["self","move","number"]) (by walk_at "b3")
  have F16:=zAg (st:=zBs) l16 c16 k16
  have b16:=F16.binds (ps:=["self","step"]) (by walk_at "b2")
  have F17:=zAg (st:=zBf) l17 c17 k17
  have b17:=F17.binds (ps:=["self","sifting","first_step"]) (by walk_at "b3")
  have F18:=zAg (st:=zAt) l18 c18 k18
  have b18:=F18.binds (ps:=["self","seating"]) (by walk_at "b2")
  have F19:=zAg (st:=s_Book_fill) l19 c19 k19
  have b19:=F19.binds (ps:=["self"]) (by walk_at "b1")
  have F20:=zAg (st:=zAu) l20 c20 k20
  have b20:=F20.binds (ps:=["self","one","other"]) (by walk_at "b3")
  have F21:=zAg (st:=zBt) l21 c21 k21
  have b21:=F21.binds (ps:=["self"]) (by walk_at "b1")
  have F22:=zAg (st:=zBu) l22 c22 k22
  have b22:=F22.binds (ps:=["self","size"]) (by walk_at "b2")
  have F23:=zAg (st:=zAv) l23 c23 k23
  have b23:=F23.binds (ps:=["self","a"]) (by walk_at "b2")
  have F24:=zAg (st:=zAw) l24 c24 k24
  have b24:=F24.binds (ps:=["self","a"]) (by walk_at "b2")
  have F25:=zAg (st:=zBv) l25 c25 k25
  have b25:=F25.binds (ps:=["self","move"]) (by walk_at "b2")
  have F26:=zAg (st:=zBw) l26 c26 k26
  have b26:=F26.binds (ps:=["self"]) (by walk_at "b1")
  have F27:=zAg (st:=zC6) l27 c27 k27
  have b27:=F27.binds (ps:=["self","a"]) (by walk_at "b2")
  have F28:=zAg (st:=zCa) l28 c28 k28
  have b28:=F28.binds (ps:=["self","a"]) (by walk_at "b2")
  have F29:=zAg (st:=zBx) l29 c29 k29
  have b29:=F29.binds (ps:=["self","n"]) (by walk_at "b2")
  have F30:=zAg (st:=zBg) l30 c30 k30
  have b30:=F30.binds (ps:=["self","a"]) (by walk_at "b2")
  have F31:=zAg (st:=s_rings) l31 c31 k31
  have b31:=F31.binds (ps:=["a"]) (by walk_at "b1")
  have F32:=zAg (st:=s_age) l32 c32 k32
  have b32:=F32.binds (ps:=["a"]) (by walk_at "b1")
  have F33:=zAg (st:=s_even) l33 c33 k33
  have b33:=F33.binds (ps:=["a"]) (by walk_at "b1")
  have F34:=zAg (st:=s_times) l34 c34 k34
  have b34:=F34.binds (ps:=["a","n"]) (by walk_at "b2")
  have F35:=zAg (st:=s_need_seat) l35 c35 k35
  have b35:=F35.binds (ps:=["room","seat"]) (by walk_at "b2")
  have F36:=zAg (st:=s_ring_of) l36 c36 k36
  have b36:=F36.binds (ps:=["room","seat"]) (by walk_at "b2")
  have F37:=zAg (st:=s_parting) l37 c37 k37
  have b37:=F37.binds (ps:=["room","one","other"]) (by walk_at "b3")
  have F38:=zAg (st:=s_within) l38 c38 k38
  have b38:=F38.binds (ps:=["room","other"]) (by walk_at "b2")
  have F39:=zAg (st:=s_holding) l39 c39 k39
  have b39:=F39.binds (ps:=["room","seats"]) (by walk_at "b2")
  have F40:=zAg (st:=s_dyed) l40 c40 k40
  have b40:=F40.binds (ps:=["room","dyes"]) (by walk_at "b2")
  have F41:=zAg (st:=s_shown) l41 c41 k41
  have b41:=F41.binds (ps:=["a"]) (by walk_at "b1")
  have F42:=zAg (st:=zCr) l42 c42 k42
  have b42:=F42.binds (ps:=["text"]) (by walk_at "b1")
  have F43:=zAg (st:=s_ring_read) l43 c43 k43
  have b43:=F43.binds (ps:=["text","figures"]) (by walk_at "b2")
  have F44:=zAg (st:=zAr) l44 c44 k44
  have b44:=F44.binds (ps:=["text","size"]) (by walk_at "b2")
  have F45:=zAg (st:=zBy) l45 c45 k45
  have b45:=F45.binds (ps:=["found","size"]) (by walk_at "b2")
  have F46:=zAg (st:=s_read) l46 c46 k46
  have b46:=F46.binds (ps:=["text","size"]) (by walk_at "b2")
  have F47:=zAg (st:=zCb) l47 c47 k47
  have b47:=F47.binds (ps:=["script","k"]) (by walk_at "b2")
  have F48:=zAg (st:=s_law_far) l48 c48 k48
  have b48:=F48.binds (ps:=["cell","size"]) (by walk_at "b2")
  have F49:=zAg (st:=s_law_which) l49 c49 k49
  have b49:=F49.binds (ps:=["e"]) (by walk_at "b1")
  have F50:=zAg (st:=s_law_bad) l50 c50 k50
  have b50:=F50.binds (ps:=["cell"]) (by walk_at "b1")
  have F51:=zAg (st:=zCc) l51 c51 k51
  have b51:=F51.binds (ps:=["cell","far"]) (by walk_at "b2")
  have F52:=zAg (st:=zBh) l52 c52 k52
  have b52:=F52.binds (ps:=["room","bad","way"]) (by walk_at "b3")
  have F53:=zAg (st:=zBi) l53 c53 k53
  have b53:=F53.binds (ps:=["room","other","way"]) (by walk_at "b3")
  have F54:=zAg (st:=zCd) l54 c54 k54
  have b54:=F54.binds (ps:=["room","seat","way"]) (by walk_at "b3")
  have F55:=zAg (st:=s_law_full) l55 c55 k55
  have b55:=F55.binds (ps:=["size"]) (by walk_at "b1")
  have F56:=zAg (st:=zBz) l56 c56 k56
  have b56:=F56.binds (ps:=["size","way"]) (by walk_at "b2")
  have F57:=zAg (st:=s_law_wide) l57 c57 k57
  have b57:=F57.binds (ps:=[]) fun _ _ _ _ _ _ us hl=>match us,hl with | [],_=>rfl
  have F58:=zAg (st:=zCs) l58 c58 k58
  have b58:=F58.binds (ps:=["way","size","cell","far"]) (by walk_at "b4")
  have F59:=zAg (st:=s_law) l59 c59 k59
  have b59:=F59.binds (ps:=["script"]) (by walk_at "b1")
  let T:Tx K mg:={
 f_is_size:=f0,d_is_size:=_,F_is_size:=F0,b_is_size:=b0,m_is_size:=mg_of X G a0,
 f_is_seating:=f1,d_is_seating:=_,F_is_seating:=F1,b_is_seating:=b1,m_is_seating:=mg_of X G a1,
 f_need_size:=f2,d_need_size:=_,F_need_size:=F2,b_need_size:=b2,m_need_size:=mg_of X G a2,
 f_need_seating:=f3,d_need_seating:=_,F_need_seating:=F3,b_need_seating:=b3,m_need_seating:=mg_of X G a3,
 f_rest:=f4,d_rest:=_,F_rest:=F4,b_rest:=b4,m_rest:=mg_of X G a4,
 f_joined:=f5,d_joined:=_,F_joined:=F5,b_joined:=b5,m_joined:=mg_of X G a5,
 f_turned:=f6,d_turned:=_,F_turned:=F6,b_turned:=b6,m_turned:=mg_of X G a6,
 f_then:=f7,d_then:=_,F_then:=F7,b_then:=b7,m_then:=mg_of X G a7,
 f_back:=f8,d_back:=_,F_back:=F8,b_back:=b8,m_back:=mg_of X G a8,
 f_Entry___init__:=f9,d_Entry___init__:=_,F_Entry___init__:=F9,b_Entry___init__:=b9,mk_Entry:=⟨om_Entry,a9,i9,oc_Entry⟩,
 f_Sifting___init__:=f10,d_Sifting___init__:=_,F_Sifting___init__:=F10,b_Sifting___init__:=b10,mk_Sifting:=⟨om_Sifting,a10,i10,oc_Sifting⟩,
 f_Sifting_take_off:=f11,d_Sifting_take_off:=_,F_Sifting_take_off:=F11,b_Sifting_take_off:=b11,mt_Sifting_take_off:=⟨a11,i11,k11⟩,
 f_Book___init__:=f12,d_Book___init__:=_,F_Book___init__:=F12,b_Book___init__:=b12,mk_Book:=⟨om_Book,a12,i12,oc_Book⟩,
 f_Book_sift:=f13,d_Book_sift:=_,F_Book_sift:=F13,b_Book_sift:=b13,mt_Book_sift:=⟨a13,i13,k13⟩,
 f_Book_reaches:=f14,d_Book_reaches:=_,F_Book_reaches:=F14,b_Book_reaches:=b14,mt_Book_reaches:=⟨a14,i14,k14⟩,
 f_Book_put_move:=f15,d_Book_put_move:=_,F_Book_put_move:=F15,b_Book_put_move:=b15,mt_Book_put_move:=⟨a15,i15,k15⟩,
 f_Book_put_step:=f16,d_Book_put_step:=_,F_Book_put_step:=F16,b_Book_put_step:=b16,mt_Book_put_step:=⟨a16,i16,k16⟩,
 f_Book_put_entry:=f17,d_Book_put_entry:=_,F_Book_put_entry:=F17,b_Book_put_entry:=b17,mt_Book_put_entry:=⟨a17,i17,k17⟩,
 f_Book_first_sent:=f18,d_Book_first_sent:=_,F_Book_first_sent:=F18,b_Book_first_sent:=b18,mt_Book_first_sent:=⟨a18,i18,k18⟩,
 f_Book_fill:=f19,d_Book_fill:=_,F_Book_fill:=F19,b_Book_fill:=b19,mt_Book_fill:=⟨a19,i19,k19⟩,
 f_Book_join_entries:=f20,d_Book_join_entries:=_,F_Book_join_entries:=F20,b_Book_join_entries:=b20,mt_Book_join_entries:=⟨a20,i20,k20⟩,
 f_Book_how_many:=f21,d_Book_how_many:=_,F_Book_how_many:=F21,b_Book_how_many:=b21,mt_Book_how_many:=⟨a21,i21,k21⟩,
 f_Room___init__:=f22,d_Room___init__:=_,F_Room___init__:=F22,b_Room___init__:=b22,mk_Room:=⟨om_Room,a22,i22,oc_Room⟩,
 f_Room_need_fitting:=f23,d_Room_need_fitting:=_,F_Room_need_fitting:=F23,b_Room_need_fitting:=b23,mt_Room_need_fitting:=⟨a23,i23,k23⟩,
 f_Room_need_reached:=f24,d_Room_need_reached:=_,F_Room_need_reached:=F24,b_Room_need_reached:=b24,mt_Room_need_reached:=⟨a24,i24,k24⟩,
 f_Room_put_move:=f25,d_Room_put_move:=_,F_Room_put_move:=F25,b_Room_put_move:=b25,mt_Room_put_move:=⟨a25,i25,k25⟩,
 f_Room_how_many:=f26,d_Room_how_many:=_,F_Room_how_many:=F26,b_Room_how_many:=b26,mt_Room_how_many:=⟨a26,i26,k26⟩,
 f_Room_reaches:=f27,d_Room_reaches:=_,F_Room_reaches:=F27,b_Room_reaches:=b27,mt_Room_reaches:=⟨a27,i27,k27⟩,
 f_Room_recipe:=f28,d_Room_recipe:=_,F_Room_recipe:=F28,b_Room_recipe:=b28,mt_Room_recipe:=⟨a28,i28,k28⟩,
 f_Room_numbered:=f29,d_Room_numbered:=_,F_Room_numbered:=F29,b_Room_numbered:=b29,mt_Room_numbered:=⟨a29,i29,k29⟩,
 f_Room_number_of:=f30,d_Room_number_of:=_,F_Room_number_of:=F30,b_Room_number_of:=b30,mt_Room_number_of:=⟨a30,i30,k30⟩,
 f_rings:=f31,d_rings:=_,F_rings:=F31,b_rings:=b31,m_rings:=mg_of X G a31,
 f_age:=f32,d_age:=_,F_age:=F32,b_age:=b32,m_age:=mg_of X G a32,
 f_even:=f33,d_even:=_,F_even:=F33,b_even:=b33,m_even:=mg_of X G a33,
 f_times:=f34,d_times:=_,F_times:=F34,b_times:=b34,m_times:=mg_of X G a34,
 f_need_seat:=f35,d_need_seat:=_,F_need_seat:=F35,b_need_seat:=b35,m_need_seat:=mg_of X G a35,
 f_ring_of:=f36,d_ring_of:=_,F_ring_of:=F36,b_ring_of:=b36,m_ring_of:=mg_of X G a36,
 f_parting:=f37,d_parting:=_,F_parting:=F37,b_parting:=b37,m_parting:=mg_of X G a37,
 f_within:=f38,d_within:=_,F_within:=F38,b_within:=b38,m_within:=mg_of X G a38,
 f_holding:=f39,d_holding:=_,F_holding:=F39,b_holding:=b39,m_holding:=mg_of X G a39,
 f_dyed:=f40,d_dyed:=_,F_dyed:=F40,b_dyed:=b40,m_dyed:=mg_of X G a40,
 f_shown:=f41,d_shown:=_,F_shown:=F41,b_shown:=b41,m_shown:=mg_of X G a41,
 f_ring_texts:=f42,d_ring_texts:=_,F_ring_texts:=F42,b_ring_texts:=b42,m_ring_texts:=mg_of X G a42,
 f_ring_read:=f43,d_ring_read:=_,F_ring_read:=F43,b_ring_read:=b43,m_ring_read:=mg_of X G a43,
 f_all_rings_read:=f44,d_all_rings_read:=_,F_all_rings_read:=F44,b_all_rings_read:=b44,m_all_rings_read:=mg_of X G a44,
 f_sent_by_rings:=f45,d_sent_by_rings:=_,F_sent_by_rings:=F45,b_sent_by_rings:=b45,m_sent_by_rings:=mg_of X G a45,
 f_read:=f46,d_read:=_,F_read:=F46,b_read:=b46,m_read:=mg_of X G a46,
 f_law_cell_at:=f47,d_law_cell_at:=_,F_law_cell_at:=F47,b_law_cell_at:=b47,m_law_cell_at:=mg_of X G a47,
 f_law_far:=f48,d_law_far:=_,F_law_far:=F48,b_law_far:=b48,m_law_far:=mg_of X G a48,
 f_law_which:=f49,d_law_which:=_,F_law_which:=F49,b_law_which:=b49,m_law_which:=mg_of X G a49,
 f_law_bad:=f50,d_law_bad:=_,F_law_bad:=F50,b_law_bad:=b50,m_law_bad:=mg_of X G a50,
 f_law_no_size:=f51,d_law_no_size:=_,F_law_no_size:=F51,b_law_no_size:=b51,m_law_no_size:=mg_of X G a51,
 f_law_no_seating:=f52,d_law_no_seating:=_,F_law_no_seating:=F52,b_law_no_seating:=b52,m_law_no_seating:=mg_of X G a52,
 f_law_other_size:=f53,d_law_other_size:=_,F_law_other_size:=F53,b_law_other_size:=b53,m_law_other_size:=mg_of X G a53,
 f_law_no_seat:=f54,d_law_no_seat:=_,F_law_no_seat:=F54,b_law_no_seat:=b54,m_law_no_seat:=mg_of X G a54,
 f_law_full:=f55,d_law_full:=_,F_law_full:=F55,b_law_full:=b55,m_law_full:=mg_of X G a55,
 f_law_unreached:=f56,d_law_unreached:=_,F_law_unreached:=F56,b_law_unreached:=b56,m_law_unreached:=mg_of X G a56,
 f_law_wide:=f57,d_law_wide:=_,F_law_wide:=F57,b_law_wide:=b57,m_law_wide:=mg_of X G a57,
 f_law_done:=f58,d_law_done:=_,F_law_done:=F58,b_law_done:=b58,m_law_done:=mg_of X G a58,
 f_law:=fa,d_law:=_,F_law:=F59,b_law:=b59,m_law:=mg_of X G a59,
 c_Entry:=C_Entry,k_Entry:=mg_of X G ok_Entry,cl_Entry:=⟨og_Entry,oh_Entry,op_Entry,os_Entry⟩,
 n_Entry_seat:=on_Entry_seat,
 n_Entry_seating:=on_Entry_seating,
 n_Entry_way_back:=on_Entry_way_back,
 n_Entry_step_number:=on_Entry_step_number,
 n_Entry_back_number:=on_Entry_back_number,
 c_Sifting:=C_Sifting,k_Sifting:=mg_of X G ok_Sifting,cl_Sifting:=⟨og_Sifting,oh_Sifting,op_Sifting,os_Sifting⟩,
 n_Sifting_left:=on_Sifting_left,
 n_Sifting_used:=on_Sifting_used,
 c_Book:=C_Book,k_Book:=mg_of X G ok_Book,cl_Book:=⟨og_Book,oh_Book,op_Book,os_Book⟩,
 n_Book_resting:=on_Book_resting,
 n_Book_steps:=on_Book_steps,
 n_Book_pages:=on_Book_pages,
 n_Book_entries:=on_Book_entries,
 n_Book_joined_so_far:=on_Book_joined_so_far,
 c_Room:=C_Room,k_Room:=mg_of X G ok_Room,cl_Room:=⟨og_Room,oh_Room,op_Room,os_Room⟩,
 n_Room_size:=on_Room_size,
 n_Room_put_in:=on_Room_put_in,
 n_Room_book:=on_Room_book,
 c_RoomError:=C_RoomError,k_RoomError:=mg_of X G xk_RoomError,x_RoomError:=⟨xe_RoomError,xa_RoomError,xb_RoomError,xc_RoomError,xs0,xt0,xf_RoomError,xg_RoomError,xh_RoomError,xi_RoomError,y_RoomError_RoomError⟩,
 c_NoSize:=C_NoSize,k_NoSize:=mg_of X G xk_NoSize,x_NoSize:=⟨xe_NoSize,xa_NoSize,xb_NoSize,xc_NoSize,xs0,xt0,xf_NoSize,xg_NoSize,xh_NoSize,xi_NoSize,y_NoSize_NoSize⟩,
 c_NoSeating:=C_NoSeating,k_NoSeating:=mg_of X G xk_NoSeating,x_NoSeating:=⟨xe_NoSeating,xa_NoSeating,xb_NoSeating,xc_NoSeating,xs0,xt0,xf_NoSeating,xg_NoSeating,xh_NoSeating,xi_NoSeating,y_NoSeating_NoSeating⟩,
 c_OtherSize:=C_OtherSize,k_OtherSize:=mg_of X G xk_OtherSize,x_OtherSize:=⟨xe_OtherSize,xa_OtherSize,xb_OtherSize,xc_OtherSize,xs0,xt0,xf_OtherSize,xg_OtherSize,xh_OtherSize,xi_OtherSize,y_OtherSize_OtherSize⟩,
 c_NoSeat:=C_NoSeat,k_NoSeat:=mg_of X G xk_NoSeat,x_NoSeat:=⟨xe_NoSeat,xa_NoSeat,xb_NoSeat,xc_NoSeat,xs0,xt0,xf_NoSeat,xg_NoSeat,xh_NoSeat,xi_NoSeat,y_NoSeat_NoSeat⟩,
 c_NoNumber:=C_NoNumber,k_NoNumber:=mg_of X G xk_NoNumber,x_NoNumber:=⟨xe_NoNumber,xa_NoNumber,xb_NoNumber,xc_NoNumber,xs0,xt0,xf_NoNumber,xg_NoNumber,xh_NoNumber,xi_NoNumber,y_NoNumber_NoNumber⟩,
 c_TooMany:=C_TooMany,k_TooMany:=mg_of X G xk_TooMany,x_TooMany:=⟨xe_TooMany,xa_TooMany,xb_TooMany,xc_TooMany,xs0,xt0,xf_TooMany,xg_TooMany,xh_TooMany,xi_TooMany,y_TooMany_TooMany⟩,
 c_Unreached:=C_Unreached,k_Unreached:=mg_of X G xk_Unreached,x_Unreached:=⟨xe_Unreached,xa_Unreached,xb_Unreached,xc_Unreached,xs0,xt0,xf_Unreached,xg_Unreached,xh_Unreached,xi_Unreached,y_Unreached_Unreached⟩,
 c_TooWide:=C_TooWide,k_TooWide:=mg_of X G xk_TooWide,x_TooWide:=⟨xe_TooWide,xa_TooWide,xb_TooWide,xc_TooWide,xs0,xt0,xf_TooWide,xg_TooWide,xh_TooWide,xi_TooWide,y_TooWide_TooWide⟩,
 c_NotRead:=C_NotRead,k_NotRead:=mg_of X G xk_NotRead,x_NotRead:=⟨xe_NotRead,xa_NotRead,xb_NotRead,xc_NotRead,xs0,xt0,xf_NotRead,xg_NotRead,xh_NotRead,xi_NotRead,y_NotRead_NotRead⟩,
 y_RoomError_RoomError:=y_RoomError_RoomError,
 y_NoSize_RoomError:=y_NoSize_RoomError,
 y_NoSize_NoSize:=y_NoSize_NoSize,
 y_NoSize_NoSeating:=y_NoSize_NoSeating,
 y_NoSize_OtherSize:=y_NoSize_OtherSize,
 y_NoSize_NoSeat:=y_NoSize_NoSeat,
 y_NoSize_NoNumber:=y_NoSize_NoNumber,
 y_NoSize_TooMany:=y_NoSize_TooMany,
 y_NoSize_Unreached:=y_NoSize_Unreached,
 y_NoSize_TooWide:=y_NoSize_TooWide,
 y_NoSize_NotRead:=y_NoSize_NotRead,
 y_NoSeating_RoomError:=y_NoSeating_RoomError,
 y_NoSeating_NoSize:=y_NoSeating_NoSize,
 y_NoSeating_NoSeating:=y_NoSeating_NoSeating,
 y_NoSeating_OtherSize:=y_NoSeating_OtherSize,
 y_NoSeating_NoSeat:=y_NoSeating_NoSeat,
 y_NoSeating_NoNumber:=y_NoSeating_NoNumber,
 y_NoSeating_TooMany:=y_NoSeating_TooMany,
 y_NoSeating_Unreached:=y_NoSeating_Unreached,
 y_NoSeating_TooWide:=y_NoSeating_TooWide,
 y_NoSeating_NotRead:=y_NoSeating_NotRead,
 y_OtherSize_RoomError:=y_OtherSize_RoomError,
 y_OtherSize_NoSize:=y_OtherSize_NoSize,
 y_OtherSize_NoSeating:=y_OtherSize_NoSeating,
 y_OtherSize_OtherSize:=y_OtherSize_OtherSize,
 y_OtherSize_NoSeat:=y_OtherSize_NoSeat,
 y_OtherSize_NoNumber:=y_OtherSize_NoNumber,
 y_OtherSize_TooMany:=y_OtherSize_TooMany,
 y_OtherSize_Unreached:=y_OtherSize_Unreached,
 y_OtherSize_TooWide:=y_OtherSize_TooWide,
 y_OtherSize_NotRead:=y_OtherSize_NotRead,
 y_NoSeat_RoomError:=y_NoSeat_RoomError,
 y_NoSeat_NoSize:=y_NoSeat_NoSize,
 y_NoSeat_NoSeating:=y_NoSeat_NoSeating,
 y_NoSeat_OtherSize:=y_NoSeat_OtherSize,
 y_NoSeat_NoSeat:=y_NoSeat_NoSeat,
 y_NoSeat_NoNumber:=y_NoSeat_NoNumber,
 y_NoSeat_TooMany:=y_NoSeat_TooMany,
 y_NoSeat_Unreached:=y_NoSeat_Unreached,
 y_NoSeat_TooWide:=y_NoSeat_TooWide,
 y_NoSeat_NotRead:=y_NoSeat_NotRead,
 y_NoNumber_RoomError:=y_NoNumber_RoomError,
 y_NoNumber_NoSize:=y_NoNumber_NoSize,
 y_NoNumber_NoSeating:=y_NoNumber_NoSeating,
 y_NoNumber_OtherSize:=y_NoNumber_OtherSize,
 y_NoNumber_NoSeat:=y_NoNumber_NoSeat,
 y_NoNumber_NoNumber:=y_NoNumber_NoNumber,
 y_NoNumber_TooMany:=y_NoNumber_TooMany,
 y_NoNumber_Unreached:=y_NoNumber_Unreached,
 y_NoNumber_TooWide:=y_NoNumber_TooWide,
 y_NoNumber_NotRead:=y_NoNumber_NotRead,
 y_TooMany_RoomError:=y_TooMany_RoomError,
 y_TooMany_NoSize:=y_TooMany_NoSize,
 y_TooMany_NoSeating:=y_TooMany_NoSeating,
 y_TooMany_OtherSize:=y_TooMany_OtherSize,
 y_TooMany_NoSeat:=y_TooMany_NoSeat,
 y_TooMany_NoNumber:=y_TooMany_NoNumber,
 y_TooMany_TooMany:=y_TooMany_TooMany,
 y_TooMany_Unreached:=y_TooMany_Unreached,
 y_TooMany_TooWide:=y_TooMany_TooWide,
 y_TooMany_NotRead:=y_TooMany_NotRead,
 y_Unreached_RoomError:=y_Unreached_RoomError,
 y_Unreached_NoSize:=y_Unreached_NoSize,
 y_Unreached_NoSeating:=y_Unreached_NoSeating,
 y_Unreached_OtherSize:=y_Unreached_OtherSize,
 y_Unreached_NoSeat:=y_Unreached_NoSeat,
 y_Unreached_NoNumber:=y_Unreached_NoNumber,
 y_Unreached_TooMany:=y_Unreached_TooMany,
 y_Unreached_Unreached:=y_Unreached_Unreached,
 y_Unreached_TooWide:=y_Unreached_TooWide,
 y_Unreached_NotRead:=y_Unreached_NotRead,
 y_TooWide_RoomError:=y_TooWide_RoomError,
 y_TooWide_NoSize:=y_TooWide_NoSize,
 y_TooWide_NoSeating:=y_TooWide_NoSeating,
 y_TooWide_OtherSize:=y_TooWide_OtherSize,
 y_TooWide_NoSeat:=y_TooWide_NoSeat,
 y_TooWide_NoNumber:=y_TooWide_NoNumber,
 y_TooWide_TooMany:=y_TooWide_TooMany,
 y_TooWide_Unreached:=y_TooWide_Unreached,
 y_TooWide_TooWide:=y_TooWide_TooWide,
 y_TooWide_NotRead:=y_TooWide_NotRead,
 y_NotRead_RoomError:=y_NotRead_RoomError,
 y_NotRead_NoSize:=y_NotRead_NoSize,
 y_NotRead_NoSeating:=y_NotRead_NoSeating,
 y_NotRead_OtherSize:=y_NotRead_OtherSize,
 y_NotRead_NoSeat:=y_NotRead_NoSeat,
 y_NotRead_NoNumber:=y_NotRead_NoNumber,
 y_NotRead_TooMany:=y_NotRead_TooMany,
 y_NotRead_Unreached:=y_NotRead_Unreached,
 y_NotRead_TooWide:=y_NotRead_TooWide,
 y_NotRead_NotRead:=y_NotRead_NotRead,
 t_LEAST_SIZE:=t_LEAST_SIZE,g_LEAST_SIZE:=mg_of X G g_LEAST_SIZE,
 t_GREATEST_SIZE:=t_GREATEST_SIZE,g_GREATEST_SIZE:=mg_of X G g_GREATEST_SIZE,
 t_MOST_MOVES:=t_MOST_MOVES,g_MOST_MOVES:=mg_of X G g_MOST_MOVES,
 t_MOST_DYES:=t_MOST_DYES,g_MOST_DYES:=mg_of X G g_MOST_DYES,
 t_MOST_GONE_THROUGH:=t_MOST_GONE_THROUGH,g_MOST_GONE_THROUGH:=mg_of X G g_MOST_GONE_THROUGH,
 t_REST:=t_REST,g_REST:=mg_of X G g_REST,
 z_ValueError:=mg_none_of X G z_ValueError,
 z_enumerate:=mg_none_of X G z_enumerate,
 z_isinstance:=mg_none_of X G z_isinstance,
 z_len:=mg_none_of X G z_len,
 z_list:=mg_none_of X G z_list,
 z_min:=mg_none_of X G z_min,
 z_range:=mg_none_of X G z_range,
 z_reversed:=mg_none_of X G z_reversed,
 z_sorted:=mg_none_of X G z_sorted,
 z_str:=mg_none_of X G z_str,
 z_sum:=mg_none_of X G z_sum,
 z_tuple:=mg_none_of X G z_tuple
  }
  exact ⟨fnOf "law" "law" (defArgs s_law) (defBody s_law) (defScope s_law) .none kV59 dc59 pm59 an59 cd59 ct59,fun s v=>.of_eq rfl,fun base _ _=>ok_law T⟩
theorem walk {l:PySem.W.OpenLaw} {q:Program} {loose:List Str} {XP:(Str->Option Value)->Heap->Prop} {YP:World->Heap->Prop} {d:DefRec} {K:Params->PySem.W.Frag} (hn:l.most=some 63) (hdf:d.params.defaults=[])
  (hY:∀ (w:World) (h:Heap),YP w h->(K w.params).In h)
  (F:∀ (w:World) (mg:Str->Option Value) (fa:Addr) (h:Heap),(K w.params).In h->h.Ns mainGlobals mg->mg d.name=some (.ref fa) ->
   ∃ fd:FuncData,(∀ (s:Shared) (u:Value),BindsTo s fd ⟨[u],[]⟩ [("script",u)])/\∀ base:Heap,(K w.params).In base->base.Ns mainGlobals mg->FnOk l.prog w (K w.params) mg base CX0 11 fa fd ["script"] (sp_law (K w.params))) :
  PySem.W.WalkO q loose XP YP l.row.toRowW d [] (fun f vs=>PySem.call f vs) :=
 L2.walk_of (n:=63) (k:=11) (x:="script") (CX:=fun _=>CX0) (sp:=fun w=>sp_law (K w.params)) hn (by decide) hdf ⟨rfl,by decide,by decide⟩ hY F (fun _ _ a ns hl _ hS=>⟨a,ns,rfl,hS,hl,fun _=>rfl⟩) fun _ _ _ _ _ z=>z
end Prf
open PySem PySem.W PyProof.Rows
set_option maxRecDepth 100000 in
set_option maxHeartbeats 0 in
theorem PySem.Challenge.cw_shiftroom_k21_each_refusal_its_own_holds : PySem.Challenge.rw_shiftroom_k21_each_refusal_its_own.Holds := by
 w_on;o_law
 refine holds_open (q:=Prf.QQ) (loose:=[]) (Xt:=(fun s=>xlAt Prf.QQ [] s && recOk (RowW.records (OpenRow.toRowW (OpenLaw.row PySem.Challenge.rw_shiftroom_k21_each_refusal_its_own))) s)) (XP:=XL Prf.QQ []) (Yf:=Hook.obs (kHook Prf.KK Prf.KA Prf.KE)) (Ya:=Hook.val (kHook Prf.KK Prf.KA Prf.KE)) (YP:=Hook.says (kHook Prf.KK Prf.KA Prf.KE)) (N:=10938) Prf.left (Hook.of (kHook Prf.KK Prf.KA Prf.KE)) (Hook.keeps (kHook Prf.KK Prf.KA Prf.KE)) (fun s e=>xl_of s (Bool.and_eq_true_iff.mp e).1) XL.keeps (by rfl) (by rfl) (by rfl) (fun s e=>recFacts_of (Bool.and_eq_true_iff.mp e).2) (by rfl) (by first | assumption | decide +kernel) (by decide +kernel) ⟨rfl,rfl,rfl,rfl,rfl,by decide +kernel⟩ ?hw ?hc
 (case hw=>w_witness2)
 k_fill
 refine Prf.walk (l:=PySem.Challenge.rw_shiftroom_k21_each_refusal_its_own) rfl rfl (fun w h Y=>PySem.W.kIn_of Y) ?F
 case F =>
  intro w mg fa h KX G hmg
  refine' Prf.all_mk KX G hmg ?z0 ?z1 ?z2 ?z3 ?z4 ?z5 ?z6 ?z7 ?z8 ?z9 ?za ?zb ?zc ?zd ?ze ?zf ?zg ?zh ?zi ?zj ?zk ?zl ?zm ?zn ?zo ?zp ?zq ?zr ?zs ?zt ?zu ?zv ?zw ?zx ?zy ?zz ?z10 ?z11 ?z12 ?z13 ?z14 ?z15 ?z16 ?z17 ?z18 ?z19 ?z1a ?z1b ?z1c ?z1d ?z1e ?z1f ?z1g ?z1h ?z1i ?z1j ?z1k ?z1l ?z1m ?z1n ?z1o ?z1p ?z1q ?z1r ?z1s ?z1t ?z1u ?z1v ?z1w ?z1x ?z1y ?z1z ?z20 ?z21 ?z22 ?z23 ?z24 ?z25 ?z26 ?z27 ?z28 ?z29 ?z2a ?z2b ?z2c ?z2d ?z2e ?z2f ?z2g ?z2h ?z2i ?z2j ?z2k ?z2l ?z2m ?z2n ?z2o ?z2p ?z2q ?z2r ?z2s ?z2t ?z2u ?z2v ?z2w ?z2x ?z2y ?z2z ?z30 ?z31 ?z32 ?z33 ?z34 ?z35 ?z36 ?z37 ?z38 ?z39 ?z3a ?z3b ?z3c ?z3d ?z3e ?z3f ?z3g ?z3h ?z3i ?z3j ?z3k ?z3l ?z3m ?z3n ?z3o ?z3p ?z3q ?z3r ?z3s ?z3t ?z3u ?z3v ?z3w ?z3x ?z3y ?z3z ?z40 ?z41 ?z42 ?z43 ?z44 ?z45 ?z46 ?z47 ?z48 ?z49 ?z4a ?z4b ?z4c ?z4d ?z4e ?z4f ?z4g ?z4h ?z4i ?z4j ?z4k ?z4l ?z4m ?z4n ?z4o ?z4p ?z4q ?z4r ?z4s ?z4t ?z4u ?z4v ?z4w ?z4x ?z4y ?z4z ?z50 ?z51 ?z52 ?z53 ?z54 ?z55 ?z56 ?z57 ?z58 ?z59 ?z5a ?z5b ?z5c ?z5d ?z5e ?z5f ?z5g ?z5h ?z5i ?z5j ?z5k ?z5l ?z5m ?z5n ?z5o ?z5p ?z5q ?z5r ?z5s ?z5t ?z5u ?z5v ?z5w ?z5x ?z5y ?z5z ?z60 ?z61 ?z62 ?z63 ?z64 ?z65 ?z66 ?z67 ?z68 ?z69 ?z6a ?z6b ?z6c ?z6d ?z6e ?z6f ?z6g ?z6h ?z6i ?z6j ?z6k ?z6l ?z6m ?z6n ?z6o ?z6p ?z6q ?z6r ?z6s ?z6t ?z6u ?z6v ?z6w ?z6x ?z6y ?z6z ?z70 ?z71 ?z72 ?z73 ?z74 ?z75 ?z76 ?z77 ?z78 ?z79 ?z7a ?z7b ?z7c ?z7d ?z7e ?z7f ?z7g ?z7h ?z7i ?z7j ?z7k ?z7l ?z7m ?z7n ?z7o ?z7p ?z7q ?z7r ?z7s ?z7t ?z7u ?z7v ?z7w ?z7x ?z7y ?z7z ?z80 ?z81 ?z82 ?z83 ?z84 ?z85 ?z86 ?z87 ?z88 ?z89 ?z8a ?z8b ?z8c ?z8d ?z8e ?z8f ?z8g ?z8h ?z8i ?z8j ?z8k ?z8l ?z8m ?z8n ?z8o ?z8p ?z8q ?z8r ?z8s ?z8t ?z8u ?z8v ?z8w ?z8x ?z8y ?z8z ?z90 ?z91 ?z92 ?z93 ?z94 ?z95 ?z96 ?z97 ?z98 ?z99 ?z9a ?z9b ?z9c ?z9d ?z9e ?z9f ?z9g ?z9h ?z9i ?z9j ?z9k ?z9l ?z9m ?z9n ?z9o ?z9p ?z9q ?z9r ?z9s ?z9t ?z9u ?z9v ?z9w ?z9x ?z9y ?z9z ?za0 ?za1 ?za2 ?za3 ?za4 ?za5 ?za6 ?za7 ?za8 ?za9 ?zaa ?zab ?zac ?zad ?zae ?zaf ?zag ?zah ?zai ?zaj ?zak ?zal ?zam ?zan ?zao ?zap ?zaq ?zar ?zas ?zat ?zau ?zav ?zaw ?zax ?zay ?zaz ?zb0 ?zb1 ?zb2 ?zb3 ?zb4 ?zb5 ?zb6 ?zb7 ?zb8 ?zb9 ?zba ?zbb ?zbc ?zbd ?zbe ?zbf ?zbg ?zbh ?zbi ?zbj ?zbk ?zbl ?zbm ?zbn ?zbo ?zbp ?zbq ?zbr ?zbs ?zbt ?zbu ?zbv ?zbw ?zbx ?zby ?zbz ?zc0 ?zc1 ?zc2 ?zc3 ?zc4 ?zc5 ?zc6 ?zc7 ?zc8 ?zc9 ?zca ?zcb ?zcc ?zcd ?zce ?zcf ?zcg ?zch ?zci ?zcj ?zck ?zcl ?zcm ?zcn ?zco ?zcp ?zcq ?zcr ?zcs ?zct ?zcu ?zcv ?zcw ?zcx ?zcy ?zcz ?zd0 ?zd1 ?zd2 ?zd3 ?zd4 ?zd5 ?zd6 ?zd7 ?zd8 ?zd9 ?zda ?zdb ?zdc ?zdd ?zde ?zdf ?zdg ?zdh ?zdi ?zdj ?zdk ?zdl ?zdm ?zdn ?zdo ?zdp ?zdq ?zdr ?zds ?zdt ?zdu ?zdv ?zdw ?zdx ?zdy ?zdz ?ze0 ?ze1
  (case z7a | z7m | z7v | z87 | z0 | z1 | z2 | z3 | z4 | z5 | z6 | z7 | z8 | z9 | za | zb | zc | zd | ze | zf | zg | zh | zi | zj | zk | zl | zm | zn | zo | zp | zq | zr | zs | zt | zu | zv | zw | zx | zy | zz | z10 | z11 | z12 | z13 | z14 | z15 | z16 | z17 | z18 | z19 | z1a | z1b | z1c | z1d | z1e | z1f | z1g | z1h | z1i | z1j | z1k | z1l | z1m | z1n | z1o | z1p | z1q | z1r | z1s | z1t | z1u | z1v | z1w | z1x | z1y | z1z | z20 | z21 | z22 | z23 | z24 | z25 | z26 | z27 | z28 | z29 | z2a | z2b | z2c | z2d | z2e | z2f | z2g | z2h | z2i | z2j | z2k | z2l | z2m | z2n | z2o | z2p | z2q | z2r | z2s | z2t | z2u | z2v | z2w | z2x | z2y | z2z | z30 | z31 | z32 | z33 | z34 | z35 | z36 | z37 | z38 | z39 | z3a | z3b | z3c | z3d | z3e | z3f | z3g | z3h | z3i | z3j | z3k | z3l | z3m | z3n | z3o | z3p | z3q | z3r | z3s | z3t | z3u | z3v | z3w | z3x | z3y | z3z | z40 | z41 | z42 | z43 | z44 | z45 | z46 | z47 | z48 | z49 | z4a | z4b | z4c | z4d | z4e | z4f | z4g | z4h | z4i | z4j | z4k | z4l | z4m | z4n | z4o | z4p | z4q | z4r | z4s | z4t | z4u | z4v | z4w | z4x | z4y | z4z | z50 | z51 | z52 | z53 | z54 | z55 | z56 | z57 | z58 | z59 | z5a | z5b | z5c | z5d | z5e | z5f | z5g | z5h | z5i | z5j | z5k | z5l | z5m | z5n | z5o | z5p | z5q | z5r | z5s | z5t | z5u | z5v | z5w | z5x | z5y | z5z | z60 | z61 | z62 | z63 | z64 | z65 | z66 | z67 | z68 | z69 | z6a | z6b | z6c | z6d | z6e | z6f | z6g | z6h | z6i | z6j | z6k | z6l | z6m | z6n | z6o | z6p | z6q | z6r | z6s | z6t | z6u | z6v | z6w | z6x | z6y | z6z | z70 | z71 | z72 | z73 | z74 | z75 | z76 | z77 | z78 | z79 | z7b | z7c | z7d | z7e | z7f | z7g | z7h | z7i | z7j | z7k | z7l | z7n | z7o | z7p | z7q | z7r | z7s | z7t | z7u | z7w | z7x | z7y | z7z | z80 | z81 | z82 | z83 | z84 | z85 | z86 | z88 | z89 | z8a | z8b | z8c | z8d | z8e | z8f | z8g | z8h | z8i | z8j=>k_is)
  (case z8k=>k_exc)
  (case z8l | z8m | z8n | z8o | z8p | z8q | z8r | z8s=>k_is)
  (case z8t=>k_exc)
  (case z8u | z8v | z8w | z8x | z8y | z8z | z90 | z91=>k_is)
  (case z92=>k_exc)
  (case z93 | z94 | z95 | z96 | z97 | z98 | z99 | z9a=>k_is)
  (case z9b=>k_exc)
  (case z9c | z9d | z9e | z9f | z9g | z9h | z9i | z9j=>k_is)
  (case z9k=>k_exc)
  (case z9l | z9m | z9n | z9o | z9p | z9q | z9r | z9s=>k_is)
  (case z9t=>k_exc)
  (case z9u | z9v | z9w | z9x | z9y | z9z | za0 | za1=>k_is)
  (case za2=>k_exc)
  (case za3 | za4 | za5 | za6 | za7 | za8 | za9 | zaa=>k_is)
  (case zab=>k_exc)
  (case zac | zad | zae | zaf | zag | zah | zai | zaj=>k_is)
  (case zak=>k_exc)
  (case zal | zam | zan | zao | zap | zaq | zar | zas=>k_is)
  (case zat=>k_exc)
  (case zau | zav | zaw | zax | zay | zaz | zb0 | zb1 | zb2 | zb3 | zb4 | zb5 | zb6 | zb7 | zb8 | zb9 | zba | zbb | zbc | zbd | zbe | zbf | zbg | zbh | zbi | zbj | zbk | zbl | zbm | zbn | zbo | zbp | zbq | zbr | zbs | zbt | zbu | zbv | zbw | zbx | zby | zbz | zc0 | zc1 | zc2 | zc3 | zc4 | zc5 | zc6 | zc7 | zc8 | zc9 | zca | zcb | zcc | zcd | zce | zcf | zcg | zch | zci | zcj | zck | zcl | zcm | zcn | zco | zcp | zcq | zcr | zcs | zct | zcu | zcv | zcw | zcx | zcy | zcz | zd0 | zd1 | zd2 | zd3 | zd4 | zd5 | zd6 | zd7 | zd8 | zd9 | zda | zdb | zdc | zdd | zde | zdf | zdg | zdh | zdi | zdj | zdk | zdl | zdm | zdn | zdo | zdp | zdq | zdr | zds | zdt | zdu | zdv | zdw | zdx | zdy | zdz | ze0 | ze1=>k_is)
