import PyProof.Rows.All
import Wide.All
import KE.KTryMore
import KE.KRevIter
import KE.KFromBytes
import KE.KDictSum
import KE.KSortTup
import KE.KDictOf
import PyProof.CollectIter
import PyProof.SetNew
import PyProof.SetRoads
import PyProof.Rows.SetFrom
import PyProof.StrLawsIn
import KE.KIntText
import PyProof.StrWalks
import PyProof.StrLawsChain
import Wide.FinOn
import Lean
import PyProof.EqAt
import PyProof.EqKinds
import PyProof.TupleCall
import PyProof.NeKinds
import PySem.Challenge.RW_shiftroom_k08_read
set_option Elab.async false
set_option linter.all false
set_option maxRecDepth 100000
namespace L2
open PySem
def inClass (s:Stmt) (j:Nat):Stmt:=match s with
 | .ClassDef _ _ _ body _ _ _ _ _ _ _=>body.getD j (.Pass ⟨0,0,0,0⟩)
 | _=>.Pass ⟨0,0,0,0⟩
def defArgs (s:Stmt):Arguments:=match s with
 | .FunctionDef _ a _ _ _ _ _ _ _ _=>a
 | _=>{ posonlyargs:=[],args:=[],vararg:=none,kwonlyargs:=[],kw_defaults:=[],kwarg:=none,defaults:=[] }
def defBody (s:Stmt):List Stmt:=match s with
 | .FunctionDef _ _ b _ _ _ _ _ _ _=>b
 | _=>[]
def defScope (s:Stmt):Scope:=match s with
 | .FunctionDef _ _ _ _ _ _ sc _ _ _=>sc
 | _=>{ kind:=.function,names:=[],isGenerator:=false,isCoroutine:=false }

end L2
def Prf.top (i:Nat):PySem.Stmt:=PySem.Challenge.pw_shiftroom_k08_read.main.body.getD i (.Pass ⟨0,0,0,0⟩)
abbrev Qd (P:PySem.Params) (s:PySem.Str) (n:Nat) (v:PySem.Value):PySem.DictEntry:={ hash:=PySem.PyData.keyHash P s,key:=.str s n,val:=v }
abbrev Qt (v:Array PySem.Value):PySem.Obj:={ cls:=.type "tuple",data:=.seq v }
abbrev QD (v:Array PySem.DictEntry):PySem.Obj:={ cls:=.type "dict",data:=.dict v }
abbrev Qf (n q:PySem.Str) (i:Nat) (m:PySem.Value) (c:Nat):PySem.Obj:={ cls:=.type "function",data:=.func { name:=n,qualname:=q,params:=L2.defArgs (Prf.top i),body:=.stmts (L2.defBody (Prf.top i)),scope:=L2.defScope (Prf.top i),globals:=3,closure:=[],defaults:=.none,kwdefaults:=.none,pyModule:=m,code:=.ref c } }
abbrev Qm (n q:PySem.Str) (i j:Nat) (m:PySem.Value) (c:Nat):PySem.Obj:={ cls:=.type "function",data:=.func { name:=n,qualname:=q,params:=L2.defArgs (L2.inClass (Prf.top i) j),body:=.stmts (L2.defBody (L2.inClass (Prf.top i) j)),scope:=L2.defScope (L2.inClass (Prf.top i) j),globals:=3,closure:=[],defaults:=.none,kwdefaults:=.none,pyModule:=m,code:=.ref c } }
abbrev Qc (n:PySem.Str) (a:Nat) (q:PySem.Str) (b c:Nat) (d e:Int) (f:Int) (g:Nat) (v w x y:PySem.Value) (u k:Int) (l:Nat):PySem.Obj:={ cls:=.type "code",data:=.fields #[.str n a,.str q b,.str ("/claim/cut.py") c,.int d 0,.int e 0,.int 0 0,.int 0 0,.int f 0,.ref g,.bool Bool.true,.int 181 0,v,.none,w,x,y,.int u 0,.int k 0,.str ("/claim/cut.py") l] }
noncomputable def Prf.KK:PySem.Params→PySem.W.Frag:=fun P=>(nat_lit 2,{ cls:=.none,data:=.dict #[] }) ::
 (nat_lit 3,{ cls:=.type "dict",data:=.dict #[Qd P "__name__" 165 (.str ("law_shiftroom_k08_read") 316),Qd P "__doc__" 166 .none,Qd P "__package__" 167 .none,Qd P "__loader__" 168 (.builtin "__main__.__loader__#opaque"),Qd P "__spec__" 169 .none,Qd P "__annotations__" 170 (.ref 6),Qd P "__builtins__" 171 (.ref 4),Qd P "__file__" 173 (.str ("/claim/cut.py") 172),Qd P "__cached__" 174 .none,Qd P "RoomError" 206 (.ref 24),Qd P "NoSize" 222 (.ref 37),Qd P "Unreached" 238 (.ref 49),Qd P "NotRead" 254 (.ref 61),Qd P "LEAST_SIZE" 258 (.int 1 257),Qd P "GREATEST_SIZE" 260 (.int 16 259),Qd P "is_size" 267 (.ref 70),Qd P "need_size" 274 (.ref 77),Qd P "REST" 278 (.str ("()") 277),Qd P "ring_texts" 285 (.ref 84),Qd P "ring_read" 295 (.ref 91),Qd P "all_rings_read" 301 (.ref 96),Qd P "sent_by_rings" 307 (.ref 101),Qd P "read" 315 (.ref 108),Qd P "_law_cell_at" 325 (.ref 115),Qd P "_law_whole" 332 (.ref 122),Qd P "_law_far" 343 (.ref 129),Qd P "_law_same" 352 (.ref 136),Qd P "_law_rings" 362 (.ref 143),Qd P "_law_text" 368 (.ref 148),Qd P "_law_sign" 376 (.ref 155),Qd P "_law_changed" 387 (.ref 162),Qd P "_law_odd" 395 (.ref 169),Qd P "_law_seat" 404 (.ref 176),Qd P "_law_due" 420 (.ref 183),Qd P "_law_refused" 430 (.ref 190),Qd P "law" 440 (.ref 197)] 36 }) ::
 (nat_lit 15,Qt #[.type "ValueError"]) ::
 (nat_lit 22,Qt #[]) ::
 (nat_lit 23,{ cls:=.type "dict",data:=.dict #[Qd P "__module__" 196 (.str ("shiftroom.errors") 187),Qd P "__firstlineno__" 200 (.int 2 199),Qd P "__static_attributes__" 201 (.ref 22),Qd P "__weakref__" 203 (.ref 25),Qd P "__doc__" 204 .none] 3 }) ::
 (nat_lit 24,{ cls:=.type "type",data:=.cls { name:="RoomError",bases:=[.type "ValueError"],mro:=[.ref 24,.type "ValueError",.type "Exception",.type "BaseException",.type "object"],ns:=23,qualname:="RoomError",subclasses:=[.ref 37,.ref 49,.ref 61] },slots:=#[Option.some (.ref 15),Option.none,Option.some (.str ("RoomError") 189),Option.some (.str ("RoomError") 197),Option.some (.builtin "ValueError.__new__"),Option.some (.bool Bool.true)] }) ::
 (nat_lit 25,{ cls:=.type "getset_descriptor",data:=.fields #[.str ("__weakref__") 202,.ref 24,.builtin "ExceptionGroup.__weakref__",.none] }) ::
 (nat_lit 28,Qt #[.ref 24]) ::
 (nat_lit 35,Qt #[]) ::
 (nat_lit 36,{ cls:=.type "dict",data:=.dict #[Qd P "__module__" 214 (.str ("shiftroom.errors") 187),Qd P "__firstlineno__" 218 (.int 4 217),Qd P "__static_attributes__" 219 (.ref 35),Qd P "__doc__" 220 .none] 2 }) ::
 (nat_lit 37,{ cls:=.type "type",data:=.cls { name:="NoSize",bases:=[.ref 24],mro:=[.ref 37,.ref 24,.type "ValueError",.type "Exception",.type "BaseException",.type "object"],ns:=36,qualname:="NoSize" },slots:=#[Option.some (.ref 28),Option.none,Option.some (.str ("NoSize") 207),Option.some (.str ("NoSize") 215),Option.some (.builtin "ValueError.__new__"),Option.some (.bool Bool.true)] }) ::
 (nat_lit 40,Qt #[.ref 24]) ::
 (nat_lit 47,Qt #[]) ::
 (nat_lit 48,{ cls:=.type "dict",data:=.dict #[Qd P "__module__" 230 (.str ("shiftroom.errors") 187),Qd P "__firstlineno__" 234 (.int 6 233),Qd P "__static_attributes__" 235 (.ref 47),Qd P "__doc__" 236 .none] 2 }) ::
 (nat_lit 49,{ cls:=.type "type",data:=.cls { name:="Unreached",bases:=[.ref 24],mro:=[.ref 49,.ref 24,.type "ValueError",.type "Exception",.type "BaseException",.type "object"],ns:=48,qualname:="Unreached" },slots:=#[Option.some (.ref 40),Option.none,Option.some (.str ("Unreached") 223),Option.some (.str ("Unreached") 231),Option.some (.builtin "ValueError.__new__"),Option.some (.bool Bool.true)] }) ::
 (nat_lit 52,Qt #[.ref 24]) ::
 (nat_lit 59,Qt #[]) ::
 (nat_lit 60,{ cls:=.type "dict",data:=.dict #[Qd P "__module__" 246 (.str ("shiftroom.errors") 187),Qd P "__firstlineno__" 250 (.int 8 249),Qd P "__static_attributes__" 251 (.ref 59),Qd P "__doc__" 252 .none] 2 }) ::
 (nat_lit 61,{ cls:=.type "type",data:=.cls { name:="NotRead",bases:=[.ref 24],mro:=[.ref 61,.ref 24,.type "ValueError",.type "Exception",.type "BaseException",.type "object"],ns:=60,qualname:="NotRead" },slots:=#[Option.some (.ref 52),Option.none,Option.some (.str ("NotRead") 239),Option.some (.str ("NotRead") 247),Option.some (.builtin "ValueError.__new__"),Option.some (.bool Bool.true)] }) ::
 (nat_lit 64,Qt #[]) ::
 (nat_lit 66,Qt #[.str ("size") 264]) ::
 (nat_lit 67,Qt #[]) ::
 (nat_lit 69,Qc "is_size" 261 "is_size" 262 263 13 1 3 64 (.ref 65) (.ref 66) (.ref 67) (.ref 68) 265 13 266) ::
 (nat_lit 70,Qf "is_size" "is_size" 8 (.str ("shiftroom.seats") 255) 69) ::
 (nat_lit 71,Qt #[]) ::
 (nat_lit 73,Qt #[.str ("size") 271]) ::
 (nat_lit 74,Qt #[]) ::
 (nat_lit 76,Qc "need_size" 268 "need_size" 269 270 15 1 3 71 (.ref 72) (.ref 73) (.ref 74) (.ref 75) 272 15 273) ::
 (nat_lit 77,Qf "need_size" "need_size" 9 (.str ("shiftroom.seats") 255) 76) ::
 (nat_lit 78,Qt #[]) ::
 (nat_lit 80,Qt #[.str ("text") 282]) ::
 (nat_lit 81,Qt #[]) ::
 (nat_lit 83,Qc "ring_texts" 279 "ring_texts" 280 281 20 1 3 78 (.ref 79) (.ref 80) (.ref 81) (.ref 82) 283 20 284) ::
 (nat_lit 84,Qf "ring_texts" "ring_texts" 12 (.str ("shiftroom.notes") 275) 83) ::
 (nat_lit 85,Qt #[]) ::
 (nat_lit 87,Qt #[.str ("text") 289,.str ("figures") 290,.str ("ring") 291,.str ("word") 292]) ::
 (nat_lit 88,Qt #[]) ::
 (nat_lit 90,Qc "ring_read" 286 "ring_read" 287 288 24 2 3 85 (.ref 86) (.ref 87) (.ref 88) (.ref 89) 293 24 294) ::
 (nat_lit 91,Qf "ring_read" "ring_read" 13 (.str ("shiftroom.notes") 275) 90) ::
 (nat_lit 92,Qt #[]) ::
 (nat_lit 95,Qc "all_rings_read" 296 "all_rings_read" 297 298 33 2 3 92 (.ref 93) .none .none (.ref 94) 299 33 300) ::
 (nat_lit 96,Qf "all_rings_read" "all_rings_read" 14 (.str ("shiftroom.notes") 275) 95) ::
 (nat_lit 97,Qt #[]) ::
 (nat_lit 100,Qc "sent_by_rings" 302 "sent_by_rings" 303 304 36 2 3 97 (.ref 98) .none .none (.ref 99) 305 36 306) ::
 (nat_lit 101,Qf "sent_by_rings" "sent_by_rings" 15 (.str ("shiftroom.notes") 275) 100) ::
 (nat_lit 102,Qt #[]) ::
 (nat_lit 104,Qt #[.str ("text") 311,.str ("size") 312]) ::
 (nat_lit 105,Qt #[]) ::
 (nat_lit 107,Qc "read" 308 "read" 309 310 44 2 3 102 (.ref 103) (.ref 104) (.ref 105) (.ref 106) 313 44 314) ::
 (nat_lit 108,Qf "read" "read" 16 (.str ("shiftroom.notes") 275) 107) ::
 (nat_lit 109,Qt #[]) ::
 (nat_lit 111,Qt #[.str ("script") 321,.str ("k") 322]) ::
 (nat_lit 112,Qt #[]) ::
 (nat_lit 114,Qc "_law_cell_at" 318 "_law_cell_at" 319 320 50 2 3 109 (.ref 110) (.ref 111) (.ref 112) (.ref 113) 323 50 324) ::
 (nat_lit 115,Qf "_law_cell_at" "_law_cell_at" 18 (.str ("law_shiftroom_k08_read") 316) 114) ::
 (nat_lit 116,Qt #[]) ::
 (nat_lit 118,Qt #[.str ("found") 329]) ::
 (nat_lit 119,Qt #[]) ::
 (nat_lit 121,Qc "_law_whole" 326 "_law_whole" 327 328 54 1 3 116 (.ref 117) (.ref 118) (.ref 119) (.ref 120) 330 54 331) ::
 (nat_lit 122,Qf "_law_whole" "_law_whole" 19 (.str ("law_shiftroom_k08_read") 316) 121) ::
 (nat_lit 123,Qt #[]) ::
 (nat_lit 125,Qt #[.str ("cell") 336,.str ("size") 337,.str ("left") 338,.str ("row") 339,.str ("k") 340]) ::
 (nat_lit 126,Qt #[]) ::
 (nat_lit 128,Qc "_law_far" 333 "_law_far" 334 335 56 2 3 123 (.ref 124) (.ref 125) (.ref 126) (.ref 127) 341 56 342) ::
 (nat_lit 129,Qf "_law_far" "_law_far" 20 (.str ("law_shiftroom_k08_read") 316) 128) ::
 (nat_lit 130,Qt #[]) ::
 (nat_lit 132,Qt #[.str ("found") 347,.str ("due") 348,.str ("x") 349]) ::
 (nat_lit 133,Qt #[]) ::
 (nat_lit 135,Qc "_law_same" 344 "_law_same" 345 346 63 2 3 130 (.ref 131) (.ref 132) (.ref 133) (.ref 134) 350 63 351) ::
 (nat_lit 136,Qf "_law_same" "_law_same" 21 (.str ("law_shiftroom_k08_read") 316) 135) ::
 (nat_lit 137,Qt #[]) ::
 (nat_lit 139,Qt #[.str ("a") 356,.str ("told") 357,.str ("k") 358,.str ("ring") 359]) ::
 (nat_lit 140,Qt #[]) ::
 (nat_lit 142,Qc "_law_rings" 353 "_law_rings" 354 355 70 1 3 137 (.ref 138) (.ref 139) (.ref 140) (.ref 141) 360 70 361) ::
 (nat_lit 143,Qf "_law_rings" "_law_rings" 22 (.str ("law_shiftroom_k08_read") 316) 142) ::
 (nat_lit 144,Qt #[]) ::
 (nat_lit 147,Qc "_law_text" 363 "_law_text" 364 365 79 2 3 144 (.ref 145) .none .none (.ref 146) 366 79 367) ::
 (nat_lit 148,Qf "_law_text" "_law_text" 23 (.str ("law_shiftroom_k08_read") 316) 147) ::
 (nat_lit 149,Qt #[]) ::
 (nat_lit 151,Qt #[.str ("cell") 372,.str ("some") 373]) ::
 (nat_lit 152,Qt #[]) ::
 (nat_lit 154,Qc "_law_sign" 369 "_law_sign" 370 371 90 1 3 149 (.ref 150) (.ref 151) (.ref 152) (.ref 153) 374 90 375) ::
 (nat_lit 155,Qf "_law_sign" "_law_sign" 24 (.str ("law_shiftroom_k08_read") 316) 154) ::
 (nat_lit 156,Qt #[]) ::
 (nat_lit 158,Qt #[.str ("text") 380,.str ("cell") 381,.str ("at") 382,.str ("place") 383,.str ("way") 384]) ::
 (nat_lit 159,Qt #[]) ::
 (nat_lit 161,Qc "_law_changed" 377 "_law_changed" 378 379 94 3 3 156 (.ref 157) (.ref 158) (.ref 159) (.ref 160) 385 94 386) ::
 (nat_lit 162,Qf "_law_changed" "_law_changed" 25 (.str ("law_shiftroom_k08_read") 316) 161) ::
 (nat_lit 163,Qt #[]) ::
 (nat_lit 165,Qt #[.str ("cell") 391,.str ("some") 392]) ::
 (nat_lit 166,Qt #[]) ::
 (nat_lit 168,Qc "_law_odd" 388 "_law_odd" 389 390 102 1 3 163 (.ref 164) (.ref 165) (.ref 166) (.ref 167) 393 102 394) ::
 (nat_lit 169,Qf "_law_odd" "_law_odd" 26 (.str ("law_shiftroom_k08_read") 316) 168) ::
 (nat_lit 170,Qt #[]) ::
 (nat_lit 172,Qt #[.str ("word") 399,.str ("size") 400,.str ("used") 401]) ::
 (nat_lit 173,Qt #[]) ::
 (nat_lit 175,Qc "_law_seat" 396 "_law_seat" 397 398 107 3 3 170 (.ref 171) (.ref 172) (.ref 173) (.ref 174) 402 107 403) ::
 (nat_lit 176,Qf "_law_seat" "_law_seat" 27 (.str ("law_shiftroom_k08_read") 316) 175) ::
 (nat_lit 177,Qt #[]) ::
 (nat_lit 179,Qt #[.str ("text") 408,.str ("size") 409,.str ("row") 410,.str ("used") 411,.str ("ring") 412,.str ("word") 413,.str ("inside") 414,.str ("sign") 415,.str ("seat") 416,.str ("k") 417]) ::
 (nat_lit 180,Qt #[]) ::
 (nat_lit 182,Qc "_law_due" 405 "_law_due" 406 407 113 2 3 177 (.ref 178) (.ref 179) (.ref 180) (.ref 181) 418 113 419) ::
 (nat_lit 183,Qf "_law_due" "_law_due" 28 (.str ("law_shiftroom_k08_read") 316) 182) ::
 (nat_lit 184,Qt #[]) ::
 (nat_lit 186,Qt #[.str ("text") 424,.str ("size") 425,.str ("told") 426,.str ("e") 427]) ::
 (nat_lit 187,Qt #[]) ::
 (nat_lit 189,Qc "_law_refused" 421 "_law_refused" 422 423 143 2 3 184 (.ref 185) (.ref 186) (.ref 187) (.ref 188) 428 143 429) ::
 (nat_lit 190,Qf "_law_refused" "_law_refused" 29 (.str ("law_shiftroom_k08_read") 316) 189) ::
 (nat_lit 191,Qt #[]) ::
 (nat_lit 193,Qt #[.str ("script") 434,.str ("size") 435,.str ("text") 436,.str ("due") 437]) ::
 (nat_lit 194,Qt #[]) ::
 (nat_lit 196,Qc "law" 431 "law" 432 433 150 1 3 191 (.ref 192) (.ref 193) (.ref 194) (.ref 195) 438 150 439) ::
 (nat_lit 197,Qf "law" "law" 30 (.str ("law_shiftroom_k08_read") 316) 196) :: []
noncomputable def Prf.KA:List PySem.Addr:=2 :: 3 :: 15 :: 22 :: 23 :: 24 :: 25 :: 28 :: 35 :: 36 :: 37 :: 40 :: 47 :: 48 :: 49 :: 52 :: 59 :: 60 :: 61 :: 64 :: 66 :: 67 :: 69 :: 70 :: 71 :: 73 :: 74 :: 76 :: 77 :: 78 :: 80 :: 81 :: 83 :: 84 :: 85 :: 87 :: 88 :: 90 :: 91 :: 92 :: 95 :: 96 :: 97 :: 100 :: 101 :: 102 :: 104 :: 105 :: 107 :: 108 :: 109 :: 111 :: 112 :: 114 :: 115 :: 116 :: 118 :: 119 :: 121 :: 122 :: 123 :: 125 :: 126 :: 128 :: 129 :: 130 :: 132 :: 133 :: 135 :: 136 :: 137 :: 139 :: 140 :: 142 :: 143 :: 144 :: 147 :: 148 :: 149 :: 151 :: 152 :: 154 :: 155 :: 156 :: 158 :: 159 :: 161 :: 162 :: 163 :: 165 :: 166 :: 168 :: 169 :: 170 :: 172 :: 173 :: 175 :: 176 :: 177 :: 179 :: 180 :: 182 :: 183 :: 184 :: 186 :: 187 :: 189 :: 190 :: 191 :: 193 :: 194 :: 196 :: 197 :: []
noncomputable def Prf.QQ:PySem.Program:={ PySem.Challenge.pw_shiftroom_k08_read with main:={ PySem.Challenge.pw_shiftroom_k08_read.main with body:=[Prf.top 1,Prf.top 2,Prf.top 3,Prf.top 4,Prf.top 6,Prf.top 7,Prf.top 8,Prf.top 9,Prf.top 11,Prf.top 12,Prf.top 13,Prf.top 14,Prf.top 15,Prf.top 16,Prf.top 18,Prf.top 19,Prf.top 20,Prf.top 21,Prf.top 22,Prf.top 23,Prf.top 24,Prf.top 25,Prf.top 26,Prf.top 27,Prf.top 28,Prf.top 29,Prf.top 30] } }
theorem Prf.KE:∀ P,Prf.KA=(Prf.KK P).map (·.1):=fun _=>by kernel_rfl
section
open PySem PySem.W PyProof.Rows
set_option maxHeartbeats 0
theorem Prf.left1a (w:World):(openEnds treeTable PySem.Challenge.pw_shiftroom_k08_read w 3118).map (fun s=>(seen ((recsOf Prf.QQ).map (·.name)) (ownsOf Prf.QQ) [] { s with gens:=#[] },s.heap.bltView))=some (expectedOf Prf.QQ,bltViewBooted):=by
 delta openEnds fencedOpening topFrom
 rw [PySem.W.Fast.te10274390034422433532,PySem.W.Fast.te1435165496053646825,PySem.W.Fast.te14082659384304107361,PySem.W.Fast.te14364793385576792824,PySem.W.Fast.te14289696077712309145]
 kernel_rfl
theorem Prf.left1b (w:World):(openEnds treeTable PySem.Challenge.pw_shiftroom_k08_read w 3118).map (fun s=>s.heap.keysOk (looseW Prf.QQ []) ((recsOf Prf.QQ).map (·.name)) ((litsOf Prf.QQ).map (·.1)) ((clssOf Prf.QQ (looseW Prf.QQ [])).map (·.name)) && s.heap.accountedOkI (importedModules PySem.Challenge.pw_shiftroom_k08_read.main.body) && s.heap.isNs mainGlobals && s.heap.isNs builtinsNs && tablesOk Prf.QQ s.heap && (fun s=>xlAt Prf.QQ [] s && recOk (RowW.records (OpenRow.toRowW (OpenLaw.row PySem.Challenge.rw_shiftroom_k08_read))) s) s && (if true then s.gens.size == 0 else !leftWithCleanup s.gens))=some true:=by
 delta openEnds fencedOpening topFrom
 rw [PySem.W.Fast.te10274390034422433532,PySem.W.Fast.te1435165496053646825,PySem.W.Fast.te14082659384304107361,PySem.W.Fast.te14364793385576792824,PySem.W.Fast.te14289696077712309145]
 kernel_rfl
theorem Prf.left1c (w:World):(openEnds treeTable PySem.Challenge.pw_shiftroom_k08_read w 3118).map (fun s=>(tabsOk Prf.QQ s,pinSeenD Prf.QQ (drecsOf Prf.QQ) s,plainSeenE Prf.QQ (looseW Prf.QQ []) s,plainSeenD Prf.QQ [] s,wideSeen Prf.QQ s,clsSeenW Prf.QQ [] s))=some (true,pinGoodD (drecsOf Prf.QQ),plainGoodE Prf.QQ (looseW Prf.QQ []),plainGoodD Prf.QQ [],wideGood Prf.QQ,clsGoodW Prf.QQ []):=by
 delta openEnds fencedOpening topFrom
 rw [PySem.W.Fast.te10274390034422433532,PySem.W.Fast.te1435165496053646825,PySem.W.Fast.te14082659384304107361,PySem.W.Fast.te14364793385576792824,PySem.W.Fast.te14289696077712309145]
 kernel_rfl
theorem Prf.three {α β γ δ:Type} {o:Option α} {f:α→β} {g:α→γ} {k:α→Bool} {h:α→δ} {b:β} {c:γ} {d:δ} (h1:o.map (fun s=>(f s,g s))=some (b,c)) (h2:o.map k=some true) (h3:o.map h=some d):o.map (fun s=>(f s,g s,k s,h s))=some (b,c,true,d):=by
 cases o with
 | none=>cases h1
 | some a =>
  have e1:(f a,g a)=(b,c):=Option.some.inj h1
  have e2:k a=true:=Option.some.inj h2
  have e3:h a=d:=Option.some.inj h3
  show some (f a,g a,k a,h a)=_
  cases e1
  rw [e2,e3]
theorem Prf.left1 (w:World):(openEnds treeTable PySem.Challenge.pw_shiftroom_k08_read w 3118).map (fun s=>openSeen Prf.QQ [] (importedModules PySem.Challenge.pw_shiftroom_k08_read.main.body) (fun s=>xlAt Prf.QQ [] s && recOk (RowW.records (OpenRow.toRowW (OpenLaw.row PySem.Challenge.rw_shiftroom_k08_read))) s) true s)=some (openGood Prf.QQ []):=by
 delta openSeen openGood
 exact Prf.three (Prf.left1a w) (Prf.left1b w) (Prf.left1c w)
theorem Prf.left2 (w:World):(openEnds treeTable PySem.Challenge.pw_shiftroom_k08_read w 3118).map (Hook.obs (kHook Prf.KK Prf.KA Prf.KE))=some (Hook.val (kHook Prf.KK Prf.KA Prf.KE) w):=by
 delta openEnds fencedOpening topFrom
 rw [PySem.W.Fast.te10274390034422433532,PySem.W.Fast.te1435165496053646825,PySem.W.Fast.te14082659384304107361,PySem.W.Fast.te14364793385576792824,PySem.W.Fast.te14289696077712309145]
 kernel_rfl
theorem Prf.both {α β γ:Type} {o:Option α} {f:α→β} {g:α→γ} {b:β} {c:γ} (h1:o.map f=some b) (h2:o.map g=some c):o.map (fun s=>(f s,g s))=some (b,c):=by
 cases o with
 | none=>cases h1
 | some a=>cases h1; cases h2; rfl
theorem Prf.left:LeftO PySem.Challenge.pw_shiftroom_k08_read Prf.QQ [] (fun s=>xlAt Prf.QQ [] s && recOk (RowW.records (OpenRow.toRowW (OpenLaw.row PySem.Challenge.rw_shiftroom_k08_read))) s) (Hook.obs (kHook Prf.KK Prf.KA Prf.KE)) (Hook.val (kHook Prf.KK Prf.KA Prf.KE)) 3118:=fun w=>Prf.both (Prf.left1 w) (Prf.left2 w)
end
set_option Elab.async false
set_option linter.all false
set_option maxRecDepth 100000

namespace L2
open PySem PySem.Spec PyProof.Rows

abbrev Key:=Sum Int Str
def keyIs:Key→Value→Bool
 | .inl k,v=>Value.isInt k v
 | .inr x,v=>Value.isStrOf x v
def keyH (w:World):Key→Int
 | .inl k=>hashInt k
 | .inr x=>hashStr w x
theorem keyIs_shape:∀ {k:Key} {v:Value},keyIs k v=true→(∃ i t,k=Sum.inl i∧v=Value.int i t)∨(∃ x t,k=Sum.inr x∧v=Value.str x t)
 | .inl i,v,h=>by
  obtain ⟨t,e⟩:=Value.isInt_shape (k:=i) (v:=v) h
  exact .inl ⟨i,t,rfl,e⟩
 | .inr x,v,h=>by
  obtain ⟨t,e⟩:=Value.isStrOf_shape (x:=x) (v:=v) h
  exact .inr ⟨x,t,rfl,e⟩
theorem keyIs_int (i:Int) (t:Tok):keyIs (.inl i) (.int i t)=true:=by simp [keyIs,Value.isInt]
theorem keyIs_str (x:Str) (t:Tok):keyIs (.inr x) (.str x t)=true:=by simp [keyIs,Value.isStrOf]
theorem key_ll (a b:Int):decide ((Sum.inl a:Key)=Sum.inl b)=(a == b):=by
 by_cases e:a=b
 ·subst e; simp
 ·have h:¬ (Sum.inl a:Key)=Sum.inl b:=fun q=>e (Sum.inl.inj q)
  rw [decide_eq_false h]
  exact (beq_eq_false_iff_ne.mpr e).symm
theorem key_rr (a b:Str):decide ((Sum.inr a:Key)=Sum.inr b)=decide (a=b):=by
 by_cases e:a=b
 ·subst e; simp
 ·have h:¬ (Sum.inr a:Key)=Sum.inr b:=fun q=>e (Sum.inr.inj q)
  rw [decide_eq_false h,decide_eq_false e]
theorem key_lr (a:Int) (b:Str):decide ((Sum.inl a:Key)=Sum.inr b)=false:=decide_eq_false (fun q=>nomatch q)
theorem key_rl (a:Str) (b:Int):decide ((Sum.inr a:Key)=Sum.inl b)=false:=decide_eq_false (fun q=>nomatch q)

def mixKind (prog:Program) (w:World):PySem.KeyKind prog w Key where
 is:=keyIs
 hash:=keyH w
 inj:=fun v a b ha hb=>by
  rcases keyIs_shape ha with ⟨i,t,rfl,rfl⟩ | ⟨x,t,rfl,rfl⟩
  ·rcases keyIs_shape hb with ⟨j,u,rfl,e⟩ | ⟨y,u,rfl,e⟩
   ·injection e with e1 _; rw [e1]
   ·exact nomatch e
  ·rcases keyIs_shape hb with ⟨j,u,rfl,e⟩ | ⟨y,u,rfl,e⟩
   ·exact nomatch e
   ·injection e with e1 _; rw [e1]
 byValue:=fun k v h=>by
  rcases keyIs_shape h with ⟨i,t,rfl,rfl⟩ | ⟨x,t,rfl,rfl⟩ <;> rfl
 pyHash:=fun hv h=>by
  rcases keyIs_shape hv with ⟨i,t,rfl,rfl⟩ | ⟨x,t,rfl,rfl⟩
  ·exact wpAny_pyHash_int h
  ·exact wpAny_pyHash_str h
 eqBool:=fun hu hv h=>by
  rcases keyIs_shape hu with ⟨i,t,rfl,rfl⟩ | ⟨x,t,rfl,rfl⟩
  ·rcases keyIs_shape hv with ⟨j,u,rfl,rfl⟩ | ⟨y,u,rfl,rfl⟩
   ·rw [key_ll] at h; exact wpAny_eqBool_int h
   ·rw [key_lr] at h; exact SeqAt.EqAt.int_str i t y u _ _ _ _ h
  ·rcases keyIs_shape hv with ⟨j,u,rfl,rfl⟩ | ⟨y,u,rfl,rfl⟩
   ·rw [key_rl] at h; exact SeqAt.EqAt.str_int x t j u _ _ _ _ h
   ·rw [key_rr] at h; exact wpAny_eqBool_str h
 «strs»:=fun k x t v h=>by
  rcases keyIs_shape h with ⟨i,u,rfl,e⟩ | ⟨y,u,rfl,e⟩
  ·exact nomatch e
  ·injection e with e1 _
   subst e1
   cases v <;> rfl

theorem mixKind_int (prog:Program) (w:World) (i:Int) (t:Tok):(mixKind prog w).is (.inl i) (.int i t)=true:=keyIs_int i t
theorem mixKind_str (prog:Program) (w:World) (x:Str) (t:Tok):(mixKind prog w).is (.inr x) (.str x t)=true:=keyIs_str x t
end L2

namespace L2
open PySem PySem.Spec PyProof.Rows

inductive V where
 | non | bl (b:Bool) | int (i:Int) | str (x:Str) | byt (b:Array UInt8) | flt (b:UInt64) | ref (a:Addr) | ty (n:String)
 deriving DecidableEq

def RelV:V→Value→Prop
 | .non,u=>u=Value.none
 | .bl b,u=>u=Value.bool b
 | .int i,u=>∃ t,u=Value.int i t
 | .str x,u=>∃ t,u=Value.str x t
 | .byt b,u=>∃ t,u=Value.bytes b t
 | .flt b,u=>∃ t,u=Value.float b t
 | .ref a,u=>u=Value.ref a
 | .ty n,u=>u=Value.type n

abbrev Vals:List V→List Value→Prop:=Paired RelV
theorem Vals.length {xs:List V} {us:List Value} (r:Vals xs us):xs.length=us.length:=Paired.length r
theorem Vals.get:∀ {xs:List V} {us:List Value} {i:Nat} {x:V},Vals xs us→xs[i]?=some x→∃ u,us[i]?=some u∧RelV x u
 | _,_,_,_,.nil,e=>by simp at e
 | _,_,0,_,.cons r _,e=>by simp at e; subst e; exact ⟨_,rfl,r⟩
 | _,_,i + 1,x,.cons _ t,e=>by
  obtain ⟨u,h1,h2⟩:=Vals.get (i:=i) (x:=x) t (by simpa using e)
  exact ⟨u,by simpa using h1,h2⟩
theorem Vals.set {x:V} {u:Value} (r:RelV x u):∀ {xs:List V} {us:List Value} (i:Nat),Vals xs us→Vals (xs.set i x) (us.set i u)
 | _,_,_,.nil=>.nil
 | _,_,0,.cons _ t=>.cons r t
 | _,_,i + 1,.cons q t=>.cons q (Vals.set r i t)
theorem Vals.append:∀ {xs ys:List V} {us ws:List Value},Vals xs us→Vals ys ws→Vals (xs ++ ys) (us ++ ws)
 | _,_,_,_,.nil,s=>s
 | _,_,_,_,.cons r t,s=>.cons r (Vals.append t s)
theorem Vals.take:∀ {xs:List V} {us:List Value} (n:Nat),Vals xs us→Vals (xs.take n) (us.take n)
 | _,_,0,_=>.nil
 | _,_,_ + 1,.nil=>.nil
 | _,_,n + 1,.cons r t=>.cons r (Vals.take n t)
theorem Vals.drop:∀ {xs:List V} {us:List Value} (n:Nat),Vals xs us→Vals (xs.drop n) (us.drop n)
 | _,_,0,r=>r
 | _,_,_ + 1,.nil=>.nil
 | _,_,n + 1,.cons _ t=>Vals.drop n t
def RelO:Option V→Option Value→Prop
 | some v,some u=>RelV v u
 | none,none=>True
 | _,_=>False
def KV {κ:Type}:List (κ × V)→List (κ × Value)→Prop:=Paired fun (p:κ × V) (q:κ × Value)=>p.1=q.1∧RelV p.2 q.2

def kV:Key→V
 | .inl i=>.int i
 | .inr x=>.str x

inductive HO where
 /-- a list -/
 | lst (xs:List V)
 /-- a tuple (never changes) -/
 | tup (xs:List V)
 /-- a dict whose keys are ints and texts; one whose keys are tuples of ints and texts (the empty one is both) -/
 | dK (kvs:List (Key × V)) | dT (kvs:List (List Key × V))
 /-- a set of ints: its members,its size -/
 | set (S:Int→Bool) (n:Nat)
 /-- an instance of the class at C,its dict at dx,its attributes -/
 | ins (C dx:Addr) (fs:List (Str × V))
 /-- the dict of the instance at x -/
 | own (x:Addr)
 /-- the dict of an exception -/
 | xd (fs:List (Str × V))
 /-- a bound method,f of x -/
 | met (f x:Addr)
 /-- a range object lo,lo + 1,.. below hi -/
 | rng (lo hi:Int)
 /-- a thing that is known to the object (the script; a dict while a loop walks it): read,never written while it is so -/
 | frz (o:Obj) (u:HO)
 /-- a code object's table -/
 | tbl (ps:Array Value)
 /-- any other thing,by what is true of its one object (a def of one's own: SetO a S n:=HO.ext fun h=>..) -/
 | ext (φ:Heap→Prop)

abbrev Hp:=Addr→Option HO
def upd (H:Hp) (a:Addr) (o:HO):Hp:=fun b=>if b=a then some o else H b
theorem upd_same {H:Hp} {a:Addr} {o:HO}:upd H a o a=some o:=by unfold upd; rw [if_pos rfl]
theorem upd_ne {H:Hp} {a b:Addr} {o:HO} (h:b ≠ a):upd H a o b=H b:=by unfold upd; rw [if_neg h]
theorem ne_of {H:Hp} {a b:Addr} {o u:HO} (h:H a=some o) (h':H b=some u) (d:o ≠ u):a ≠ b:=by
 intro e; subst e; rw [h] at h'; exact d (Option.some.inj h')
theorem ne_of_none {H:Hp} {a b:Addr} {o:HO} (h:H a=some o) (h':H b=none):a ≠ b:=by
 intro e; subst e; rw [h] at h'; cases h'

def IsTq (h:Heap) (a:Addr) (items:Array Value):Prop:=IsTup h a items∧∃ o,h.get? a=some o∧o.dict=none
theorem IsTq.new (h:Heap) (items:Array Value):IsTq (h.push { cls:=.type "tuple",data:=.seq items }) h.objs.size items:=⟨IsTup.new _ _,_,Heap.get?_push_size _ rfl,rfl⟩
section
variable (P:Program) (w:World)
def ObjOk (H:Hp) (h:Heap) (a:Addr):HO→Prop
 | .lst xs=>xs.length ≤ sizeLine∧∃ (its:List Value) (n:Nat),Vals xs its∧h.get? a=some { cls:=.type "list",data:=.seq its.toArray n }
 | .tup xs=>xs.length ≤ sizeLine∧∃ its:List Value,Vals xs its∧IsTq h a its.toArray
 | .dK kvs=>kvs.length ≤ sizeLine∧(a == sysModules)=false∧∃ vs,KV kvs vs∧h.DictOf (mixKind P w) a vs
 | .dT kvs=>kvs.length ≤ sizeLine∧(a == sysModules)=false∧∃ xs:List (List Key × Addr × Value),
   Paired (fun (p:List Key × V) (q:List Key × Addr × Value)=>p.1=q.1∧H q.2.1=some (.tup (p.1.map kV))∧RelV p.2 q.2.2) kvs xs ∧
   ∃ o es ep,h.get? a=some o∧o.ExactDict∧o.data=.dict es ep∧es.toList=xs.map (entryOfKey (tupleKind (mixKind P w)))∧(xs.map (·.1)).Nodup
 | .set S n=>h.SetOf (intKind P w) a S n
 | .ins C dx fs=>H dx=some (.own a)∧fs.length ≤ 1000∧dx ≠ a∧h.get? a=some (PySem.W.instObj C dx) ∧
   ∃ mA,h.Ns1 dx mA∧(∀ f,RelO (fs.lookup f) (mA f))∧PySem.Within mA (fs.map (·.1))
 | .own _=>∃ o,h.get? a=some o
 | .xd fs=>∃ mA,h.Ns1 a mA∧∀ f,RelO (fs.lookup f) (mA f)
 | .rng lo hi=>∃ t u v,h.get? a=some { cls:=.type "range",data:=.fields #[.int lo t,.int hi u,.int 1 v] }
 | .frz o u=>h.get? a=some o∧ObjOk H h a u
 | .tbl ps=>h.get? a=some { cls:=.none,data:=.fields ps }
 | .met f x=>h.get? a=some (PySem.W.methodObj (.ref f) (.ref x))
 | .ext φ=>φ h∧(∃ o,h.get? a=some o)∧∀ h1 h2:Heap,φ h1→(∀ o,h1.get? a=some o→h2.get? a=some o)→φ h2
def HOk (H:Hp) (h:Heap):Prop:=∀ a o,H a=some o→ObjOk P w H h a o
end

section
variable {P:Program} {w:World} {H H':Hp} {h h':Heap} {a:Addr} {o:HO}
theorem ObjOk.lt (x:ObjOk P w H h a o):a < h.objs.size:=by
 cases o with
 | lst xs=>obtain ⟨_,_,_,_,e⟩:=x; exact Heap.lt_size e
 | tup xs=>obtain ⟨_,_,_,p⟩:=x; exact p.1.lt
 | dK kvs=>obtain ⟨_,_,_,_,o,_,_,e,_⟩:=x; exact Heap.lt_size e
 | dT kvs=>obtain ⟨_,_,_,_,o,_,_,e,_⟩:=x; exact Heap.lt_size e
 | set S n=>obtain ⟨o,_,_,_,e,_⟩:=x; exact Heap.lt_size e
 | ins C dx fs=>obtain ⟨_,_,_,e,_⟩:=x; exact Heap.lt_size e
 | own y=>obtain ⟨_,e⟩:=x; exact Heap.lt_size e
 | xd fs=>obtain ⟨_,⟨_,_,_,e,_⟩,_⟩:=x; exact Heap.lt_size e
 | rng lo hi=>obtain ⟨_,_,_,e⟩:=x; exact Heap.lt_size e
 | frz ob u=>obtain ⟨e,_⟩:=x; exact Heap.lt_size e
 | tbl ps=>exact Heap.lt_size (show h.get? a=some _ from x)
 | met f y=>exact Heap.lt_size (show h.get? a=some _ from x)
 | ext φ=>obtain ⟨_,⟨_,e⟩,_⟩:=x; exact Heap.lt_size e
theorem Paired.mapP {α β:Type} {F G:α→β→Prop}:∀ {l₁:List α} {l₂:List β},Paired F l₁ l₂→(∀ a b,F a b→G a b)→Paired G l₁ l₂
 | _,_,.nil,_=>.nil
 | _,_,.cons r t,f=>.cons (f _ _ r) (Paired.mapP t f)
theorem ObjOk.stay (x:ObjOk P w H h a o) (k:∀ b u,(b=a∨H b=some (.own a))→h.get? b=some u→h'.get? b=some u)
  (ho:∀ b,H b=some (.own a)→H' b=some (.own a)) (ht:∀ b xs,H b=some (.tup xs)→H' b=some (.tup xs)):ObjOk P w H' h' a o:=by
 induction o with
 | lst xs=>obtain ⟨z,its,n,r,e⟩:=x; exact ⟨z,its,n,r,k _ _ (.inl rfl) e⟩
 | tup xs=>obtain ⟨z,its,r,⟨ob,e,c⟩,ob2,e2,c2⟩:=x; exact ⟨z,its,r,⟨ob,k _ _ (.inl rfl) e,c⟩,ob2,k _ _ (.inl rfl) e2,c2⟩
 | dK kvs=>obtain ⟨z,y,vs,r,ob,es,ep,e,c⟩:=x; exact ⟨z,y,vs,r,ob,es,ep,k _ _ (.inl rfl) e,c⟩
 | dT kvs =>
  obtain ⟨z,y,xs,r,ob,es,ep,e,c⟩:=x
  exact ⟨z,y,xs,Paired.mapP r fun p q z=>⟨z.1,ht _ _ z.2.1,z.2.2⟩,ob,es,ep,k _ _ (.inl rfl) e,c⟩
 | set S n=>obtain ⟨ob,es,ep,t,e,c⟩:=x; exact ⟨ob,es,ep,t,k _ _ (.inl rfl) e,c⟩
 | ins C dx fs =>
  obtain ⟨d,z,ne,e,mA,⟨od,es,ep,e2,c⟩,r⟩:=x
  exact ⟨ho _ d,z,ne,k _ _ (.inl rfl) e,mA,⟨od,es,ep,k _ _ (.inr d) e2,c⟩,r⟩
 | own y=>obtain ⟨ob,e⟩:=x; exact ⟨ob,k _ _ (.inl rfl) e⟩
 | xd fs=>obtain ⟨mA,⟨od,es,ep,e,c⟩,r⟩:=x; exact ⟨mA,⟨od,es,ep,k _ _ (.inl rfl) e,c⟩,r⟩
 | rng lo hi=>obtain ⟨t,u,v,e⟩:=x; exact ⟨t,u,v,k _ _ (.inl rfl) e⟩
 | frz ob u ih=>obtain ⟨e,q⟩:=x; exact ⟨k _ _ (.inl rfl) e,ih q⟩
 | tbl ps =>
  have e:h.get? a=some { cls:=.none,data:=.fields ps }:=x
  show h'.get? a=some { cls:=.none,data:=.fields ps }
  exact k a _ (.inl rfl) e
 | met f y =>
  have e:h.get? a=some (PySem.W.methodObj (.ref f) (.ref y)):=x
  show h'.get? a=some (PySem.W.methodObj (.ref f) (.ref y))
  exact k a _ (.inl rfl) e
 | ext φ=>obtain ⟨p,⟨o,e⟩,st⟩:=x; exact ⟨st _ _ p fun o q=>k _ _ (.inl rfl) q,⟨o,k _ _ (.inl rfl) e⟩,st⟩
theorem HOk.lt (x:HOk P w H h) (e:H a=some o):a < h.objs.size:=(x a o e).lt
theorem HOk.fresh (x:HOk P w H h) (e:h.objs.size ≤ a):H a=none:=by
 cases q:H a with
 | none=>rfl
 | some u=>exact absurd (Nat.lt_of_lt_of_le (x.lt q) e) (Nat.lt_irrefl _)
theorem HOk.kept (x:HOk P w H h) (k:∀ b u,h.get? b=some u→h'.get? b=some u):HOk P w H h':=fun a o e =>
 (x a o e).stay (fun b u _ q=>k b u q) (fun _ q=>q) fun _ _ q=>q
theorem HOk.laid (x:HOk P w H h) (k:∀ b u,h.get? b=some u→h'.get? b=some u) (hp:h.objs.size ≤ a) (new:ObjOk P w (upd H a o) h' a o):HOk P w (upd H a o) h':=fun b u e=>by
 have hn:=x.fresh hp
 by_cases hb:b=a
 ·subst hb; rw [upd_same] at e; cases e; exact new
 ·rw [upd_ne hb] at e
  exact (x b u e).stay (fun c v _ q=>k c v q) (fun c q=>by rw [upd_ne (ne_of_none q hn)]; exact q) fun c xs q=>by rw [upd_ne (ne_of_none q hn)]; exact q
end

def Rd (H:Hp) (a:Addr) (u:HO):Prop:=H a=some u∨∃ o,H a=some (.frz o u)
theorem Rd.of {H:Hp} {a:Addr} {u:HO} (h:H a=some u):Rd H a u:=.inl h
theorem Rd.ok {P:Program} {w:World} {H:Hp} {h:Heap} {a:Addr} {u:HO} (r:Rd H a u) (x:HOk P w H h):ObjOk P w H h a u:=by
 rcases r with r | ⟨o,r⟩
 ·exact x a u r
 ·obtain ⟨_,q⟩:=x a _ r
  exact q
def Mut:Option HO→Prop
 | some (.lst _)=>True
 | some (.dK _)=>True
 | some (.dT _)=>True
 | some (.set _ _)=>True
 | some (.ins _ _ _)=>True
 | some (.ext _)=>True
 | _=>False
section
variable {P:Program} {w:World} {H:Hp} {h h':Heap} {x e:Addr} {o':HO}
theorem HOk.write (ok:HOk P w H h) (mu:Mut (H x)) (he:e=x∨H e=some (.own x)) (k:∀ b u,b ≠ e→h.get? b=some u→h'.get? b=some u) (heo:∃ u,h'.get? e=some u)
  (new:ObjOk P w (upd H x o') h' x o'):HOk P w (upd H x o') h':=fun b u q=>by
 have nown:∀ c y,H c=some (.own y)→c ≠ x:=fun c y r z=>by subst z; rw [r] at mu; exact mu
 have ntup:∀ c xs,H c=some (.tup xs)→c ≠ x:=fun c xs r z=>by subst z; rw [r] at mu; exact mu
 by_cases hb:b=x
 ·subst hb; rw [upd_same] at q; cases q; exact new
 ·rw [upd_ne hb] at q
  by_cases hbe:b=e
  ·have q':H b=some (.own x):=by
    rcases he with z | z
    ·exact absurd (hbe.trans z) hb
    ·rw [hbe]; exact z
   rw [q] at q'; cases q'
   obtain ⟨v,hv⟩:=heo
   exact ⟨v,by rw [hbe]; exact hv⟩
  ·refine (ok b u q).stay (fun c v hc r=>k c v ?_ r) (fun c r=>by rw [upd_ne (nown c b r)]; exact r) fun c xs r=>by rw [upd_ne (ntup c xs r)]; exact r
   rcases hc with rfl | hc
   ·exact hbe
   ·rintro rfl
    rcases he with z | z
    ·exact nown c b hc z
    ·rw [hc] at z; cases z; exact hb rfl
end


structure Un (fs ex:List Addr) (H H':Hp) (h h':Heap):Prop where
 keep:∀ b o,h.get? b=some o→H b=none→b ∉ fs→b ∉ ex→h'.get? b=some o
 slot:∀ b o,h.get? b=some o→H b=none→b ∈ fs→b ∉ ex→∃ sl,h'.get? b=some { o with slots:=sl }
 free:∀ b o,h.get? b=some o→H b=none→b ∉ ex→H' b=none
 there:∀ b o,h.get? b=some o→b ∉ ex→∃ o',h'.get? b=some o'
 tups:∀ b xs,H b=some (.tup xs)→H' b=some (.tup xs)
 frzs:∀ b o u,H b=some (.frz o u)→H' b=some (.frz o u)
 tbls:∀ b ps,H b=some (.tbl ps)→∃ more,H' b=some (.tbl (ps ++ more))
section
variable {fs fs' ex ex':List Addr} {H H1 H2:Hp} {h h1 h2 h':Heap} {a x e:Addr} {o:HO}
theorem Un.any (u:Un fs ex H H1 h h1) {b:Addr} {ob:Obj} (q:h.get? b=some ob) (n:H b=none) (hx:b ∉ ex):∃ sl,h1.get? b=some { ob with slots:=sl }:=by
 by_cases hb:b ∈ fs
 ·exact u.slot b ob q n hb hx
 ·exact ⟨ob.slots,u.keep b ob q n hb hx⟩
theorem Un.trans (a:Un fs ex H H1 h h1) (b:Un fs ex H1 H2 h1 h2):Un fs ex H H2 h h2 where
 keep:=fun c ob q n hc hx=>b.keep c ob (a.keep c ob q n hc hx) (a.free c ob q n hx) hc hx
 slot:=fun c ob q n hc hx=>by
  obtain ⟨sl,e1⟩:=a.slot c ob q n hc hx
  obtain ⟨sl',e2⟩:=b.slot c _ e1 (a.free c ob q n hx) hc hx
  exact ⟨sl',e2⟩
 free:=fun c ob q n hx=>by
  obtain ⟨o',e1⟩:=a.there c ob q hx
  exact b.free c o' e1 (a.free c ob q n hx) hx
 there:=fun c ob q hx=>by
  obtain ⟨o',e1⟩:=a.there c ob q hx
  exact b.there c o' e1 hx
 tups:=fun c xs q=>b.tups c xs (a.tups c xs q)
 frzs:=fun c ob xs q=>b.frzs c ob xs (a.frzs c ob xs q)
 tbls:=fun c ps q=>by
  obtain ⟨m1,e1⟩:=a.tbls c ps q
  obtain ⟨m2,e2⟩:=b.tbls c _ e1
  exact ⟨m1 ++ m2,by rw [e2,Array.append_assoc]⟩
theorem Un.kept (k:∀ b u,h.get? b=some u→h'.get? b=some u):Un fs ex H H h h' :=
 ⟨fun b ob q _ _ _=>k b ob q,fun b ob q _ _ _=>⟨ob.slots,k b ob q⟩,fun _ _ _ n _=>n,fun b ob q _=>⟨ob,k b ob q⟩,fun _ _ q=>q,fun _ _ _ q=>q,fun _ ps q=>⟨#[],by rw [q]; simp⟩⟩
theorem Un.refl:Un fs ex H H h h:=Un.kept fun _ _ q=>q
theorem Un.laid (k:∀ b u,h.get? b=some u→h'.get? b=some u) (hp:h.objs.size ≤ a) (hn:H a=none):Un fs ex H (upd H a o) h h' where
 keep:=fun b u q _ _ _=>k b u q
 slot:=fun b u q _ _ _=>⟨u.slots,k b u q⟩
 free:=fun b u q n _=>by rw [upd_ne (Nat.ne_of_lt (Nat.lt_of_lt_of_le (Heap.lt_size q) hp))]; exact n
 there:=fun b u q _=>⟨u,k b u q⟩
 tups:=fun b xs q=>by rw [upd_ne (ne_of_none q hn)]; exact q
 frzs:=fun b u xs q=>by rw [upd_ne (ne_of_none q hn)]; exact q
 tbls:=fun b ps q=>⟨#[],by rw [upd_ne (ne_of_none q hn),q]; simp⟩
theorem Un.write (mu:Mut (H x)) (he:e=x∨H e=some (.own x)) (k:∀ b u,b ≠ e→h.get? b=some u→h'.get? b=some u) (heo:∃ u,h'.get? e=some u):Un fs ex H (upd H x o) h h':=by
 have hx:∀ b,H b=none→b ≠ x:=fun b n z=>by subst z; rw [n] at mu; exact mu
 have hb:∀ b,H b=none→b ≠ e:=fun b n z=>by
  subst z
  rcases he with r | r
  ·exact hx b n r
  ·rw [n] at r; cases r
 have hm:∀ b u,H b=some u→¬ Mut (some u)→b ≠ x:=fun b u q nm z=>by subst z; rw [q] at mu; exact nm mu
 refine ⟨fun b u q n _ _=>k b u (hb b n) q,fun b u q n _ _=>⟨u.slots,k b u (hb b n) q⟩,fun b u q n _=>by rw [upd_ne (hx b n)]; exact n,fun b u q _=>?_,
  fun b xs q=>by rw [upd_ne (hm b _ q fun z=>z)]; exact q,fun b u xs q=>by rw [upd_ne (hm b _ q fun z=>z)]; exact q,fun b ps q=>⟨#[],by rw [upd_ne (hm b _ q fun z=>z),q]; simp⟩⟩
 by_cases hbe:b=e
 ·subst hbe; exact heo
 ·exact ⟨u,k b u hbe q⟩
end


def trk (h:Heap) (H:Hp):List Addr:=(List.range h.objs.size).filter fun a=>(H a).isSome
def hidT (h:Heap) (H:Hp):Heap:=PySem.W.hideAll h (trk h H)
theorem hidT_size (h:Heap) (H:Hp):(hidT h H).objs.size=h.objs.size:=PySem.W.hideAll_size _ _
theorem hidT_get {h:Heap} {H:Hp} {b:Addr} {o:Obj} (e:h.get? b=some o) (n:H b=none):(hidT h H).get? b=some o :=
 PySem.W.hideAll_get _ e fun hm=>by
  have q:(H b).isSome=true:=(List.mem_filter.mp hm).2
  rw [n] at q; simp at q
theorem of_hidT {h:Heap} {H:Hp} {b:Addr} {o:Obj} (e:(hidT h H).get? b=some o):h.get? b=some o∧H b=none:=by
 have e':h.get? b=some o:=PySem.W.of_hideAll (trk h H) e
 refine ⟨e',?_⟩
 cases q:H b with
 | none=>rfl
 | some x =>
  have hm:b ∈ trk h H:=List.mem_filter.mpr ⟨List.mem_range.mpr (Heap.lt_size e'),by simp [q]⟩
  have z:(hidT h H).get? b=none:=PySem.W.hideAll_none (trk h H) hm
  rw [z] at e; cases e


def allNews (g h:Heap) (L:Addr):List (Addr × Obj):=(List.range h.objs.size).filterMap fun a=>if a=L∨(g.get? a).isSome=true then none else (h.get? a).map fun o=>(a,o)
def rest (g h:Heap) (L d:Addr):List (Addr × Obj):=(allNews g h L).filter fun p=>decide (p.1 ≠ d)
end L2

namespace L2
open PySem PySem.Spec PyProof.Rows

structure Mod (K:PySem.W.Frag) (mg:Str→Option Value) (base:Heap):Prop where
 kin:K.In base
 glob:base.Ns mainGlobals mg
 blt:∃ mb,base.Ns builtinsNs mb∧∀ x:Str,x ≠ "__name__"→mb x=bootBuiltins x
 nolimit:base.NoLimit

structure Cx where
 prog:Program
 w:World
 K:PySem.W.Frag
 mg:Str→Option Value
 base:Heap
 A:Around
 N:List Str
 s₀:Shared
 H₀:Hp
 env:Env
 outer:List Env
 stack:List Env
 ex:List Addr
 fn:Str→Bool
 calm:Bool
 pn:List (Addr × Obj)
 xe:Value→Shared→Prop
def frs (l:List Env):List Addr:=l.filterMap (·.frame)
abbrev Cx.fs (X:Cx):List Addr:=frs X.outer

def Vis (sc:Scope) (x:Str):Prop:=sc.names.lookup x=some .local∨sc.names.lookup x=some .cell∨sc.names.lookup x=some .free
def Loc (sc:Scope) (x:Str):Prop:=sc.names.lookup x=some .local∨sc.names.lookup x=some .cell
def Look (env:Env) (h:Heap) (m:Str→Option Value) (x:Str) (u:Value):Prop :=
 (env.kindOf x=some .local∧m x=some u)∨((env.kindOf x=some .cell∨env.kindOf x=some .free)∧∃ c,env.cells.lookup x=some c∧h.IsCell c (some u))

structure Cx.Ok (X:Cx):Prop where
 mod:Mod X.K X.mg X.base
 kind:X.env.scope.kind=.function
 glob:X.env.globals=mainGlobals
 blt:X.env.builtins=builtinsNs
 above:X.s₀.heap.objs.size ≤ X.env.locals
 inj:∀ x y c,X.env.cells.lookup x=some c→X.env.cells.lookup y=some c→x=y
 has:∀ x,(X.env.kindOf x=some .cell∨X.env.kindOf x=some .free)→∃ c,X.env.cells.lookup x=some c
 cab:∀ x c,X.fn x=true→X.env.cells.lookup x=some c→X.s₀.heap.objs.size ≤ c
 hd:X.calm=true→X.A.handled=none
 frames:X.A.frames=some X.stack
 stk:X.stack=X.outer∨(X.stack=X.env :: X.outer∧X.env.frame=some X.env.locals)
 exf:∀ b ∈ X.ex,b ≠ X.env.locals∧∀ x c,X.env.cells.lookup x=some c→c ≠ b
 bs:∀ b o,X.base.get? b=some o→X.s₀.heap.get? b=some o∧X.H₀ b=none
 bsz:X.base.objs.size ≤ X.s₀.heap.objs.size
 noex:∀ b o,X.base.get? b=some o→b ∉ X.ex
 exfs:∀ b ∈ X.ex,b ∉ X.fs
 funs:X.s₀.heap.FunFrames X.base X.outer
 frf:∀ b ∈ X.fs,X.H₀ b=none

structure Inv (X:Cx) (pins:List (Addr × Obj)) (σ:List (Option V)) (H:Hp) (s:Shared):Prop where
 ok:X.Ok
 os:s.os=X.s₀.os
 bare:AllBare s.gens
 base:Un X.fs X.ex X.H₀ H X.s₀.heap s.heap
 loc:∃ m,s.heap.Ns X.env.locals m∧∀ (i:Nat) (x:Str) (v:V),X.N[i]?=some x→σ[i]?=some (some v)→Vis X.env.scope x→∃ u,RelV v u∧Look X.env s.heap m x u
 cell:∀ x c,X.env.cells.lookup x=some c→∃ v,s.heap.IsCell c v
 free:H X.env.locals=none
 freeC:∀ x c,X.env.cells.lookup x=some c→H c=none
 pin:∀ p ∈ X.pn ++ pins,s.heap.get? p.1=some p.2∧H p.1=none∧p.1 ≠ X.env.locals∧p.1 ∉ X.fs∧∀ v,p.2.data ≠ .cell v
 hok:HOk X.prog X.w H s.heap
 len:σ.length=X.N.length

section
variable {X:Cx} {pins:List (Addr × Obj)} {σ:List (Option V)} {H H':Hp} {s:Shared} {h':Heap}

theorem Cx.Ok.nofr (ok:X.Ok) {b:Addr} {o:Obj} (e:X.base.get? b=some o):b ∉ X.fs:=fun hb=>by
 have:=(ok.funs.mem hb).1
 rw [e] at this; cases this
theorem Inv.bs (I:Inv X pins σ H s):∀ b o,X.base.get? b=some o→s.heap.get? b=some o∧H b=none:=fun b o e =>
 ⟨I.base.keep b o (I.ok.bs b o e).1 (I.ok.bs b o e).2 (I.ok.nofr e) (I.ok.noex b o e),I.base.free b o (I.ok.bs b o e).1 (I.ok.bs b o e).2 (I.ok.noex b o e)⟩
theorem Inv.bk (I:Inv X pins σ H s):∀ b o,X.base.get? b=some o→s.heap.get? b=some o:=fun b o e=>(I.bs b o e).1
theorem Inv.mod (I:Inv X pins σ H s):Mod X.K X.mg X.base:=I.ok.mod
theorem Inv.kIn (I:Inv X pins σ H s):X.K.In s.heap:=I.ok.mod.kin.keeps I.bk
theorem Inv.nolimit (I:Inv X pins σ H s):s.heap.NoLimit:=I.ok.mod.nolimit.keeps I.bk
theorem Inv.fr (I:Inv X pins σ H s):∃ m,Fr X.base X.env.locals s.heap m :=
 let ⟨m,hn,_⟩:=I.loc
 ⟨m,hn,I.bk,Nat.le_trans I.ok.bsz I.ok.above⟩
theorem Inv.lt (I:Inv X pins σ H s):X.env.locals < s.heap.objs.size:=let ⟨_,hn,_⟩:=I.loc; hn.lt
theorem Inv.sz (I:Inv X pins σ H s):X.s₀.heap.objs.size ≤ s.heap.objs.size:=Nat.le_trans I.ok.above (Nat.le_of_lt I.lt)
theorem Inv.nofs (I:Inv X pins σ H s) {a:Addr} (h:s.heap.objs.size ≤ a):a ∉ X.fs:=fun hb=>by
 obtain ⟨_,o,ho,_⟩:=I.ok.funs.mem hb
 exact absurd (Nat.lt_of_lt_of_le (Heap.lt_size ho) (Nat.le_trans I.sz h)) (Nat.lt_irrefl _)
theorem Inv.cne (I:Inv X pins σ H s):∀ x c,X.env.cells.lookup x=some c→c ≠ X.env.locals:=fun x c e z=>by
 obtain ⟨v,o,ho,hd⟩:=I.cell x c e
 obtain ⟨m,⟨o',es,ep,ho',hd',_⟩,_⟩:=I.loc
 rw [z,ho'] at ho; cases ho; rw [hd'] at hd; cases hd
theorem Inv.funs (I:Inv X pins σ H s):s.heap.FunFrames X.base X.outer:=by
 have all:∀ (l:List Env),(∀ b ∈ frs l,b ∈ X.fs)→X.s₀.heap.FunFrames X.base l→s.heap.FunFrames X.base l:=by
  intro l
  induction l with
  | nil=>intro _ _; trivial
  | cons env r ih =>
   intro hs hl
   obtain ⟨hk,⟨L,o,hf,hn,ho,hd⟩,hr⟩:=hl
   have hL:L ∈ X.fs:=hs L (by unfold frs; rw [List.filterMap_cons,hf]; exact List.mem_cons_self)
   obtain ⟨sl,e⟩:=I.base.slot L o ho (I.ok.frf L hL) hL fun z=>I.ok.exfs L z hL
   exact ⟨hk,⟨L,_,hf,hn,e,hd⟩,ih (fun b hb=>hs b (by unfold frs; rw [List.filterMap_cons,hf]; exact List.mem_cons_of_mem _ hb)) hr⟩
 exact all X.outer (fun _ hb=>hb) I.ok.funs

theorem Inv.stack (I:Inv X pins σ H s):s.heap.FunFrames X.base X.stack:=by
 rcases I.ok.stk with e | ⟨e,hf⟩
 ·rw [e]; exact I.funs
 ·rw [e]
  obtain ⟨m,hn,_⟩:=I.loc
  refine .cons (by rw [I.ok.kind]; decide) hf hn ?_ I.funs
  exact Heap.get?_none_of_le (Nat.le_trans I.ok.bsz I.ok.above)
theorem Inv.stkSub (I:Inv X pins σ H s):∀ b ∈ frs X.stack,b ∈ X.env.locals :: X.fs:=fun b hb=>by
 rcases I.ok.stk with e | ⟨e,hf⟩
 ·rw [e] at hb; exact List.mem_cons_of_mem _ hb
 ·rw [e] at hb
  unfold frs at hb
  rw [List.filterMap_cons,hf] at hb
  exact hb
theorem Inv.stkFree (I:Inv X pins σ H s):∀ b ∈ frs X.stack,H b=none:=fun b hb=>by
 rcases List.mem_cons.mp (I.stkSub b hb) with e | hb
 ·rw [e]; exact I.free
 ·obtain ⟨_,o,ho,_⟩:=I.ok.funs.mem hb
  exact I.base.free b o ho (I.ok.frf b hb) fun z=>I.ok.exfs b z hb

theorem Inv.step {g':Array GenState} {t':Nat} {d':Drawn} {ch:List Addr} (I:Inv X pins σ H s)
  (hch:∀ b ∈ ch,(b ∈ X.ex∨X.s₀.heap.objs.size ≤ b)∧b ≠ X.env.locals∧(∀ x c,X.env.cells.lookup x=some c→c ≠ b)∧∀ p ∈ X.pn ++ pins,p.1 ≠ b)
  (keep:∀ b o,b ≠ X.env.locals→b ∉ X.fs→b ∉ ch→s.heap.get? b=some o→H b=none→h'.get? b=some o)
  (slot:∀ b o,b ≠ X.env.locals→b ∈ X.fs→b ∉ ch→s.heap.get? b=some o→H b=none→∃ sl,h'.get? b=some { o with slots:=sl }) (free:∀ b o,b ∉ ch→s.heap.get? b=some o→H b=none→H' b=none)
  (there:∀ b o,b ∉ ch→s.heap.get? b=some o→∃ o',h'.get? b=some o')
  (tups:∀ b xs,H b=some (.tup xs)→H' b=some (.tup xs)) (frzs:∀ b o u,H b=some (.frz o u)→H' b=some (.frz o u)) (tbls:∀ b ps,H b=some (.tbl ps)→∃ more,H' b=some (.tbl (ps ++ more)))
  (ns:∀ m,s.heap.Ns X.env.locals m→h'.Ns X.env.locals m) (hok:HOk X.prog X.w H' h') (hg:AllBare g') :
  Inv X pins σ H' { s with heap:=h',gens:=g',drawn:=d',toks:=t' }:=by
 have neL:∀ b o,X.s₀.heap.get? b=some o→b ≠ X.env.locals:=fun b o e=>Nat.ne_of_lt (Nat.lt_of_lt_of_le (Heap.lt_size e) I.ok.above)
 have neC:∀ b o,X.s₀.heap.get? b=some o→b ∉ X.ex→b ∉ ch:=fun b o e hx hb=>by
  rcases (hch b hb).1 with z | z
  ·exact hx z
  ·exact absurd (Nat.lt_of_lt_of_le (Heap.lt_size e) z) (Nat.lt_irrefl _)
 have cellK:∀ x c,X.env.cells.lookup x=some c→∀ v,s.heap.IsCell c v→h'.IsCell c v:=fun x c e v ⟨o,ho,hd⟩=>by
  have nch:c ∉ ch:=fun z=>(hch c z).2.2.1 x c e rfl
  by_cases hc:c ∈ X.fs
  ·obtain ⟨sl,q⟩:=slot c o (I.cne x c e) hc nch ho (I.freeC x c e)
   exact ⟨_,q,hd⟩
  ·exact ⟨o,keep c o (I.cne x c e) hc nch ho (I.freeC x c e),hd⟩
 refine ⟨I.ok,I.os,hg,⟨fun b o e n hb hx=>?_,fun b o e n hb hx=>?_,fun b o e n hx=>?_,fun b o e hx=>?_,fun b xs e=>tups b xs (I.base.tups b xs e),fun b o xs e=>frzs b o xs (I.base.frzs b o xs e),fun b ps e=>?_⟩,?_,fun x c e=>?_,?_,fun x c e=>?_,fun p hp=>?_,hok,I.len⟩
 ·exact keep b o (neL b o e) hb (neC b o e hx) (I.base.keep b o e n hb hx) (I.base.free b o e n hx)
 ·obtain ⟨sl,e1⟩:=I.base.slot b o e n hb hx
  obtain ⟨sl',e2⟩:=slot b _ (neL b o e) hb (neC b o e hx) e1 (I.base.free b o e n hx)
  exact ⟨sl',e2⟩
 ·obtain ⟨o',e1⟩:=I.base.there b o e hx
  exact free b o' (neC b o e hx) e1 (I.base.free b o e n hx)
 ·obtain ⟨o',e1⟩:=I.base.there b o e hx
  exact there b o' (neC b o e hx) e1
 ·obtain ⟨m1,e1⟩:=I.base.tbls b ps e
  obtain ⟨m2,e2⟩:=tbls b _ e1
  exact ⟨m1 ++ m2,by rw [e2,Array.append_assoc]⟩
 ·obtain ⟨m,hn,hl⟩:=I.loc
  refine ⟨m,ns m hn,fun i x v e1 e2 e3=>?_⟩
  obtain ⟨u,r,l⟩:=hl i x v e1 e2 e3
  refine ⟨u,r,?_⟩
  rcases l with l | ⟨k,c,e,z⟩
  ·exact .inl l
  ·exact .inr ⟨k,c,e,cellK x c e _ z⟩
 ·obtain ⟨v,z⟩:=I.cell x c e
  exact ⟨v,cellK x c e v z⟩
 ·obtain ⟨m,⟨o,_,_,ho,_⟩,_⟩:=I.loc
  exact free _ o (fun z=>(hch _ z).2.1 rfl) ho I.free
 ·obtain ⟨v,o,ho,hd⟩:=I.cell x c e
  exact free c o (fun z=>(hch c z).2.2.1 x c e rfl) ho (I.freeC x c e)
 ·obtain ⟨e,n,ne,nf,d⟩:=I.pin p hp
  have nch:p.1 ∉ ch:=fun z=>(hch p.1 z).2.2.2 p hp rfl
  exact ⟨keep p.1 p.2 ne nf nch e n,free p.1 p.2 nch e n,ne,nf,d⟩
theorem Inv.un {t':Nat} (I:Inv X pins σ H s) (u:Un X.fs [] H H' s.heap h') (hok:HOk X.prog X.w H' h'):Inv X pins σ H' { s with heap:=h',toks:=t' }:=by
 obtain ⟨m,⟨o,es,ep,ho,r⟩,_⟩:=id I.loc
 obtain ⟨sl,hL⟩:=u.any ho I.free (by simp)
 exact I.step (g':=s.gens) (d':=s.drawn) (ch:=[]) (fun _ z=>nomatch z) (fun b o _ hb _ e n=>u.keep b o e n hb (by simp)) (fun b o _ hb _ e n=>u.slot b o e n hb (by simp)) (fun b o _ e n=>u.free b o e n (by simp)) (fun b o _ e=>u.there b o e (by simp)) u.tups u.frzs u.tbls (fun m' hm=>by
  obtain ⟨o',es',ep',ho',r'⟩:=hm
  rw [ho] at ho'; cases ho'
  exact ⟨_,es',ep',hL,r'⟩) hok I.bare
theorem Inv.call {g':Array GenState} {t':Nat} {d':Drawn} {ch:List Addr} (I:Inv X pins σ H s) (u:Un (frs X.stack) ch H H' s.heap h') (hok:HOk X.prog X.w H' h') (hg:AllBare g')
  (hch:∀ b ∈ ch,(b ∈ X.ex∨X.s₀.heap.objs.size ≤ b)∧b ≠ X.env.locals∧(∀ x c,X.env.cells.lookup x=some c→c ≠ b)∧∀ p ∈ X.pn ++ pins,p.1 ≠ b) :
  Inv X pins σ H' { s with heap:=h',gens:=g',drawn:=d',toks:=t' }:=by
 obtain ⟨m,⟨o,es,ep,ho,r⟩,_⟩:=id I.loc
 obtain ⟨sl,hL⟩:=u.any ho I.free fun z=>(hch _ z).2.1 rfl
 exact I.step (ch:=ch) hch (fun b o hL hb hc e n=>u.keep b o e n (fun z=>(List.mem_cons.mp (I.stkSub b z)).elim hL hb) hc) (fun b o _ _ hc e n=>u.any e n hc) (fun b o hc e n=>u.free b o e n hc) (fun b o hc e=>u.there b o e hc) u.tups u.frzs u.tbls (fun m' hm=>by
  obtain ⟨o',es',ep',ho',r'⟩:=hm
  rw [ho] at ho'; cases ho'
  exact ⟨_,es',ep',hL,r'⟩) hok hg
theorem Inv.turned {t':Nat} {it:Addr} (I:Inv X pins σ H s) (k:∀ b o,b ≠ it→s.heap.get? b=some o→h'.get? b=some o) (hn:H it=none) (hL:it ≠ X.env.locals)
  (h1:it ∈ X.ex∨X.s₀.heap.objs.size ≤ it) (h2:∀ x c,X.env.cells.lookup x=some c→c ≠ it) (h3:∀ p ∈ X.pn ++ pins,p.1 ≠ it):Inv X pins σ H { s with heap:=h',toks:=t' }:=by
 have nit:∀ b u,H b=some u→b ≠ it:=fun b u e z=>by rw [z,hn] at e; cases e
 refine I.step (g':=s.gens) (d':=s.drawn) (ch:=[it]) (fun b hb=>?_) (fun b o _ _ hc e _=>k b o (fun z=>hc (by simp [z])) e) (fun b o _ _ hc e _=>⟨o.slots,k b o (fun z=>hc (by simp [z])) e⟩) (fun _ _ _ _ n=>n)
  (fun b o hc e=>⟨o,k b o (fun z=>hc (by simp [z])) e⟩) (fun _ _ e=>e) (fun _ _ _ e=>e) (fun b ps e=>⟨#[],by rw [e]; simp⟩) (fun m hm=>?_) (fun b u e=>?_) I.bare
 ·have e:b=it:=by simpa using hb
  subst e
  exact ⟨h1,hL,h2,h3⟩
 ·obtain ⟨o,es,ep,ho,r⟩:=hm
  exact ⟨o,es,ep,k _ o (Ne.symm hL) ho,r⟩
 ·refine (I.hok b u e).stay (fun c v hc q=>k c v ?_ q) (fun _ q=>q) fun _ _ q=>q
  rcases hc with z | z
  ·rw [z]; exact nit b u e
  ·exact nit c _ z
theorem Inv.tok (I:Inv X pins σ H s) (t:Nat):Inv X pins σ H { s with toks:=t }:=I.un (h':=s.heap) (t':=t) Un.refl I.hok
theorem Inv.kept {t':Nat} (I:Inv X pins σ H s) (k:∀ b u,s.heap.get? b=some u→h'.get? b=some u):Inv X pins σ H { s with heap:=h',toks:=t' }:=I.un (Un.kept k) (I.hok.kept k)
theorem Inv.laid {a:Addr} {o:HO} {t':Nat} (I:Inv X pins σ H s) (k:∀ b u,s.heap.get? b=some u→h'.get? b=some u) (hp:s.heap.objs.size ≤ a) (new:ObjOk X.prog X.w (upd H a o) h' a o) :
  Inv X pins σ (upd H a o) { s with heap:=h',toks:=t' }:=I.un (Un.laid k hp (I.hok.fresh hp)) (I.hok.laid k hp new)
theorem Inv.write {x e:Addr} {o:HO} {t':Nat} (I:Inv X pins σ H s) (mu:Mut (H x)) (he:e=x∨H e=some (.own x)) (k:∀ b u,b ≠ e→s.heap.get? b=some u→h'.get? b=some u) (heo:∃ u,h'.get? e=some u)
  (new:ObjOk X.prog X.w (upd H x o) h' x o):Inv X pins σ (upd H x o) { s with heap:=h',toks:=t' }:=I.un (Un.write mu he k heo) (I.hok.write mu he k heo new)
theorem Inv.weak {σ':List (Option V)} (I:Inv X pins σ H s) (hl:σ'.length=σ.length) (w:∀ (i:Nat) v,σ'[i]?=some (some v)→σ[i]?=some (some v)):Inv X pins σ' H s :=
 ⟨I.ok,I.os,I.bare,I.base,let ⟨m,hn,hl'⟩:=I.loc; ⟨m,hn,fun i x v e1 e2 e3=>hl' i x v e1 (w i v e2) e3⟩,I.cell,I.free,I.freeC,I.pin,I.hok,hl.trans I.len⟩
theorem Inv.pins_of {pins':List (Addr × Obj)} (I:Inv X pins σ H s) (h:∀ p ∈ pins',s.heap.get? p.1=some p.2∧H p.1=none∧p.1 ≠ X.env.locals∧p.1 ∉ X.fs∧∀ v,p.2.data ≠ .cell v):Inv X pins' σ H s :=
 ⟨I.ok,I.os,I.bare,I.base,I.loc,I.cell,I.free,I.freeC,fun p hp=>(List.mem_append.mp hp).elim (fun z=>I.pin p (List.mem_append_left _ z)) (h p),I.hok,I.len⟩

theorem nodup_ix {N:List Str} (hN:N.Nodup) {i j:Nat} {x:Str} (a:N[i]?=some x) (b:N[j]?=some x):i=j:=by
 obtain ⟨h1,e1⟩:=List.getElem?_eq_some_iff.mp a
 obtain ⟨h2,e2⟩:=List.getElem?_eq_some_iff.mp b
 exact (List.getElem_inj hN).mp (e1.trans e2.symm)

theorem store_ok2 {M:Model} {A:Around} {E:Value→Shared→Prop} {i:Nat} {x:Str} {v:V} {u:Value} {Q:Unit→Shared→Prop} (I:Inv X pins σ H s) (hN:X.N.Nodup) (hi:X.N[i]?=some x) (hx:Loc X.env.scope x) (r:RelV v u)
  (h:∀ s',Inv X pins (σ.set i (some v)) H s'→(∃ a,Heap.SameBut a s.heap s'.heap∧(a=X.env.locals∨X.env.cells.lookup x=some a))→Q () s') (hf:X.fn x=true∨X.env.scope.names.lookup x=some .local:=by first | exact .inl rfl | exact .inr rfl | assumption):wpAny M A (storeName X.env x u) Q E s:=by
 obtain ⟨m,hn,hl⟩:=id I.loc
 have hcls:(X.env.scope.kind == .class || (X.env.scope.kind == .module && X.env.locals != X.env.globals))=false:=by rw [I.ok.kind]; rfl
 have hiσ:i < σ.length:=by rw [I.len]; exact (List.getElem?_eq_some_iff.mp hi).1
 have cne:=I.cne
 have tracked:∀ {a:Addr} {h':Heap},(∃ o,s.heap.get? a=some o∧H a=none)→Heap.SameBut a s.heap h'→HOk X.prog X.w H h':=fun {a h'} ha hs b ob e=>by
  obtain ⟨_,_,hfree⟩:=ha
  refine (I.hok b ob e).stay (fun c w' hc q=>(hs.2 c ?_).trans q) (fun _ q=>q) fun _ _ q=>q
  rintro rfl
  rcases hc with rfl | hc
  ·rw [hfree] at e; cases e
  ·rw [hfree] at hc; cases hc
 rcases hx with hk | hk
 ·refine wpAny_storeName_local hk hn (fun h' hn' hs=>?_) hcls
  obtain ⟨oL,_,_,hoL,_⟩:=id hn
  refine h _ ⟨I.ok,I.os,I.bare,⟨fun b o e n hb hx=>?_,fun b o e n hb hx=>?_,I.base.free,fun b o e hx=>?_,I.base.tups,I.base.frzs,I.base.tbls⟩,⟨_,hn',fun j y v' e1 e2 e3=>?_⟩,fun y c e=>?_,I.free,I.freeC,fun p hp=>?_,tracked ⟨oL,hoL,I.free⟩ hs,by simpa using I.len⟩ ⟨_,hs,.inl rfl⟩
  ·exact (hs.2 b (Nat.ne_of_lt (Nat.lt_of_lt_of_le (Heap.lt_size e) I.ok.above))).trans (I.base.keep b o e n hb hx)
  ·obtain ⟨sl,e1⟩:=I.base.slot b o e n hb hx
   exact ⟨sl,(hs.2 b (Nat.ne_of_lt (Nat.lt_of_lt_of_le (Heap.lt_size e) I.ok.above))).trans e1⟩
  ·obtain ⟨o',e1⟩:=I.base.there b o e hx
   exact ⟨o',(hs.2 b (Nat.ne_of_lt (Nat.lt_of_lt_of_le (Heap.lt_size e) I.ok.above))).trans e1⟩
  ·by_cases hj:j=i
   ·subst hj
    rw [hi] at e1; cases e1
    rw [List.getElem?_set_self hiσ] at e2
    cases e2
    exact ⟨u,r,.inl ⟨hk,by simp⟩⟩
   ·rw [List.getElem?_set_ne (Ne.symm hj)] at e2
    obtain ⟨u',r',q⟩:=hl j y v' e1 e2 e3
    refine ⟨u',r',?_⟩
    rcases q with ⟨k,e⟩ | ⟨k,c,e,z⟩
    ·refine .inl ⟨k,?_⟩
     have:y ≠ x:=fun e=>hj (nodup_ix hN e1 (e ▸ hi))
     simp [this,e]
    ·exact .inr ⟨k,c,e,z.sameBut hs (cne y c e)⟩
  ·obtain ⟨w',z⟩:=I.cell y c e
   exact ⟨w',z.sameBut hs (cne y c e)⟩
  ·obtain ⟨e,n,ne,nf,d⟩:=I.pin p hp
   exact ⟨(hs.2 p.1 ne).trans e,n,ne,nf,d⟩
 ·have hfn:X.fn x=true:=by
   rcases hf with z | z
   ·exact z
   ·rw [z] at hk; cases hk
  obtain ⟨c,hc⟩:=I.ok.has x (.inl hk)
  obtain ⟨w',z⟩:=I.cell x c hc
  refine wpAny_storeName_cell I.ok.kind hk hc z (fun h' hc' hs=>?_)
  obtain ⟨oc,hoc,hocd⟩:=id z
  refine h { s with heap:=h' } ⟨I.ok,I.os,I.bare,⟨fun b o e n hb hx=>?_,fun b o e n hb hx=>?_,I.base.free,fun b o e hx=>?_,I.base.tups,I.base.frzs,I.base.tbls⟩,⟨m,hn.sameBut hs (Ne.symm (cne x c hc)),fun j y v' e1 e2 e3=>?_⟩,fun y c' e=>?_,I.free,I.freeC,fun p hp=>?_,tracked ⟨oc,hoc,I.freeC x c hc⟩ hs,by simpa using I.len⟩ ⟨c,hs,.inr hc⟩
  ·exact (hs.2 b (Nat.ne_of_lt (Nat.lt_of_lt_of_le (Heap.lt_size e) (I.ok.cab x c hfn hc)))).trans (I.base.keep b o e n hb hx)
  ·obtain ⟨sl,e1⟩:=I.base.slot b o e n hb hx
   exact ⟨sl,(hs.2 b (Nat.ne_of_lt (Nat.lt_of_lt_of_le (Heap.lt_size e) (I.ok.cab x c hfn hc)))).trans e1⟩
  ·obtain ⟨o',e1⟩:=I.base.there b o e hx
   exact ⟨o',(hs.2 b (Nat.ne_of_lt (Nat.lt_of_lt_of_le (Heap.lt_size e) (I.ok.cab x c hfn hc)))).trans e1⟩
  ·by_cases hj:j=i
   ·subst hj
    rw [hi] at e1; cases e1
    rw [List.getElem?_set_self hiσ] at e2
    cases e2
    exact ⟨u,r,.inr ⟨.inl hk,c,hc,hc'⟩⟩
   ·rw [List.getElem?_set_ne (Ne.symm hj)] at e2
    obtain ⟨u',r',q⟩:=hl j y v' e1 e2 e3
    refine ⟨u',r',?_⟩
    rcases q with q | ⟨k,c',e,z'⟩
    ·exact .inl q
    ·refine .inr ⟨k,c',e,z'.sameBut hs ?_⟩
     rintro rfl
     exact hj (nodup_ix hN e1 (I.ok.inj _ _ _ e hc ▸ hi))
  ·by_cases hcc:c'=c
   ·subst hcc; exact ⟨_,hc'⟩
   ·obtain ⟨w2,z2⟩:=I.cell y c' e
    exact ⟨w2,z2.sameBut hs hcc⟩
  ·obtain ⟨e,n,ne,nf,d⟩:=I.pin p hp
   refine ⟨(hs.2 p.1 ?_).trans e,n,ne,nf,d⟩
   intro q
   rw [q,hoc] at e
   have q':oc=p.2:=Option.some.inj e
   exact d w' (by rw [← q']; exact hocd)
theorem store_ok {M:Model} {A:Around} {E:Value→Shared→Prop} {i:Nat} {x:Str} {v:V} {u:Value} {Q:Unit→Shared→Prop} (I:Inv X pins σ H s) (hN:X.N.Nodup) (hi:X.N[i]?=some x) (hx:Loc X.env.scope x) (r:RelV v u)
  (h:∀ s',Inv X pins (σ.set i (some v)) H s'→Q () s') (hf:X.fn x=true∨X.env.scope.names.lookup x=some .local:=by first | exact .inl rfl | exact .inr rfl | assumption):wpAny M A (storeName X.env x u) Q E s :=
 store_ok2 I hN hi hx r (fun s' I' _=>h s' I') hf
theorem Inv.call' {s':Shared} {ch:List Addr} (I:Inv X pins σ H s) (ho:s'.os=s.os) (u:Un (frs X.stack) ch H H' s.heap s'.heap) (hok:HOk X.prog X.w H' s'.heap) (hg:AllBare s'.gens)
  (hch:∀ b ∈ ch,(b ∈ X.ex∨X.s₀.heap.objs.size ≤ b)∧b ≠ X.env.locals∧(∀ x c,X.env.cells.lookup x=some c→c ≠ b)∧∀ p ∈ X.pn ++ pins,p.1 ≠ b):Inv X pins σ H' s':=by
 obtain ⟨h',g',d',t',o'⟩:=s'
 have e:o'=s.os:=ho
 subst e
 exact I.call (g':=g') (t':=t') (d':=d') u hok hg hch
end


abbrev XK:=Value→Option Addr→Hp→Prop
abbrev St:=List (Option V)
abbrev VK:=V→Hp→Prop
abbrev TE:=St→Hp→VK→Prop
abbrev TT:=St→Hp→(Bool→Hp→Prop)→Prop
abbrev TA:=St→Hp→(List V→Hp→Prop)→Prop
structure Ends where
 nx:St→Hp→Prop
 rt:VK
 bk:St→Hp→Prop:=fun _ _=>False
 ct:St→Hp→Prop:=fun _ _=>False
abbrev TS:=Ends→St→Hp→Prop

def EP (X:Cx) (pins:List (Addr × Obj)) (σ:St) (Q:VK) (u:Value) (s':Shared):Prop:=∃ v H',Inv X pins σ H' s'∧RelV v u∧Q v H'
def TP (X:Cx) (pins:List (Addr × Obj)) (σ:St) (Q:Bool→Hp→Prop) (b:Bool) (s':Shared):Prop:=∃ H',Inv X pins σ H' s'∧Q b H'
def AP (X:Cx) (pins:List (Addr × Obj)) (σ:St) (Q:List V→Hp→Prop) (us:List Value) (s':Shared):Prop:=∃ vs H',Inv X pins σ H' s'∧Vals vs us∧Q vs H'
def SP (X:Cx) (pins:List (Addr × Obj)) (D:Ends) (f:Flow) (s':Shared):Prop :=
 match f with
 | .next=>∃ σ' H',Inv X pins σ' H' s'∧D.nx σ' H'
 | .brk=>∃ σ' H',Inv X pins σ' H' s'∧D.bk σ' H'
 | .cont=>∃ σ' H',Inv X pins σ' H' s'∧D.ct σ' H'
 | .ret u=>∃ v σ' H',Inv X pins σ' H' s'∧RelV v u∧D.rt v H'

def PE (X:Cx) (e:Expr) (t:TE):Prop :=
 ∀ (pins:List (Addr × Obj)) (s:Shared) (σ:St) (H:Hp) (Q:VK),Inv X pins σ H s→t σ H Q→wpAny (model X.prog X.w) X.A (eval e X.env) (EP X pins σ Q) X.xe s
def PT (X:Cx) (e:Expr) (t:TT):Prop :=
 ∀ (pins:List (Addr × Obj)) (s:Shared) (σ:St) (H:Hp) (Q:Bool→Hp→Prop),Inv X pins σ H s→t σ H Q→wpAny (model X.prog X.w) X.A (isTrue e X.env (eval e X.env)) (TP X pins σ Q) X.xe s
def PW (X:Cx) (e:Expr) (t:TT):Prop :=
 ∀ (whole:Sem Value) (pins:List (Addr × Obj)) (s:Shared) (σ:St) (H:Hp) (Q:Bool→Hp→Prop),Inv X pins σ H s→t σ H Q→wpAny (model X.prog X.w) X.A (isTrue e X.env whole) (TP X pins σ Q) X.xe s
theorem PW.pt {X:Cx} {e:Expr} {t:TT} (h:PW X e t):PT X e t:=h _
def PA (X:Cx) (es:List Expr) (t:TA):Prop :=
 ∀ (pos:Pos) (pins:List (Addr × Obj)) (s:Shared) (σ:St) (H:Hp) (Q:List V→Hp→Prop),Inv X pins σ H s→t σ H Q→wpAny (model X.prog X.w) X.A (spliced (backTo pos (starEach es X.env))) (AP X pins σ Q) X.xe s
def PS (X:Cx) (st:Stmt) (t:TS):Prop :=
 ∀ (pins:List (Addr × Obj)) (s:Shared) (σ:St) (H:Hp) (D:Ends),Inv X pins σ H s→t D σ H→wpAny (model X.prog X.w) X.A (exec st X.env) (SP X pins D) X.xe s
def PSs (X:Cx) (st:List Stmt) (t:TS):Prop :=
 ∀ (pins:List (Addr × Obj)) (s:Shared) (σ:St) (H:Hp) (D:Ends),Inv X pins σ H s→t D σ H→wpAny (model X.prog X.w) X.A (execs st X.env) (SP X pins D) X.xe s
theorem thn {α:Type} {t:Sem α} {Q Q':α→Shared→Prop} {M:Model} {A:Around} {E:Value→Shared→Prop} {s:Shared} (h:wpAny M A t Q E s) (hQ:∀ a s,Q a s→Q' a s):wpAny M A t Q' E s:=wpAny_mono h hQ fun _ _ x=>x
end L2

namespace L2
open PySem PySem.Spec PyProof.Rows
section
variable {X:Cx}

theorem bin {a b:Expr} {ta tb:TE} (ha:PE X a ta) (hb:PE X b tb) {pins:List (Addr × Obj)} {s:Shared} {σ:St} {H:Hp} {R:V→V→Hp→Prop} (I:Inv X pins σ H s) (h:ta σ H fun x H1=>tb σ H1 fun y H2=>R x y H2)
  {α:Type} {Q:α→Shared→Prop} {f:Value→Value→Sem α}
  (hf:∀ v u s2 x y H2,Inv X pins σ H2 s2→RelV x v→RelV y u→R x y H2→wpAny (model X.prog X.w) X.A (f v u) Q X.xe s2) :
  wpAny (model X.prog X.w) X.A (eval a X.env) (fun v s₁=>wpAny (model X.prog X.w) X.A (eval b X.env) (fun u s₂=>wpAny (model X.prog X.w) X.A (f v u) Q X.xe s₂) X.xe s₁) X.xe s:=by
 refine thn (ha pins s σ H _ I h) fun v s1 ⟨x,H1,I1,r1,q1⟩=>?_
 refine thn (hb pins s1 σ H1 _ I1 q1) fun u s2 ⟨y,H2,I2,r2,q2⟩=>?_
 exact hf v u s2 x y H2 I2 r1 r2 q2


def tVar (i:Nat):TE:=fun σ H Q=>∃ v,σ[i]?=some (some v)∧Q v H
def tC (v:V):TE:=fun _ H Q=>Q v H
theorem pe_var {i:Nat} {x:Str} {pos:Pos} (hN:X.N[i]?=some x) (hv:Vis X.env.scope x) (hd:(x == ("__debug__":Str))=false:=by decide) (hcd:(x == ("__classdict__":Str))=false:=by decide):PE X (.Name x pos) (tVar i):=by
 intro pins s σ H Q I h
 obtain ⟨v,e,h⟩:=h
 obtain ⟨m,hn,hl⟩:=I.loc
 obtain ⟨u,r,l⟩:=hl i x v hN e hv
 have fin:EP X pins σ Q u s:=⟨v,H,I,r,h⟩
 rcases l with ⟨hk,hm⟩ | ⟨hk,c,hc,hcell⟩
 ·exact wpAny_Name (wpAny_loadName_local I.ok.kind hk hn hm fin) hd
 ·rcases hk with hk | hk
  ·exact wpAny_Name (wpAny_loadName_cell I.ok.kind hk hc hcell fin) hd
  ·exact wpAny_Name (wpAny_loadName_free I.ok.kind hk hc hcell fin hcd) hd
theorem pe_int {i j pos}:PE X (.Constant (.int i) j pos) (tC (.int i)):=fun _ _ _ H _ I h=>wpAny_Constant_int ⟨.int i,H,I.tok _,⟨_,rfl⟩,h⟩
theorem pe_bl {b j pos}:PE X (.Constant (.bool b) j pos) (tC (.bl b)):=fun _ _ _ H _ I h=>Constant_bool ⟨.bl b,H,I,rfl,h⟩
theorem pe_non {j pos}:PE X (.Constant .none j pos) (tC .non):=fun _ _ _ H _ I h=>Constant_none ⟨.non,H,I,rfl,h⟩
theorem pe_str {x j pos}:PE X (.Constant (.str x) j pos) (tC (.str x)):=fun _ _ _ H _ I h=>Calls.Constant_str ⟨.str x,H,I.tok _,⟨_,rfl⟩,h⟩

def Gl (X:Cx) (x:Str):Prop:=X.env.kindOf x=some .globalImplicit
theorem ld_glob {E:Value→Shared→Prop} {pins:List (Addr × Obj)} {s:Shared} {σ:St} {H:Hp} {x:Str} {u:Value} {pos:Pos} {Q:Value→Shared→Prop} (I:Inv X pins σ H s) (hg:Gl X x) (hm:X.mg x=some u) (h:Q u s)
  (hd:(x == ("__debug__":Str))=false:=by decide):wpAny (model X.prog X.w) X.A (eval (.Name x pos) X.env) Q E s :=
 Calls.Name_function_global I.ok.kind hg (Calls.loadGlobal_global (by rw [I.ok.glob]; exact I.mod.glob.keeps I.bk) hm h) hd
theorem ld_blt {E:Value→Shared→Prop} {pins:List (Addr × Obj)} {s:Shared} {σ:St} {H:Hp} {x:Str} {u:Value} {pos:Pos} {Q:Value→Shared→Prop} (I:Inv X pins σ H s) (hg:Gl X x) (hm:X.mg x=none) (hv:bootBuiltins x=some u) (h:Q u s)
  (hn:x ≠ "__name__":=by decide) (hd:(x == ("__debug__":Str))=false:=by decide):wpAny (model X.prog X.w) X.A (eval (.Name x pos) X.env) Q E s:=by
 obtain ⟨mb,h1,h2⟩:=I.mod.blt
 exact Calls.Name_function_global I.ok.kind hg (Calls.loadGlobal_builtin (by rw [I.ok.glob]; exact I.mod.glob.keeps I.bk) hm (by rw [I.ok.blt]; exact h1.keeps I.bk) ((h2 x hn).trans hv) h) hd
theorem pe_glob {x:Str} {v:V} {u:Value} {pos:Pos} (hg:Gl X x) (hm:X.mg x=some u) (r:RelV v u) (hd:(x == ("__debug__":Str))=false:=by decide):PE X (.Name x pos) (tC v) :=
 fun _ _ _ H _ I h=>ld_glob I hg hm ⟨v,H,I,r,h⟩ hd
theorem pe_bltn {x:Str} {v:V} {u:Value} {pos:Pos} (hg:Gl X x) (hm:X.mg x=none) (hv:bootBuiltins x=some u) (r:RelV v u) (hn:x ≠ "__name__":=by decide) (hd:(x == ("__debug__":Str))=false:=by decide):PE X (.Name x pos) (tC v) :=
 fun _ _ _ H _ I h=>ld_blt I hg hm hv ⟨v,H,I,r,h⟩ hn hd


variable {a b:Expr} {ta tb:TE} {pos:Pos}

def PC (X:Cx) (op:CmpOp) (a b:Expr) (t:TE):Prop :=
 ∀ (pins:List (Addr × Obj)) (s:Shared) (σ:St) (H:Hp) (Q:VK),Inv X pins σ H s→t σ H Q →
  wpAny (model X.prog X.w) X.A (eval a X.env) (fun v s₁=>wpAny (model X.prog X.w) X.A (eval b X.env) (fun u s₂=>wpAny (model X.prog X.w) X.A (compareOp op v u) (EP X pins σ Q) X.xe s₂) X.xe s₁) X.xe s
theorem nobehind (b:Expr) {op:CmpOp} (h:op ≠ .In) (h2:op ≠ .NotIn):behindInMarks op b=false:=by
 have e1:(op == CmpOp.In)=false:=by cases op <;> first | rfl | exact absurd rfl h
 have e2:(op == CmpOp.NotIn)=false:=by cases op <;> first | rfl | exact absurd rfl h2
 cases b <;> simp [behindInMarks,e1,e2]
def tB (t:TE):TT:=fun σ H Q=>t σ H fun x H1=>∃ c,x=.bl c∧Q c H1
theorem pt_cmp {op:CmpOp} {t:TE} (h:PC X op a b t) (h1:behindInMarks op b=false:=by first | exact nobehind _ (by decide) (by decide) | rfl):PT X (.Compare a [op] [b] pos) (tB t):=by
 intro pins s σ H Q I hw
 refine wpAny_isTrue_Compare1 (thn (h pins s σ H _ I hw) fun v s1 h1=>thn h1 fun u s2 h2=>thn h2 fun c s3 ⟨x,H1,I1,r1,q1⟩=>?_) h1
 obtain ⟨d,rfl,q⟩:=q1
 cases r1
 exact wpAny_truthy_bool ⟨H1,I1,q⟩
theorem pt_val {e:Expr} {t:TE} (h:PE X e t) (he:∀ whole,isTrue e X.env whole=(do let v ← whole; standAt e.pos; holding [v] (truthy v)):=by intro _; rfl):PT X e (tB t):=by
 intro pins s σ H Q I hw
 refine isTrue_plain (thn (h pins s σ H _ I hw) fun v s1 ⟨x,H1,I1,r1,q1⟩=>?_) (he _)
 obtain ⟨d,rfl,q⟩:=q1
 cases r1
 exact wpAny_truthy_bool ⟨H1,I1,q⟩


variable {tA tB':TT} {rest:List Expr}
def tAnd (t u:TT):TT:=fun σ H Q=>t σ H fun c H1=>if c=true then u σ H1 Q else Q false H1
def tOr (t u:TT):TT:=fun σ H Q=>t σ H fun c H1=>if c=true then Q true H1 else u σ H1 Q
def tNot (t:TT):TT:=fun σ H Q=>t σ H fun c H1=>Q (!c) H1
theorem pw_and1 (ha:PT X a tA):PW X (.BoolOp .And [a] pos) tA:=by
 intro wh pins s σ H Q I h
 refine isTrue_and (thn (ha pins s σ H Q I h) fun c s1 e=>?_)
 cases c with
 | true=>exact isTrue_and_nil e
 | false=>exact e
theorem pw_or1 (ha:PT X a tA):PW X (.BoolOp .Or [a] pos) tA:=by
 intro wh pins s σ H Q I h
 refine isTrue_or (thn (ha pins s σ H Q I h) fun c s1 e=>?_)
 cases c with
 | false=>exact isTrue_or_nil e
 | true=>exact e
theorem pw_and (ha:PT X a tA) (hb:PW X (.BoolOp .And (b :: rest) pos) tB'):PW X (.BoolOp .And (a :: b :: rest) pos) (tAnd tA tB'):=by
 intro wh pins s σ H Q I h
 refine isTrue_and (thn (ha pins s σ H _ I h) fun c s1 ⟨H1,I1,q1⟩=>?_)
 cases c with
 | true=>exact hb wh pins s1 σ H1 Q I1 q1
 | false=>exact ⟨H1,I1,q1⟩
theorem pw_or (ha:PT X a tA) (hb:PW X (.BoolOp .Or (b :: rest) pos) tB'):PW X (.BoolOp .Or (a :: b :: rest) pos) (tOr tA tB'):=by
 intro wh pins s σ H Q I h
 refine isTrue_or (thn (ha pins s σ H _ I h) fun c s1 ⟨H1,I1,q1⟩=>?_)
 cases c with
 | true=>exact ⟨H1,I1,q1⟩
 | false=>exact hb wh pins s1 σ H1 Q I1 q1
theorem pt_not (ha:PT X a tA):PT X (.UnaryOp .Not a pos) (tNot tA):=by
 intro pins s σ H Q I h
 exact isTrue_not (ha pins s σ H (fun c H1=>Q (!c) H1) I h)
def tAndV (ta tb:TE):TE:=fun σ H Q=>ta σ H fun x H1=>∃ c,x=.bl c∧if c=true then tb σ H1 Q else Q (.bl false) H1
def tOrV (ta tb:TE):TE:=fun σ H Q=>ta σ H fun x H1=>∃ c,x=.bl c∧if c=true then Q (.bl true) H1 else tb σ H1 Q
def tNotV (ta:TE):TE:=fun σ H Q=>ta σ H fun x H1=>∃ c,x=.bl c∧Q (.bl (!c)) H1
theorem pe_one {op} {t:TE} (h:PE X a t):PE X (.BoolOp op [a] pos) t:=fun pins s σ H Q I hw=>BoolOp_one (h pins s σ H Q I hw)
theorem pe_and (ha:PE X a ta) (hb:PE X (.BoolOp .And (b :: rest) pos) tb):PE X (.BoolOp .And (a :: b :: rest) pos) (tAndV ta tb):=by
 intro pins s σ H Q I h
 refine BoolOp_and (thn (ha pins s σ H _ I h) fun v s1 ⟨x,H1,I1,r1,q1⟩=>?_)
 obtain ⟨c,rfl,q1⟩:=q1
 cases r1
 refine wpAny_truthy_bool ?_
 cases c with
 | true=>exact hb pins s1 σ H1 Q I1 q1
 | false=>exact ⟨.bl false,H1,I1,rfl,q1⟩
theorem pe_not (ha:PE X a ta):PE X (.UnaryOp .Not a pos) (tNotV ta):=by
 intro pins s σ H Q I h
 refine UnaryOp_ (thn (ha pins s σ H _ I h) fun v s1 ⟨x,H1,I1,r1,q1⟩=>?_)
 obtain ⟨c,rfl,q1⟩:=q1
 cases r1
 exact not_of (wpAny_truthy_bool ⟨.bl (!c),H1,I1,rfl,q1⟩)
def tIf (t:TT) (ta tb:TE):TE:=fun σ H Q=>t σ H fun c H1=>if c=true then ta σ H1 Q else tb σ H1 Q
theorem pe_ifExp {c:Expr} (hc:PT X c tA) (ha:PE X a ta) (hb:PE X b tb):PE X (.IfExp c a b pos) (tIf tA ta tb):=by
 intro pins s σ H Q I h
 refine wpAny_IfExp (thn (hc pins s σ H _ I h) fun d s1 ⟨H1,I1,q1⟩=>?_)
 cases d with
 | true=>exact ha pins s1 σ H1 Q I1 q1
 | false=>exact hb pins s1 σ H1 Q I1 q1
end
end L2

namespace L2
open PySem PySem.Spec PyProof.Rows


def SqL (K:PySem.W.Frag) (H:Hp) (a:Addr) (xs:List V):Prop :=
 Rd H a (.lst xs) ∨
  ∃ (o:Obj) (its:Array Value) (n:Nat),K.lookup a=some o∧o.cls=.type "list"∧o.dict=none∧o.data=.seq its n∧its.size ≤ sizeLine∧Vals xs its.toList
def SqT (K:PySem.W.Frag) (H:Hp) (a:Addr) (xs:List V):Prop :=
 Rd H a (.tup xs) ∨
  ∃ (o:Obj) (its:Array Value) (n:Nat),K.lookup a=some o∧o.cls=.type "tuple"∧o.data=.seq its n∧its.size ≤ sizeLine∧Vals xs its.toList
def absV:Value→Option V
 | .none=>some .non
 | .bool b=>some (.bl b)
 | .int i _=>some (.int i)
 | .str x _=>some (.str x)
 | .bytes b _=>some (.byt b)
 | .float b _=>some (.flt b)
 | .ref a=>some (.ref a)
 | .type n=>some (.ty n)
 | _=>none
theorem RelV.abs {x:V} {u:Value} (r:RelV x u):absV u=some x:=by
 cases x with
 | non=>cases r; rfl
 | bl _=>cases r; rfl
 | int _=>obtain ⟨t,rfl⟩:=r; rfl
 | str _=>obtain ⟨t,rfl⟩:=r; rfl
 | byt _=>obtain ⟨t,rfl⟩:=r; rfl
 | flt _=>obtain ⟨t,rfl⟩:=r; rfl
 | ref _=>cases r; rfl
 | ty _=>cases r; rfl
theorem RelV.inj {x y:V} {u:Value} (r:RelV x u) (q:RelV y u):x=y:=Option.some.inj (r.abs.symm.trans q.abs)
theorem Vals.inj:∀ {xs ys:List V} {us:List Value},Vals xs us→Vals ys us→xs=ys
 | _,_,_,.nil,.nil=>rfl
 | _,_,_,.cons r t,.cons r' t'=>by rw [r.inj r',Vals.inj t t']
section
variable {X:Cx} {pins:List (Addr × Obj)} {σ:St} {H:Hp} {s:Shared} {a:Addr} {xs ys:List V}
theorem SqL.of {K:PySem.W.Frag} (h:H a=some (.lst xs)):SqL K H a xs:=.inl (.inl h)
theorem SqT.of {K:PySem.W.Frag} (h:H a=some (.tup xs)):SqT K H a xs:=.inl (.inl h)
theorem Inv.list (I:Inv X pins σ H s) (h:SqL X.K H a xs):∃ its:List Value,Vals xs its∧PlainL s.heap a its.toArray∧xs.length ≤ sizeLine:=by
 rcases h with h | ⟨o,its,n,hk,hc,hd,hs,hz,r⟩
 ·obtain ⟨z,its,n,r,e⟩:=h.ok I.hok
  exact ⟨its,r,⟨_,n,e,rfl,rfl,rfl⟩,z⟩
 ·refine ⟨its.toList,r,⟨o,n,I.kIn a o hk,hc,hd,by simpa using hs⟩,?_⟩
  have e:=r.length
  simp only [Array.length_toList] at e
  omega
theorem Inv.tuple (I:Inv X pins σ H s) (h:SqT X.K H a xs):∃ its:List Value,Vals xs its∧IsTup s.heap a its.toArray∧xs.length ≤ sizeLine:=by
 rcases h with h | ⟨o,its,n,hk,hc,hs,hz,r⟩
 ·obtain ⟨z,its,r,p⟩:=h.ok I.hok
  exact ⟨its,r,p.1,z⟩
 ·refine ⟨its.toList,r,⟨o,I.kIn a o hk,hc,n,by simpa using hs⟩,?_⟩
  have e:=r.length
  simp only [Array.length_toList] at e
  omega
theorem Inv.list_inj (I:Inv X pins σ H s) (h:SqL X.K H a xs) (h':SqL X.K H a ys):xs=ys:=by
 obtain ⟨its,r,⟨o,n,e,_,_,d⟩,_⟩:=I.list h
 obtain ⟨its',r',⟨o',n',e',_,_,d'⟩,_⟩:=I.list h'
 rw [e] at e'; cases e'
 rw [d] at d'
 injection d' with d1 _
 have:its=its':=by simpa using congrArg Array.toList d1
 subst this
 exact r.inj r'
theorem Inv.tuple_inj (I:Inv X pins σ H s) (h:SqT X.K H a xs) (h':SqT X.K H a ys):xs=ys:=by
 obtain ⟨its,r,⟨o,e,_,n,d⟩,_⟩:=I.tuple h
 obtain ⟨its',r',⟨o',e',_,n',d'⟩,_⟩:=I.tuple h'
 rw [e] at e'; cases e'
 rw [d] at d'
 injection d' with d1 _
 have:its=its':=by simpa using congrArg Array.toList d1
 subst this
 exact r.inj r'
end


abbrev Cx.wish (X:Cx) (E:Value→Shared→Prop):Cx:={ X with xe:=E }
abbrev Cx.nox (X:Cx):Cx:=X.wish fun _ _=>False
theorem Cx.Ok.wish {X:Cx} (ok:X.Ok) (E:Value→Shared→Prop):(X.wish E).Ok :=
 ⟨ok.mod,ok.kind,ok.glob,ok.blt,ok.above,ok.inj,ok.has,ok.cab,ok.hd,ok.frames,ok.stk,ok.exf,ok.bs,ok.bsz,ok.noex,ok.exfs,ok.funs,ok.frf⟩
theorem Cx.Ok.unwish {X:Cx} {E:Value→Shared→Prop} (ok:(X.wish E).Ok):X.Ok :=
 ⟨ok.mod,ok.kind,ok.glob,ok.blt,ok.above,ok.inj,ok.has,ok.cab,ok.hd,ok.frames,ok.stk,ok.exf,ok.bs,ok.bsz,ok.noex,ok.exfs,ok.funs,ok.frf⟩
section
variable {X:Cx} {pins:List (Addr × Obj)} {σ:St} {H:Hp} {s:Shared} {E:Value→Shared→Prop}
theorem Inv.wish (I:Inv X pins σ H s) (E:Value→Shared→Prop):Inv (X.wish E) pins σ H s:=⟨I.ok.wish E,I.os,I.bare,I.base,I.loc,I.cell,I.free,I.freeC,I.pin,I.hok,I.len⟩
theorem Inv.unwish (I:Inv (X.wish E) pins σ H s):Inv X pins σ H s:=⟨I.ok.unwish,I.os,I.bare,I.base,I.loc,I.cell,I.free,I.freeC,I.pin,I.hok,I.len⟩
theorem SP.unwish {D:Ends} {f:Flow} {s':Shared} (h:SP (X.wish E) pins D f s'):SP X pins D f s':=by
 cases f with
 | next=>obtain ⟨σ',H',I,q⟩:=h; exact ⟨σ',H',I.unwish,q⟩
 | brk=>obtain ⟨σ',H',I,q⟩:=h; exact ⟨σ',H',I.unwish,q⟩
 | cont=>obtain ⟨σ',H',I,q⟩:=h; exact ⟨σ',H',I.unwish,q⟩
 | ret u=>obtain ⟨v,σ',H',I,r,q⟩:=h; exact ⟨v,σ',H',I.unwish,r,q⟩
theorem PSs.nox {st:List Stmt} {t:TS} (h:PSs X.nox st t):PSs X st t:=fun pins s σ H D I hw =>
 wpAny_mono (h pins s σ H D (I.wish _) hw) (fun _ _ q=>q.unwish) fun _ _ z=>False.elim z
end


section
variable {X:Cx} {st:Stmt} {rest:List Stmt} {t u:TS} {e:Expr} {te:TE} {pos:Pos}
def tNext:TS:=fun D σ H=>D.nx σ H
def tSeq (t u:TS):TS:=fun D σ H=>t { D with nx:=u D } σ H
theorem pss_nil:PSs X [] tNext:=fun _ _ σ H _ I h=>wpAny_execs_nil ⟨σ,H,I,h⟩
theorem pss_cons (h1:PS X st t) (h2:PSs X rest u):PSs X (st :: rest) (tSeq t u):=by
 intro pins s σ H D I h
 refine wpAny_execs_cons (thn (h1 pins s σ H { D with nx:=u D } I h) fun f s1 q=>?_)
 cases f with
 | next =>
  obtain ⟨σ',H',I',q⟩:=q
  exact h2 pins s1 σ' H' D I' q
 | ret v=>exact q
 | brk=>exact q
 | cont=>exact q
theorem pss_one (h1:PS X st t):PSs X [st] t:=by
 intro pins s σ H D I h
 refine wpAny_execs_cons (thn (h1 pins s σ H D I h) fun f s1 q=>?_)
 cases f with
 | next=>exact wpAny_execs_nil q
 | ret v=>exact q
 | brk=>exact q
 | cont=>exact q
def tBreak:TS:=fun D σ H=>D.bk σ H
def tCont:TS:=fun D σ H=>D.ct σ H
theorem Inv.quiet {pins:List (Addr × Obj)} {σ:St} {H:Hp} {s:Shared} (I:Inv X pins σ H s):interactive X.env=false:=by simp [interactive,I.ok.kind]
def tDrop (te:TE):TS:=fun D σ H=>te σ H fun _ H1=>D.nx σ H1
theorem ps_expr (he:PE X e te) (hs:swapsWith e none pos.line X.env=pure false:=by rfl):PS X (.Expr e pos) (tDrop te):=by
 intro pins s σ H D I h
 exact wpAny_Expr_any (thn (he pins s σ H _ I h) fun v s1 ⟨x,H1,I1,r1,q1⟩=>⟨σ,H1,I1,q1⟩) I.quiet hs
def tRet (te:TE):TS:=fun D σ H=>te σ H D.rt
theorem ps_ret (he:PE X e te):PS X (.Return (some e) pos) (tRet te):=by
 intro pins s σ H D I h
 exact wpAny_Return_some (thn (he pins s σ H _ I h) fun v s1 ⟨x,H1,I1,r1,q1⟩=>⟨x,σ,H1,I1,r1,q1⟩)
def tRetN:TS:=fun D _ H=>D.rt .non H
def tIfS (c:TT) (t u:TS):TS:=fun D σ H=>c σ H fun b H1=>if b=true then t D σ H1 else u D σ H1
theorem ps_if {c:Expr} {a b:List Stmt} {tc:TT} (hc:PT X c tc) (ha:PSs X a t) (hb:PSs X b u):PS X (.If c a b pos) (tIfS tc t u):=by
 intro pins s σ H D I h
 refine wpAny_If (thn (hc pins s σ H _ I h) fun d s1 ⟨H1,I1,q1⟩=>?_)
 cases d with
 | true=>exact ha pins s1 σ H1 D I1 q1
 | false=>exact hb pins s1 σ H1 D I1 q1
def tNever:TS:=fun _ _ _=>False
end


abbrev TG:=V→St→Hp→(St→Hp→Prop)→Prop
abbrev TGs:=List V→St→Hp→(St→Hp→Prop)→Prop
def PG (X:Cx) (target:Expr) (t:TG):Prop :=
 ∀ (pins:List (Addr × Obj)) (s:Shared) (σ:St) (H:Hp) (v:V) (u:Value) (Q:St→Hp→Prop),Inv X pins σ H s→RelV v u→t v σ H Q →
  wpAny (model X.prog X.w) X.A (assign target X.env u) (fun _ s'=>∃ σ' H',Inv X pins σ' H' s'∧Q σ' H') X.xe s
def PGs (X:Cx) (ts:List Expr) (t:TGs):Prop :=
 ∀ (pins:List (Addr × Obj)) (s:Shared) (σ:St) (H:Hp) (vs:List V) (us:List Value) (Q:St→Hp→Prop),Inv X pins σ H s→Vals vs us→t vs σ H Q →
  wpAny (model X.prog X.w) X.A (assignInOrder ((assignEach ts X.env).map (·.2)) us) (fun _ s'=>∃ σ' H',Inv X pins σ' H' s'∧Q σ' H') X.xe s
abbrev TSet:=V→V→V→Hp→(Hp→Prop)→Prop
def PSet (X:Cx) (t:TSet):Prop :=
 ∀ (pins:List (Addr × Obj)) (s:Shared) (σ:St) (H:Hp) (o i v:V) (ov iv u:Value) (Q:Hp→Prop),Inv X pins σ H s→RelV o ov→RelV i iv→RelV v u→t o i v H Q →
  wpAny (model X.prog X.w) X.A (setItem ov iv u) (fun _ s'=>∃ H',Inv X pins σ H' s'∧Q H') X.xe s
section
variable {X:Cx} {pos:Pos}
def gName (i:Nat):TG:=fun v σ H Q=>Q (σ.set i (some v)) H
theorem pg_name {i:Nat} {x:Str} (hN:X.N.Nodup) (hi:X.N[i]?=some x) (hx:Loc X.env.scope x) (hf:X.fn x=true∨X.env.scope.names.lookup x=some .local:=by first | exact .inl rfl | exact .inr rfl | assumption):PG X (.Name x pos) (gName i):=by
 intro pins s σ H v u Q I r h
 exact wpAny_assign_Name (store_ok I hN hi hx r (fun s' I'=>⟨_,H,I',h⟩) hf)
def gNil:TGs:=fun vs σ H Q=>vs=[]∧Q σ H
def gCons (t:TG) (u:TGs):TGs:=fun vs σ H Q=>∃ v r,vs=v :: r∧t v σ H fun σ' H'=>u r σ' H' Q
theorem pgs_nil:PGs X [] gNil:=by
 intro pins s σ H vs us Q I r h
 obtain ⟨e,h⟩:=h
 subst e
 cases r
 exact assignInOrder_nil ⟨σ,H,I,h⟩
theorem pgs_cons {e:Expr} {es:List Expr} {t:TG} {u:TGs} (h1:PG X e t) (h2:PGs X es u)
  (hs:(assignEach (e :: es) X.env).map (·.2)=assign e X.env :: (assignEach es X.env).map (·.2):=by rfl):PGs X (e :: es) (gCons t u):=by
 intro pins s σ H vs us Q I r h
 obtain ⟨v,vr,e1,h⟩:=h
 subst e1
 cases r with
 | cons r rr =>
  rw [hs]
  refine assignInOrder_cons (thn (h1 pins s σ H _ _ _ I r h) fun _ s1 ⟨σ1,H1,I1,q1⟩=>?_)
  exact h2 pins s1 σ1 H1 _ _ Q I1 rr q1
def gTup (K:PySem.W.Frag) (n:Nat) (t:TGs):TG:=fun v σ H Q=>∃ a xs,v=.ref a∧SqT K H a xs∧xs.length=n∧t xs σ H Q
theorem pg_tup {es:List Expr} {k:Nat} {t:TGs} {n:Nat} (hc:X.calm=true) (h:PGs X es t)
  (hn:(assignEach es X.env).length=n:=by rfl) (hst:(assignEach es X.env).findIdx? (·.1)=none:=by rfl):PG X (.Tuple es k pos) (gTup X.K n t):=by
 intro pins s σ H v u Q I r hw
 obtain ⟨a,xs,e1,hq,hl,hw⟩:=hw
 subst e1
 cases r
 obtain ⟨its,rv,ht,hz⟩:=I.tuple hq
 refine assign_Tuple_tuple (I.ok.hd hc) ht (by simp [hn,← hl,rv.length]) hst fun h' hx=>?_
 have I1:Inv X pins σ H { s with heap:=h' }:=I.kept (t':=s.toks) fun b o e=>hx b o (Nat.ne_of_lt (Heap.lt_size e)) e
 exact h pins _ σ H xs _ Q I1 (by simpa using rv) hw
def gSub (to ti:TE) (t:TSet):TG:=fun v σ H Q=>to σ H fun o H1=>ti σ H1 fun i H2=>t o i v H2 fun H3=>Q σ H3
theorem pg_sub {o i:Expr} {to ti:TE} {t:TSet} (ho:PE X o to) (hi:PE X i ti) (hs:PSet X t)
  (ha:∀ v,assign (.Subscript o i pos) X.env v=(do
   let ov ← holding [v] (eval o X.env)
   let iv ← holding [v,ov] (eval i X.env)
   standAt pos
   holding [v,ov,iv] (setItem ov iv v)
   release [v,ov,iv] []):=by intro _; rfl):PG X (.Subscript o i pos) (gSub to ti t):=by
 intro pins s σ H v u Q I r h
 rw [ha]
 refine wpAny_bind (wpAny_holding (thn (ho pins s σ H _ I h) fun ov s1 ⟨x,H1,I1,r1,q1⟩=>?_))
 refine wpAny_bind (wpAny_holding (thn (hi pins s1 σ H1 _ I1 q1) fun iv s2 ⟨y,H2,I2,r2,q2⟩=>?_))
 refine wpAny_bind (wpAny_standAt (wpAny_bind (wpAny_holding (thn (hs pins s2 σ H2 x y v ov iv u _ I2 r1 r2 r q2) fun _ s3 ⟨H3,I3,q3⟩=>?_))))
 exact wpAny_release ⟨σ,H3,I3,q3⟩
def tAsg (te:TE) (g:TG):TS:=fun D σ H=>te σ H fun x H1=>g x σ H1 D.nx
theorem ps_asg {tg e:Expr} {te:TE} {g:TG} (he:PE X e te) (hg:PG X tg g) (hs:swapsWithSole [tg] e pos.line X.env=pure false:=by rfl) (hw:swappedStores [tg] e X.env=pure none:=by rfl)
  (h1:(assignEach [tg] X.env).map (·.2)=[assign tg X.env]:=by rfl):PS X (.Assign [tg] e pos) (tAsg te g):=by
 intro pins s σ H D I h
 refine wpAny_Assign_stores (thn (he pins s σ H _ I h) fun v s1 ⟨x,H1,I1,r1,q1⟩=>?_) hs hw
 rw [h1]
 exact thn (hg pins s1 σ H1 x v _ I1 r1 q1) fun _ s2 q=>q
theorem ps_set {i:Nat} {x:Str} {e:Expr} {te:TE} {pos':Pos} (hN:X.N.Nodup) (hi:X.N[i]?=some x) (hx:Loc X.env.scope x) (he:PE X e te) (hs:swapsWith e (some (.Name x pos')) pos.line X.env=pure false:=by rfl) (hf:X.fn x=true∨X.env.scope.names.lookup x=some .local:=by first | exact .inl rfl | exact .inr rfl | assumption) :
  PS X (.Assign [.Name x pos'] e pos) (tAsg te (gName i)):=by
 intro pins s σ H D I h
 refine wpAny_Assign_Name (thn (he pins s σ H _ I h) fun v s1 ⟨y,H1,I1,r1,q1⟩=>?_) hs
 exact store_ok I1 hN hi hx r1 (fun s2 I2=>⟨_,H1,I2,q1⟩) hf
end


section
variable {X:Cx} {pos:Pos}
def tWhile (c:TT) (tb:TS):TS:=fun D σ H=>∃ W:Nat→St→Hp→Prop,(∃ m,W m σ H)∧∀ m σ H,W m σ H →
 c σ H fun b H1=>if b=true then ∃ N:St→Hp→Prop,(∀ σ' H',N σ' H'→∃ m',m' < m∧W m' σ' H')∧tb { D with nx:=N,ct:=N,bk:=D.nx } σ H1 else D.nx σ H1
theorem ps_while {c:Expr} {body:List Stmt} {tc:TT} {tb:TS} (hp:PassesOwn (model X.prog X.w) X.A X.env X.xe) (hc:PT X c tc) (hb:PSs X body tb):PS X (.While c body [] pos) (tWhile tc tb):=by
 intro pins s σ H D I h
 obtain ⟨W,⟨m0,w0⟩,turn⟩:=h
 refine wpAny_While (codeAny_whileLoop (fun n s'=>∃ σ' H',Inv X pins σ' H' s'∧W n σ' H') ?_ m0 ⟨σ,H,I,w0⟩)
 rintro n s1 ⟨σ1,H1,I1,w1⟩
 refine wpAny_passesOwn hp (thn (hc pins s1 σ1 H1 _ I1 (turn n σ1 H1 w1)) fun b s2 ⟨H2,I2,q2⟩=>?_)
 cases b with
 | true =>
  obtain ⟨N,hN,q2⟩:=q2
  rw [if_pos rfl]
  refine wpAny_passesOwn hp (thn (hb pins s2 σ1 H2 _ I2 q2) fun f s3 q3=>?_)
  cases f with
  | next =>
   obtain ⟨σ3,H3,I3,n3⟩:=q3
   obtain ⟨m',hm,w3⟩:=hN σ3 H3 n3
   exact ⟨m',hm,σ3,H3,I3,w3⟩
  | cont =>
   obtain ⟨σ3,H3,I3,n3⟩:=q3
   obtain ⟨m',hm,w3⟩:=hN σ3 H3 n3
   exact ⟨m',hm,σ3,H3,I3,w3⟩
  | brk=>exact q3
  | ret v=>exact q3
 | false =>
  rw [if_neg Bool.false_ne_true]
  exact wpAny_execs_nil ⟨σ1,H2,I2,q2⟩
end


structure It where
 go:Nat→Hp→Prop
 yld:Nat→Hp→V→Hp→Prop
 stop:Nat→Hp→Prop
def FpOk (X:Cx) (pins:List (Addr × Obj)) (H:Hp) (b:Addr):Prop :=
 H b=none∧b ≠ X.env.locals∧b ∉ X.fs∧(b ∈ X.ex∨X.s₀.heap.objs.size ≤ b)∧(∀ x c,X.env.cells.lookup x=some c→c ≠ b)∧∀ p ∈ X.pn ++ pins,p.1 ≠ b
theorem Inv.fpOk {X:Cx} {pins:List (Addr × Obj)} {σ:St} {H H':Hp} {s:Shared} {b:Addr} (I:Inv X pins σ H s) (hb:s.heap.objs.size ≤ b) (hn:H' b=none):FpOk X pins H' b:=by
 refine ⟨hn,Nat.ne_of_gt (Nat.lt_of_lt_of_le I.lt hb),I.nofs hb,.inr (Nat.le_trans I.sz hb),fun x c e z=>?_,fun p hp z=>?_⟩
 ·obtain ⟨v,q⟩:=I.cell x c e
  exact absurd (Nat.lt_of_lt_of_le q.lt (by rw [z]; exact hb)) (Nat.lt_irrefl _)
 ·exact absurd (Nat.lt_of_lt_of_le (Heap.lt_size (I.pin p hp).1) (by rw [z]; exact hb)) (Nat.lt_irrefl _)
structure Turn (P:Program) (w:World) (K:PySem.W.Frag) (tg:Expr) (J:It) (fp:List Addr) (it:Addr) (tn:Nat→Heap→Prop):Prop where
 mem:it ∈ fp
 obj:∀ i h,tn i h→∀ b ∈ fp,∃ o,h.get? b=some o∧∀ v,o.data ≠ .cell v
 keep:∀ i h h',tn i h→(∀ b ∈ fp,∀ o,h.get? b=some o→h'.get? b=some o)→tn i h'
 item:∀ (X:Cx),X.prog=P→X.w=w→X.K=K→X.calm=true→∀ (i:Nat) (pins:List (Addr × Obj)) (s:Shared) (σ:St) (H:Hp) (E:Value→Shared→Prop),Inv X pins σ H s→(∀ b ∈ fp,FpOk X pins H b)→tn i s.heap→J.go i H →
  wpAny (model P w) X.A (pyNext (.ref it)) (fun r s1=>∃ u,r=some u ∧
   wpAny (model P w) X.A (letOwnedTupleGo tg (.ref it) u) (fun _ s2=>∃ x H',Inv X pins σ H' s2∧RelV x u∧J.yld i H x H'∧tn (i + 1) s2.heap∧∀ b ∈ fp,H' b=none) E s1) E s
 done:∀ (X:Cx),X.prog=P→X.w=w→X.K=K→X.calm=true→∀ (i:Nat) (pins:List (Addr × Obj)) (s:Shared) (σ:St) (H:Hp) (E:Value→Shared→Prop),Inv X pins σ H s→(∀ b ∈ fp,FpOk X pins H b)→tn i s.heap→J.stop i H →
  wpAny (model P w) X.A (pyNext (.ref it)) (fun r s1=>r=none∧Inv X pins σ H s1) E s
 self:∀ (A:Around) (i:Nat) (s:Shared) (Q:Value→Shared→Prop) (E:Value→Shared→Prop),tn i s.heap→Q (.ref it) s→wpAny (model P w) A (pyIter (.ref it)) Q E s
abbrev TI:=St→Hp→(It→Hp→Prop)→Prop
def PIE (X:Cx) (pins:List (Addr × Obj)) (σ:St) (tg:Expr) (R:It→Hp→Prop) (itv:Value) (s2:Shared):Prop :=
 ∃ (it:Addr) (fp:List Addr) (tn:Nat→Heap→Prop) (J:It) (H':Hp),itv=.ref it∧Inv X pins σ H' s2∧Turn X.prog X.w X.K tg J fp it tn∧tn 0 s2.heap∧(∀ b ∈ fp,FpOk X pins H' b)∧R J H'
def PI (X:Cx) (tg iter:Expr) (wi:TI):Prop :=
 ∀ (pins:List (Addr × Obj)) (s:Shared) (σ:St) (H:Hp) (R:It→Hp→Prop),Inv X pins σ H s→wi σ H R →
  wpAny (model X.prog X.w) X.A (eval iter X.env) (fun v s1=>wpAny (model X.prog X.w) X.A (pyIter v) (PIE X pins σ tg R) X.xe s1) X.xe s

theorem go_of {M:Model} {A:Around} {E:Value→Shared→Prop} {s:Shared} {tg:Expr} {it:Addr} {u:Value} {o:Obj} {n:String} {vs:Array Value} {Q:Unit→Shared→Prop} (ho:s.heap.get? it=some o) (hc:o.cls=.type n) (hd:o.data=.fields vs)
    (hn:["enumerate","zip","dict_itemiterator","dict_reverseitemiterator","odict_iterator","itertools.zip_longest","itertools.pairwise"].contains n=false) (hQ:Q () s):wpAny M A (letOwnedTupleGo tg (.ref it) u) Q E s:=by
  unfold letOwnedTupleGo
  cases tg <;> first
    | exact wpAny_pure hQ
    | (cases u <;> first
        | exact wpAny_pure hQ
        | (refine wpAny_bind (wpAny_load ho ?_)
           rw [hc,hd]
           show wpAny M A (if (["enumerate","zip","dict_itemiterator","dict_reverseitemiterator","odict_iterator","itertools.zip_longest","itertools.pairwise"].contains n && vs[0]? == some (rawInt _))=true then _ else _) Q E s
           rw [if_neg (by intro h; rw [hn,Bool.false_and] at h; cases h)]
           exact wpAny_pure hQ))

def Itl (K:PySem.W.Frag) (a:Addr):It :=
 ⟨fun i H=>∃ xs x,SqL K H a xs∧xs[i]?=some x,fun i H x H'=>H'=H∧∀ xs,SqL K H a xs→xs[i]?=some x,fun i H=>∃ xs,SqL K H a xs∧xs.length ≤ i⟩
def Itt (K:PySem.W.Frag) (a:Addr):It :=
 ⟨fun i H=>∃ xs x,SqT K H a xs∧xs[i]?=some x,fun i H x H'=>H'=H∧∀ xs,SqT K H a xs→xs[i]?=some x,fun i H=>∃ xs,SqT K H a xs∧xs.length ≤ i⟩
def Itr (lo:Int) (n:Nat):It:=⟨fun i _=>i < n,fun i H x H'=>H'=H∧x=.int (lo + i),fun i _=>n ≤ i⟩
theorem turn_list {P:Program} {w:World} {K:PySem.W.Frag} {tg:Expr} (a it:Addr):Turn P w K tg (Itl K a) [it] it (fun i h=>h.IsListIter it a i) where
 mem:=by simp
 obj:=fun i h st b hb=>by
  have e:b=it:=by simpa using hb
  subst e
  obtain ⟨o,e,c,d⟩:=st
  exact ⟨o,e,fun v z=>by rw [d] at z; cases z⟩
 keep:=fun i h h' st k=>st.at fun o e=>k it (by simp) o e
 item:=by
  intro X hP hw hK hc i pins s σ H E I hf st hg
  subst hP hw hK
  obtain ⟨xs,x,hq,hx⟩:=hg
  obtain ⟨its,rv,p,hz⟩:=I.list hq
  obtain ⟨u,hu,ru⟩:=rv.get hx
  obtain ⟨f0,f1,f2,f3,f4,f5⟩:=hf it (by simp)
  refine wpAny_pyNext_list_item st p.isList (x:=u) (by simpa using hu) fun h' st' sb=>?_
  have I1:Inv X pins σ H { s with heap:=h' }:=I.turned (t':=s.toks) (fun b o hb e=>(sb.2 b hb).trans e) f0 f1 f3 f4 f5
  obtain ⟨o,e,c,d⟩:=id st'
  exact ⟨u,rfl,go_of (s:={ s with heap:=h' }) e c d (by decide) ⟨x,H,I1,ru,⟨rfl,fun ys hy=>by rw [I.list_inj hy hq]; exact hx⟩,st',fun b hb=>(hf b hb).1⟩⟩
 done:=by
  intro X hP hw hK hc i pins s σ H E I hf st hg
  subst hP hw hK
  obtain ⟨xs,hq,hx⟩:=hg
  obtain ⟨its,rv,p,hz⟩:=I.list hq
  obtain ⟨f0,f1,f2,f3,f4,f5⟩:=hf it (by simp)
  have hl:=rv.length
  exact wpAny_pyNext_list_end (I.ok.hd hc) st p.isList (by simp; omega) fun h' eb=>⟨rfl,I.turned (t':=s.toks) (fun b o hb e=>eb b o hb e) f0 f1 f3 f4 f5⟩
 self:=fun _ _ _ _ _ st h=>wpAny_pyIter_listiter st h
theorem turn_tuple {P:Program} {w:World} {K:PySem.W.Frag} {tg:Expr} (a it:Addr):Turn P w K tg (Itt K a) [it] it (fun i h=>h.IsTupleIter it a i) where
 mem:=by simp
 obj:=fun i h st b hb=>by
  have e:b=it:=by simpa using hb
  subst e
  obtain ⟨o,e,c,d⟩:=st
  exact ⟨o,e,fun v z=>by rw [d] at z; cases z⟩
 keep:=fun i h h' st k=>st.at fun o e=>k it (by simp) o e
 item:=by
  intro X hP hw hK hc i pins s σ H E I hf st hg
  subst hP hw hK
  obtain ⟨xs,x,hq,hx⟩:=hg
  obtain ⟨its,rv,p,hz⟩:=I.tuple hq
  obtain ⟨u,hu,ru⟩:=rv.get hx
  obtain ⟨f0,f1,f2,f3,f4,f5⟩:=hf it (by simp)
  refine wpAny_pyNext_tuple_item st (show s.heap.IsTuple a its.toArray from p) (x:=u) (by simpa using hu) fun h' st' sb=>?_
  have I1:Inv X pins σ H { s with heap:=h' }:=I.turned (t':=s.toks) (fun b o hb e=>(sb.2 b hb).trans e) f0 f1 f3 f4 f5
  obtain ⟨o,e,c,d⟩:=id st'
  exact ⟨u,rfl,go_of (s:={ s with heap:=h' }) e c d (by decide) ⟨x,H,I1,ru,⟨rfl,fun ys hy=>by rw [I.tuple_inj hy hq]; exact hx⟩,st',fun b hb=>(hf b hb).1⟩⟩
 done:=by
  intro X hP hw hK hc i pins s σ H E I hf st hg
  subst hP hw hK
  obtain ⟨xs,hq,hx⟩:=hg
  obtain ⟨its,rv,p,hz⟩:=I.tuple hq
  obtain ⟨f0,f1,f2,f3,f4,f5⟩:=hf it (by simp)
  have hl:=rv.length
  exact wpAny_pyNext_tuple_end (I.ok.hd hc) st (show s.heap.IsTuple a its.toArray from p) (by simp; omega) fun h' eb=>⟨rfl,I.turned (t':=s.toks) (fun b o hb e=>eb b o hb e) f0 f1 f3 f4 f5⟩
 self:=fun _ _ _ _ _ st h=>wpAny_pyIter_tupleiter st h
theorem turn_range {P:Program} {w:World} {K:PySem.W.Frag} {tg:Expr} (it:Addr) (lo:Int) (n:Nat):Turn P w K tg (Itr lo n) [it] it (fun i h=>IsRangeIter h it (lo + (i:Nat) * 1) ((n:Int) - (i:Nat)) 1) where
 mem:=by simp
 obj:=fun i h st b hb=>by
  have e:b=it:=by simpa using hb
  subst e
  exact ⟨_,st,fun v z=>by
   have z':Data.fields _=Data.cell v:=z
   cases z'⟩
 keep:=fun i h h' st k=>k it (by simp) _ st
 item:=by
  intro X hP hw hK hc i pins s σ H E I hf st hg
  subst hP hw hK
  obtain ⟨f0,f1,f2,f3,f4,f5⟩:=hf it (by simp)
  have W:=Walks.range (prog:=X.prog) (w:=X.w) (I.ok.hd hc) it lo 1 n
  refine W.item i s _ _ hg st fun v h' tk hv st' kk=>?_
  obtain ⟨t,rfl⟩:=hv
  have I1:Inv X pins σ H { s with heap:=h',toks:=tk }:=I.turned (fun b o hb e=>kk b o (by simpa using hb) e) f0 f1 f3 f4 f5
  refine ⟨_,rfl,go_of (s:={ s with heap:=h',toks:=tk }) (n:="range_iterator") st' rfl rfl (by decide) ⟨.int (lo + i),H,I1,⟨t,?_⟩,⟨rfl,rfl⟩,st',fun b hb=>(hf b hb).1⟩⟩
  rw [Int.mul_one]
 done:=by
  intro X hP hw hK hc i pins s σ H E I hf st hg
  subst hP hw hK
  obtain ⟨f0,f1,f2,f3,f4,f5⟩:=hf it (by simp)
  exact wpAny_pyNext_range_end (I.ok.hd hc) st (by have:n ≤ i:=hg; omega) fun h' eb=>⟨rfl,I.turned (t':=s.toks) (fun b o hb e=>eb b o hb e) f0 f1 f3 f4 f5⟩
 self:=fun _ _ _ _ _ st h=>wpAny_pyIter_rangeiter st h
end L2

namespace L2
open PySem PySem.Spec PyProof.Rows
section
variable {X:Cx} {tg:Expr}
def iList (K:PySem.W.Frag) (tl:TE):TI:=fun σ H R=>tl σ H fun x H1=>∃ a,x=.ref a∧(∃ xs,SqL K H1 a xs)∧R (Itl K a) H1
def iTup (K:PySem.W.Frag) (tl:TE):TI:=fun σ H R=>tl σ H fun x H1=>∃ a,x=.ref a∧(∃ xs,SqT K H1 a xs)∧R (Itt K a) H1
theorem pi_list {l:Expr} {tl:TE} (hl:PE X l tl):PI X tg l (iList X.K tl):=by
 intro pins s σ H R I h
 refine thn (hl pins s σ H _ I h) fun v s1 ⟨x,H1,I1,r1,q1⟩=>?_
 obtain ⟨a,e,⟨xs,hq⟩,q⟩:=q1
 subst e
 cases r1
 obtain ⟨its,rv,p,hz⟩:=I1.list hq
 refine wpAny_pyIter_list p.isList ?_
 refine ⟨s1.heap.objs.size,[s1.heap.objs.size],_,_,H1,rfl,I1.kept (t':=s1.toks) fun b o e=>Heap.get?_push_of_some _ e,turn_list a _,⟨_,Heap.get?_push_size _ rfl,rfl,rfl⟩,fun b hb=>?_,q⟩
 have e:b=s1.heap.objs.size:=by simpa using hb
 subst e
 exact I1.fpOk (Nat.le_refl _) (I1.hok.fresh (Nat.le_refl _))
theorem pi_tup {l:Expr} {tl:TE} (hl:PE X l tl):PI X tg l (iTup X.K tl):=by
 intro pins s σ H R I h
 refine thn (hl pins s σ H _ I h) fun v s1 ⟨x,H1,I1,r1,q1⟩=>?_
 obtain ⟨a,e,⟨xs,hq⟩,q⟩:=q1
 subst e
 cases r1
 obtain ⟨its,rv,p,hz⟩:=I1.tuple hq
 refine wpAny_pyIter_tuple (show s1.heap.IsTuple a its.toArray from p) ?_
 refine ⟨s1.heap.objs.size,[s1.heap.objs.size],_,_,H1,rfl,I1.kept (t':=s1.toks) fun b o e=>Heap.get?_push_of_some _ e,turn_tuple a _,⟨_,Heap.get?_push_size _ rfl,rfl,rfl⟩,fun b hb=>?_,q⟩
 have e:b=s1.heap.objs.size:=by simpa using hb
 subst e
 exact I1.fpOk (Nat.le_refl _) (I1.hok.fresh (Nat.le_refl _))
theorem range_it {pins:List (Addr × Obj)} {σ:St} {H:Hp} {s:Shared} {R:It→Hp→Prop} {E:Value→Shared→Prop} {lo hi:Int} {t u v:Tok} {tk:Nat} (I:Inv X pins σ H s) (h1:-(2 ^ 62) ≤ lo) (h2:lo < 2 ^ 62) (h3:-(2 ^ 62) ≤ hi) (h4:hi < 2 ^ 62)
  (q:R (Itr lo (hi - lo).toNat) H):wpAny (model X.prog X.w) X.A (pyIter (.ref s.heap.objs.size)) (PIE X pins σ tg R) E { s with heap:=s.heap.push { cls:=.type "range",data:=.fields #[.int lo t,.int hi u,.int 1 v] },toks:=tk }:=by
 refine wpAny_pyIter_range (IsRange.new ..) (small_one h1 h2 h3 h4) ?_
 have I1:Inv X pins σ H { s with heap:=s.heap.push { cls:=.type "range",data:=.fields #[.int lo t,.int hi u,.int 1 v] },toks:=tk }:=I.kept fun b o e=>Heap.get?_push_of_some _ e
 refine ⟨(s.heap.push { cls:=.type "range",data:=.fields #[.int lo t,.int hi u,.int 1 v] }).objs.size,[(s.heap.push { cls:=.type "range",data:=.fields #[.int lo t,.int hi u,.int 1 v] }).objs.size],_,_,H,rfl,
  I1.kept (t':=tk) fun b o e=>Heap.get?_push_of_some _ e,turn_range _ lo (hi - lo).toNat,?_,fun b hb=>?_,q⟩
 ·have e1:lo + ((0:Nat):Int) * 1=lo:=by simp
  have e2:(((hi - lo).toNat:Nat):Int) - ((0:Nat):Int)=Builtin.Range.rangeSize lo hi 1:=by rw [rangeSize_one]; split <;> omega
  show IsRangeIter _ _ (lo + ((0:Nat):Int) * 1) ((((hi - lo).toNat:Nat):Int) - ((0:Nat):Int)) 1
  rw [e1,e2]
  exact Heap.get?_push_size _ rfl
 ·have e:b=(s.heap.push { cls:=.type "range",data:=.fields #[.int lo t,.int hi u,.int 1 v] }).objs.size:=by simpa using hb
  subst e
  exact I1.fpOk (Nat.le_refl _) (I1.hok.fresh (Nat.le_refl _))
def iRng1 (ta:TA):TI:=fun σ H R=>ta σ H fun vs H1=>∃ j:Int,vs=[.int j]∧-(2 ^ 62) ≤ j∧j < 2 ^ 62∧R (Itr 0 j.toNat) H1
def iRng2 (ta:TA):TI:=fun σ H R=>ta σ H fun vs H1=>∃ i j:Int,vs=[.int i,.int j]∧(-(2 ^ 62) ≤ i∧i < 2 ^ 62∧-(2 ^ 62) ≤ j∧j < 2 ^ 62)∧R (Itr i (j - i).toNat) H1
theorem pi_range1 {a:Expr} {ta:TA} {p pos:Pos} (hg:Gl X "range") (hm:X.mg "range"=none) (ha:PA X [a] ta) (hs:starEach [a] X.env=[(false,eval a X.env)]:=by rfl):PI X tg (.Call (.Name "range" p) [a] [] pos) (iRng1 ta):=by
 intro pins s σ H R I h
 refine Call_ (ld_blt I hg hm boot_range (PyProof.Rows.callWith_type1 (thn (ha pos pins s σ H _ I h) fun us s1 ⟨vs,H1,I1,r1,q1⟩=>?_) hs rfl))
 obtain ⟨j,e,q1,q2,q⟩:=q1
 subst e
 cases r1 with
 | cons r rr =>
  cases rr
  obtain ⟨t,rfl⟩:=r
  exact call_range_1 (range_it I1 (by omega) (by omega) q1 q2 (by simpa using q))

def tFor (wi:TI) (g:TG) (tb:TS):TS:=fun D σ H=>wi σ H fun J H1=>∃ W:Nat→Nat→St→Hp→Prop,(∃ m,W 0 m σ H1)∧∀ i m σ H,W i m σ H →
 (J.stop i H∧D.nx σ H)∨(J.go i H∧∃ N:St→Hp→Prop,(∀ σ' H',N σ' H'→∃ m',m' < m∧W (i + 1) m' σ' H')∧∀ x H',J.yld i H x H'→g x σ H' fun σ2 H2=>tb { D with nx:=N,ct:=N,bk:=D.nx } σ2 H2)
def pinsAt (fp:List Addr) (h:Heap):List (Addr × Obj):=fp.filterMap fun b=>(h.get? b).map fun o=>(b,o)
theorem mem_pinsAt {fp:List Addr} {h:Heap} {b:Addr} {o:Obj} (hb:b ∈ fp) (e:h.get? b=some o):(b,o) ∈ pinsAt fp h:=List.mem_filterMap.mpr ⟨b,hb,by rw [e]; rfl⟩
theorem of_pinsAt {fp:List Addr} {h:Heap} {p:Addr × Obj} (hp:p ∈ pinsAt fp h):p.1 ∈ fp∧h.get? p.1=some p.2:=by
 obtain ⟨b,hb,e⟩:=List.mem_filterMap.mp hp
 cases q:h.get? b with
 | none=>rw [q] at e; cases e
 | some o =>
  rw [q] at e
  have e':(b,o)=p:=Option.some.inj e
  subst e'
  exact ⟨hb,q⟩
theorem Inv.pinned {pins:List (Addr × Obj)} {σ:St} {H:Hp} {s:Shared} {fp:List Addr} (I:Inv X pins σ H s) (hf:∀ b ∈ fp,FpOk X pins H b) (ho:∀ b ∈ fp,∃ o,s.heap.get? b=some o∧∀ v,o.data ≠ .cell v):Inv X (pins ++ pinsAt fp s.heap) σ H s :=
 I.pins_of fun p hp=>(List.mem_append.mp hp).elim (fun z=>I.pin p (List.mem_append_right _ z)) fun z=>by
  obtain ⟨hb,e⟩:=of_pinsAt z
  obtain ⟨f0,f1,f2,_⟩:=hf p.1 hb
  obtain ⟨o,e',d⟩:=ho p.1 hb
  rw [e] at e'; cases e'
  exact ⟨e,f0,f1,f2,d⟩
theorem Inv.unpinned {pins pl:List (Addr × Obj)} {σ:St} {H:Hp} {s:Shared} (I:Inv X (pins ++ pl) σ H s):Inv X pins σ H s:=I.pins_of fun p hp=>I.pin p (List.mem_append_right _ (List.mem_append_left _ hp))
theorem ps_for {iter:Expr} {body:List Stmt} {wi:TI} {g:TG} {tb:TS} {pos:Pos} (hp:PassesOwn (model X.prog X.w) X.A X.env X.xe) (hc:X.calm=true) (hi:PI X tg iter wi) (hg:PG X tg g) (hb:PSs X body tb)
  (hs:∀ x,foldedSetIterable iter X.env x=pure x:=by intro _; rfl):PS X (.For tg iter body [] pos) (tFor wi g tb):=by
 intro pins s σ H D I h
 refine wpAny_For (thn (hi pins s σ H _ I h) fun v s1 h1=>thn h1 fun itv s2 h2=>?_) hs
 obtain ⟨it,fp,tn,J,H2,e,I2,T,st2,f2,W,⟨m0,w0⟩,turn⟩:=h2
 subst e
 have stat:∀ {H':Hp},(∀ b ∈ fp,H' b=none)→∀ b ∈ fp,FpOk X pins H' b:=fun hn b hb=>⟨hn b hb,(f2 b hb).2⟩
 refine codeAny_forLoop_any (fun n s'=>∃ i σ' H',Inv X pins σ' H' s'∧tn i s'.heap∧(∀ b ∈ fp,H' b=none)∧W i n σ' H') ?_ m0 ⟨0,σ,H2,I2,st2,fun b hb=>(f2 b hb).1,w0⟩
 rintro n s3 ⟨i,σ3,H3,I3,st3,fr3,w3⟩
 rcases turn i n σ3 H3 w3 with ⟨stop,qn⟩ | ⟨go,N,hN,step⟩
 ·refine wpAny_passesOwn hp (thn (T.done X rfl rfl rfl hc i pins s3 σ3 H3 X.xe I3 (stat fr3) st3 stop) fun r s4 ⟨hr,I4⟩=>?_)
  subst hr
  exact wpAny_execs_nil ⟨σ3,H3,I4,qn⟩
 ·refine wpAny_passesOwn hp (thn (T.item X rfl rfl rfl hc i pins s3 σ3 H3 X.xe I3 (stat fr3) st3 go) fun r s4 ⟨u,hr,h4⟩=>?_)
  subst hr
  refine wpAny_passesOwn hp (thn h4 fun _ s5 ⟨x,H5,I5,r5,y5,st5,fr5⟩=>?_)
  have I5':=I5.pinned (stat fr5) (T.obj _ _ st5)
  refine wpAny_passesOwn hp (thn (hg _ s5 σ3 H5 x u _ I5' r5 (step x H5 y5)) fun _ s6 ⟨σ6,H6,I6,q6⟩=>?_)
  refine wpAny_passesOwn hp (thn (hb _ s6 σ6 H6 _ I6 q6) fun f s7 q7=>?_)
  have again:∀ {σ7:St} {H7:Hp},Inv X (pins ++ pinsAt fp s5.heap) σ7 H7 s7→N σ7 H7→∃ m,m < n∧∃ i σ' H',Inv X pins σ' H' s7∧tn i s7.heap∧(∀ b ∈ fp,H' b=none)∧W i m σ' H':=fun {σ7 H7} I7 n7=>by
   obtain ⟨m',hm,w7⟩:=hN σ7 H7 n7
   refine ⟨m',hm,i + 1,σ7,H7,I7.unpinned,T.keep _ _ _ st5 fun b hb o e=>(I7.pin (b,o) (List.mem_append_right _ (List.mem_append_right _ (mem_pinsAt hb e)))).1,fun b hb=>?_,w7⟩
   obtain ⟨o,e,d⟩:=T.obj _ _ st5 b hb
   exact (I7.pin (b,o) (List.mem_append_right _ (List.mem_append_right _ (mem_pinsAt hb e)))).2.1
  cases f with
  | next=>obtain ⟨σ7,H7,I7,n7⟩:=q7; exact again I7 n7
  | cont=>obtain ⟨σ7,H7,I7,n7⟩:=q7; exact again I7 n7
  | brk=>obtain ⟨σ7,H7,I7,q7⟩:=q7; exact ⟨σ7,H7,I7.unpinned,q7⟩
  | ret v=>obtain ⟨x7,σ7,H7,I7,r7,q7⟩:=q7; exact ⟨x7,σ7,H7,I7.unpinned,r7,q7⟩
end


theorem for_list {K:PySem.W.Frag} {a:Addr} {xs:List V} {g:TG} {tb:TS} {D:Ends} {σ:St} {H:Hp} (Pv:Nat→St→Hp→Prop) (h0:Pv 0 σ H) (hl:∀ i σ H,i ≤ xs.length→Pv i σ H→SqL K H a xs)
  (hs:∀ i x σ H,xs[i]?=some x→Pv i σ H→g x σ H fun σ2 H2=>tb { D with nx:=Pv (i + 1),ct:=Pv (i + 1),bk:=D.nx } σ2 H2) (hd:∀ σ H,Pv xs.length σ H→D.nx σ H) :
  ∃ W:Nat→Nat→St→Hp→Prop,(∃ m,W 0 m σ H)∧∀ i m σ H,W i m σ H →
   ((Itl K a).stop i H∧D.nx σ H)∨((Itl K a).go i H∧∃ N:St→Hp→Prop,(∀ σ' H',N σ' H'→∃ m',m' < m∧W (i + 1) m' σ' H')∧∀ x H',(Itl K a).yld i H x H'→g x σ H' fun σ2 H2=>tb { D with nx:=N,ct:=N,bk:=D.nx } σ2 H2):=by
 refine ⟨fun i m σ H=>m=xs.length - i∧i ≤ xs.length∧Pv i σ H,⟨xs.length,by simp,Nat.zero_le _,h0⟩,?_⟩
 rintro i m σ H ⟨rfl,hi,p⟩
 have q:=hl i σ H hi p
 by_cases hlt:i < xs.length
 ·refine .inr ⟨⟨xs,xs[i],q,by simp [hlt]⟩,Pv (i + 1),fun σ' H' p'=>⟨xs.length - (i + 1),by omega,rfl,hlt,p'⟩,fun x H' y=>?_⟩
  obtain ⟨e,y⟩:=y
  subst e
  exact hs i x σ _ (y xs q) p
 ·have e:i=xs.length:=by omega
  subst e
  exact .inl ⟨⟨xs,q,Nat.le_refl _⟩,hd σ H p⟩
theorem for_tup {K:PySem.W.Frag} {a:Addr} {xs:List V} {g:TG} {tb:TS} {D:Ends} {σ:St} {H:Hp} (Pv:Nat→St→Hp→Prop) (h0:Pv 0 σ H) (hl:∀ i σ H,i ≤ xs.length→Pv i σ H→SqT K H a xs)
  (hs:∀ i x σ H,xs[i]?=some x→Pv i σ H→g x σ H fun σ2 H2=>tb { D with nx:=Pv (i + 1),ct:=Pv (i + 1),bk:=D.nx } σ2 H2) (hd:∀ σ H,Pv xs.length σ H→D.nx σ H) :
  ∃ W:Nat→Nat→St→Hp→Prop,(∃ m,W 0 m σ H)∧∀ i m σ H,W i m σ H →
   ((Itt K a).stop i H∧D.nx σ H)∨((Itt K a).go i H∧∃ N:St→Hp→Prop,(∀ σ' H',N σ' H'→∃ m',m' < m∧W (i + 1) m' σ' H')∧∀ x H',(Itt K a).yld i H x H'→g x σ H' fun σ2 H2=>tb { D with nx:=N,ct:=N,bk:=D.nx } σ2 H2):=by
 refine ⟨fun i m σ H=>m=xs.length - i∧i ≤ xs.length∧Pv i σ H,⟨xs.length,by simp,Nat.zero_le _,h0⟩,?_⟩
 rintro i m σ H ⟨rfl,hi,p⟩
 have q:=hl i σ H hi p
 by_cases hlt:i < xs.length
 ·refine .inr ⟨⟨xs,xs[i],q,by simp [hlt]⟩,Pv (i + 1),fun σ' H' p'=>⟨xs.length - (i + 1),by omega,rfl,hlt,p'⟩,fun x H' y=>?_⟩
  obtain ⟨e,y⟩:=y
  subst e
  exact hs i x σ _ (y xs q) p
 ·have e:i=xs.length:=by omega
  subst e
  exact .inl ⟨⟨xs,q,Nat.le_refl _⟩,hd σ H p⟩
theorem for_range {lo:Int} {n:Nat} {g:TG} {tb:TS} {D:Ends} {σ:St} {H:Hp} (Pv:Nat→St→Hp→Prop) (h0:Pv 0 σ H)
  (hs:∀ i σ H,i < n→Pv i σ H→g (.int (lo + i)) σ H fun σ2 H2=>tb { D with nx:=Pv (i + 1),ct:=Pv (i + 1),bk:=D.nx } σ2 H2) (hd:∀ σ H,Pv n σ H→D.nx σ H) :
  ∃ W:Nat→Nat→St→Hp→Prop,(∃ m,W 0 m σ H)∧∀ i m σ H,W i m σ H →
   ((Itr lo n).stop i H∧D.nx σ H)∨((Itr lo n).go i H∧∃ N:St→Hp→Prop,(∀ σ' H',N σ' H'→∃ m',m' < m∧W (i + 1) m' σ' H')∧∀ x H',(Itr lo n).yld i H x H'→g x σ H' fun σ2 H2=>tb { D with nx:=N,ct:=N,bk:=D.nx } σ2 H2):=by
 refine ⟨fun i m σ H=>m=n - i∧i ≤ n∧Pv i σ H,⟨n,by simp,Nat.zero_le _,h0⟩,?_⟩
 rintro i m σ H ⟨rfl,hi,p⟩
 by_cases hlt:i < n
 ·refine .inr ⟨hlt,Pv (i + 1),fun σ' H' p'=>⟨n - (i + 1),by omega,rfl,hlt,p'⟩,fun x H' y=>?_⟩
  obtain ⟨e,y⟩:=y
  subst e y
  exact hs i σ _ hlt p
 ·have e:i=n:=by omega
  subst e
  exact .inl ⟨Nat.le_refl _,hd σ H p⟩
end L2

namespace L2
open PySem PySem.Spec PyProof.Rows

abbrev R2:=V→V→Hp→VK→Prop
def OpR (X:Cx) (f:Value→Value→Sem Value) (r:R2):Prop :=
 ∀ (pins:List (Addr × Obj)) (s:Shared) (σ:St) (H:Hp) (x y:V) (v u:Value) (Q:VK),Inv X pins σ H s→RelV x v→RelV y u→r x y H Q →
  wpAny (model X.prog X.w) X.A (f v u) (EP X pins σ Q) X.xe s
def UnR (X:Cx) (f:Value→Sem Value) (r:V→Hp→VK→Prop):Prop :=
 ∀ (pins:List (Addr × Obj)) (s:Shared) (σ:St) (H:Hp) (x:V) (v:Value) (Q:VK),Inv X pins σ H s→RelV x v→r x H Q →
  wpAny (model X.prog X.w) X.A (f v) (EP X pins σ Q) X.xe s
def CallR (X:Cx) (f:Value) (r:List V→Hp→VK→Prop):Prop :=
 ∀ (pins:List (Addr × Obj)) (s:Shared) (σ:St) (H:Hp) (xs:List V) (us:List Value) (Q:VK),Inv X pins σ H s→Vals xs us→r xs H Q →
  wpAny (model X.prog X.w) X.A (call f us) (EP X pins σ Q) X.xe s
def tOp (r:R2) (ta tb:TE):TE:=fun σ H Q=>ta σ H fun x H1=>tb σ H1 fun y H2=>r x y H2 Q
def tUn (r:V→Hp→VK→Prop) (ta:TE):TE:=fun σ H Q=>ta σ H fun x H1=>r x H1 Q
def rI (C:Int→Int→Prop) (g:Int→Int→V):R2:=fun x y H Q=>∃ i j,x=.int i∧y=.int j∧C i j∧Q (g i j) H
def rI0 (g:Int→Int→V):R2:=fun x y H Q=>∃ i j,x=.int i∧y=.int j∧Q (g i j) H
def rU (g:Int→V):V→Hp→VK→Prop:=fun x H Q=>∃ i,x=.int i∧Q (g i) H

section
variable {X:Cx} {a b c:Expr} {ta tb tc:TE} {pos:Pos}

theorem binT (ha:PE X a ta) (hb:PE X b tb) {pins:List (Addr × Obj)} {s:Shared} {σ:St} {H:Hp} {R:V→V→Hp→Prop} (I:Inv X pins σ H s)
  (h:ta σ H fun x H1=>tb σ H1 fun y H2=>R x y H2) {Q:Value→Shared→Prop} {f:Value→Value→Sem Value}
  (hf:∀ v u s2 x y H2,Inv X pins σ H2 s2→RelV x v→RelV y u→R x y H2→wpAny (model X.prog X.w) X.A (f v u) Q X.xe s2) :
  wpAny (model X.prog X.w) X.A (eval a X.env) (fun v s₁=>wpAny (model X.prog X.w) X.A (eval b X.env) (fun u s₂=>wpAny (model X.prog X.w) X.A (f v u) Q X.xe s₂) X.xe s₁) X.xe s:=by
 refine thn (ha pins s σ H _ I h) fun v s1 ⟨x,H1,I1,r1,q1⟩=>?_
 refine thn (hb pins s1 σ H1 _ I1 q1) fun u s2 ⟨y,H2,I2,r2,q2⟩=>?_
 exact hf v u s2 x y H2 I2 r1 r2 q2

theorem pe_op {op:Operator} {r:R2} (ho:OpR X (binaryOp op) r) (ha:PE X a ta) (hb:PE X b tb):PE X (.BinOp a op b pos) (tOp r ta tb):=by
 intro pins s σ H Q I h
 exact wpAny_BinOp (binT ha hb I h fun v u s2 x y H2 I2 rx ry q=>ho pins s2 σ H2 x y v u Q I2 rx ry q)
theorem pe_un {op:UnaryOp} {r:V→Hp→VK→Prop} (ho:UnR X (unaryOp op) r) (ha:PE X a ta):PE X (.UnaryOp op a pos) (tUn r ta):=by
 intro pins s σ H Q I h
 exact UnaryOp_ (thn (ha pins s σ H _ I h) fun v s1 ⟨x,H1,I1,r1,q1⟩=>ho pins s1 σ H1 x v Q I1 r1 q1)

theorem opI {f:Value→Value→Sem Value} {C:Int→Int→Prop} {g:Int→Int→Int}
  (rule:∀ (i j:Int) (t u:Tok) (s:Shared) (Q:Value→Shared→Prop) (E:Value→Shared→Prop),C i j→Q (.int (g i j) s.toks) { s with toks:=s.toks + 1 }→wpAny (model X.prog X.w) X.A (f (.int i t) (.int j u)) Q E s) :
  OpR X f (rI C fun i j=>.int (g i j)):=by
 intro pins s σ H x y v u Q I rx ry h
 obtain ⟨i,j,rfl,rfl,hc,q⟩:=h
 obtain ⟨t,rfl⟩:=rx
 obtain ⟨t',rfl⟩:=ry
 exact rule i j t t' s _ _ hc ⟨.int (g i j),H,I.tok _,⟨_,rfl⟩,q⟩
theorem opI0 {f:Value→Value→Sem Value} {g:Int→Int→Int}
  (rule:∀ (i j:Int) (t u:Tok) (s:Shared) (Q:Value→Shared→Prop) (E:Value→Shared→Prop),Q (.int (g i j) s.toks) { s with toks:=s.toks + 1 }→wpAny (model X.prog X.w) X.A (f (.int i t) (.int j u)) Q E s) :
  OpR X f (rI0 fun i j=>.int (g i j)):=by
 intro pins s σ H x y v u Q I rx ry h
 obtain ⟨i,j,rfl,rfl,q⟩:=h
 obtain ⟨t,rfl⟩:=rx
 obtain ⟨t',rfl⟩:=ry
 exact rule i j t t' s _ _ ⟨.int (g i j),H,I.tok _,⟨_,rfl⟩,q⟩
theorem opB0 {f:Value→Value→Sem Value} {g:Int→Int→Bool}
  (rule:∀ (i j:Int) (t u:Tok) (s:Shared) (Q:Value→Shared→Prop) (E:Value→Shared→Prop),Q (.bool (g i j)) s→wpAny (model X.prog X.w) X.A (f (.int i t) (.int j u)) Q E s) :
  OpR X f (rI0 fun i j=>.bl (g i j)):=by
 intro pins s σ H x y v u Q I rx ry h
 obtain ⟨i,j,rfl,rfl,q⟩:=h
 obtain ⟨t,rfl⟩:=rx
 obtain ⟨t',rfl⟩:=ry
 exact rule i j t t' s _ _ ⟨.bl (g i j),H,I,rfl,q⟩

def CDiv (i j:Int):Prop:=0 < j∧j < 1073741824
def CMul (i j:Int):Prop:=(-(2 ^ 64) < i∧i < 2 ^ 64)∨(-(2 ^ 64) < j∧j < 2 ^ 64)
theorem CMul.ok {i j:Int} (h:CMul i j):IntMulOk i j:=by
 rcases h with ⟨h1,h2⟩ | ⟨h1,h2⟩
 ·exact .of_left (intBits_le_64 h1 h2)
 ·exact .of_right (intBits_le_64 h1 h2)
theorem op_add:OpR X (binaryOp .Add) (rI0 fun i j=>.int (i + j)):=opI0 fun _ _ _ _ _ _ _ q=>add_int q
theorem op_sub:OpR X (binaryOp .Sub) (rI0 fun i j=>.int (i - j)):=opI0 fun _ _ _ _ _ _ _ q=>sub_int q
theorem op_mul:OpR X (binaryOp .Mult) (rI CMul fun i j=>.int (i * j)):=opI fun _ _ _ _ _ _ _ hc q=>mul_int q hc.ok
theorem op_fdiv:OpR X (binaryOp .FloorDiv) (rI CDiv fun i j=>.int (i / j)):=opI fun i j _ _ _ _ _ hc q=>by
 have h1:(0:Int) < j:=hc.1
 have h2:j < 1073741824:=hc.2
 exact floordiv_int (by omega) (by rw [Int.fdiv_eq_ediv_of_nonneg i (by omega)]; exact q) (.inl (PyProof.noPylong_small (by omega)))
theorem op_mod:OpR X (binaryOp .Mod) (rI (fun _ j=>0 < j) fun i j=>.int (i % j)):=opI fun i j _ _ _ _ _ hc q=>by
 have h1:(0:Int) < j:=hc
 exact mod_int' (by omega) (by rw [Int.fmod_eq_emod_of_nonneg i (by omega)]; exact q)
theorem unI {f:Value→Sem Value} {g:Int→Int}
  (rule:∀ (i:Int) (t:Tok) (s:Shared) (Q:Value→Shared→Prop) (E:Value→Shared→Prop),Q (.int (g i) s.toks) { s with toks:=s.toks + 1 }→wpAny (model X.prog X.w) X.A (f (.int i t)) Q E s) :
  UnR X f (rU fun i=>.int (g i)):=by
 intro pins s σ H x v Q I rx h
 obtain ⟨i,rfl,q⟩:=h
 obtain ⟨t,rfl⟩:=rx
 exact rule i t s _ _ ⟨.int (g i),H,I.tok _,⟨_,rfl⟩,q⟩
theorem un_neg:UnR X (unaryOp .USub) (rU fun i=>.int (-i)):=unI fun _ _ _ _ _ q=>neg_int q

end


def scal:V→V→Bool
 | .non,.non=>true | .non,.int _=>true | .int _,.non=>true | .non,.bl _=>true | .bl _,.non=>true | .non,.str _=>true | .str _,.non=>true
 | .int _,.int _=>true | .bl _,.bl _=>true | .str _,.str _=>true | .byt _,.byt _=>true
 | .int _,.str _=>true | .str _,.int _=>true | .bl _,.str _=>true | .str _,.bl _=>true
 | _,_=>false
def rEq:R2:=fun x y H Q=>scal x y=true∧Q (.bl (decide (x=y))) H
def rNe:R2:=fun x y H Q=>scal x y=true∧Q (.bl (!decide (x=y))) H

theorem dec_int {i j:Int}:decide (V.int i=V.int j)=(i == j):=by
 rw [Bool.eq_iff_iff]
 simp
theorem dec_bl {i j:Bool}:decide (V.bl i=V.bl j)=(i == j):=by
 rw [Bool.eq_iff_iff]
 simp
theorem dec_str {i j:Str}:decide (V.str i=V.str j)=(i == j):=by
 rw [Bool.eq_iff_iff]
 simp
theorem dec_byt {i j:Array UInt8}:decide (V.byt i=V.byt j)=(i.toList == j.toList):=by
 rw [Bool.eq_iff_iff]
 cases i
 cases j
 simp

section
variable {X:Cx} {a b c:Expr} {ta tb tc:TE} {pos:Pos}
theorem fin_bl {pins:List (Addr × Obj)} {σ:St} {H:Hp} {s:Shared} {Q:VK} {k k':Bool} (I:Inv X pins σ H s) (q:Q (.bl k) H) (e:k=k'):EP X pins σ Q (.bool k') s:=by
 subst e
 exact ⟨.bl k,H,I,rfl,q⟩
theorem op_eq:OpR X (compareOp .Eq) rEq:=by
 intro pins s σ H x y v u Q I rx ry h
 obtain ⟨hs,q⟩:=h
 cases x with
 | non =>
  cases rx
  cases y with
  | non=>cases ry; exact PySem.EqNone.eq_none_none (fin_bl I q (by simp))
  | bl j=>cases ry; exact PySem.EqNone.eq_none_bool (fin_bl I q (by simp))
  | int j=>obtain ⟨t',rfl⟩:=ry; exact PySem.EqNone.eq_none_int (fin_bl I q (by simp))
  | str j=>obtain ⟨t',rfl⟩:=ry; exact PySem.EqNone.eq_none_str (fin_bl I q (by simp))
  | _=>exact absurd (show false=true from hs) Bool.false_ne_true
 | bl i =>
  cases rx
  cases y with
  | non=>cases ry; exact PySem.EqNone.eq_bool_none (fin_bl I q (by simp))
  | bl j=>cases ry; exact eq_bool (fin_bl I q dec_bl)
  | str j=>obtain ⟨t',rfl⟩:=ry; exact PySem.EqMixed.eq_bool_str (fin_bl I q (by simp))
  | _=>exact absurd (show false=true from hs) Bool.false_ne_true
 | int i =>
  obtain ⟨t,rfl⟩:=rx
  cases y with
  | non=>cases ry; exact PySem.EqNone.eq_int_none (fin_bl I q (by simp))
  | int j=>obtain ⟨t',rfl⟩:=ry; exact eq_int (fin_bl I q dec_int)
  | str j=>obtain ⟨t',rfl⟩:=ry; exact PySem.EqMixed.eq_int_str (fin_bl I q (by simp))
  | _=>exact absurd (show false=true from hs) Bool.false_ne_true
 | str i =>
  obtain ⟨t,rfl⟩:=rx
  cases y with
  | non=>cases ry; exact PySem.EqNone.eq_str_none (fin_bl I q (by simp))
  | bl j=>cases ry; exact PySem.EqMixed.eq_str_bool (fin_bl I q (by simp))
  | int j=>obtain ⟨t',rfl⟩:=ry; exact PySem.EqMixed.eq_str_int (fin_bl I q (by simp))
  | str j=>obtain ⟨t',rfl⟩:=ry; exact eq_str (fin_bl I q dec_str)
  | _=>exact absurd (show false=true from hs) Bool.false_ne_true
 | byt i =>
  obtain ⟨t,rfl⟩:=rx
  cases y with
  | byt j=>obtain ⟨t',rfl⟩:=ry; exact PySem.W.eq_bytes (fin_bl I q dec_byt)
  | _=>exact absurd (show false=true from hs) Bool.false_ne_true
 | _=>cases y <;> exact absurd (show false=true from hs) Bool.false_ne_true
theorem op_ne:OpR X (compareOp .NotEq) rNe:=by
 intro pins s σ H x y v u Q I rx ry h
 obtain ⟨hs,q⟩:=h
 cases x with
 | non =>
  cases rx
  cases y with
  | non=>cases ry; exact PySem.EqNone.ne_none_none (fin_bl I q (by simp))
  | bl j=>cases ry; exact PySem.EqNone.ne_none_bool (fin_bl I q (by simp))
  | int j=>obtain ⟨t',rfl⟩:=ry; exact PySem.EqNone.ne_none_int (fin_bl I q (by simp))
  | str j=>obtain ⟨t',rfl⟩:=ry; exact PySem.EqNone.ne_none_str (fin_bl I q (by simp))
  | _=>exact absurd (show false=true from hs) Bool.false_ne_true
 | bl i =>
  cases rx
  cases y with
  | non=>cases ry; exact PySem.EqNone.ne_bool_none (fin_bl I q (by simp))
  | bl j=>cases ry; exact ne_bool (fin_bl I q (congrArg not dec_bl))
  | str j=>obtain ⟨t',rfl⟩:=ry; exact PySem.EqMixed.ne_bool_str (fin_bl I q (by simp))
  | _=>exact absurd (show false=true from hs) Bool.false_ne_true
 | int i =>
  obtain ⟨t,rfl⟩:=rx
  cases y with
  | non=>cases ry; exact PySem.EqNone.ne_int_none (fin_bl I q (by simp))
  | int j=>obtain ⟨t',rfl⟩:=ry; exact ne_int (fin_bl I q (congrArg not dec_int))
  | str j=>obtain ⟨t',rfl⟩:=ry; exact PySem.EqMixed.ne_int_str (fin_bl I q (by simp))
  | _=>exact absurd (show false=true from hs) Bool.false_ne_true
 | str i =>
  obtain ⟨t,rfl⟩:=rx
  cases y with
  | non=>cases ry; exact PySem.EqNone.ne_str_none (fin_bl I q (by simp))
  | bl j=>cases ry; exact PySem.EqMixed.ne_str_bool (fin_bl I q (by simp))
  | int j=>obtain ⟨t',rfl⟩:=ry; exact PySem.EqMixed.ne_str_int (fin_bl I q (by simp))
  | str j=>obtain ⟨t',rfl⟩:=ry; exact ne_str (fin_bl I q (congrArg not dec_str))
  | _=>exact absurd (show false=true from hs) Bool.false_ne_true
 | byt i =>
  obtain ⟨t,rfl⟩:=rx
  cases y with
  | byt j=>obtain ⟨t',rfl⟩:=ry; exact PySem.W.ne_bytes (fin_bl I q (congrArg not dec_byt))
  | _=>exact absurd (show false=true from hs) Bool.false_ne_true
 | _=>cases y <;> exact absurd (show false=true from hs) Bool.false_ne_true

theorem op_lt:OpR X (compareOp .Lt) (rI0 fun i j=>.bl (decide (i < j))):=opB0 fun _ _ _ _ _ _ _ q=>lt_int q
theorem op_le:OpR X (compareOp .LtE) (rI0 fun i j=>.bl (decide (i ≤ j))):=opB0 fun _ _ _ _ _ _ _ q=>le_int q
theorem op_gt:OpR X (compareOp .Gt) (rI0 fun i j=>.bl (decide (j < i))):=opB0 fun _ _ _ _ _ _ _ q=>gt_int q
theorem op_ge:OpR X (compareOp .GtE) (rI0 fun i j=>.bl (decide (j ≤ i))):=opB0 fun _ _ _ _ _ _ _ q=>ge_int q
theorem op_in_str:OpR X (compareOp .In) (fun x y H Q=>∃ i j,x=.str i∧y=.str j∧Q (.bl (!(Builtin.Str.occurrences j i 0 j.length 1).isEmpty)) H):=by
 intro pins s σ H x y v u Q I rx ry h
 obtain ⟨i,j,rfl,rfl,q⟩:=h
 obtain ⟨t,rfl⟩:=rx
 obtain ⟨t',rfl⟩:=ry
 exact in_str (fin_bl I q rfl)

theorem op_isN:OpR X (compareOp .Is) (fun x y H Q=>y=.non∧Q (.bl (decide (x=.non))) H):=by
 intro pins s σ H x y v u Q I rx ry h
 obtain ⟨rfl,q⟩:=h
 cases ry
 refine is_none_gen (fin_bl I q ?_)
 cases x <;> first
  | (cases rx; rfl)
  | (obtain ⟨t,rfl⟩:=rx; rfl)
theorem nomark (b:Expr) {op:CmpOp} (h:op ≠ .In:=by decide) (h2:op ≠ .NotIn:=by decide):behindInMarks op b=false:=by
 have e1:(op == CmpOp.In)=false:=by cases op <;> first | rfl | exact absurd rfl h
 have e2:(op == CmpOp.NotIn)=false:=by cases op <;> first | rfl | exact absurd rfl h2
 cases b <;> simp [behindInMarks,e1,e2]
theorem pe_cmpR {op:CmpOp} {r:R2} (ho:OpR X (compareOp op) r) (ha:PE X a ta) (hb:PE X b tb) (hm:behindInMarks op b=false):PE X (.Compare a [op] [b] pos) (tOp r ta tb):=by
 intro pins s σ H Q I h
 exact wpAny_Compare1 (binT ha hb I h fun v u s2 x y H2 I2 rx ry q=>ho pins s2 σ H2 x y v u Q I2 rx ry q) hm
def tTest (t:TE):TT:=fun σ H Q=>t σ H fun x H'=>∃ k,x=.bl k∧Q k H'
theorem pt_cmpR {op:CmpOp} {r:R2} (ho:OpR X (compareOp op) r) (ha:PE X a ta) (hb:PE X b tb) (hm:behindInMarks op b=false):PT X (.Compare a [op] [b] pos) (tTest (tOp r ta tb)):=by
 intro pins s σ H Q I h
 refine wpAny_isTrue_Compare1 (thn (ha pins s σ H _ I h) fun v s1 ⟨x,H1,I1,r1,q1⟩=>thn (hb pins s1 σ H1 _ I1 q1) fun u s2 ⟨y,H2,I2,r2,q2⟩ =>
  thn (ho pins s2 σ H2 x y v u _ I2 r1 r2 q2) fun c s3 ⟨z,H3,I3,r3,k,e,q3⟩=>?_) hm
 subst e
 cases r3
 exact wpAny_truthy_bool ⟨H3,I3,q3⟩
def tChain (r r':R2) (ta tb tc:TE):TE:=fun σ H Q=>ta σ H fun x H1=>tb σ H1 fun y H2=>r x y H2 fun z H3=>∃ k,z=.bl k ∧
 (if k=true then tc σ H3 fun w' H4=>r' y w' H4 Q else Q (.bl false) H3)
theorem pe_chain {op op':CmpOp} {r r':R2} (ho:OpR X (compareOp op) r) (ho':OpR X (compareOp op') r') (ha:PE X a ta) (hb:PE X b tb) (hc:PE X c tc)
  (hm:lastMarks [op,op'] [b,c]=false:=by with_unfolding_all rfl):PE X (.Compare a [op,op'] [b,c] pos) (tChain r r' ta tb tc):=by
 intro pins s σ H Q I h
 refine Compare_chain (thn (ha pins s σ H _ I h) fun v s1 ⟨x,H1,I1,r1,q1⟩=>chain_link (thn (hb pins s1 σ H1 _ I1 q1) fun u s2 ⟨y,H2,I2,r2,q2⟩ =>
  thn (ho pins s2 σ H2 x y v u _ I2 r1 r2 q2) fun d s3 ⟨z,H3,I3,r3,k,e,q3⟩=>?_)) hm
 subst e
 cases r3
 refine wpAny_truthy_bool ?_
 cases k with
 | false=>exact ite_ff ⟨.bl false,H3,I3,rfl,q3⟩
 | true=>exact ite_tt (chain_last (thn (hc pins s3 σ H3 _ I3 q3) fun w' s4 ⟨z',H4,I4,r4,q4⟩=>ho' pins s4 σ H4 y z' u w' Q I4 r2 r4 q4))

theorem line63:(sizeLine:Nat) < 2 ^ 63:=by rw [sizeLine_eq]; decide

theorem op_add_str:OpR X (binaryOp .Add) (fun x y H Q=>∃ i j,x=.str i∧y=.str j∧i.length + j.length ≤ sizeLine∧Q (.str (i ++ j)) H):=by
 intro pins s σ H x y v u Q I rx ry h
 obtain ⟨i,j,rfl,rfl,hz,q⟩:=h
 obtain ⟨t,rfl⟩:=rx
 obtain ⟨t',rfl⟩:=ry
 exact add_str (fun t' tk=>⟨.str (i ++ j),H,I.tok _,⟨_,rfl⟩,q⟩) hz

theorem vals1 {x:V} {us:List Value} (r:Vals [x] us):∃ u,us=[u]∧RelV x u:=by
 cases r with
 | cons r1 r2=>cases r2; exact ⟨_,rfl,r1⟩
theorem vals2 {x y:V} {us:List Value} (r:Vals [x,y] us):∃ u w',us=[u,w']∧RelV x u∧RelV y w':=by
 cases r with
 | cons r1 r2 =>
  cases r2 with
  | cons r3 r4=>cases r4; exact ⟨_,_,rfl,r1,r3⟩
theorem call_str_int:CallR X (.type "str") (fun xs H Q=>∃ i,xs=[.int i]∧i.natAbs.log2 < 1920∧Q (.str (toString i)) H):=by
 intro pins s σ H xs us Q I r h
 obtain ⟨i,rfl,hz,q⟩:=h
 obtain ⟨u,rfl,t,rfl⟩:=vals1 r
 exact PySem.P.str_of_int hz ⟨.str _,H,I.tok _,⟨_,rfl⟩,q⟩
end
end L2

namespace L2
open PySem PySem.Spec PyProof.Rows


structure ObjM (h:Heap) (x dx C:Addr) (mA:Str→Option Value):Prop where
 obj:h.get? x=some (PySem.W.instObj C dx)
 ns:h.Ns1 dx mA
 ne:dx ≠ x

theorem lookIn_ns {h:Heap} {dx:Addr} {mA:Str→Option Value} (n:h.Ns1 dx mA):∃ od,h.get? dx=some od∧∀ name,PySem.W.lookIn name od=some (mA name):=by
 obtain ⟨o,es,ep,ho,hd,hk,_,hm⟩:=n
 refine ⟨o,ho,fun name=>?_⟩
 have e:=hm name
 unfold nsFind findBy at e
 rw [← Array.find?_toList] at e
 unfold PySem.W.lookIn
 rw [hd]
 dsimp only
 split
 ·rename_i y q
  rw [q] at e
  exact congrArg some e
 ·rename_i q
  rw [q] at e
  have a:es.toList.any (·.refKey)=false:=by
   rw [List.any_eq_false]
   intro y hy
   obtain ⟨z,t,hkey⟩:=hk y (Array.mem_toList_iff.mp hy)
   simp [DictEntry.refKey,hkey]
  have a':¬ es.toList.any (·.refKey)=true:=by rw [a]; exact Bool.false_ne_true
  rw [if_neg a']
  exact congrArg some e

theorem ObjM.look {h:Heap} {x dx C:Addr} {mA:Str→Option Value} (I:ObjM h x dx C mA):∃ od,PySem.W.InstAt h x (PySem.W.instObj C dx) C (some od)∧∀ name,PySem.W.lookIn name od=some (mA name) :=
 let ⟨od,ho,hl⟩:=lookIn_ns I.ns
 ⟨od,⟨I.obj,rfl,rfl,ho⟩,hl⟩

section
variable {prog:Program} {w:World} {A:Around} {E:Value→Shared→Prop} {s:Shared} {K:PySem.W.Frag} {x dx C f:Addr} {mA:Str→Option Value} {name:Str} {v:Value}

end


def putF (f:Str) (v:V):List (Str × V)→List (Str × V)
 | []=>[(f,v)]
 | (g,x) :: r=>if g=f then (g,v) :: r else (g,x) :: putF f v r
section
variable {P:Program} {w:World} {H H':Hp} {h h':Heap} {a C dx:Addr} {fs fs':List (Str × V)}
theorem ins_get (hok:HOk P w H h) (e:H a=some (.ins C dx fs)):∃ mA,ObjM h a dx C mA∧(∀ f,RelO (fs.lookup f) (mA f))∧PySem.Within mA (fs.map (·.1))∧fs.length ≤ 1000∧H dx=some (.own a):=by
 obtain ⟨d,z,ne,ob,mA,n,r,q⟩:=(show ObjOk P w H h a (.ins C dx fs) from hok a _ e)
 exact ⟨mA,⟨ob,n,ne⟩,r,q,z,d⟩
end


structure Cls (K:PySem.W.Frag) (C:Addr):Prop where
 pg:PySem.W.plainGet K C Str.empty=true
 hd:PySem.W.hasDictIn K C=true
 po:PySem.W.plainOver K C=true
 sa:PySem.W.findIn K (.ref C) "__setattr__"=some (some (.builtin "object.__setattr__"))
theorem Cls.get {K:PySem.W.Frag} {C:Addr} (c:Cls K C) (f:Str):PySem.W.plainGet K C f=true:=c.pg
structure Con (K:PySem.W.Frag) (C:Addr) (f:Str) (v:V) (u:Value):Prop where
 at_:PySem.W.findIn K (.ref C) f=some (some u)
 rel:RelV v u
 get:PySem.W.specialIn K u "__get__"=some none
 cp:PySem.W.copiedNames.contains f=false
structure Meth (K:PySem.W.Frag) (C:Addr) (m:Str) (f:Addr):Prop where
 at_:PySem.W.findIn K (.ref C) m=some (some (.ref f))
 fn:PySem.W.isFn K (.ref f)=true
 kp:PySem.W.keepIn K (.ref f)=true

section
variable {X:Cx} {pins:List (Addr × Obj)} {σ:St} {H:Hp} {s:Shared} {a C dx:Addr} {fs:List (Str × V)} {f:Str} {v:V} {A:Around} {E:Value→Shared→Prop}

end


section
variable {X:Cx} {o e value:Expr} {f:Str} {pos pos' tpos:Pos} {ta tv:TE}
end


section
variable {X:Cx} {pins:List (Addr × Obj)} {σ:St} {H:Hp} {s:Shared} {A:Around} {E:Value→Shared→Prop} {Q:Value→Shared→Prop} {c:Value} {b:Bool}
inductive TyOf (K:PySem.W.Frag) (H:Hp):V→Value→Prop where
 | non:TyOf K H .non (.type "NoneType")
 | bl (x:Bool):TyOf K H (.bl x) (.type "bool")
 | int (i:Int):TyOf K H (.int i) (.type "int")
 | str (x:Str):TyOf K H (.str x) (.type "str")
 | flt (x:UInt64):TyOf K H (.flt x) (.type "float")
 | lst {a:Addr} {xs:List V} (e:H a=some (.lst xs)):TyOf K H (.ref a) (.type "list")
 | frz {a:Addr} {o:Obj} {xs:List V} (e:H a=some (.frz o (.lst xs))):TyOf K H (.ref a) (.type "list")
 | tup {a:Addr} {xs:List V} (e:H a=some (.tup xs)):TyOf K H (.ref a) (.type "tuple")
 | dK {a:Addr} {kvs:List (Key × V)} (e:H a=some (.dK kvs)):TyOf K H (.ref a) (.type "dict")
 | dT {a:Addr} {kvs:List (List Key × V)} (e:H a=some (.dT kvs)):TyOf K H (.ref a) (.type "dict")
 | ins {a C dx:Addr} {fs:List (Str × V)} (e:H a=some (.ins C dx fs)) (cl:Cls K C) (ha:PySem.W.findIn K (.ref C) "__class__"=some (some (.builtin "object.__class__")))
   (hn:PySem.W.specialIn K (.builtin "object.__class__") "__get__"=some (some (.builtin "getset_descriptor.__get__"))) (htk:PySem.W.takesIn K (.builtin "object.__class__")=some true)
   (hm:PySem.W.mroIn K C (.type "object")=some true):TyOf K H (.ref a) (.ref C)
theorem isinst_ok {x:V} {u t:Value} (I:Inv X pins σ H s) (rx:RelV x u) (ty:TyOf X.K H x t) (e:PySem.W.kitOne X.K t c=some b) (h:∀ tk,Q (.bool b) { s with toks:=tk }) :
  wpAny (model X.prog X.w) A (call (.builtin "isinstance") [u,c]) Q E s:=by
 cases ty with
 | non=>cases (show u=Value.none from rx); exact PySem.W.kia_one PySem.W.kitx_none I.kIn True.intro e (fun z=>nomatch z) h
 | bl y=>cases (show u=Value.bool y from rx); exact PySem.W.kia_one PySem.W.kitx_bool I.kIn True.intro e (fun z=>nomatch z) h
 | int i=>obtain ⟨t,q⟩:=(show ∃ t,u=Value.int i t from rx); cases q; exact PySem.W.kia_one PySem.W.kitx_int I.kIn True.intro e (fun z=>nomatch z) h
 | str y=>obtain ⟨t,q⟩:=(show ∃ t,u=Value.str y t from rx); cases q; exact PySem.W.kia_one PySem.W.kitx_str I.kIn True.intro e (fun z=>nomatch z) h
 | flt y=>obtain ⟨t,q⟩:=(show ∃ t,u=Value.float y t from rx); cases q; exact PySem.W.kia_one PySem.W.kitx_float I.kIn True.intro e (fun z=>nomatch z) h
 | @lst a xs ea =>
  cases (show u=Value.ref a from rx)
  obtain ⟨_,_,n,_,h1⟩:=(show ObjOk X.prog X.w H s.heap a (.lst xs) from I.hok a _ ea)
  exact PySem.W.kia_one PySem.W.kitx_list I.kIn ⟨_,h1,rfl⟩ e (fun z=>nomatch z) h
 | @frz a ob xs ea =>
  cases (show u=Value.ref a from rx)
  obtain ⟨_,_,_,n,_,h1⟩:=(show ObjOk X.prog X.w H s.heap a (.frz ob (.lst xs)) from I.hok a _ ea)
  exact PySem.W.kia_one PySem.W.kitx_list I.kIn ⟨_,h1,rfl⟩ e (fun z=>nomatch z) h
 | @tup a xs ea =>
  cases (show u=Value.ref a from rx)
  obtain ⟨_,_,_,p,_⟩:=(show ObjOk X.prog X.w H s.heap a (.tup xs) from I.hok a _ ea)
  obtain ⟨o,h1,h2,_⟩:=p
  exact PySem.W.kia_one PySem.W.kitx_tuple I.kIn ⟨o,h1,h2⟩ e (fun z=>nomatch z) h
 | @dK a kvs ea =>
  cases (show u=Value.ref a from rx)
  obtain ⟨_,_,vs,_,p⟩:=(show ObjOk X.prog X.w H s.heap a (.dK kvs) from I.hok a _ ea)
  obtain ⟨o,es,ep,h1,h2,_⟩:=p
  exact PySem.W.kia_one PySem.W.kitx_dict I.kIn ⟨o,h1,h2.1⟩ e (fun z=>nomatch z) h
 | @dT a kvs ea =>
  cases (show u=Value.ref a from rx)
  obtain ⟨_,_,xs,_,o,es,ep,h1,h2,_⟩:=(show ObjOk X.prog X.w H s.heap a (.dT kvs) from I.hok a _ ea)
  exact PySem.W.kia_one PySem.W.kitx_dict I.kIn ⟨o,h1,h2.1⟩ e (fun z=>nomatch z) h
 | @ins a C dx fs ea cl ha hn htk hm =>
  cases (show u=Value.ref a from rx)
  obtain ⟨mA,O,_⟩:=ins_get I.hok ea
  obtain ⟨od,J,_⟩:=O.look
  exact PySem.W.kia_one (PySem.W.kitx_own (cl.get _) cl.hd ha hn htk hm) I.kIn J e (fun z=>nomatch z) h
end
end L2

namespace L2
open PySem PySem.Spec PyProof.Rows


structure Room (k:Nat) (A:Around):Prop where
 hd:A.handled=none
 dp:A.depth + 3 * k + 5 < recursionLimit
 un:A.units + 16 * k + 200 < cLine
theorem Room.mono {j k:Nat} {A:Around} (r:Room k A) (h:j ≤ k):Room j A:=⟨r.hd,by have:=r.dp; omega,by have:=r.un; omega⟩
theorem Room.deeper {k:Nat} {A:Around} (r:Room (k + 1) A) (env:Env):Room k (A.deeper env) :=
 ⟨r.hd,by have:=r.dp; show A.depth + 1 + 3 * k + 5 < _; omega,by have:=r.un; show A.units + 3 + 16 * k + 200 < _; omega⟩
theorem Room.depth {k:Nat} {A:Around} (r:Room k A):A.depth < recursionLimit:=by have:=r.dp; omega
theorem Room.units {k:Nat} {A:Around} (r:Room k A):A.units + 64 < cLine:=by have:=r.un; omega
theorem Room.units0 {k:Nat} {A:Around} (r:Room k A):A.units < cLine:=by have:=r.un; omega


def tNil:TA:=fun _ H Q=>Q [] H
def tCons (ta:TE) (tr:TA):TA:=fun σ H Q=>ta σ H fun x H1=>tr σ H1 fun xs H2=>Q (x :: xs) H2
section
variable {X:Cx} {e:Expr} {es:List Expr} {te:TE} {t:TA} {pos:Pos}
theorem pa_nil:PA X [] tNil:=fun _ _ _ _ H Q I h=>Calls.spliced_nil ⟨[],H,I,.nil,h⟩
theorem pa_cons (ha:PE X e te) (hr:PA X es t) (hs:starEach (e :: es) X.env=(false,eval e X.env) :: starEach es X.env:=by rfl):PA X (e :: es) (tCons te t):=by
 intro pos pins s σ H Q I h
 rw [hs]
 show wpAny _ _ (spliced ((false,eval e X.env) :: backTo pos (starEach es X.env))) _ _ s
 refine Calls.spliced_cons (thn (ha pins s σ H _ I h) fun u s1 ⟨x,H1,I1,r1,q1⟩=>?_)
 exact thn (hr pos pins s1 σ H1 _ I1 q1) fun us s2 ⟨xs,H2,I2,r2,q2⟩=>⟨x :: xs,H2,I2,.cons r1 r2,q2⟩

def tTup (t:TA):TE:=fun σ H Q=>t σ H fun xs H1=>xs.length ≤ sizeLine∧∀ p,H1 p=none→Q (.ref p) (upd H1 p (.tup xs))
def tLst (t:TA):TE:=fun σ H Q=>t σ H fun xs H1=>xs.length ≤ sizeLine∧∀ p,H1 p=none→Q (.ref p) (upd H1 p (.lst xs))
theorem pe_tup {x1} (h:PA X es t):PE X (.Tuple es x1 pos) (tTup t):=by
 intro pins s σ H Q I hq
 refine wpAny_Tuple_spliced (thn (h pos pins s σ H _ I hq) fun us s1 ⟨xs,H1,I1,r,z,q⟩=>⟨by rw [← r.length]; exact z,?_⟩)
 have hf:H1 s1.heap.objs.size=none:=I1.hok.fresh (Nat.le_refl _)
 refine ⟨.ref s1.heap.objs.size,upd H1 s1.heap.objs.size (.tup xs),I1.laid (t':=s1.toks) (fun b u e=>Heap.get?_push_of_some _ e) (Nat.le_refl _) ?_,rfl,q _ hf⟩
 exact ⟨z,us,r,⟨_,Heap.get?_push_size _ rfl,rfl,_,rfl⟩,_,Heap.get?_push_size _ rfl,rfl⟩
theorem pe_lst (h:PA X es t):PE X (.List es pos) (tLst t):=by
 intro pins s σ H Q I hq
 refine wpAny_List_spliced (thn (h pos pins s σ H _ I hq) fun us s1 ⟨xs,H1,I1,r,z,q⟩=>⟨by rw [← r.length]; exact z,?_⟩)
 have hf:H1 s1.heap.objs.size=none:=I1.hok.fresh (Nat.le_refl _)
 refine ⟨.ref s1.heap.objs.size,upd H1 s1.heap.objs.size (.lst xs),I1.laid (t':=s1.toks) (fun b u e=>Heap.get?_push_of_some _ e) (Nat.le_refl _) ?_,rfl,q _ hf⟩
 exact ⟨z,us,0,r,Heap.get?_push_size _ rfl⟩
end


abbrev Sp:=List V→Hp→VK→XK→Prop
abbrev CXT:=List Env→Hp→Shared→XK→Value→Shared→Prop

structure Env0 (P:Program) (w:World) (K:PySem.W.Frag) (mg:Str→Option Value) (base:Heap) (A:Around) (outer:List Env) (s:Shared) (H:Hp):Prop where
 frames:A.frames=some outer
 mod:Mod K mg base
 bs:∀ b o,base.get? b=some o→s.heap.get? b=some o∧H b=none
 bsz:base.objs.size ≤ s.heap.objs.size
 funs:s.heap.FunFrames base outer
 frf:∀ b ∈ frs outer,H b=none
 hok:HOk P w H s.heap
 bare:AllBare s.gens
def CE (outer:List Env) (P:Program) (w:World) (H:Hp) (s:Shared) (Q:VK) (u:Value) (s':Shared):Prop :=
 ∃ v H',s'.os=s.os∧AllBare s'.gens∧Un (frs outer) [] H H' s.heap s'.heap∧HOk P w H' s'.heap∧RelV v u∧Q v H'
def CR (CX:CXT) (outer:List Env) (P:Program) (w:World) (H:Hp) (s:Shared) (Q:VK) (E:XK) (r:Result) (s':Shared):Prop :=
 match r with
 | .ok (.ret u)=>CE outer P w H s Q u s'
 | .ok _=>False
 | .error e=>CX outer H s E e s'
structure FnOk (P:Program) (w:World) (K:PySem.W.Frag) (mg:Str→Option Value) (base:Heap) (CX:CXT) (k:Nat) (f:Addr) (fd:FuncData) (ps:List Str) (sp:Sp):Prop where
 len:∀ vs H Q E,sp vs H Q E→vs.length=ps.length
 run:∀ (A:Around) (outer:List Env) (s:Shared) (H:Hp) (args:Args) (us:List Value) (vs:List V) (Q:VK) (E:XK),Room k A→Env0 P w K mg base A outer s H→BindsTo s fd args (ps.zip us)→Vals vs us→sp vs H Q E →
  codeAny (model P w) A (.call (.ref f) args) (CR CX outer P w H s Q E) s
section
variable {X:Cx} {pins:List (Addr × Obj)} {σ:St} {H:Hp} {s s':Shared}
theorem Inv.env0 (I:Inv X pins σ H s):Env0 X.prog X.w X.K X.mg X.base X.A X.stack s H :=
 ⟨I.ok.frames,I.ok.mod,I.bs,Nat.le_trans I.ok.bsz I.sz,I.stack,I.stkFree,I.hok,I.bare⟩
theorem Inv.after {Q:VK} {u:Value} (I:Inv X pins σ H s) (h:CE X.stack X.prog X.w H s Q u s'):EP X pins σ Q u s':=by
 obtain ⟨v,H',os,bare,un,hok,r,q⟩:=h
 obtain ⟨hh,g,d,t,os'⟩:=s'
 obtain rfl:os'=s.os:=os
 exact ⟨v,H',I.call (h':=hh) (g':=g) (d':=d) (t':=t) (ch:=[]) un hok bare (fun b z=>absurd z (by simp)),r,q⟩
end


def tCall (sp:Sp) (dvs:List V) (E:XK) (t:TA):TE:=fun σ H Q=>t σ H fun vs H1=>sp (vs ++ dvs) H1 Q E
def Binds (K:PySem.W.Frag) (fd:FuncData) (ps:List Str) (ds:List Value):Prop :=
 ∀ (s:Shared) (us:List Value),K.In s.heap→(us ++ ds).length=ps.length→BindsTo s fd ⟨us,[]⟩ (ps.zip (us ++ ds))
theorem Binds.all {K:PySem.W.Frag} {fd:FuncData} {ps:List Str} (h:∀ us:List Value,us.length=ps.length→bindArgs fd ⟨us,[]⟩=pure (ps.zip us)):Binds K fd ps []:=fun s us _ hl=>by
 rw [List.append_nil] at hl ⊢
 exact .of_eq (h us hl)

def Passes (CX:CXT) (X:Cx) (E:XK):Prop:=∀ (pins:List (Addr × Obj)) (σ:St) (H:Hp) (s:Shared) (e:Value) (s':Shared),Inv X pins σ H s→CX X.stack H s E e s'→X.xe e s'

section
variable {X:Cx} {CX:CXT} {k:Nat} {f C:Addr} {fd:FuncData} {ps:List Str} {sp:Sp} {dvs:List V} {ds:List Value} {E:XK} {x m:Str} {p pos apos:Pos} {e o:Expr} {es:List Expr} {ta:TE} {t:TA}

theorem run_fn {pins:List (Addr × Obj)} {σ:St} {H:Hp} {s:Shared} {Q:VK} {us:List Value} {vs:List V} (F:FnOk X.prog X.w X.K X.mg X.base CX k f fd ps sp) (hr:Room k X.A) (hb:Binds X.K fd ps ds) (hd:Vals dvs ds) (hx:Passes CX X E)
  (I:Inv X pins σ H s) (r:Vals vs us) (h:sp (vs ++ dvs) H Q E):wpAny (model X.prog X.w) X.A (call (.ref f) us) (EP X pins σ Q) X.xe s:=by
 have r2:Vals (vs ++ dvs) (us ++ ds):=r.append hd
 have hl:(us ++ ds).length=ps.length:=by rw [← r2.length]; exact F.len _ _ _ _ h
 refine wpAny_call (codeAny_mono (F.run X.A X.stack s H ⟨us,[]⟩ (us ++ ds) (vs ++ dvs) Q E hr I.env0 (hb s us I.kIn hl) r2 h) fun r s' hq=>?_)
 cases r with
 | error e=>exact hx pins σ H s e s' I hq
 | ok fl =>
  cases fl with
  | ret u=>exact I.after hq
  | next=>exact False.elim hq
  | brk=>exact False.elim hq
  | cont=>exact False.elim hq

theorem pe_call (F:FnOk X.prog X.w X.K X.mg X.base CX k f fd ps sp) (hr:Room k X.A) (hg:Gl X x) (hm:X.mg x=some (.ref f)) (hk:PySem.W.keepIn X.K (.ref f)=true) (hb:Binds X.K fd ps ds) (hd:Vals dvs ds) (hx:Passes CX X E)
  (ha:PA X (e :: es) t) (hdb:(x == ("__debug__":Str))=false:=by decide) (he:starEach (e :: es) X.env=(false,eval e X.env) :: starEach es X.env:=by rfl) (hpl:(backTo pos (starEach es X.env)).any (·.1)=false:=by rfl) :
  PE X (.Call (.Name x p) (e :: es) [] pos) (tCall sp dvs E t):=by
 intro pins s σ H Q I h
 refine wpAny_Call_Name_kw (ld_glob I hg hm ?_ hdb)
 refine PySem.W.callWith_K (h₀:=X.base) I.ok.mod.kin hk (thn (ha pos pins s σ H _ I h) fun us s1 ⟨vs,H1,I1,r,q⟩=>⟨I1.kIn,?_⟩) he hpl
 exact run_fn F hr hb hd hx I1 r q
structure Mk (K:PySem.W.Frag) (C f:Addr):Prop where
 makes:PySem.W.makesIn K C=true
 init:PySem.W.findIn K (.ref C) "__init__"=some (some (.ref f))
 fn:PySem.W.isFn K (.ref f)=true
 kp:PySem.W.keepIn K (.ref C)=true

end


section
variable {X:Cx} {CX:CXT} {k:Nat} {f C:Addr} {fd:FuncData} {ps ks:List Str} {sp:Sp} {E:XK} {x m:Str} {p pos apos kpos:Pos} {e o:Expr} {es:List Expr} {kws:List Keyword} {te ta:TE} {t tk:TA} {nm:Option Str}
structure KBinds (K:PySem.W.Frag) (fd:FuncData) (ps ks:List Str) (g:List Value→List Value→List Value) (gV:List V→List V→List V):Prop where
 to:∀ (s:Shared) (us ws:List Value),K.In s.heap→(g us ws).length=ps.length→BindsTo s fd ⟨us,ks.zip ws⟩ (ps.zip (g us ws))
 rel:∀ {vs:List V} {us:List Value} {zs:List V} {ws:List Value},Vals vs us→Vals zs ws→Vals (gV vs zs) (g us ws)
variable {g:List Value→List Value→List Value} {gV:List V→List V→List V}
end


structure FnScope (N P:List Str) (sc:Scope):Prop where
 kind:sc.kind=.function
 co:sc.isCoroutine=false
 gen:sc.isGenerator=false
 nd:N.Nodup
 pre:N.take P.length=P
 par:∀ x ∈ P,sc.names.lookup x=some .local∨sc.names.lookup x=some .cell
 nofree:∀ y ∈ sc.names,y.2 ≠ .free

theorem bindL_out {kindOf:Str→Option NameKind} {x:Str}:∀ {binds:List (Str × Value)} {m:Str→Option Value},(∀ v,(x,v) ∉ binds)→bindL kindOf binds m x=m x
 | [],_,_=>rfl
 | (n,v) :: r,m,h=>by
  unfold bindL
  rw [bindL_out fun w hw=>h w (List.mem_cons_of_mem _ hw)]
  split
  ·have:x ≠ n:=by rintro rfl; exact h v List.mem_cons_self
   simp [this]
  ·rfl
theorem bindC_out {kindOf:Str→Option NameKind} {x:Str}:∀ {binds:List (Str × Value)} {m:Str→Option Value},(∀ v,(x,v) ∉ binds)→bindC kindOf binds m x=m x
 | [],_,_=>rfl
 | (n,v) :: r,m,h=>by
  unfold bindC
  rw [bindC_out fun w hw=>h w (List.mem_cons_of_mem _ hw)]
  split
  ·rfl
  ·have:x ≠ n:=by rintro rfl; exact h v List.mem_cons_self
   simp [this]
theorem bindL_get {kindOf:Str→Option NameKind} {x:Str} {v:Value}:∀ {P:List Str} {vs:List Value} {i:Nat} {m:Str→Option Value},P.Nodup→P[i]?=some x→vs[i]?=some v→kindOf x=some .local →
  bindL kindOf (P.zip vs) m x=some v
 | [],_,_,_,_,h,_,_=>by simp at h
 | _ :: _,[],_,_,_,_,h,_=>by simp at h
 | p :: P,w :: vs,0,m,nd,h1,h2,hk=>by
  simp at h1 h2; subst h1; subst h2
  show bindL kindOf ((p,w) :: P.zip vs) m p=_
  unfold bindL
  rw [bindL_out fun v hv=>(List.nodup_cons.mp nd).1 (List.of_mem_zip hv).1,if_pos hk]
  simp
 | p :: P,w :: vs,i + 1,m,nd,h1,h2,hk=>by
  show bindL kindOf ((p,w) :: P.zip vs) m x=_
  unfold bindL
  exact bindL_get (i:=i) (List.nodup_cons.mp nd).2 (by simpa using h1) (by simpa using h2) hk
theorem bindC_get {kindOf:Str→Option NameKind} {x:Str} {v:Value}:∀ {P:List Str} {vs:List Value} {i:Nat} {m:Str→Option Value},P.Nodup→P[i]?=some x→vs[i]?=some v→kindOf x ≠ some .local →
  bindC kindOf (P.zip vs) m x=some v
 | [],_,_,_,_,h,_,_=>by simp at h
 | _ :: _,[],_,_,_,_,h,_=>by simp at h
 | p :: P,w :: vs,0,m,nd,h1,h2,hk=>by
  simp at h1 h2; subst h1; subst h2
  show bindC kindOf ((p,w) :: P.zip vs) m p=_
  unfold bindC
  rw [bindC_out fun v hv=>(List.nodup_cons.mp nd).1 (List.of_mem_zip hv).1,if_neg hk]
  simp
 | p :: P,w :: vs,i + 1,m,nd,h1,h2,hk=>by
  show bindC kindOf ((p,w) :: P.zip vs) m x=_
  unfold bindC
  exact bindC_get (i:=i) (List.nodup_cons.mp nd).2 (by simpa using h1) (by simpa using h2) hk

def start (N:List Str) (vs:List V):St:=vs.map some ++ List.replicate (N.length - vs.length) none

def cxOf (CX:CXT) (P:Program) (w:World) (K:PySem.W.Frag) (mg:Str→Option Value) (base:Heap) (N:List Str) (qual:Str) (scope:Scope) (f:Addr) (cd:Value) (A:Around) (outer:List Env) (s:Shared) (H:Hp) (E:XK):Cx where
 prog:=P
 w:=w
 K:=K
 mg:=mg
 base:=base
 A:=A.deeper (envOfC qual scope s.heap.objs.size f cd)
 N:=N
 s₀:=s
 H₀:=H
 env:=envOfC qual scope s.heap.objs.size f cd
 outer:=outer
 stack:=envOfC qual scope s.heap.objs.size f cd :: outer
 ex:=[]
 calm:=true
 fn:=fun _=>true
 pn:=[]
 xe:=fun e s'=>wpAny (model P w) (A.deeper (envOfC qual scope s.heap.objs.size f cd)) (leaving (envOfC qual scope s.heap.objs.size f cd) e) (fun _ s''=>CX outer H s E e s'') (fun e' s''=>CX outer H s E e' s'') s'

theorem cell_has {sc:Scope} {n:Nat} {x:Str} (h:sc.names.lookup x=some .cell):∃ c,(cellsFrom n sc.names []).lookup x=some c:=by
 have q:=PySem.W.cellsFrom_some sc.names n [] (.inl h)
 exact Option.isSome_iff_exists.mp q

theorem inv_start {CX:CXT} {P:Program} {w:World} {K:PySem.W.Frag} {mg:Str→Option Value} {base:Heap} {N ps:List Str} {qual:Str} {scope:Scope} {f:Addr} {cd:Value} {A:Around} {outer:List Env} {s s1:Shared} {H:Hp} {E:XK} {us:List Value} {vs:List V}
  (S:FnScope N ps scope) (hd:A.handled=none) (e0:Env0 P w K mg base A outer s H) (hl:vs.length=ps.length) (r:Vals vs us)
  (x:InCallC s s.heap.objs.size (bindL (envOfC qual scope s.heap.objs.size f cd).kindOf (ps.zip us) fun _=>none) (cellsFrom (s.heap.objs.size + 1) scope.names []) (bindC (envOfC qual scope s.heap.objs.size f cd).kindOf (ps.zip us) fun _=>none) s1) :
  Inv (cxOf CX P w K mg base N qual scope f cd A outer s H E) [] (start N vs) H s1:=by
 have hpl:ps.length ≤ N.length:=by have:=congrArg List.length S.pre; rw [List.length_take] at this; omega
 obtain ⟨h1,tk,rfl,hk⟩:=x.done
 have noA:∀ b:Addr,b ∉ (cxOf CX P w K mg base N qual scope f cd A outer s H E).ex:=fun b z=>absurd (show b ∈ ([]:List Addr) from z) (by simp)
 refine ⟨⟨e0.mod,S.kind,rfl,rfl,Nat.le_refl _,fun y z c h1 h2=>?_,fun y hy=>?_,fun y c _ h=>?_,fun _=>hd,Around.frames_deeper e0.frames,.inr ⟨rfl,rfl⟩,fun b z=>absurd z (noA b),e0.bs,e0.bsz,fun b _ _=>noA b,fun b z=>absurd z (noA b),e0.funs,e0.frf⟩,
  rfl,e0.bare,Un.kept hk,⟨_,x.toInCall.ns,fun i y v h1 h2 h3=>?_⟩,fun y c h=>⟨_,x.cell y c h⟩,e0.hok.fresh (Nat.le_refl _),fun y c h=>?_,fun p hp=>absurd (show p ∈ ([]:List (Addr × Obj)) from hp) (by simp),e0.hok.kept hk,?_⟩
 ·exact name_of_addr x.apart (PySem.mem_of_lookup h1) (PySem.mem_of_lookup h2)
 ·have hy:scope.names.lookup y=some .cell∨scope.names.lookup y=some .free:=hy
  rcases hy with hy | hy
  ·exact cell_has hy
  ·exact absurd rfl (S.nofree _ (PySem.mem_of_lookup hy))
 ·exact Nat.le_of_lt (x.above y c (PySem.mem_of_lookup h))
 ·have hi:i < vs.length:=by
   unfold start at h2
   by_cases hi:i < vs.length
   ·exact hi
   ·rw [List.getElem?_append_right (by simpa using hi)] at h2
    rw [List.getElem?_replicate] at h2
    split at h2 <;> cases h2
  have ha:vs[i]?=some v:=by
   unfold start at h2
   rw [List.getElem?_append_left (by simpa using hi),List.getElem?_map] at h2
   cases e:vs[i]? with
   | none=>rw [e] at h2; cases h2
   | some a=>rw [e] at h2; cases h2; rfl
  obtain ⟨u,hu,rv⟩:=r.get ha
  have hp:ps[i]?=some y:=by
   rw [← S.pre,List.getElem?_take_of_lt (by omega)]; exact h1
  have ndP:ps.Nodup:=by rw [← S.pre]; exact S.nd.sublist (List.take_sublist _ _)
  refine ⟨u,rv,?_⟩
  rcases S.par y (List.mem_of_getElem? hp) with k | k
  ·exact .inl ⟨k,bindL_get ndP hp hu k⟩
  ·obtain ⟨c,e⟩:=cell_has (n:=s.heap.objs.size + 1) k
   refine .inr ⟨.inl k,c,e,?_⟩
   have q:=x.cell y c e
   rw [bindC_get ndP hp hu (by show scope.names.lookup y ≠ _; rw [k]; decide)] at q
   exact q
 ·exact e0.hok.fresh (Nat.le_of_lt (x.above y c (PySem.mem_of_lookup h)))
 ·unfold start
  show _=N.length
  rw [List.length_append,List.length_map,List.length_replicate]
  omega

theorem fn_of {CX:CXT} {P:Program} {w:World} {K:PySem.W.Frag} {mg:Str→Option Value} {base:Heap} {k:Nat} {f:Addr} {name qual:Str} {params:Arguments} {body:List Stmt} {scope:Scope} {dV kV doc pm cdv ct oc:Value} {an od:Option Addr}
  {osl:Array (Option Value)} {N ps:List Str} {sp:Sp} (lk:K.lookup f=some ⟨oc,od,.func (PySem.W.fnOf name qual params body scope dV kV doc pm an cdv ct),osl⟩) (hcd:PySem.W.codeIn K cdv qual=true) (S:FnScope N ps scope)
  (len:∀ vs H Q E,sp vs H Q E→vs.length=ps.length)
  (hbody:∀ (A:Around) (outer:List Env) (s:Shared) (H:Hp) (vs:List V) (Q:VK) (E:XK),Room k (A.deeper (envOfC qual scope s.heap.objs.size f cdv))→sp vs H Q E →
   ∃ t,PSs (cxOf CX P w K mg base N qual scope f cdv A outer s H E) body t∧t { nx:=fun _ H'=>Q .non H',rt:=Q } (start N vs) H) :
  FnOk P w K mg base CX (k + 1) f (PySem.W.fnOf name qual params body scope dV kV doc pm an cdv ct) ps sp:=by
 refine ⟨len,fun A outer s H args us vs Q E hr e0 hb r hsp=>?_⟩
 have hl:=len _ _ _ _ hsp
 have KX:K.In s.heap:=e0.mod.kin.keeps fun b o e=>(e0.bs b o e).1
 have lim:s.heap.NoLimit:=e0.mod.nolimit.keeps fun b o e=>(e0.bs b o e).1
 have hkind:∀ y ∈ ps.zip us,scope.names.lookup y.1=some .local∨(scope.names.lookup y.1=some .cell∧((cellsFrom (s.heap.objs.size + 1) scope.names []).lookup y.1).isSome=true):=fun ⟨n,v⟩ hy=>by
  rcases S.par n (List.of_mem_zip hy).1 with q | q
  ·exact .inl q
  ·exact .inr ⟨q,PySem.W.cellsFrom_some _ _ _ (.inl q)⟩
 refine codeAny_call_function hr.depth (KX _ _ lk) rfl S.co S.gen rfl (PySem.W.codeRec_of KX hcd) (hb _ _ _ _ ?_)
 refine wpAny_newFunctionEnv_cells S.kind hkind fun env he s1 x=>?_
 subst he
 refine ⟨lim.keeps x.toInCall.keep,codeAny_func ?_⟩
 obtain ⟨t,ht,hq⟩:=hbody A outer s H vs Q E (hr.deeper _) hsp
 have I:Inv (cxOf CX P w K mg base N qual scope f cdv A outer s H E) [] (start N vs) H s1:=inv_start S hr.hd e0 hl r x
 refine wpAny_mono (ht [] s1 (start N vs) H _ I hq) (fun fl s' hs=>?_) fun e s' hs=>hs
 have fin:∀ {σ':St} {H':Hp} {v:V} {u:Value},Inv (cxOf CX P w K mg base N qual scope f cdv A outer s H E) [] σ' H' s'→RelV v u→Q v H'→CE outer P w H s Q u s' :=
  fun {σ' H' v u} J rv q=>⟨v,H',J.os,J.bare,J.base,J.hok,rv,q⟩
 cases fl with
 | ret u =>
  obtain ⟨v,σ',H',J,rv,q⟩:=hs
  exact fin J rv q
 | next =>
  obtain ⟨σ',H',J,q⟩:=hs
  exact fin (v:=V.non) (u:=Value.none) J rfl q
 | brk =>
  obtain ⟨_,_,_,q⟩:=hs
  exact False.elim q
 | cont =>
  obtain ⟨_,_,_,q⟩:=hs
  exact False.elim q
end L2

namespace L2
open PySem PySem.Spec PyProof.Rows
section
variable {X:Cx} {x:Str} {p pos:Pos} {e:Expr} {es:List Expr} {t:TA} {id T:String} {r:List V→Hp→VK→Prop}

def tCB (r:List V→Hp→VK→Prop) (t:TA):TE:=fun σ H Q=>t σ H fun vs H1=>r vs H1 Q
theorem pe_callB (hc:CallR X (.builtin id) r) (hg:Gl X x) (hm:X.mg x=none) (hv:bootBuiltins x=some (.builtin id)) (ha:PA X (e :: es) t) (hn:x ≠ "__name__":=by decide) (hdb:(x == ("__debug__":Str))=false:=by decide)
  (he:starEach (e :: es) X.env=(false,eval e X.env) :: starEach es X.env:=by rfl) (hpl:(backTo pos (starEach es X.env)).any (·.1)=false:=by rfl):PE X (.Call (.Name x p) (e :: es) [] pos) (tCB r t):=by
 intro pins s σ H Q I h
 refine wpAny_Call_Name_kw (ld_blt I hg hm hv ?_ hn hdb)
 exact PyProof.Rows.callWith_builtin1 (thn (ha pos pins s σ H _ I h) fun us s1 ⟨vs,H1,I1,r1,q1⟩=>hc pins s1 σ H1 vs us Q I1 r1 q1) he hpl
theorem pe_callTy (hc:CallR X (.type T) r) (hg:Gl X x) (hm:X.mg x=none) (hv:bootBuiltins x=some (.type T)) (ha:PA X (e :: es) t) (hn:x ≠ "__name__":=by decide) (hdb:(x == ("__debug__":Str))=false:=by decide)
  (he:starEach (e :: es) X.env=(false,eval e X.env) :: starEach es X.env:=by rfl) (hpl:(backTo pos (starEach es X.env)).any (·.1)=false:=by rfl):PE X (.Call (.Name x p) (e :: es) [] pos) (tCB r t):=by
 intro pins s σ H Q I h
 refine wpAny_Call_Name_kw (ld_blt I hg hm hv ?_ hn hdb)
 exact PyProof.Rows.callWith_type1 (thn (ha pos pins s σ H _ I h) fun us s1 ⟨vs,H1,I1,r1,q1⟩=>hc pins s1 σ H1 vs us Q I1 r1 q1) he hpl
end
end L2

namespace HT
open PySem PyProof.Rows

section
open PySem.SeqAt
open PySem.AutoSeq1 (wpAny_loadPart')
open PySem.MeetsSeq PySem.MeetsSeq2 PySem.MeetsSeq3

end

section
variable {prog:Program} {w:World} {A:Around} {E:Value→Shared→Prop} {s:Shared}


def sIx (n d:Nat):Option Int→Nat
 | none=>d
 | some v=>if v < 0 then (v + (n:Int)).toNat else min v.toNat n
theorem sIx_none (n d:Nat):sIx n d none=d:=rfl
theorem sIx_nat (n d k:Nat):sIx n d (some (k:Int))=min k n:=by
 show (if (k:Int) < 0 then ((k:Int) + (n:Int)).toNat else min (k:Int).toNat n)=min k n
 rw [if_neg (by omega),Int.toNat_natCast]
end
end HT

namespace L2
open PySem PySem.Spec PyProof.Rows


abbrev TO:=St→Hp→(Option Int→Hp→Prop)→Prop
def PO (X:Cx) (e:Option Expr) (t:TO):Prop :=
 ∀ (pins:List (Addr × Obj)) (s:Shared) (σ:St) (H:Hp) (Q:Option Int→Hp→Prop),Inv X pins σ H s→t σ H Q →
  wpAny (model X.prog X.w) X.A (evalPart e X.env) (fun u s'=>∃ o H',Inv X pins σ H' s'∧IsPart u o∧Q o H') X.xe s
def tNoPart:TO:=fun _ H Q=>Q none H
def tPart (t:TE):TO:=fun σ H Q=>t σ H fun x H1=>∃ i,x=.int i∧Q (some i) H1

theorem intsAre_of {ns:List Int}:∀ {us:List Value},Vals (ns.map V.int) us→IntsAre us ns:=by
 induction ns with
 | nil=>intro us r; rw [List.map_nil] at r; cases r; exact .nil
 | cons n ns ih =>
  intro us r
  rw [List.map_cons] at r
  cases r with
  | cons r1 r2 =>
   obtain ⟨t,e⟩:=r1
   subst e
   exact .cons n t (ih r2)

section
variable {X:Cx} {e:Expr} {te:TE} {lo hi:Option Expr} {tl th:TO} {pos p2:Pos}

theorem po_none:PO X none tNoPart:=by
 intro pins s σ H Q I h
 rw [evalPart_none]
 exact wpAny_pure ⟨none,H,I,.none,h⟩
theorem po_some (h:PE X e te):PO X (some e) (tPart te):=by
 intro pins s σ H Q I hw
 rw [evalPart_some]
 refine thn (h pins s σ H _ I hw) fun u s1 ⟨x,H1,I1,r1,q1⟩=>?_
 obtain ⟨i,rfl,q⟩:=q1
 obtain ⟨t,rfl⟩:=r1
 exact ⟨some i,H1,I1,.int i t,q⟩

def SlR (X:Cx) (r:V→Option Int→Option Int→Hp→VK→Prop):Prop :=
 ∀ (pins:List (Addr × Obj)) (s:Shared) (σ:St) (H:Hp) (x:V) (v vl vu:Value) (lo hi:Option Int) (sl:Addr) (Q:VK),Inv X pins σ H s→RelV x v→s.heap.IsSliceOf sl vl vu .none→IsPart vl lo→IsPart vu hi→r x lo hi H Q →
  ∃ T id,typeLookup (.type T) "__getitem__"=pure (some (.builtin id))∧s.TypeIs v T∧wpAny (model X.prog X.w) X.A (getItem v (.ref sl)) (EP X pins σ Q) X.xe s
def tSl (r:V→Option Int→Option Int→Hp→VK→Prop) (te:TE) (tl th:TO):TE:=fun σ H Q=>te σ H fun x H1=>tl σ H1 fun l H2=>th σ H2 fun u H3=>r x l u H3 Q
theorem pe_slice {r:V→Option Int→Option Int→Hp→VK→Prop} (hr:SlR X r) (he:PE X e te) (hl:PO X lo tl) (hu:PO X hi th):PE X (.Subscript e (.Slice lo hi none p2) pos) (tSl r te tl th):=by
 intro pins s σ H Q I h
 refine Subscript_ (thn (he pins s σ H _ I h) fun v s1 ⟨x,H1,I1,r1,q1⟩=>?_)
 refine wpAny_Slice (thn (hl pins s1 σ H1 _ I1 q1) fun vl s2 ⟨l,H2,I2,pl,q2⟩=>thn (hu pins s2 σ H2 _ I2 q2) fun vu s3 ⟨u,H3,I3,pu,q3⟩=>?_)
 rw [evalPart_none]
 refine wpAny_pure ?_
 have I4:Inv X pins σ H3 { s3 with heap:=s3.heap.push { cls:=.type "slice",data:=.fields #[vl,vu,.none] } }:=I3.kept (t':=s3.toks) fun b ob q=>Heap.get?_push_of_some _ q
 obtain ⟨T,id,hT,ht,hg⟩:=hr pins { s3 with heap:=s3.heap.push { cls:=.type "slice",data:=.fields #[vl,vu,.none] } } σ H3 x v vl vu l u s3.heap.objs.size Q I4 r1 (Heap.IsSliceOf.new ..) pl pu q3
 show wpAny (model X.prog X.w) X.A (subscriptTail e (.Slice lo hi none p2) v (.ref s3.heap.objs.size)) (EP X pins σ Q) X.xe { s3 with heap:=s3.heap.push { cls:=.type "slice",data:=.fields #[vl,vu,.none] } }
 exact tail_any (ops:=[.ref s3.heap.objs.size,v]) ht hT hg (by with_unfolding_all rfl)

def cutV (xs:List V) (lo hi:Option Int):List V:=(xs.drop (HT.sIx xs.length 0 lo)).take (HT.sIx xs.length xs.length hi - HT.sIx xs.length 0 lo)
theorem cutV_length (xs:List V) (lo hi:Option Int):(cutV xs lo hi).length ≤ xs.length:=by
 unfold cutV
 rw [List.length_take,List.length_drop]
 omega
def rSlT (K:PySem.W.Frag):V→Option Int→Option Int→Hp→VK→Prop:=fun x lo hi H Q=>∃ a xs,x=.ref a∧SqT K H a xs ∧
 ¬ (HT.sIx xs.length 0 lo=0∧HT.sIx xs.length xs.length hi=xs.length)∧∀ p,H p=none→Q (.ref p) (upd H p (.tup (cutV xs lo hi)))

end
end L2

namespace L2
open PySem PySem.Spec PyProof.Rows


def ixN (n:Nat) (i:Int):Option Nat:=if 0 ≤ i then (if i < n then some i.toNat else none) else if -(n:Int) ≤ i then some (i + n).toNat else none
def atI {α:Type} (xs:List α) (i:Int):Option α:=(ixN xs.length i).bind fun j=>xs[j]?
theorem ixN_seq {n:Nat} {i:Int} {j:Nat} (h:ixN n i=some j):seqIndex? i n=some j∧j < n∧-(n:Int) ≤ i∧i < n:=by
 unfold ixN at h
 by_cases h0:0 ≤ i
 ·rw [if_pos h0] at h
  by_cases h1:i < n
  ·rw [if_pos h1] at h
   have e:i.toNat=j:=Option.some.inj h
   exact ⟨by rw [seqIndex_of h0 h1,e],by omega,by omega,h1⟩
  ·rw [if_neg h1] at h; cases h
 ·rw [if_neg h0] at h
  by_cases h1:-(n:Int) ≤ i
  ·rw [if_pos h1] at h
   have e:(i + n).toNat=j:=Option.some.inj h
   exact ⟨by rw [seqIndex_neg (by omega) h1,e],by omega,h1,by omega⟩
  ·rw [if_neg h1] at h; cases h
theorem atI_get {α:Type} {xs:List α} {i:Int} {v:α} (h:atI xs i=some v):∃ j,seqIndex? i xs.length=some j∧xs[j]?=some v∧j < xs.length∧-(xs.length:Int) ≤ i∧i < xs.length:=by
 unfold atI at h
 cases e:ixN xs.length i with
 | none=>rw [e] at h; cases h
 | some j =>
  rw [e] at h
  obtain ⟨h1,h2,h3,h4⟩:=ixN_seq e
  exact ⟨j,h1,h,h2,h3,h4⟩
theorem atI_nat {α:Type} {xs:List α} {j:Nat} {v:α} (h:xs[j]?=some v):atI xs (j:Int)=some v:=by
 have hj:j < xs.length:=(List.getElem?_eq_some_iff.mp h).1
 have e:ixN xs.length (j:Int)=some j:=by
  unfold ixN
  rw [if_pos (by omega),if_pos (by omega)]; simp
 unfold atI; rw [e]; exact h
theorem atI_last {α:Type} (xs:List α) (v:α):atI (xs ++ [v]) (-1)=some v:=by
 have hl:(xs ++ [v]).length=xs.length + 1:=by simp
 have e:ixN (xs ++ [v]).length (-1)=some xs.length:=by
  unfold ixN
  rw [hl,if_neg (by decide),if_pos (by omega)]
  congr 1
  omega
 unfold atI
 rw [e]
 show (xs ++ [v])[xs.length]?=some v
 simp


def PlainIx (b:Expr):Prop:=∀ o i,subscripted b false o i=operate [o,i] (getItem o i)
def IxR (X:Cx) (r:R2):Prop :=
 ∀ (value slice:Expr) (pins:List (Addr × Obj)) (s:Shared) (σ:St) (H:Hp) (x y:V) (v u:Value) (Q:VK),Inv X pins σ H s→RelV x v→RelV y u→r x y H Q →
  subscripted slice false v u=operate [v,u] (getItem v u)→wpAny (model X.prog X.w) X.A (subscriptTail value slice v u) (EP X pins σ Q) X.xe s
def MtR (X:Cx) (id:String) (r:V→List V→Hp→VK→Prop):Prop :=
 ∀ (pins:List (Addr × Obj)) (s:Shared) (σ:St) (H:Hp) (x:V) (xs:List V) (v:Value) (us:List Value) (Q:VK),Inv X pins σ H s→RelV x v→Vals xs us→r x xs H Q →
  wpAny (model X.prog X.w) X.A (call (.builtin id) (v :: us)) (EP X pins σ Q) X.xe s
section
variable {X:Cx} {a b:Expr} {ta tb:TE} {pos:Pos}
theorem pe_ix {r:R2} (hr:IxR X r) (ha:PE X a ta) (hb:PE X b tb) (hs:PlainIx b):PE X (.Subscript a b pos) (tOp r ta tb):=by
 intro pins s σ H Q I h
 exact Subscript_ (binT ha hb I h fun v u s2 x y H2 I2 rx ry q=>hr a b pins s2 σ H2 x y v u Q I2 rx ry q (hs _ _))

def rIxL (K:PySem.W.Frag):R2:=fun x y H Q=>∃ p xs i v,x=.ref p∧y=.int i∧SqL K H p xs∧atI xs i=some v∧Q v H
def rIxT (K:PySem.W.Frag):R2:=fun x y H Q=>∃ p xs i v,x=.ref p∧y=.int i∧SqT K H p xs∧atI xs i=some v∧Q v H
def rIxS:R2:=fun x y H Q=>∃ z i c,x=.str z∧y=.int i∧z.length ≤ sizeLine∧atI z.cps.toList i=some c∧Q (.str ⟨#[c]⟩) H
theorem ix_list:IxR X (rIxL X.K):=by
 intro value slice pins s σ H x y v u Q I rx ry h hs
 obtain ⟨p,xs,i,z,rfl,rfl,hq,he,q⟩:=h
 cases rx
 obtain ⟨t,rfl⟩:=ry
 obtain ⟨its,r,pl,hz⟩:=I.list hq
 obtain ⟨j,h1,h2,h3,h4,h5⟩:=atI_get he
 obtain ⟨w,ew,rw'⟩:=r.get h2
 have hl:=r.length
 have hn:=line63
 have fin:EP X pins σ Q w s:=⟨z,H,I,rw',q⟩
 by_cases h0:0 ≤ i
 ·have hj:i.toNat=j:=by
   rw [seqIndex_of h0 h5] at h1
   exact Option.some.inj h1
  exact item_listR pl.isList h0 (by omega) (by rw [hj]; simpa using ew) fin hs
 ·have hj:(i + (its.toArray.size:Int)).toNat=j:=by
   rw [seqIndex_neg (by omega) h4] at h1
   rw [List.size_toArray,← hl]
   exact Option.some.inj h1
  exact subscriptTail_builtinR (x:=w) pl.isList.typeIs slot_list_getitem.lookup
   (wpAny_getItem_list_neg (Q:=fun r s'=>r=w∧EP X pins σ Q r s') pl.isList (by omega) (by rw [List.size_toArray] <;> omega) (by omega) (by rw [hj]; simpa using ew) ⟨rfl,fin⟩) hs
theorem ix_tup:IxR X (rIxT X.K):=by
 intro value slice pins s σ H x y v u Q I rx ry h hs
 obtain ⟨p,xs,i,z,rfl,rfl,hq,he,q⟩:=h
 cases rx
 obtain ⟨t,rfl⟩:=ry
 obtain ⟨its,r,pl,hz⟩:=I.tuple hq
 obtain ⟨j,h1,h2,h3,h4,h5⟩:=atI_get he
 obtain ⟨w,ew,rw'⟩:=r.get h2
 have hl:=r.length
 have hn:=line63
 have fin:EP X pins σ Q w s:=⟨z,H,I,rw',q⟩
 exact subscriptTail_builtinR (x:=w) pl.typeIs slot_tuple_getitem.lookup
  (getItem_tuple (j:=j) (Q:=fun r s'=>r=w∧EP X pins σ Q r s') pl (by omega) (by omega) (by rw [List.size_toArray,← hl]; exact h1) (by simpa using ew) ⟨rfl,fin⟩) hs
theorem ix_str:IxR X rIxS:=by
 intro value slice pins s σ H x y v u Q I rx ry h hs
 obtain ⟨z,i,c,rfl,rfl,hz,he,q⟩:=h
 obtain ⟨t,rfl⟩:=rx
 obtain ⟨t',rfl⟩:=ry
 obtain ⟨j,h1,h2,h3,h4,h5⟩:=atI_get he
 have hl:z.cps.toList.length=z.length:=by simp [Str.length]
 rw [hl] at h1 h4 h5
 have hn:=line63
 exact tail_any (typeIs_str s z t) slot_str_getitem.lookup (getItem_str (c:=c) (by
  have e1:decide (i < -(2 ^ 63:Int))=false:=decide_eq_false (by omega)
  have e2:decide (i ≥ 2 ^ 63)=false:=decide_eq_false (by omega)
  rw [e1,e2,Bool.or_false]) (by rw [h1]; simpa using h2) ⟨.str ⟨#[c]⟩,H,I.tok _,⟨_,rfl⟩,q⟩) hs

theorem mapSeq_set (its:List Value) (n j:Nat) (u:Value):Obj.mapSeq (·.setIfInBounds j u) { cls:=.type "list",data:=.seq its.toArray n }={ cls:=.type "list",data:=.seq (its.set j u).toArray n }:=by
 simp [Obj.mapSeq]
theorem Inv.lst {pins:List (Addr × Obj)} {σ:St} {H:Hp} {s:Shared} {p:Addr} {xs:List V} (I:Inv X pins σ H s) (h:H p=some (.lst xs)) :
  ∃ (its:List Value) (n:Nat),Vals xs its∧s.heap.get? p=some { cls:=.type "list",data:=.seq its.toArray n }∧xs.length ≤ sizeLine:=by
 obtain ⟨z,its,n,r,e⟩:=I.hok p _ h
 exact ⟨its,n,r,e,z⟩
theorem Inv.lstUpd {pins:List (Addr × Obj)} {σ:St} {H:Hp} {s:Shared} {p:Addr} {xs ys:List V} {its its':List Value} {n n':Nat} {f:Obj→Obj} (I:Inv X pins σ H s) (h:H p=some (.lst xs))
  (ho:s.heap.get? p=some { cls:=.type "list",data:=.seq its.toArray n }) (hf:f { cls:=.type "list",data:=.seq its.toArray n }={ cls:=.type "list",data:=.seq its'.toArray n' }) (r:Vals ys its') (hz:ys.length ≤ sizeLine) (t:Nat) :
  Inv X pins σ (upd H p (.lst ys)) { s with heap:=s.heap.update p f,toks:=t }:=by
 have e:(s.heap.update p f).get? p=some { cls:=.type "list",data:=.seq its'.toArray n' }:=by
  rw [Heap.get?_update_self f ho (by rw [hf] <;> rfl),hf]
 refine I.write (x:=p) (e:=p) (by rw [h]; trivial) (.inl rfl) (fun b u hb q=>(Heap.get?_update_other _ _ (Ne.symm hb)).trans q) ⟨_,e⟩ ?_
 exact ⟨hz,its',n',r,e⟩
def rSetL:V→V→V→Hp→(Hp→Prop)→Prop:=fun o i v H Q=>∃ p xs k j,o=.ref p∧i=.int k∧H p=some (.lst xs)∧ixN xs.length k=some j∧Q (upd H p (.lst (xs.set j v)))
theorem set_list:PSet X rSetL:=by
 intro pins s σ H o i v ov iv u Q I ro ri rv h
 obtain ⟨p,xs,k,j,rfl,rfl,hp,hj,q⟩:=h
 cases ro
 obtain ⟨t,rfl⟩:=ri
 obtain ⟨its,n,r,ho,hz⟩:=I.lst hp
 obtain ⟨h1,h2,h3,h4⟩:=ixN_seq hj
 have hl:=r.length
 have hn:=line63
 have I':Inv X pins σ (upd H p (.lst (xs.set j v))) { s with heap:=s.heap.update p (Obj.mapSeq (·.setIfInBounds j u)) } :=
  I.lstUpd hp ho (mapSeq_set its n j u) (r.set rv j) (by rw [List.length_set]; exact hz) s.toks
 by_cases h0:0 ≤ k
 ·have hk:k.toNat=j:=by
   rw [seqIndex_of h0 h4] at h1
   exact Option.some.inj h1
  exact PySem.W.ki_setAt ho h0 (by omega) (by rw [List.size_toArray,← hl]; exact h4) (by rw [hk]; exact ⟨_,I',q⟩)
 ·have hk:(k + (its.toArray.size:Int)).toNat=j:=by
   rw [seqIndex_neg (by omega) h3] at h1
   rw [List.size_toArray,← hl]
   exact Option.some.inj h1
  exact PySem.W.ki_setBack ho (by omega) (by rw [List.size_toArray,← hl]; exact h3) (by omega) (by rw [hk]; exact ⟨_,I',q⟩)


theorem slice_bounds (lo hi:Option Int) (n:Nat):(sliceBounds lo hi none n).1=((HT.sIx n 0 lo:Nat):Int)∧(sliceBounds lo hi none n).2.1=((HT.sIx n n hi:Nat):Int)∧(sliceBounds lo hi none n).2.2=1:=by
 refine ⟨?_,?_,rfl⟩
 ·cases lo with
  | none=>simp [sliceBounds,HT.sIx]
  | some i =>
   simp only [sliceBounds,HT.sIx,Option.getD_none,show (1:Int) > 0 by decide,if_true]
   by_cases h:i < 0
   ·simp only [h,if_true] <;> omega
   ·simp only [h,if_false] <;> omega
 ·cases hi with
  | none=>simp [sliceBounds,HT.sIx]
  | some i =>
   simp only [sliceBounds,HT.sIx,Option.getD_none,show (1:Int) > 0 by decide,if_true]
   by_cases h:i < 0
   ·simp only [h,if_true] <;> omega
   ·simp only [h,if_false] <;> omega
theorem slicePick_cut (its:List Value) (lo hi:Option Int):slicePick its.toArray lo hi none=((its.drop (HT.sIx its.length 0 lo)).take (HT.sIx its.length its.length hi - HT.sIx its.length 0 lo)).toArray:=by
 obtain ⟨h1,h2,h3⟩:=slice_bounds lo hi its.toArray.size
 unfold slicePick
 rw [h1,h2,h3]
 simp only [sliceRange_one,pick_run,List.size_toArray] <;> rfl
def rSlL (K:PySem.W.Frag):V→Option Int→Option Int→Hp→VK→Prop:=fun x lo hi H Q=>∃ a xs,x=.ref a∧SqL K H a xs∧∀ p,H p=none→Q (.ref p) (upd H p (.lst (cutV xs lo hi)))
theorem sl_list:SlR X (rSlL X.K):=by
 intro pins s σ H x v vl vu lo hi sl Q I rx hs pl pu h
 obtain ⟨a,xs,rfl,hx,q⟩:=h
 cases rx
 obtain ⟨its,r,ht,hz⟩:=I.list hx
 have hlen:=r.length
 refine ⟨"list",_,slot_list_getitem.lookup,ht.isList.typeIs,?_⟩
 refine wpAny_getItem_list_slice ht.isList hs pl pu .none (by simp) ?_ (by rw [List.size_toArray] <;> omega)
 rw [slicePick_cut,← hlen]
 refine ⟨.ref s.heap.objs.size,_,I.laid (t':=s.toks) (o:=.lst (cutV xs lo hi)) (fun b ob q=>Heap.get?_push_of_some _ q) (Nat.le_refl _) ?_,rfl,q _ (I.hok.fresh (Nat.le_refl _))⟩
 exact ⟨Nat.le_trans (cutV_length xs lo hi) hz,_,0,(r.drop (HT.sIx xs.length 0 lo)).take (HT.sIx xs.length xs.length hi - HT.sIx xs.length 0 lo),Heap.get?_push_size _ rfl⟩


def flatV:V→Bool
 | .non=>true
 | .bl _=>true
 | .int _=>true
 | .str _=>true
 | _=>false
def eqV:V→V→Bool
 | .non,.non=>true
 | .bl a,.bl b=>a == b
 | .bl a,.int b=>(if a then 1 else 0) == b
 | .int a,.bl b=>a == (if b then 1 else 0)
 | .int a,.int b=>a == b
 | .str a,.str b=>a == b
 | _,_=>false
theorem eqAt_V {A:Around} {s:Shared} {y x:V} {u v:Value} (ry:RelV y u) (rx:RelV x v) (fy:flatV y=true) (fx:flatV x=true):SeqAt.EqAt A s u v (eqV y x):=by
 cases y with
 | non =>
  cases ry
  cases x with
  | non=>cases rx; exact SeqAt.EqAt.same _
  | bl b=>cases rx; exact SeqAt.EqAt.none_bool b
  | int b=>obtain ⟨t,rfl⟩:=rx; exact SeqAt.EqAt.none_int b t
  | str b=>obtain ⟨t,rfl⟩:=rx; exact SeqAt.EqAt.none_str b t
  | _=>exact absurd (show false=true from fx) Bool.false_ne_true
 | bl a =>
  cases ry
  cases x with
  | non=>cases rx; exact SeqAt.EqAt.bool_none a
  | bl b=>cases rx; exact SeqAt.EqAt.bool_bool a b
  | int b=>obtain ⟨t,rfl⟩:=rx; exact SeqAt.EqAt.bool_int a b t
  | str b=>obtain ⟨t,rfl⟩:=rx; exact SeqAt.EqAt.bool_str a b t
  | _=>exact absurd (show false=true from fx) Bool.false_ne_true
 | int a =>
  obtain ⟨t',rfl⟩:=ry
  cases x with
  | non=>cases rx; exact SeqAt.EqAt.int_none a t'
  | bl b=>cases rx; exact SeqAt.EqAt.int_bool a t' b
  | int b=>obtain ⟨t,rfl⟩:=rx; exact SeqAt.EqAt.int_int a t' b t
  | str b=>obtain ⟨t,rfl⟩:=rx; exact SeqAt.EqAt.int_str a t' b t
  | _=>exact absurd (show false=true from fx) Bool.false_ne_true
 | str a =>
  obtain ⟨t',rfl⟩:=ry
  cases x with
  | non=>cases rx; exact SeqAt.EqAt.str_none a t'
  | bl b=>cases rx; exact SeqAt.EqAt.str_bool a t' b
  | int b=>obtain ⟨t,rfl⟩:=rx; exact SeqAt.EqAt.str_int a t' b t
  | str b=>obtain ⟨t,rfl⟩:=rx; exact SeqAt.EqAt.str_str a t' b t
  | _=>exact absurd (show false=true from fx) Bool.false_ne_true
 | _=>exact absurd (show false=true from fy) Bool.false_ne_true
def eqU (x:V) (u:Value):Bool:=match u with
 | .none=>eqV .non x
 | .bool b=>eqV (.bl b) x
 | .int i _=>eqV (.int i) x
 | .str z _=>eqV (.str z) x
 | _=>false
theorem eqU_of {x y:V} {u:Value} (r:RelV y u) (f:flatV y=true):eqU x u=eqV y x:=by
 cases y with
 | non=>cases r; rfl
 | bl b=>cases r; rfl
 | int i=>obtain ⟨t,rfl⟩:=r; rfl
 | str z=>obtain ⟨t,rfl⟩:=r; rfl
 | _=>exact absurd (show false=true from f) Bool.false_ne_true
theorem any_eqU {x:V}:∀ {xs:List V} {us:List Value},Vals xs us→xs.all flatV=true→us.any (eqU x)=xs.any fun y=>eqV y x
 | _,_,.nil,_=>rfl
 | y :: xs,u :: us,.cons r t,f=>by
  rw [List.all_cons,Bool.and_eq_true] at f
  rw [List.any_cons,List.any_cons,eqU_of r f.1,any_eqU t f.2]
theorem mem_eqAt {A:Around} {s:Shared} {x:V} {v:Value} (rx:RelV x v) (fx:flatV x=true):∀ {xs:List V} {us:List Value},Vals xs us→xs.all flatV=true→∀ u ∈ us,SeqAt.EqAt A s u v (eqU x u)
 | _,_,.nil,_=>fun u hu=>by cases hu
 | y :: xs,u :: us,.cons r t,f=>fun u' hu=>by
  rw [List.all_cons,Bool.and_eq_true] at f
  rcases List.mem_cons.mp hu with rfl | hu
  ·rw [eqU_of r f.1]; exact eqAt_V r rx f.1 fx
  ·exact mem_eqAt rx fx t f.2 u' hu
def inV (x:V) (xs:List V):Bool:=xs.any fun y=>eqV y x
def rIn (K:PySem.W.Frag) (neg:Bool):R2:=fun x y H Q=>∃ p xs,y=.ref p∧(SqL K H p xs∨SqT K H p xs)∧flatV x=true∧xs.all flatV=true∧Q (.bl (if neg then !inV x xs else inV x xs)) H
theorem op_in_seq:OpR X (compareOp .In) (rIn X.K false):=by
 intro pins s σ H x y v u Q I rx ry h
 obtain ⟨p,xs,rfl,hq,fx,fs,q⟩:=h
 cases ry
 rcases hq with hq | hq
 ·obtain ⟨its,r,pl,hz⟩:=I.list hq
  refine SeqAt.in_listAt (eqU x) pl.isList (fun w hw=>mem_eqAt rx fx r fs w (by simpa using hw)) ⟨.bl _,H,I,rfl,?_⟩
  rw [show its.toArray.any (eqU x)=its.any (eqU x) by simp,any_eqU r fs]
  exact q
 ·obtain ⟨its,r,pl,hz⟩:=I.tuple hq
  refine SeqAt.in_tupleAt (eqU x) pl (fun w hw=>mem_eqAt rx fx r fs w (by simpa using hw)) ⟨.bl _,H,I,rfl,?_⟩
  rw [show its.toArray.any (eqU x)=its.any (eqU x) by simp,any_eqU r fs]
  exact q
theorem op_notIn_seq:OpR X (compareOp .NotIn) (rIn X.K true):=by
 intro pins s σ H x y v u Q I rx ry h
 obtain ⟨p,xs,rfl,hq,fx,fs,q⟩:=h
 cases ry
 rcases hq with hq | hq
 ·obtain ⟨its,r,pl,hz⟩:=I.list hq
  refine SeqAt.notIn_listAt (eqU x) pl.isList (fun w hw=>mem_eqAt rx fx r fs w (by simpa using hw)) ⟨.bl _,H,I,rfl,?_⟩
  rw [show its.toArray.any (eqU x)=its.any (eqU x) by simp,any_eqU r fs]
  exact q
 ·obtain ⟨its,r,pl,hz⟩:=I.tuple hq
  refine SeqAt.notIn_tupleAt (eqU x) pl (fun w hw=>mem_eqAt rx fx r fs w (by simpa using hw)) ⟨.bl _,H,I,rfl,?_⟩
  rw [show its.toArray.any (eqU x)=its.any (eqU x) by simp,any_eqU r fs]
  exact q

theorem call_len_seq:CallR X (.builtin "len") (fun xs H Q=>∃ p ys,xs=[.ref p]∧(SqL X.K H p ys∨SqT X.K H p ys)∧Q (.int ys.length) H):=by
 intro pins s σ H xs us Q I r h
 obtain ⟨p,ys,rfl,hq,q⟩:=h
 obtain ⟨u,rfl,rx⟩:=vals1 r
 cases rx
 have hn:=line63
 rcases hq with hq | hq
 ·obtain ⟨its,r',pl,hz⟩:=I.list hq
  have hlen:=r'.length
  exact Calls.call_len_list pl.isList (by simp only [List.size_toArray] <;> omega) ⟨.int ys.length,H,I.tok _,⟨s.toks + 1,by rw [List.size_toArray,hlen]⟩,q⟩
 ·obtain ⟨its,r',pl,hz⟩:=I.tuple hq
  have hlen:=r'.length
  exact len_tuple pl (by simp only [List.size_toArray] <;> omega) ⟨.int ys.length,H,I.tok _,⟨s.toks + 1,by rw [List.size_toArray,hlen]⟩,q⟩
theorem call_len_str:CallR X (.builtin "len") (fun xs H Q=>∃ z,xs=[.str z]∧z.length ≤ sizeLine∧Q (.int z.length) H):=by
 intro pins s σ H xs us Q I r h
 obtain ⟨z,rfl,hz,q⟩:=h
 obtain ⟨u,rfl,t,rfl⟩:=vals1 r
 have hn:=line63
 exact len_str (by omega) ⟨.int z.length,H,I.tok _,⟨_,rfl⟩,q⟩
theorem call_list_of:CallR X (.type "list") (fun xs H Q=>∃ p ys,xs=[.ref p]∧(SqL X.K H p ys∨SqT X.K H p ys)∧∀ l,H l=none→Q (.ref l) (upd H l (.lst ys))):=by
 intro pins s σ H xs us Q I r h
 obtain ⟨p,ys,rfl,hq,q⟩:=h
 obtain ⟨u,rfl,rx⟩:=vals1 r
 cases rx
 have fin:∀ (its:List Value),Vals ys its→ys.length ≤ sizeLine→∀ (h':Heap) (c':Nat),(∀ b o',s.heap.get? b=some o'→h'.get? b=some o') →
   h'.get? s.heap.objs.size=some { cls:=.type "list",dict:=none,data:=.seq its.toArray c',slots:=#[] }→EP X pins σ Q (.ref s.heap.objs.size) { s with heap:=h' }:=fun its r' hz h' c' kp e =>
  ⟨.ref s.heap.objs.size,_,I.laid (t':=s.toks) kp (Nat.le_refl _) (show ObjOk X.prog X.w _ h' _ (.lst ys) from ⟨hz,its,c',r',e⟩),rfl,q _ (I.hok.fresh (Nat.le_refl _))⟩
 rcases hq with hq | hq
 ·obtain ⟨its,r',pl,hz⟩:=I.list hq
  have hlen:=r'.length
  obtain ⟨o,ho,hc,n,hd⟩:=pl.isList
  exact call_list_seq p (.inl rfl) ho hc hd (fun h' c' kp e=>fin its r' hz h' c' kp e) (by simp only [List.size_toArray] <;> omega)
 ·obtain ⟨its,r',pl,hz⟩:=I.tuple hq
  have hlen:=r'.length
  obtain ⟨o,ho,hc,n,hd⟩:=pl
  exact call_list_seq p (.inr rfl) ho hc hd (fun h' c' kp e=>fin its r' hz h' c' kp e) (by simp only [List.size_toArray] <;> omega)
theorem call_tuple_of:CallR X (.type "tuple") (fun xs H Q=>∃ p ys,xs=[.ref p]∧((SqL X.K H p ys∧∀ l,H l=none→Q (.ref l) (upd H l (.tup ys)))∨(SqT X.K H p ys∧Q (.ref p) H))):=by
 intro pins s σ H xs us Q I r h
 obtain ⟨p,ys,rfl,h⟩:=h
 obtain ⟨u,rfl,rx⟩:=vals1 r
 cases rx
 rcases h with ⟨hq,q⟩ | ⟨hq,q⟩
 ·obtain ⟨its,r',pl,hz⟩:=I.list hq
  have hlen:=r'.length
  refine call_tuple_list pl.isList (fun h' kp=>?_) (by simp only [List.size_toArray] <;> omega)
  have I1:Inv X pins σ H { s with heap:=h' }:=I.kept (t':=s.toks) kp
  have I2:Inv X pins σ (upd H h'.objs.size (.tup ys)) { s with heap:=h'.push { cls:=.type "tuple",data:=.seq its.toArray } } :=
   I1.laid (t':=s.toks) (fun b o e=>Heap.get?_push_of_some _ e) (Nat.le_refl _) (show ObjOk X.prog X.w _ _ _ (.tup ys) from ⟨hz,its,r',IsTq.new _ _⟩)
  exact ⟨.ref h'.objs.size,_,I2,rfl,q _ (I1.hok.fresh (Nat.le_refl _))⟩
 ·obtain ⟨its,r',pl,hz⟩:=I.tuple hq
  exact call_tuple_same pl ⟨.ref p,H,I,rfl,q⟩


def tyV (K:PySem.W.Frag) (T:String) (x:V) (H:Hp):Prop:=match x with
 | .str _=>T="str"
 | .int _=>T="int"
 | .ref p=>(T="list"∧∃ xs,SqL K H p xs)∨(T="tuple"∧∃ o,K.lookup p=some o∧o.cls=.type "tuple"∧o.dict=none) ∨
   (T="dict"∧((∃ kvs,H p=some (.dK kvs))∨∃ kvs,H p=some (.dT kvs)))∨(T="set"∧∃ S n,H p=some (.set S n))
 | _=>False
theorem tyV_is {pins:List (Addr × Obj)} {σ:St} {H:Hp} {s:Shared} {T:String} {x:V} {v:Value} (I:Inv X pins σ H s) (r:RelV x v) (ty:tyV X.K T x H) :
  s.TypeIs v T∧∀ a,v=.ref a→∃ ob,s.heap.get? a=some ob∧ob.dict=none:=by
 cases x with
 | str z =>
  obtain ⟨t,rfl⟩:=r
  cases (show T="str" from ty)
  exact ⟨typeIs_str s z t,fun _ e=>nomatch e⟩
 | int i =>
  obtain ⟨t,rfl⟩:=r
  cases (show T="int" from ty)
  exact ⟨typeIs_int s i t,fun _ e=>nomatch e⟩
 | ref p =>
  cases r
  rcases ty with ⟨rfl,xs,hq⟩ | ⟨rfl,o,hk,hc,hd⟩ | ⟨rfl,hk⟩ | ⟨rfl,S,n,hk⟩
  ·obtain ⟨its,_,pl,_⟩:=I.list hq
   refine ⟨pl.isList.typeIs,fun a e=>?_⟩
   cases e
   obtain ⟨o,n,e,c,hd,_⟩:=pl
   exact ⟨o,e,hd⟩
  ·refine ⟨⟨o,I.kIn p o hk,hc⟩,fun a e=>?_⟩
   cases e
   exact ⟨o,I.kIn _ o hk,hd⟩
  ·have z:∃ o,s.heap.get? p=some o∧o.ExactDict:=by
    rcases hk with ⟨kvs,hk⟩ | ⟨kvs,hk⟩
    ·obtain ⟨_,_,_,_,o,_,_,e,ex,_⟩:=I.hok p _ hk
     exact ⟨o,e,ex⟩
    ·obtain ⟨_,_,_,_,o,_,_,e,ex,_⟩:=I.hok p _ hk
     exact ⟨o,e,ex⟩
   obtain ⟨o,e,ex⟩:=z
   refine ⟨⟨o,e,ex.1⟩,fun a e2=>?_⟩
   cases e2
   exact ⟨o,e,ex.2.1⟩
  ·obtain ⟨o,_,_,_,e,ex,_⟩:=I.hok p _ hk
   refine ⟨⟨o,e,ex.1⟩,fun a e2=>?_⟩
   cases e2
   exact ⟨o,e,ex.2.1⟩
 | _=>exact False.elim ty
def tBM0 (K:PySem.W.Frag) (T:String) (r:V→List V→Hp→VK→Prop) (to:TE):TE:=fun σ H Q=>to σ H fun x H1=>tyV K T x H1∧r x [] H1 Q
def tBM (K:PySem.W.Frag) (T:String) (r:V→List V→Hp→VK→Prop) (to:TE) (t:TA):TE:=fun σ H Q=>to σ H fun x H1=>tyV K T x H1∧t σ H1 fun xs H2=>r x xs H2 Q
variable {o e:Expr} {es:List Expr} {to:TE} {t:TA} {name:Str} {apos cpos:Pos} {T id:String} {r:V→List V→Hp→VK→Prop}
theorem pe_bm (pa:PlainAttrs T) (slot:Slot T name id) (hty:typeOf (.builtin id)=pure (.type "method_descriptor")) (hm:MtR X id r) (ho:PE X o to) (ha:PA X (e :: es) t)
  (hbase:attributeBase o name X.env (eval o X.env)=eval o X.env:=by rfl)
  (hfew:((backTo cpos (starEach (e :: es) X.env)).all (fun x=>!x.1) && (backToKw cpos (keywordEach [] X.env)).all (fun x=>x.1.isSome)
   && decide ((e :: es).length + ([]:List Keyword).length + (if ([]:List Keyword).isEmpty then 0 else 1) < 30))=true:=by rfl)
  (hline:(apos.endLine == cpos.line)=true:=by rfl) (hs:starEach (e :: es) X.env=(false,eval e X.env) :: starEach es X.env:=by rfl) (hplain:(backTo cpos (starEach es X.env)).any (·.1)=false:=by rfl) :
  PE X (.Call (.Attribute o name apos) (e :: es) [] cpos) (tBM X.K T r to t):=by
 intro pins s σ H Q I h
 refine wpAny_Call_method_late hbase hfew hline rfl (thn (ho pins s σ H _ I h) fun v s1 ⟨x,H1,I1,r1,ty,q1⟩=>?_)
 obtain ⟨h1,h2⟩:=tyV_is I1 r1 ty
 refine ⟨T,id,pa,slot,hty,h1,h2,?_⟩
 have hA:=ha cpos pins s1 σ H1 _ I1 q1
 rw [hs] at hA ⊢
 refine Calls.callWith_builtin (by show (false || (backTo cpos (starEach es X.env)).any (·.1))=false; rw [hplain] <;> rfl) (Calls.evalArgs_plain ?_)
 exact thn hA fun us s2 ⟨vs,H2,I2,r2,q2⟩=>hm pins s2 σ H2 x vs v us Q I2 r1 r2 q2
end
end L2

namespace L2
open PySem PySem.Spec PyProof.Rows

def MtM (X:Cx) (id:String) (r:V→List V→Hp→VK→Prop):Prop :=
 ∀ (pins:List (Addr × Obj)) (s:Shared) (σ:St) (H:Hp) (x:V) (xs:List V) (v:Value) (us:List Value) (Q:VK),Inv X pins σ H s→RelV x v→Vals xs us→r x xs H Q →
  wpAny (model X.prog X.w) X.A (call (.builtin id) (v :: us)) (EP X pins σ Q) X.xe s


theorem Vals.one:∀ {x:V} {us:List Value},Vals [x] us→∃ u,us=[u]∧RelV x u
 | _,_,.cons r .nil=>⟨_,rfl,r⟩
theorem Vals.eraseIdx:∀ {xs:List V} {us:List Value} (i:Nat),Vals xs us→Vals (xs.eraseIdx i) (us.eraseIdx i)
 | _,_,_,.nil=>.nil
 | _,_,0,.cons _ t=>t
 | _,_,i + 1,.cons r t=>.cons r (Vals.eraseIdx i t)
theorem len_erase {α:Type}:∀ (l:List α) (i:Nat),(l.eraseIdx i).length ≤ l.length
 | [],_=>Nat.le_refl _
 | _ :: _,0=>Nat.le_succ _
 | _ :: r,i + 1=>Nat.succ_le_succ (len_erase r i)
section
variable {X:Cx} {pins:List (Addr × Obj)} {σ:St} {H:Hp} {s:Shared} {l b:Addr} {xs ys zs:List V}


theorem Inv.lset {its its':List Value} {n:Nat} {f:Array Value→Array Value} {t':Nat} (I:Inv X pins σ H s) (hH:H l=some (.lst xs))
  (e:s.heap.get? l=some { cls:=.type "list",data:=.seq its.toArray n }) (hf:f its.toArray=its'.toArray) (hv:Vals ys its') (hz:ys.length ≤ sizeLine) :
  Inv X pins σ (upd H l (.lst ys)) { s with heap:=s.heap.update l (Obj.mapSeq f),toks:=t' }:=by
 have q:=PySem.IsL.update e f
 rw [hf] at q
 refine I.write (x:=l) (e:=l) (by rw [hH]; exact trivial) (.inl rfl) (fun b' u hb hu=>(Heap.get?_update_other s.heap (Obj.mapSeq f) (Ne.symm hb)).trans hu) ⟨_,q⟩ ?_
 exact ⟨hz,its',_,hv,q⟩
theorem Inv.lnew {its:List Value} {t':Nat} (I:Inv X pins σ H s) (hv:Vals ys its) (hz:ys.length ≤ sizeLine) :
  Inv X pins σ (upd H s.heap.objs.size (.lst ys)) { s with heap:=s.heap.push { cls:=.type "list",data:=.seq its.toArray },toks:=t' } :=
 I.laid (fun _ _ q=>Heap.get?_push_of_some _ q) (Nat.le_refl _) ⟨hz,its,0,hv,Heap.get?_push_size _ rfl⟩
theorem Inv.fresh (I:Inv X pins σ H s):H s.heap.objs.size=none:=I.hok.fresh (Nat.le_refl _)
theorem Inv.lstM (I:Inv X pins σ H s) (hH:H l=some (.lst xs)):xs.length ≤ sizeLine∧∃ (its:List Value) (n:Nat),Vals xs its∧xs.length=its.length∧s.heap.get? l=some { cls:=.type "list",data:=.seq its.toArray n }:=by
 obtain ⟨z,its,n,r,e⟩:=I.hok l _ hH
 exact ⟨z,its,n,r,r.length,e⟩

theorem notLongL {n:Nat} (h:n ≤ sizeLine):Builtin.List.listTooLong n=false:=by
 unfold Builtin.List.listTooLong
 exact decide_eq_false (by omega)
end

section
variable {X:Cx}


def rAppend:V→List V→Hp→VK→Prop:=fun x vs H Q=>∃ l xs y,x=.ref l∧vs=[y]∧H l=some (.lst xs)∧xs.length < sizeLine∧Q .non (upd H l (.lst (xs ++ [y])))
theorem mt_append:MtM X "list.append" rAppend:=by
 intro pins s σ H x vs v us Q I rx rv h
 obtain ⟨l,xs,y,rfl,rfl,hH,hz,q⟩:=h
 cases rx
 obtain ⟨u,rfl,ru⟩:=rv.one
 obtain ⟨z,its,n,r,hl,e⟩:=I.lstM hH
 refine call_meets F.slot_list_append ⟨_,e,rfl⟩ F.entry_list_append (F.args_list_append_2 _ _) (PySem.list_append l its.toArray n u (by rw [List.size_toArray]; omega)) ⟨e,?_⟩
 refine ⟨.non,_,I.lset (its':=its ++ [u]) hH e (by simp) (r.append (.cons ru .nil)) ?_,rfl,q⟩
 rw [List.length_append,List.length_singleton]
 omega

def rExtend:V→List V→Hp→VK→Prop:=fun x vs H Q=>∃ l b xs zs,x=.ref l∧vs=[.ref b]∧H l=some (.lst xs)∧H b=some (.lst zs)∧xs.length + zs.length ≤ sizeLine∧Q .non (upd H l (.lst (xs ++ zs)))
theorem mt_extend:MtM X "list.extend" rExtend:=by
 intro pins s σ H x vs v us Q I rx rv h
 obtain ⟨l,b,xs,zs,rfl,rfl,hH,hB,hz,q⟩:=h
 cases rx
 obtain ⟨u,rfl,ru⟩:=rv.one
 cases ru
 obtain ⟨z,its,n,r,hl,e⟩:=I.lstM hH
 obtain ⟨z2,its2,n2,r2,hl2,e2⟩:=I.lstM hB
 have hsz:its.toArray.size + its2.toArray.size ≤ sizeLine:=by rw [List.size_toArray,List.size_toArray]; omega
 have hlong:¬ (!its.toArray.isEmpty && Builtin.List.listTooLong (its.toArray.size + its2.toArray.size))=true:=by
  rw [notLongL hsz,Bool.and_false]
  exact Bool.false_ne_true
 refine call_meets F.slot_list_extend ⟨_,e,rfl⟩ F.entry_list_extend (F.args_list_extend_2 _ _)
  (AutoSeq1.list_extend_list_list_0 l its.toArray n b its2.toArray n2 hlong (by rw [List.size_toArray]; omega) (by omega)) ⟨e,e2,?_⟩
 refine ⟨.non,_,I.lset (its':=its ++ its2) hH e (by simp) (r.append r2) ?_,rfl,q⟩
 rw [List.length_append]
 omega

def rPopAt:V→List V→Hp→VK→Prop:=fun x vs H Q=>∃ l xs i k y,x=.ref l∧vs=[.int i]∧H l=some (.lst xs)∧-(2 ^ 63) ≤ i∧i < 2 ^ 63∧seqIndex? i xs.length=some k∧xs[k]?=some y∧Q y (upd H l (.lst (xs.eraseIdx k)))
theorem mt_popAt:MtM X "list.pop" rPopAt:=by
 intro pins s σ H x vs v us Q I rx rv h
 obtain ⟨l,xs,i,k,y,rfl,rfl,hH,h1,h2,hk,hy,q⟩:=h
 cases rx
 obtain ⟨u,rfl,ru⟩:=rv.one
 obtain ⟨t,rfl⟩:=ru
 obtain ⟨z,its,n,r,hl,e⟩:=I.lstM hH
 obtain ⟨w,hw,rw'⟩:=r.get hy
 refine call_meets F.slot_list_pop ⟨_,e,rfl⟩ F.entry_list_pop (F.args_list_pop_2 _ _)
  (MeetsSeq.list_pop_at l its.toArray n i t k w (fitsIndex_both h1 h2) (by rw [List.size_toArray,← hl]; exact hk) (by rw [← Array.getElem?_toList]; exact hw) (by rw [List.size_toArray]; omega)) ⟨e,?_⟩
 refine ⟨y,_,I.lset (its':=its.eraseIdx k) hH e ?_ (r.eraseIdx k) ?_,rw',q⟩
 ·show its.toArray.eraseIdxIfInBounds k=(its.eraseIdx k).toArray
  rw [List.eraseIdxIfInBounds_toArray]
 ·have:=len_erase xs k
  omega

def rClear:V→List V→Hp→VK→Prop:=fun x vs H Q=>∃ l xs,x=.ref l∧vs=[]∧H l=some (.lst xs)∧Q .non (upd H l (.lst []))

def rCat:R2:=fun x y H Q=>∃ l b xs zs,x=.ref l∧y=.ref b∧H l=some (.lst xs)∧H b=some (.lst zs)∧xs.length + zs.length ≤ sizeLine∧∀ p,H p=none→Q (.ref p) (upd H p (.lst (xs ++ zs)))
theorem op_cat:OpR X (binaryOp .Add) rCat:=by
 intro pins s σ H x y v u Q I rx ry h
 obtain ⟨l,b,xs,zs,rfl,rfl,hH,hB,hz,q⟩:=h
 cases rx
 cases ry
 obtain ⟨z,its,n,r,hl,e⟩:=I.lstM hH
 obtain ⟨z2,its2,n2,r2,hl2,e2⟩:=I.lstM hB
 refine PySem.P.add_list e e2 ?_ (by rw [List.size_toArray,List.size_toArray]; omega)
 have ea:its.toArray ++ its2.toArray=(its ++ its2).toArray:=by simp
 rw [ea]
 exact ⟨.ref _,_,I.lnew (t':=s.toks) (r.append r2) (by rw [List.length_append]; omega),rfl,q _ I.fresh⟩
def rRep:R2:=fun x y H Q=>∃ l k xs,x=.ref l∧y=.int k∧H l=some (.lst xs)∧-(2 ^ 63) ≤ k∧k < 2 ^ 63∧xs.length * k.toNat ≤ sizeLine ∧
 ∀ p,H p=none→Q (.ref p) (upd H p (.lst (List.replicate k.toNat xs).flatten))

end


section
variable {prog:Program} {w:World} {A:Around} {E:Value→Shared→Prop} {s:Shared}
end

section
variable {X:Cx}
end
end L2

namespace Att
open PySem PySem.W PySem.Calls PyProof.Rows


theorem ints_of_wellAll {P:Params} {h:Heap}:∀ (ns:List Int) (vs:List Value),WellAll P h vs (ns.map WData.int)→IntsAre vs ns:=by
 intro ns
 induction ns with
 | nil =>
  intro vs w
  rw [List.map_nil] at w
  cases w
  exact .nil
 | cons n ns ih =>
  intro vs w
  rw [List.map_cons] at w
  cases w with
  | cons a b =>
   cases a
   exact .cons _ _ (ih _ b)

theorem script_of {l:OpenLaw} {n:Nat} (hn:l.most=some n) {P:Params} {h:Heap} {args:List WData} {vals:List Value}
  (hpre:l.row.toRowW.claim.pre args=true) (hwl:WellAll P h vals args) :
  ∃ a vs ns,vals=[Value.ref a]∧args=[WData.list (ns.map WData.int)]∧h.get? a=some { cls:=.type "list",data:=.seq vs.toArray }∧IntsAre vs ns∧ns.length ≤ n:=by
 have hsh:WShape.hasAll [] args [.list .int]=true:=(pre_splitW hpre).1
 have hc:l.pre.holds [] { args:=args }=true:=(pre_splitW hpre).2
 obtain ⟨d,r,rfl,h1,h2⟩:=hasAllW_cons hsh
 obtain rfl:=hasAllW_nil h2
 obtain ⟨xs,rfl,h3⟩:=hasW_list h1
 obtain ⟨ns,rfl⟩:=items_int h3
 have hlen:ns.length ≤ n:=by
  unfold OpenLaw.pre at hc
  have h4:(WTm.not (.lt (.lit (.int (n:Int))) (.len (.arg 0)))).holds [] { args:=[.list (ns.map .int)] }=true:=by
   have h4:=(holds_andW hc).1
   rw [hn] at h4
   exact h4
  have h5:=condW_of h4 (w_not (w_lt w_lit (w_len_list (w_arg rfl))))
  rw [List.length_map] at h5
  refine Nat.le_of_not_lt fun q=>?_
  have q':(n:Int) < ((ns.length:Nat):Int):=by omega
  first
   | (rw [decide_eq_true q'] at h5; exact absurd h5 (by decide))
   | (simp at h5; omega)
 cases hwl with
 | cons w1 w2 =>
  cases w2
  cases w1 with
  | list ho hall=>exact ⟨_,_,ns,rfl,rfl,ho,ints_of_wellAll ns _ hall,hlen⟩

theorem post_true (l:OpenLaw) (args:List WData):l.row.toRowW.claim.post args (.bool true) args=true :=
 postW_of (r:=l.row.toRowW) (X:=(true == true))
  (show WShape.has [] (.bool true) .bool=true by first | rfl | decide | simp [WShape.has,WShape.arms,WShape.armsAll])
  (show (WTm.eq .res (.lit (.bool true))).value [] { args:=args,res:=some (.bool true),after:=args }=some (.bool (true == true)) from w_eq_bool (w_res rfl) w_lit) rfl


theorem attach_call {l:OpenLaw} {n:Nat} {q:Program} {loose:List Str} {XP:(Str→Option Value)→Heap→Prop} {YP:World→Heap→Prop} {d:DefRec}
  (hn:l.most=some n) (hdf:d.params.defaults=[])
  (call:∀ (w:World) (s₀ s₁:Shared) (mg mb:Str→Option Value) (fa:Addr) (o:Obj) (pm cd doc:Value) (a:Addr) (vs:List Value) (ns:List Int),
   Ground q loose [] XP w s₀ mg mb s₁.heap→YP w s₁.heap →
   s₁.heap.get? fa=some o→o.data=.func (docDef d.name d.params d.body d.scope pm cd doc)→s₁.heap.CodeRec cd d.name→mg d.name=some (.ref fa) →
   s₁.heap.get? a=some { cls:=.type "list",data:=.seq vs.toArray }→IntsAre vs ns→ns.length ≤ n→s₁.gens=#[] →
   codeAny (model l.prog w) callerA (.call (.ref fa) ⟨[.ref a],[]⟩) (fun r s'=>r=.ok (.ret (.bool true))∧OldK s₁.heap s'.heap∧s'.os=s₁.os∧AllBare s'.gens) s₁) :
  WalkO q loose XP YP l.row.toRowW d [] (fun f vs=>PySem.call f vs):=by
 intro w s₀ s₁ mg mb G Y fa o pm cd doc dV kV ho hd hcd hD hmg hg args vals as hpre hlay hrd hwl hlo
 obtain rfl:dV=.none:=Dflts.none hD hdf
 obtain rfl:kV=.none:=Dflts.noKw hD
 obtain ⟨a,vs,ns,rfl,rfl,hobj,hints,hlen⟩:=script_of hn hpre hwl
 refine enter_call (codeAny_mono (call w s₀ s₁ mg mb fa o pm cd doc a vs ns G Y ho (fd_plain hd) hcd hmg hobj hints hlen hg) fun r s' hq=>?_)
 obtain ⟨rfl,h2,h3,h4⟩:=hq
 exact ⟨.inl ⟨.bool true,.bool true,[],rfl,fun _=>rfl,.bool true,post_true l _,fun _=>⟨List.Pairwise.nil,fun _ hm=>(nomatch hm)⟩⟩,h2,h3,h4⟩


section
variable {prog:Program} {w:World} {A:Around} {E:Value→Shared→Prop} {s:Shared} {K:Frag}


def ledger (h:Heap) (L d:Addr):List (Addr × Obj):=(List.range h.objs.size).filterMap fun a=>if a=L∨a=d then none else (h.get? a).map fun o=>(a,o)
end
end Att

namespace L2
open PySem PySem.Spec PyProof.Rows

theorem vals_ints:∀ {vs:List Value} {ns:List Int},IntsAre vs ns→Vals (ns.map V.int) vs
 | _,_,.nil=>.nil
 | _,_,.cons n t h=>.cons ⟨t,rfl⟩ (vals_ints h)

def Only (H:Hp):Prop:=∀ b,H b=none∨∃ o xs,H b=some (.frz o (.lst xs))

theorem law_call {P:Program} {w:World} {K:PySem.W.Frag} {mg mb:Str→Option Value} {CX:CXT} {k:Nat} {fa a:Addr} {fd:FuncData} {x:Str} {sp:Sp} {s₁:Shared} {vs:List Value} {ns:List Int}
  (KX:K.In s₁.heap) (hns:s₁.heap.Ns mainGlobals mg) (hb:s₁.heap.Ns builtinsNs mb) (hbb:∀ x:Str,x ≠ "__name__"→mb x=bootBuiltins x) (hlim:s₁.heap.NoLimit) (hg:s₁.gens=#[])
  (ha:s₁.heap.get? a=some { cls:=.type "list",data:=.seq vs.toArray }) (hi:IntsAre vs ns) (hl:ns.length ≤ sizeLine) (hr:Room k callerA)
  (F:∀ base:Heap,K.In base→base.Ns mainGlobals mg→FnOk P w K mg base CX k fa fd [x] sp) (hbind:∀ (s:Shared) (u:Value),BindsTo s fd ⟨[u],[]⟩ [(x,u)])
  (hsp:∀ H:Hp,Only H→SqL K H a (ns.map V.int)→sp [.ref a] H (fun v _=>v=.bl true) fun _ _ _=>False)
  (hCX:∀ H e s',CX [] H s₁ (fun _ _ _=>False) e s'→False) :
  codeAny (model P w) callerA (.call (.ref fa) ⟨[.ref a],[]⟩) (fun r s'=>r=.ok (.ret (.bool true))∧OldK s₁.heap s'.heap∧s'.os=s₁.os∧AllBare s'.gens) s₁:=by
 have rv:=vals_ints hi
 have lenV:=hi.length
 have core:∀ H:Hp,Only H→SqL K H a (ns.map V.int)→HOk P w H s₁.heap→(∀ b,H b ≠ none→b=a)→(H a ≠ none→K.lookup a=none) →
   codeAny (model P w) callerA (.call (.ref fa) ⟨[.ref a],[]⟩) (fun r s'=>r=.ok (.ret (.bool true))∧OldK s₁.heap s'.heap∧s'.os=s₁.os∧AllBare s'.gens) s₁:=by
  intro H hO hS hok hA hK
  have base_of:∀ {b:Addr} {o:Obj},s₁.heap.get? b=some o→H b=none→(hidT s₁.heap H).get? b=some o:=fun e n=>hidT_get e n
  have noA:∀ {b:Addr} {o:Obj} {es:Array DictEntry} {ep:Nat},s₁.heap.get? b=some o→o.data=.dict es ep→H b=none:=fun {b o es ep} e d=>by
   cases q:H b with
   | none=>rfl
   | some u =>
    have e':b=a:=hA b (by rw [q]; simp)
    subst e'
    rw [ha] at e; cases e
    have d':Data.seq vs.toArray _=Data.dict es ep:=d
    cases d'
  have nsK:∀ {b:Addr} {m:Str→Option Value},s₁.heap.Ns b m→(hidT s₁.heap H).Ns b m:=fun {b m} ⟨o,es,ep,e,d,r⟩=>⟨o,es,ep,base_of e (noA e d),d,r⟩
  have hKb:K.In (hidT s₁.heap H):=fun b o e=>base_of (KX b o e) (by
   cases q:H b with
   | none=>rfl
   | some u =>
    have e':b=a:=hA b (by rw [q]; simp)
    subst e'
    rw [hK (by rw [q]; simp)] at e; cases e)
  have hM:Mod K mg (hidT s₁.heap H):=⟨hKb,nsK hns,⟨mb,nsK hb,hbb⟩,let ⟨mc,h1,h2⟩:=hlim; ⟨mc,nsK h1,h2⟩⟩
  have e0:Env0 P w K mg (hidT s₁.heap H) callerA [] s₁ H:=⟨rfl,hM,fun b o e=>of_hidT e,Nat.le_of_eq (hidT_size _ _),trivial,fun b hb=>absurd (show b ∈ ([]:List Addr) from hb) (by simp),hok,.of_eq hg⟩
  refine codeAny_mono ((F _ hKb (nsK hns)).run callerA [] s₁ H ⟨[.ref a],[]⟩ [.ref a] [.ref a] _ _ hr e0 (hbind s₁ (.ref a)) (.cons rfl .nil) (hsp H hO hS)) fun r s' h=>?_
  cases r with
  | error e=>exact (hCX H e s' h).elim
  | ok fl =>
   cases fl with
   | next=>exact False.elim h
   | brk=>exact False.elim h
   | cont=>exact False.elim h
   | ret u =>
    obtain ⟨v,H',os,bare,un,hok',r',q⟩:=h
    have q':v=.bl true:=q
    subst q'
    obtain rfl:u=Value.bool true:=r'
    refine ⟨rfl,OldK.of_keep fun b o e=>?_,os,bare⟩
    cases q:H b with
    | none=>exact un.keep b o e q (by intro z; exact absurd (show b ∈ ([]:List Addr) from z) (by simp)) (by simp)
    | some u =>
     rcases hO b with z | ⟨ob,xs,z⟩
     ·rw [q] at z; cases z
     ·have z2:=un.frzs b ob _ z
      obtain ⟨e1,_⟩:=hok b _ z
      obtain ⟨e2,_⟩:=hok' b _ z2
      rw [e] at e1; cases e1
      exact e2
 cases hk:K.lookup a with
 | some o =>
  have e:=KX a o hk
  rw [ha] at e
  cases e
  refine core (fun _=>none) (fun _=>.inl rfl) (.inr ⟨_,vs.toArray,_,hk,rfl,rfl,rfl,by rw [List.size_toArray,lenV]; exact hl,by simpa using rv⟩) (fun b u z=>by have z':(none:Option HO)=some u:=z; cases z') (fun b z=>absurd rfl z) fun z=>absurd rfl z
 | none =>
  refine core (fun b=>if b=a then some (.frz { cls:=.type "list",data:=.seq vs.toArray } (.lst (ns.map V.int))) else none) (fun b=>?_) (.inl (.inr ⟨{ cls:=.type "list",data:=.seq vs.toArray },if_pos rfl⟩)) (fun b u z=>?_) (fun b z=>?_) fun _=>hk
  ·by_cases hb:b=a
   ·exact .inr ⟨_,_,if_pos hb⟩
   ·exact .inl (if_neg hb)
  ·by_cases hb:b=a
   ·have z':=(if_pos hb).symm.trans z
    cases z'
    subst hb
    exact ⟨ha,by rw [List.length_map]; exact hl,vs,_,rv,ha⟩
   ·have z':=(if_neg hb).symm.trans z
    cases z'
  ·by_cases hb:b=a
   ·exact hb
   ·exact absurd (if_neg hb) z
end L2

namespace L2
open PySem PySem.Spec PyProof.Rows

theorem walk_of {l:PySem.W.OpenLaw} {n k:Nat} {q:Program} {loose:List Str} {XP:(Str→Option Value)→Heap→Prop} {YP:World→Heap→Prop} {d:DefRec} {K:Params→PySem.W.Frag} {CX:World→CXT} {sp:World→Sp} {x:Str}
  (hn:l.most=some n) (hn2:n ≤ sizeLine) (hdf:d.params.defaults=[]) (hr:Room k callerA)
  (hY:∀ (w:World) (h:Heap),YP w h→(K w.params).In h)
  (F:∀ (w:World) (mg:Str→Option Value) (fa:Addr) (h:Heap),(K w.params).In h→h.Ns mainGlobals mg→mg d.name=some (.ref fa) →
   ∃ fd:FuncData,(∀ (s:Shared) (u:Value),BindsTo s fd ⟨[u],[]⟩ [(x,u)]) ∧
    ∀ base:Heap,(K w.params).In base→base.Ns mainGlobals mg→FnOk l.prog w (K w.params) mg base (CX w) k fa fd [x] (sp w))
  (hsp:∀ (w:World) (H:Hp) (a:Addr) (ns:List Int),ns.length ≤ n→Only H→SqL (K w.params) H a (ns.map V.int)→sp w [.ref a] H (fun v _=>v=.bl true) fun _ _ _=>False)
  (hCX:∀ (w:World) (H:Hp) (s:Shared) (e:Value) (s':Shared),CX w [] H s (fun _ _ _=>False) e s'→False) :
  PySem.W.WalkO q loose XP YP l.row.toRowW d [] (fun f vs=>PySem.call f vs):=by
 refine Att.attach_call hn hdf fun w s₀ s₁ mg mb fa o pm cd doc a vs ns G Y ho hd hcd hmg hobj hints hlen hg=>?_
 have KX:=hY w _ Y
 obtain ⟨fd,hb,hF⟩:=F w mg fa _ KX G.T.g hmg
 exact law_call KX G.T.g G.T.b G.T.builtins G.T.nolimit hg hobj hints (Nat.le_trans hlen hn2) hr hF hb (fun H hO hS=>hsp w H a ns hlen hO hS) fun H e s'=>hCX w H s₁ e s'
end L2


namespace L2
open PySem PySem.Spec PyProof.Rows



abbrev CX0:CXT:=fun _ _ _ _ _ _=>False
abbrev E0:XK:=fun _ _ _=>False
theorem pass0 {X:Cx}:Passes CX0 X E0:=fun _ _ _ _ _ _ _ h=>h.elim


structure Fun (K:PySem.W.Frag) (x qual:Str) (st:Stmt) (f:Addr) (fd:FuncData):Prop where
 ex:∃ (oc:Value) (od:Option Addr) (kV doc pm:Value) (an:Option Addr) (cdv ct:Value) (osl:Array (Option Value)),
  fd=PySem.W.fnOf x qual (defArgs st) (defBody st) (defScope st) .none kV doc pm an cdv ct∧K.lookup f=some ⟨oc,od,.func fd,osl⟩∧PySem.W.codeIn K cdv qual=true
 kp:PySem.W.keepIn K (.ref f)=true
section
variable {P:Program} {w:World} {K:PySem.W.Frag} {mg:Str→Option Value} {base:Heap}
theorem Fun.ok {x qual:Str} {st:Stmt} {f:Addr} {fd:FuncData} {N ps:List Str} {k:Nat} {sp:Sp} (F:Fun K x qual st f fd) (S:FnScope N ps (defScope st)) (len:∀ vs H Q E,sp vs H Q E→vs.length=ps.length)
  (hbody:∀ (cdv:Value) (A:Around) (outer:List Env) (s:Shared) (H:Hp) (vs:List V) (Q:VK) (E:XK),Room k (A.deeper (envOfC qual (defScope st) s.heap.objs.size f cdv))→sp vs H Q E →
   ∃ t,PSs (cxOf CX0 P w K mg base N qual (defScope st) f cdv A outer s H E).nox (defBody st) t∧t { nx:=fun _ H'=>Q .non H',rt:=Q } (start N vs) H):FnOk P w K mg base CX0 (k + 1) f fd ps sp:=by
 obtain ⟨oc,od,kV,doc,pm,an,cdv,ct,osl,rfl,lk,hcd⟩:=F.ex
 refine fn_of lk hcd S len fun A outer s H vs Q E hr hsp=>?_
 obtain ⟨t,h,q⟩:=hbody cdv A outer s H vs Q E hr hsp
 exact ⟨t,h.nox,q⟩
theorem Fun.binds {x qual:Str} {st:Stmt} {f:Addr} {fd:FuncData} {ps:List Str} (F:Fun K x qual st f fd)
  (h:∀ (kV doc pm:Value) (an:Option Addr) (cdv ct:Value) (us:List Value),us.length=ps.length→bindArgs (PySem.W.fnOf x qual (defArgs st) (defBody st) (defScope st) .none kV doc pm an cdv ct) ⟨us,[]⟩=pure (ps.zip us)):Binds K fd ps []:=by
 obtain ⟨oc,od,kV,doc,pm,an,cdv,ct,osl,rfl,lk,hcd⟩:=F.ex
 exact .all (h kV doc pm an cdv ct)
theorem fun_mk {x qual:Str} {st:Stmt} {f:Addr} {oc:Value} {od an:Option Addr} {osl:Array (Option Value)} {kV doc pm cdv ct:Value} (l:K.lookup f=some ⟨oc,od,.func (PySem.W.fnOf x qual (defArgs st) (defBody st) (defScope st) .none kV doc pm an cdv ct),osl⟩)
  (c:PySem.W.codeIn K cdv qual=true) (k:PySem.W.keepIn K (.ref f)=true):Fun K x qual st f (PySem.W.fnOf x qual (defArgs st) (defBody st) (defScope st) .none kV doc pm an cdv ct):=⟨⟨oc,od,kV,doc,pm,an,cdv,ct,osl,rfl,l,c⟩,k⟩
end
theorem hu_of {A:Around} {k:Nat} (hr:Room k A):A.units + 1 < cLine:=Nat.lt_of_le_of_lt (Nat.add_le_add_left (by decide:1 ≤ 64) _) hr.units
theorem small1000 {n:Nat} (h:n ≤ 1000):n < sizeLine:=Nat.lt_of_le_of_lt h (by decide)


section
variable {X:Cx}
theorem pv (i:Nat) {x:Str} {pos:Pos} (hN:X.N[i]?=some x:=by rfl) (hv:Vis X.env.scope x:=by first | exact Or.inl rfl | exact Or.inr (Or.inl rfl) | exact Or.inr (Or.inr rfl)) (hd:(x == ("__debug__":Str))=false:=by decide)
  (hcd:(x == ("__classdict__":Str))=false:=by decide):PE X (.Name x pos) (tVar i):=pe_var hN hv hd hcd
end



def Same (H H':Hp):Prop:=∀ b o,H b=some o→H' b=some o
theorem Same.refl (H:Hp):Same H H:=fun _ _ h=>h
theorem Same.trans {H H1 H2:Hp} (a:Same H H1) (b:Same H1 H2):Same H H2:=fun c o h=>b c o (a c o h)
theorem Same.free {H H':Hp} (e:Same H H') {l:Addr} (h:H' l=Option.none):H l=Option.none:=by
 cases q:H l with
 | none=>rfl
 | some o =>
  rw [e l o q] at h
  cases h
theorem Same.seq {K:PySem.W.Frag} {H H':Hp} {a:Addr} {xs:List V} (e:Same H H') (h:SqL K H a xs):SqL K H' a xs:=by
 rcases h with (h | ⟨o,h⟩) | h
 ·exact .inl (.inl (e _ _ h))
 ·exact .inl (.inr ⟨o,e _ _ h⟩)
 ·exact .inr h

end L2

set_option maxHeartbeats 4000000
namespace L2
open PySem PySem.Spec PyProof.Rows


theorem Inv.adopt {X:Cx} {pins:List (Addr × Obj)} {σ:St} {H:Hp} {s:Shared} {a:Addr} {o:HO} (I:Inv X pins σ H s) (hn:H a=none) (hs:X.s₀.heap.objs.size ≤ a) (hL:a ≠ X.env.locals)
  (hc:∀ x c,X.env.cells.lookup x=some c→c ≠ a) (hp:∀ p ∈ X.pn ++ pins,p.1 ≠ a) (new:ObjOk X.prog X.w (upd H a o) s.heap a o):Inv X pins σ (upd H a o) s:=by
 have lt0:∀ b ob,X.s₀.heap.get? b=some ob→b ≠ a:=fun b ob e=>Nat.ne_of_lt (Nat.lt_of_lt_of_le (Heap.lt_size e) hs)
 refine ⟨I.ok,I.os,I.bare,⟨I.base.keep,I.base.slot,fun b ob e n hx=>?_,I.base.there,fun b xs e=>?_,fun b ob u e=>?_,fun b ps e=>?_⟩,I.loc,I.cell,?_,fun x c e=>?_,fun p hp'=>?_,fun b u e=>?_,I.len⟩
 ·rw [upd_ne (lt0 b ob e)]; exact I.base.free b ob e n hx
 ·have q:=I.base.tups b xs e
  rw [upd_ne (ne_of_none q hn)]; exact q
 ·have q:=I.base.frzs b ob u e
  rw [upd_ne (ne_of_none q hn)]; exact q
 ·obtain ⟨m,q⟩:=I.base.tbls b ps e
  exact ⟨m,by rw [upd_ne (ne_of_none q hn)]; exact q⟩
 ·rw [upd_ne (Ne.symm hL)]; exact I.free
 ·rw [upd_ne (hc x c e)]; exact I.freeC x c e
 ·obtain ⟨e,n,ne,nf,d⟩:=I.pin p hp'
  exact ⟨e,by rw [upd_ne (hp p hp')]; exact n,ne,nf,d⟩
 ·by_cases hb:b=a
  ·subst hb; rw [upd_same] at e; cases e; exact new
  ·rw [upd_ne hb] at e
   exact (I.hok b u e).stay (fun c v _ q=>q) (fun c q=>by rw [upd_ne (ne_of_none q hn)]; exact q) fun c xs q=>by rw [upd_ne (ne_of_none q hn)]; exact q


theorem closure_of {env:Env}:∀ (names:List (Str × NameKind)) (cs:List (Str × Addr)),(∀ y ∈ names,y.2=.free→∃ c,env.cells.lookup y.1=some c) →
  ∃ cl,(forIn names cs fun (x:Str × NameKind) (r:List (Str × Addr))=>(if (x.2 == NameKind.free)=true then do let c ← cellOf env x.1; pure (ForInStep.yield ((x.1,c) :: r)) else pure (ForInStep.yield r):Sem (ForInStep (List (Str × Addr)))))=pure cl ∧
   (∀ y c,cl.lookup y=some c→cs.lookup y=some c∨env.cells.lookup y=some c)∧(∀ y,((y,NameKind.free) ∈ names∨∃ c,cs.lookup y=some c)→∃ c,cl.lookup y=some c)
 | [],cs,_=>⟨cs,rfl,fun _ _ h=>.inl h,fun y h=>h.elim (fun z=>nomatch z) fun z=>z⟩
 | (n,k) :: r,cs,h=>by
  rw [List.forIn_cons]
  by_cases hk:k=.free
  ·subst hk
   obtain ⟨c,hc⟩:=h (n,.free) List.mem_cons_self rfl
   have e:cellOf env n=pure c:=by unfold cellOf; rw [hc]
   obtain ⟨cl,h1,h2,h3⟩:=closure_of (env:=env) r ((n,c) :: cs) fun y hy=>h y (List.mem_cons_of_mem _ hy)
   refine ⟨cl,?_,fun y d hd=>?_,fun y hy=>?_⟩
   ·simp only [beq_self_eq_true,if_true,e,pure_bind]
    exact h1
   ·rcases h2 y d hd with q | q
    ·rw [List.lookup_cons] at q
     by_cases hy:y=n
     ·subst hy
      simp at q
      subst q
      exact .inr hc
     ·have hb:(y == n)=false:=beq_eq_false_iff_ne.mpr hy
      rw [hb] at q
      exact .inl q
    ·exact .inr q
   ·refine h3 y ?_
    rcases hy with hy | ⟨d,hd⟩
    ·rcases List.mem_cons.mp hy with q | q
     ·cases q
      exact .inr ⟨c,by simp⟩
     ·exact .inl q
    ·refine .inr ?_
     rw [List.lookup_cons]
     cases (y == n) with
     | true=>exact ⟨c,rfl⟩
     | false=>exact ⟨d,hd⟩
  ·obtain ⟨cl,h1,h2,h3⟩:=closure_of (env:=env) r cs fun y hy=>h y (List.mem_cons_of_mem _ hy)
   have hb:(k == NameKind.free)=false:=by simpa using hk
   refine ⟨cl,?_,h2,fun y hy=>h3 y ?_⟩
   ·simp only [hb,Bool.false_eq_true,if_false,pure_bind]
    exact h1
   ·rcases hy with hy | hy
    ·rcases List.mem_cons.mp hy with q | q
     ·cases q; exact absurd rfl hk
     ·exact .inl q
    ·exact .inr hy
theorem closureFor_of {env:Env} {scope:Scope} (h:∀ y ∈ scope.names,y.2=.free→∃ c,env.cells.lookup y.1=some c) :
  ∃ cl,closureFor scope env=pure cl∧(∀ y c,cl.lookup y=some c→env.cells.lookup y=some c)∧∀ y,(y,NameKind.free) ∈ scope.names→∃ c,cl.lookup y=some c:=by
 obtain ⟨cl,h1,h2,h3⟩:=closure_of (env:=env) scope.names [] h
 refine ⟨cl,?_,fun y c e=>?_,fun y hy=>h3 y (.inl hy)⟩
 ·unfold closureFor
  show (forIn scope.names [] _ >>= pure)=pure cl
  rw [show (forIn scope.names ([]:List (Str × Addr)) fun (x:Str × NameKind) (r:List (Str × Addr))=>(match x with | (name,kind)=>if (kind == NameKind.free)=true then do let c ← cellOf env name; pure (ForInStep.yield ((name,c) :: r)) else pure (ForInStep.yield r):Sem (ForInStep (List (Str × Addr)))))=pure cl from h1]
  rfl
 ·rcases h2 y c e with q | q
  ·simp at q
  ·exact q
theorem relabel_lookup {scope:Scope} {env:Env} {y:Str} {k:NameKind} (h:(relabel scope env).names.lookup y=some k):scope.names.lookup y=some k∨(k=.cell∧scope.names.lookup y=some .free):=by
 have all:∀ (l:List (Str × NameKind)),(l.map fun (n,k)=>if (k == NameKind.free && env.scope.kind == .function && env.kindOf n == some .cell) then (n,NameKind.cell) else (n,k)).lookup y=some k →
   l.lookup y=some k∨(k=.cell∧l.lookup y=some .free):=by
  intro l
  induction l with
  | nil=>intro h; simp at h
  | cons p r ih =>
   obtain ⟨n,kk⟩:=p
   intro h
   rw [List.map_cons] at h
   by_cases hc:(kk == NameKind.free && env.scope.kind == .function && env.kindOf n == some .cell)=true
   ·dsimp only at h
    rw [if_pos hc,List.lookup_cons] at h
    rw [List.lookup_cons]
    cases hy:(y == n) with
    | true =>
     rw [hy] at h
     have h':some NameKind.cell=some k:=h
     cases h'
     have hk:kk=.free:=by
      have:=(Bool.and_eq_true _ _ |>.mp (Bool.and_eq_true _ _ |>.mp hc).1).1
      simpa using this
     rw [hk]
     exact .inr ⟨rfl,rfl⟩
    | false=>rw [hy] at h; exact ih h
   ·dsimp only at h
    rw [if_neg hc,List.lookup_cons] at h
    rw [List.lookup_cons]
    cases hy:(y == n) with
    | true=>rw [hy] at h; exact .inl h
    | false=>rw [hy] at h; exact ih h
 exact all scope.names h


def PTs (X:Cx) (ifs:List Expr) (t:TT):Prop :=
 ∀ (pins:List (Addr × Obj)) (s:Shared) (σ:St) (H:Hp) (Q:Bool→Hp→Prop),Inv X pins σ H s→t σ H Q →
  wpAny (model X.prog X.w) X.A (forIn ifs true fun c r=>if r=true then do let ok ← isTrue c X.env (eval c X.env); pure (ForInStep.yield ok) else pure (ForInStep.yield r)) (TP X pins σ Q) X.xe s
def tYes:TT:=fun _ H Q=>Q true H
theorem pts_nil {X:Cx}:PTs X [] tYes:=fun _ _ _ H _ I h=>wpAny_tests_nil ⟨H,I,h⟩

def Cx.block (X:Cx) (M:List Str) (scope:Scope) (cl:List (Str × Addr)) (C:Addr) (s₃:Shared) (H₃:Hp) (ex:List Addr):Cx :=
 { X with N:=M ++ X.N,s₀:=s₃,H₀:=H₃,env:=compEnvC scope cl C X.env,outer:=X.stack,stack:=X.stack,ex:=ex,fn:=fun _=>false,xe:=fun _ _=>False }
section
variable {prog:Program} {w:World} {A:Around} {R:Result→Shared→Prop} {s:Shared}
theorem compLoop_any {elt target iter:Expr} {ifs:List Expr} {scope:Scope} {pos:Pos} {it acc:Value} {env:Env} (I:Nat→Shared→Prop)
  (turn:∀ n s,I n s→wpAny (model prog w) A (pyNext it) (fun r s₁=>match r with
   | none=>R (.ok .next) s₁
   | some v=>wpAny (model prog w) A (letOwnedTupleGo target it v) (fun _ s₁'=>wpAny (model prog w) A (assign target env v) (fun _ s₂ =>
     wpAny (model prog w) A (forIn ifs true fun c r=>if r=true then do let ok ← isTrue c env (eval c env); pure (ForInStep.yield ok) else pure (ForInStep.yield r)) (fun ok s₃ =>
      if ok=true then wpAny (model prog w) A (eval elt env) (fun x s₄ =>
       wpAny (model prog w) A (call (.builtin "list.append") [acc,x]) (fun _ s₅=>∃ m,m < n∧I m s₅) (fun _ _=>False) s₄) (fun _ _=>False) s₃
      else ∃ m,m < n∧I m s₃) (fun _ _=>False) s₂) (fun _ _=>False) s₁') (fun _ _=>False) s₁) (fun _ _=>False) s)
  (n:Nat) (h:I n s):codeAny (model prog w) A (.compLoop (.ListComp elt [⟨target,iter,ifs,0⟩] scope pos) 0 it acc env) R s:=by
 refine codeAny_loop rfl I (fun n s hI=>?_) n h
 show wpAny _ A ((compTurn (.ListComp elt [⟨target,iter,ifs,0⟩] scope pos) 0 it acc env).onRaise (fun x=>do noteFrame x env; theTreesLotGoes x)) _ _ s
 refine wpAny_noted ?_
 rw [compTurn_list]
 refine wpAny_bind (wpAny_standAt (wpAny_bind (wpAny_mono (turn n s hI) (fun r s₁ h₁=>?_) fun _ _ h'=>h'.elim)))
 cases r with
 | none=>exact wpAny_pure h₁
 | some v =>
  refine wpAny_bind (wpAny_mono h₁ (fun _ s₁' h₁'=>?_) fun _ _ h'=>h'.elim)
  refine wpAny_bind (wpAny_mono h₁' (fun _ s₂ h₂=>wpAny_bind (wpAny_mono h₂ (fun ok s₃ h₃=>?_) fun _ _ h'=>h'.elim)) fun _ _ h'=>h'.elim)
  cases ok with
  | false=>exact wpAny_pure ⟨rfl,h₃⟩
  | true =>
   exact wpAny_bind (wpAny_bind (wpAny_mono h₃ (fun x s₄ h₄=>wpAny_bind (wpAny_mono h₄ (fun _ s₅ h₅=>wpAny_pure (wpAny_pure ⟨rfl,h₅⟩)) fun _ _ h'=>h'.elim)) fun _ _ h'=>h'.elim))
end
end L2

set_option maxHeartbeats 4000000
namespace L2
open PySem PySem.Spec PyProof.Rows
section
variable {X:Cx} {elt target iter:Expr} {ifs:List Expr} {scope:Scope} {pos:Pos} {M:List Str} {wi:TI} {g:TG} {tt:TT} {te:TE}

theorem Inv.block {pins:List (Addr × Obj)} {σ:St} {H:Hp} {s:Shared} {cl:List (Str × Addr)} {fp:List Addr} {h₁:Heap} {t₁:Nat} {D:Addr} (I:Inv X pins σ H s)
  (hfree:∀ y ∈ scope.names,y.2=.free→(X.env.kindOf y.1=some .cell∨X.env.kindOf y.1=some .free)) (hcell:∀ y ∈ scope.names,y.2 ≠ .cell) (hkind:scope.kind=.function)
  (hN:∀ y ∈ X.N,scope.names.lookup y ≠ some .local) (hcl1:∀ y c,cl.lookup y=some c→X.env.cells.lookup y=some c) (hcl2:∀ y,(y,NameKind.free) ∈ scope.names→∃ c,cl.lookup y=some c)
  (hfp:∀ b ∈ fp,FpOk X pins H b) (hlt:∀ b ∈ fp,b < s.heap.objs.size)
  (hD:D < s.heap.objs.size) (hDn:H D=none) (hD0:X.s₀.heap.objs.size ≤ D) (hDL:D ≠ X.env.locals) (hDs:D ∉ frs X.stack) (hDc:∀ x c,X.env.cells.lookup x=some c→c ≠ D)
  (hns:h₁.Ns s.heap.objs.size (fun _=>none)) (kp:∀ b o,s.heap.get? b=some o→h₁.get? b=some o) :
  Inv (X.block M scope cl s.heap.objs.size s H (D :: fp)) pins (M.map (fun _=>none) ++ σ) H { s with heap:=h₁,toks:=t₁ }:=by
 have nfs:∀ b ∈ fp,b ∉ frs X.stack:=fun b hb z=>by
  obtain ⟨_,f1,f2,_⟩:=hfp b hb
  rcases List.mem_cons.mp (I.stkSub b z) with q | q
  ·exact f1 q
  ·exact f2 q
 have base0:∀ b o,X.base.get? b=some o→b < X.s₀.heap.objs.size:=fun b o e=>Heap.lt_size (I.ok.bs b o e).1
 refine ⟨⟨I.ok.mod,hkind,I.ok.glob,I.ok.blt,Nat.le_refl _,fun x y c h1 h2=>I.ok.inj x y c (hcl1 x c h1) (hcl1 y c h2),fun x hx=>?_,fun x c h=>(nomatch (show false=true from h)),I.ok.hd,I.ok.frames,.inl rfl,fun b hb=>?_,I.bs,Nat.le_trans I.ok.bsz I.sz,
  fun b o e hb=>?_,fun b hb=>?_,I.stack,I.stkFree⟩,rfl,I.bare,Un.kept kp,⟨_,hns,fun i y v h1 h2 h3=>?_⟩,fun x c h=>?_,I.hok.fresh (Nat.le_refl _),fun x c h=>I.freeC x c (hcl1 x c h),fun p hp=>?_,I.hok.kept kp,?_⟩
 ·have hx:(relabel scope X.env).names.lookup x=some .cell∨(relabel scope X.env).names.lookup x=some .free:=hx
  refine hcl2 x ?_
  rcases hx with hx | hx
  ·rcases relabel_lookup hx with q | ⟨_,q⟩
   ·exact absurd rfl (hcell _ (PySem.mem_of_lookup q))
   ·exact PySem.mem_of_lookup q
  ·rcases relabel_lookup hx with q | ⟨q,_⟩
   ·exact PySem.mem_of_lookup q
   ·cases q
 ·have blt:b < s.heap.objs.size:=by
   rcases List.mem_cons.mp hb with q | q
   ·rw [q]; exact hD
   ·exact hlt b q
  refine ⟨Nat.ne_of_lt blt,fun x c h=>?_⟩
  rcases List.mem_cons.mp hb with q | q
  ·rw [q]; exact hDc x c (hcl1 x c h)
  ·exact (hfp b q).2.2.2.2.1 x c (hcl1 x c h)
 ·rcases List.mem_cons.mp hb with q | q
  ·have:=base0 b o e
   rw [q] at this
   exact absurd (Nat.lt_of_lt_of_le this hD0) (Nat.lt_irrefl _)
  ·rcases (hfp b q).2.2.2.1 with z | z
   ·exact I.ok.noex b o e z
   ·exact absurd (Nat.lt_of_lt_of_le (base0 b o e) z) (Nat.lt_irrefl _)
 ·rcases List.mem_cons.mp hb with q | q
  ·rw [q]; exact hDs
  ·exact nfs b q
 ·-- names
  have h1:(M ++ X.N)[i]?=some y:=h1
  by_cases hi:i < M.length
  ·rw [List.getElem?_append_left (by simpa using hi),List.getElem?_map] at h2
   cases e:M[i]? with
   | none=>rw [e] at h2; cases h2
   | some a=>rw [e] at h2; cases h2
  ·rw [List.getElem?_append_right (by simpa using hi),List.length_map] at h2
   rw [List.getElem?_append_right (by simpa using hi)] at h1
   have hyN:y ∈ X.N:=List.mem_of_getElem? h1
   obtain ⟨m,hn,hl⟩:=I.loc
   have h3:(relabel scope X.env).names.lookup y=some .local∨(relabel scope X.env).names.lookup y=some .cell∨(relabel scope X.env).names.lookup y=some .free:=h3
   have hf:scope.names.lookup y=some .free∧((relabel scope X.env).names.lookup y=some .cell∨(relabel scope X.env).names.lookup y=some .free):=by
    rcases h3 with q | q | q
    ·rcases relabel_lookup q with z | ⟨z,_⟩
     ·exact absurd z (hN y hyN)
     ·cases z
    ·rcases relabel_lookup q with z | ⟨_,z⟩
     ·exact absurd rfl (hcell _ (PySem.mem_of_lookup z))
     ·exact ⟨z,.inl q⟩
    ·rcases relabel_lookup q with z | ⟨z,_⟩
     ·exact ⟨z,.inr q⟩
     ·cases z
   have hout:=hfree _ (PySem.mem_of_lookup hf.1) rfl
   obtain ⟨u,ru,lk⟩:=hl (i - M.length) y v h1 h2 (by
    rcases hout with q | q
    ·exact .inr (.inl q)
    ·exact .inr (.inr q))
   refine ⟨u,ru,.inr ⟨hf.2,?_⟩⟩
   obtain ⟨c,hc⟩:=hcl2 y (PySem.mem_of_lookup hf.1)
   have hc':=hcl1 y c hc
   rcases lk with ⟨q,_⟩ | ⟨_,c',e',z⟩
   ·rcases hout with w' | w' <;> (rw [q] at w'; cases w')
   ·rw [hc'] at e'; cases e'
    obtain ⟨oc,hoc,hd⟩:=z
    exact ⟨c,hc,oc,kp _ _ hoc,hd⟩
 ·obtain ⟨v,oc,hoc,hd⟩:=I.cell x c (hcl1 x c h)
  exact ⟨v,oc,kp _ _ hoc,hd⟩
 ·obtain ⟨e,n,ne,nf,d⟩:=I.pin p hp
  refine ⟨kp _ _ e,n,Nat.ne_of_lt (Heap.lt_size e),fun z=>?_,d⟩
  rcases List.mem_cons.mp (I.stkSub p.1 z) with q | q
  ·exact ne q
  ·exact nf q
 ·show (M.map (fun _=>(none:Option V)) ++ σ).length=(M ++ X.N).length
  rw [List.length_append,List.length_append,List.length_map,I.len]
end
end L2

set_option maxHeartbeats 4000000
namespace L2
open PySem PySem.Spec PyProof.Rows
section
variable {X:Cx} {elt target iter:Expr} {ifs:List Expr} {scope:Scope} {pos:Pos} {M:List Str} {wi:TI} {g:TG} {tt:TT} {te:TE}

structure CompScope (X:Cx) (scope:Scope):Prop where
 kind:scope.kind=.function
 cell:∀ y ∈ scope.names,y.2 ≠ .cell
 free:∀ y ∈ scope.names,y.2=.free→(X.env.kindOf y.1=some .cell∨X.env.kindOf y.1=some .free)
 names:∀ y ∈ scope.names,y.2=.local→scope.names.lookup y.1=some .local
 apart:∀ y ∈ X.N,scope.names.lookup y ≠ some .local

def tCompK (M:List Str) (wi:TI) (g:TG) (tt:TT) (te:TE):TE:=fun σ H Q=>wi σ H fun J H1=>∃ W:Nat→Nat→List V→Hp→Prop,(∃ m,W 0 m [] H1)∧∀ i m ys H,W i m ys H →
 (J.stop i H∧ys.length ≤ sizeLine∧∀ p,H p=none→Q (.ref p) (upd H p (.lst ys))) ∨
 (J.go i H∧ys.length < sizeLine∧∃ N:List V→Hp→Prop,(∀ ys' H',N ys' H'→∃ m',m' < m∧W (i + 1) m' ys' H')∧∀ x H',J.yld i H x H' →
  g x (M.map (fun _=>none) ++ σ) H' fun σ2 H2=>σ2.drop M.length=σ∧tt σ2 H2 fun b H3=>if b=true then te σ2 H3 fun y H4=>N (ys ++ [y]) H4 else N ys H3)

theorem comp_core (hc:X.calm=true) (S:CompScope X scope) (hi:PI X target iter wi)
  (hg:∀ cl C s₃ H₃ ex,PG (X.block M scope cl C s₃ H₃ ex) target g) (ht:∀ cl C s₃ H₃ ex,PTs (X.block M scope cl C s₃ H₃ ex) ifs tt) (he:∀ cl C s₃ H₃ ex,PE (X.block M scope cl C s₃ H₃ ex) elt te)
  (hs:∀ x,foldedSetIterable iter X.env x=pure x) {use:Option (Value→Sem Unit)} {Q':Value→Shared→Prop} {pos':Pos} {pins:List (Addr × Obj)} {s:Shared} {σ:St} {H:Hp} {Q:VK} (I:Inv X pins σ H s) (h:tCompK M wi g tt te σ H Q)
  (done:∀ (D C:Addr) (H':Hp) (s5:Shared) (mC:Str→Option Value),Q (.ref D) H'→s5.heap.Ns C mC→H' C=none→C ≠ X.env.locals→X.s₀.heap.objs.size ≤ C→(∀ x c,X.env.cells.lookup x=some c→c ≠ C)→(∀ p ∈ X.pn ++ pins,p.1 ≠ C) →
   (∀ h',Heap.SameBut C s5.heap h'→Inv X pins σ H' { s5 with heap:=h' })→∀ r,compPost (model X.prog X.w) X.A X.xe use Q' (.ref D) C (.ok r) s5) :
  wpAny (model X.prog X.w) X.A (comprehension (.ListComp elt [⟨target,iter,ifs,0⟩] scope pos) scope X.env pos' (newList []) false (eval iter X.env) use) Q' X.xe s:=by
 obtain ⟨cl,hclos,hcl1,hcl2⟩:=closureFor_of (scope:=scope) (env:=X.env) fun y hy e=>I.ok.has y.1 (S.free y hy e)
 refine wpAny_comprehension_free (use:=use) rfl hs hclos S.kind S.names ?_
 refine thn (hi pins s σ H _ I h) fun xv s1 h1=>thn h1 fun itv s2 h2=>?_
 obtain ⟨it,fp,tn,J,H2,e,I2,T,st2,f2,W,⟨m0,w0⟩,turn⟩:=h2
 subst e
 refine wpAny_newObj_type (wpAny_newFunctionEnv S.cell (by intro y hy; simp at hy) (fun h₁ hns₁ hsb₁=>?_) S.kind)
 dsimp only at hns₁ hsb₁ ⊢
 have I3:Inv X pins σ H2 { s2 with heap:=s2.heap.push { cls:=.type "list",dict:=none,data:=.seq ([]:List Value).toArray } }:=I2.kept (t':=s2.toks) fun b o e=>Heap.get?_push_of_some _ e
 have hD3:(s2.heap.push { cls:=.type "list",dict:=none,data:=.seq ([]:List Value).toArray }).get? s2.heap.objs.size=some { cls:=.type "list",dict:=none,data:=.seq ([]:List Value).toArray }:=Heap.get?_push_size _ rfl
 have fpLt:∀ b ∈ fp,b < s2.heap.objs.size:=fun b hb=>by
  obtain ⟨o,e,_⟩:=T.obj 0 s2.heap st2 b hb
  exact Heap.lt_size e
 have st3:tn 0 (s2.heap.push { cls:=.type "list",dict:=none,data:=.seq ([]:List Value).toArray }):=T.keep 0 _ _ st2 fun b _ o e=>Heap.get?_push_of_some _ e
 have f3:∀ b ∈ fp,FpOk X pins H2 b:=f2
 have hDn:H2 s2.heap.objs.size=none:=I2.hok.fresh (Nat.le_refl _)
 have hDL:s2.heap.objs.size ≠ X.env.locals:=Nat.ne_of_gt I2.lt
 have hD0:X.s₀.heap.objs.size ≤ s2.heap.objs.size:=I2.sz
 have hDs:s2.heap.objs.size ∉ frs X.stack:=fun z=>by
  rcases List.mem_cons.mp (I2.stkSub _ z) with q | q
  ·exact hDL q
  ·exact I2.nofs (Nat.le_refl _) q
 have hDc:∀ x c,X.env.cells.lookup x=some c→c ≠ s2.heap.objs.size:=fun x c e=>by
  obtain ⟨v,q⟩:=I2.cell x c e
  exact Nat.ne_of_lt q.lt
 have hDp:∀ p ∈ X.pn ++ pins,p.1 ≠ s2.heap.objs.size:=fun p hp=>Nat.ne_of_lt (Heap.lt_size (I2.pin p hp).1)
 have hDf:s2.heap.objs.size ∉ fp:=fun z=>Nat.lt_irrefl _ (fpLt _ z)
 generalize hDe:s2.heap.objs.size=D at hD3 hDn hDL hD0 hDs hDc hDp hDf ⊢
 generalize hS3:({ s2 with heap:=s2.heap.push { cls:=.type "list",dict:=none,data:=.seq ([]:List Value).toArray } }:Shared)=s3 at I3
 have es3:s2.heap.push { cls:=.type "list",dict:=none,data:=.seq ([]:List Value).toArray }=s3.heap:=by rw [← hS3]
 rw [es3] at hns₁ hsb₁ hD3 st3 ⊢
 have fpLt3:∀ b ∈ fp,b < s3.heap.objs.size:=fun b hb=>by
  rw [← es3,Heap.size_push]; exact Nat.lt_succ_of_lt (fpLt b hb)
 have hDlt:D < s3.heap.objs.size:=Heap.lt_size hD3
 have kp:∀ b o,s3.heap.get? b=some o→h₁.get? b=some o:=fun b o e=>(hsb₁.2 b (Nat.ne_of_lt (Heap.lt_size e))).trans (Heap.get?_push_of_some _ e)
 have IB:=Inv.block (M:=M) (h₁:=h₁) (t₁:=s2.toks + ([]:List (Str × Value)).length) I3 S.free S.cell S.kind S.apart hcl1 hcl2 f3 fpLt3 hDlt hDn hD0 hDL hDs hDc (by simpa using hns₁) kp
 have X'def:X.block M scope cl s3.heap.objs.size s3 H2 (D :: fp)=X.block M scope cl s3.heap.objs.size s3 H2 (D :: fp):=rfl
 have stat:∀ {H':Hp} {ob:Obj},(∀ b ∈ fp,H' b=none)→∀ b ∈ fp,FpOk (X.block M scope cl s3.heap.objs.size s3 H2 (D :: fp)) (pins ++ [(D,ob)]) H' b:=fun {H' ob} hn b hb=>by
  obtain ⟨q0,q1,q2,q3,q4,q5⟩:=f3 b hb
  refine ⟨hn b hb,Nat.ne_of_lt (fpLt3 b hb),fun z=>?_,.inl (List.mem_cons_of_mem _ hb),fun x c e=>q4 x c (hcl1 x c e),fun p hp=>?_⟩
  ·rcases List.mem_cons.mp (I3.stkSub b z) with q | q
   ·exact q1 q
   ·exact q2 q
  ·have hp:p ∈ X.pn ++ (pins ++ [(D,ob)]):=hp
   rw [← List.append_assoc] at hp
   rcases List.mem_append.mp hp with q | q
   ·exact q5 p q
   ·have q':p=(D,ob):=by simpa using q
    rw [q']
    exact fun z=>hDf (by rw [show D=b from z]; exact hb)
 have isL:∀ its:List Value,∀ n:Nat,∀ v,({ cls:=.type "list",data:=.seq its.toArray n }:Obj).data ≠ .cell v:=fun _ _ _ z=>by cases z
 have loop:∀ s₄:Shared,s₄={ s3 with heap:=h₁,toks:=s2.toks + ([]:List (Str × Value)).length } →
   codeAny (model X.prog X.w) X.A (.compLoop (.ListComp elt [⟨target,iter,ifs,0⟩] scope pos) 0 (.ref it) (.ref D) (compEnvC scope cl s3.heap.objs.size X.env))
    (compPost (model X.prog X.w) X.A X.xe use Q' (.ref D) s3.heap.objs.size) s₄:=by
  rintro s₄ rfl
  refine compLoop_any (fun n s'=>∃ i ys its k H',Inv (X.block M scope cl s3.heap.objs.size s3 H2 (D :: fp)) pins (M.map (fun _=>none) ++ σ) H' s'∧tn i s'.heap∧(∀ b ∈ fp,H' b=none)∧H' D=none ∧
   Vals ys its∧s'.heap.get? D=some { cls:=.type "list",data:=.seq its.toArray k }∧W i n ys H') ?_ m0 ⟨0,[],[],_,H2,IB,T.keep 0 _ _ st3 fun b _ o e=>kp b o e,fun b hb=>(f3 b hb).1,hDn,.nil,kp _ _ hD3,w0⟩
  rintro n s4 ⟨i,ys,its,k,H4,I4,st4,fr4,hD4,rv4,ho4,w4⟩
  have I4D:Inv (X.block M scope cl s3.heap.objs.size s3 H2 (D :: fp)) (pins ++ [(D,{ cls:=.type "list",data:=.seq its.toArray k })]) (M.map (fun _=>none) ++ σ) H4 s4:=I4.pins_of fun p hp=>by
   rcases List.mem_append.mp hp with q | q
   ·exact I4.pin p (List.mem_append_right _ q)
   ·have q':p=(D,{ cls:=.type "list",data:=.seq its.toArray k }):=by simpa using q
    subst q'
    exact ⟨ho4,hD4,Nat.ne_of_lt hDlt,hDs,isL _ _⟩
  rcases turn i n ys H4 w4 with ⟨stop,hz,fin⟩ | ⟨go,hz,Nx,hNx,step⟩
  ·refine thn (T.done (X.block M scope cl s3.heap.objs.size s3 H2 (D :: fp)) rfl rfl rfl hc i _ s4 _ H4 _ I4D (stat fr4) st4 stop) fun r s5 ⟨hr,I5⟩=>?_
   subst hr
   have ho5:s5.heap.get? D=some { cls:=.type "list",data:=.seq its.toArray k }:=(I5.pin (D,_) (List.mem_append_right _ (List.mem_append_right _ (by simp)))).1
   obtain ⟨mC,hnC,_⟩:=id I5.loc
   have hCn:H4 s3.heap.objs.size=none:=I5.free
   have hCD:s3.heap.objs.size ≠ D:=Nat.ne_of_gt hDlt
   refine done D s3.heap.objs.size (upd H4 D (.lst ys)) s5 mC (fin D hD4) hnC (by rw [upd_ne hCD]; exact hCn) (Nat.ne_of_gt I3.lt) I3.sz (fun x c e=>?_) (fun p hp=>Nat.ne_of_lt (Heap.lt_size (I3.pin p hp).1)) (fun h' hs'=>?_) _
   ·obtain ⟨v,q⟩:=I3.cell x c e
    exact Nat.ne_of_lt q.lt
   have hsC:Heap.SameBut s3.heap.objs.size s5.heap h':=hs'
   have un:Un (frs X.stack) (D :: fp) H2 H4 s3.heap h':=by
    have B:=I5.base
    have neC:∀ b o,s3.heap.get? b=some o→b ≠ s3.heap.objs.size:=fun b o e=>Nat.ne_of_lt (Heap.lt_size e)
    exact ⟨fun b o e n hb hx=>(hsC.2 b (neC b o e)).trans (B.keep b o e n hb hx),fun b o e n hb hx=>let ⟨sl,q⟩:=B.slot b o e n hb hx; ⟨sl,(hsC.2 b (neC b o e)).trans q⟩,B.free,
     fun b o e hx=>let ⟨o',q⟩:=B.there b o e hx; ⟨o',(hsC.2 b (neC b o e)).trans q⟩,B.tups,B.frzs,B.tbls⟩
   have hok':HOk X.prog X.w H4 h':=fun b u e=>by
    refine (I5.hok b u e).stay (fun c v hc q=>(hsC.2 c ?_).trans q) (fun _ q=>q) fun _ _ q=>q
    rcases hc with z | z
    ·rw [z]; exact fun q=>by rw [q,hCn] at e; cases e
    ·exact fun q=>by rw [q,hCn] at z; cases z
   have I6:Inv X pins σ H4 { s5 with heap:=h' }:=I3.call' (s':={ s5 with heap:=h' }) (ch:=D :: fp) I5.os un hok' I5.bare fun b hb=>by
    rcases List.mem_cons.mp hb with q | q
    ·rw [q]; exact ⟨.inr hD0,hDL,hDc,hDp⟩
    ·obtain ⟨q0,q1,q2,q3,q4,q5⟩:=f3 b q
     exact ⟨q3,q1,q4,q5⟩
   have ho6:h'.get? D=some { cls:=.type "list",data:=.seq its.toArray k }:=(hsC.2 D (Nat.ne_of_lt hDlt)).trans ho5
   exact I6.adopt hD4 hD0 hDL hDc hDp ⟨hz,its,k,rv4,ho6⟩
  ·refine thn (T.item (X.block M scope cl s3.heap.objs.size s3 H2 (D :: fp)) rfl rfl rfl hc i _ s4 _ H4 _ I4D (stat fr4) st4 go) fun r s5 ⟨u,hr,h5⟩=>?_
   subst hr
   refine thn h5 fun _ s6 ⟨x,H6,I6,r6,y6,st6,fr6⟩=>?_
   have I6':=I6.pinned (stat fr6) (T.obj _ _ st6)
   refine thn (hg _ _ _ _ _ _ s6 _ H6 x u _ I6' r6 (step x H6 y6)) fun _ s7 ⟨σ7,H7,I7,e7,q7⟩=>?_
   refine thn (ht _ _ _ _ _ _ s7 σ7 H7 _ I7 q7) fun b s8 ⟨H8,I8,q8⟩=>?_
   have wk:∀ {H9:Hp} {s9:Shared},Inv (X.block M scope cl s3.heap.objs.size s3 H2 (D :: fp)) pins σ7 H9 s9→Inv (X.block M scope cl s3.heap.objs.size s3 H2 (D :: fp)) pins (M.map (fun _=>none) ++ σ) H9 s9:=fun {H9 s9} I9=>by
    have hl:(M.map (fun _=>(none:Option V)) ++ σ).length=σ7.length:=by rw [I9.len]; exact IB.len
    refine I9.weak hl fun j v e=>?_
    by_cases hj:j < M.length
    ·rw [List.getElem?_append_left (by simpa using hj),List.getElem?_map] at e
     cases q:M[j]? with
     | none=>rw [q] at e; cases e
     | some a=>rw [q] at e; cases e
    ·rw [List.getElem?_append_right (by simpa using hj),List.length_map,← e7,List.getElem?_drop] at e
     have:M.length + (j - M.length)=j:=by omega
     rw [this] at e
     exact e
   have unpin:∀ {H9:Hp} {s9:Shared},Inv (X.block M scope cl s3.heap.objs.size s3 H2 (D :: fp)) (pins ++ [(D,{ cls:=.type "list",data:=.seq its.toArray k })] ++ pinsAt fp s6.heap) σ7 H9 s9 →
     Inv (X.block M scope cl s3.heap.objs.size s3 H2 (D :: fp)) pins σ7 H9 s9∧s9.heap.get? D=some { cls:=.type "list",data:=.seq its.toArray k }∧H9 D=none∧tn (i + 1) s9.heap∧∀ b ∈ fp,H9 b=none:=fun {H9 s9} I9=>by
    have pD:=I9.pin (D,{ cls:=.type "list",data:=.seq its.toArray k }) (List.mem_append_right _ (List.mem_append_left _ (List.mem_append_right _ (by simp))))
    refine ⟨I9.pins_of fun p hp=>I9.pin p (List.mem_append_right _ (List.mem_append_left _ (List.mem_append_left _ hp))),pD.1,pD.2.1,T.keep _ _ _ st6 fun b hb o e=>(I9.pin (b,o) (List.mem_append_right _ (List.mem_append_right _ (mem_pinsAt hb e)))).1,fun b hb=>?_⟩
    obtain ⟨o,e,d⟩:=T.obj _ _ st6 b hb
    exact (I9.pin (b,o) (List.mem_append_right _ (List.mem_append_right _ (mem_pinsAt hb e)))).2.1
   cases b with
   | false =>
    have q8:Nx ys H8:=by simpa using q8
    obtain ⟨m',hm,w8⟩:=hNx _ _ q8
    obtain ⟨I9,ho9,hD9,st9,fr9⟩:=unpin I8
    exact ⟨m',hm,i + 1,ys,its,k,H8,wk I9,st9,fr9,hD9,rv4,ho9,w8⟩
   | true =>
    have q8:te σ7 H8 fun y H4=>Nx (ys ++ [y]) H4:=by simpa using q8
    rw [if_pos rfl]
    refine thn (he _ _ _ _ _ _ s8 σ7 H8 _ I8 q8) fun yv s9 ⟨y,H9,I9,r9,n9⟩=>?_
    obtain ⟨m',hm,w9⟩:=hNx _ _ n9
    obtain ⟨I10,ho10,hD10,st10,fr10⟩:=unpin I9
    have hlen:=rv4.length
    refine append_at (hsz:=by rw [List.size_toArray]; omega) ho10 fun h11 hs11 hD11=>?_
    have I11:Inv (X.block M scope cl s3.heap.objs.size s3 H2 (D :: fp)) pins σ7 H9 { s9 with heap:=h11 }:=I10.turned (t':=s9.toks) (it:=D) (fun b o hb e=>(hs11.2 b hb).trans e) hD10 (Nat.ne_of_lt hDlt) (.inl List.mem_cons_self) (fun x c e=>hDc x c (hcl1 x c e)) hDp
    refine ⟨m',hm,i + 1,ys ++ [y],its ++ [yv],k + 1,H9,wk I11,T.keep _ _ _ st10 fun b hb o e=>(hs11.2 b (fun z=>hDf (by rw [← z]; exact hb))).trans e,fr10,hD10,rv4.append (.cons r9 .nil),?_,w9⟩
    rw [hD11,List.push_toArray]
 have hst4:tn 0 h₁:=T.keep 0 _ _ st3 fun b _ o e=>kp b o e
 have fin:∀ s₄:Shared,s₄={ s3 with heap:=h₁,toks:=s2.toks + ([]:List (Str × Value)).length } →
   codeAny (model X.prog X.w) X.A (.compStart (.ListComp elt [⟨target,iter,ifs,0⟩] scope pos) 0 (.ref it) (.ref D) (compEnvC scope cl s3.heap.objs.size X.env))
    (compPost (model X.prog X.w) X.A X.xe use Q' (.ref D) s3.heap.objs.size) s₄:=fun s₄ e4 =>
  codeAny_compStart_list (loop s₄ e4) (T.self X.A 0 s₄ _ _ (by rw [e4]; exact hst4) (loop s₄ e4))
 exact fin _ (by rw [← hS3])
theorem pe_comp (hc:X.calm=true) (S:CompScope X scope) (hi:PI X target iter wi)
  (hg:∀ cl C s₃ H₃ ex,PG (X.block M scope cl C s₃ H₃ ex) target g) (ht:∀ cl C s₃ H₃ ex,PTs (X.block M scope cl C s₃ H₃ ex) ifs tt) (he:∀ cl C s₃ H₃ ex,PE (X.block M scope cl C s₃ H₃ ex) elt te)
  (hs:∀ x,foldedSetIterable iter X.env x=pure x:=by intro _; rfl):PE X (.ListComp elt [⟨target,iter,ifs,0⟩] scope pos) (tCompK M wi g tt te):=by
 intro pins s σ H Q I h
 rw [eval_ListComp]
 exact comp_core (use:=none) hc S hi hg ht he hs I h fun D C H' s5 mC q hn _ _ _ _ _ inv _=>⟨mC,hn,fun h' hs'=>⟨.ref D,H',inv h' hs',rfl,q⟩⟩
end
end L2

set_option maxHeartbeats 4000000
namespace L2
open PySem PySem.Spec PyProof.Rows


section
variable {prog:Program} {w:World} {A:Around} {E:Value→Shared→Prop} {s:Shared}
end

section
variable {X:Cx}

def rngV (lo hi:Int):List V:=(List.range (hi - lo).toNat).map fun (i:Nat)=>V.int (lo + i)
theorem rngV_len (lo hi:Int):(rngV lo hi).length=(hi - lo).toNat:=by simp [rngV]
theorem call_range1:CallR X (.type "range") (fun xs H Q=>∃ j:Int,xs=[.int j]∧-(2 ^ 62) ≤ j∧j < 2 ^ 62∧∀ p,H p=none→Q (.ref p) (upd H p (.rng 0 j))):=by
 intro pins s σ H xs us Q I r h
 obtain ⟨j,rfl,h1,h2,q⟩:=h
 obtain ⟨u,rfl,t,rfl⟩:=vals1 r
 refine call_range_1 ⟨.ref s.heap.objs.size,_,I.laid (a:=s.heap.objs.size) (o:=.rng 0 j) (fun b o e=>Heap.get?_push_of_some _ e) (Nat.le_refl _) ⟨_,_,_,Heap.get?_push_size _ rfl⟩,rfl,q _ (I.hok.fresh (Nat.le_refl _))⟩
theorem vals_items {lo:Int}:∀ (n:Nat) (us:List Value),us.length=n→(∀ (j:Nat) v,us[j]?=some v→∃ t,v=.int (lo + j) t)→Vals ((List.range n).map fun (i:Nat)=>V.int (lo + i)) us:=by
 intro n
 induction n with
 | zero=>intro us h _; cases us with
  | nil=>exact .nil
  | cons a r=>cases h
 | succ n ih =>
  intro us h hv
  obtain ⟨us',u,rfl⟩:∃ us' u,us=us' ++ [u]:=by
   refine ⟨us.dropLast,us.getLast (by intro z; rw [z] at h; cases h),?_⟩
   exact (List.dropLast_concat_getLast _).symm
  have hl:us'.length=n:=by simpa using h
  rw [List.range_succ,List.map_append]
  refine Vals.append (ih us' hl fun j v hj=>hv j v ?_) (.cons ?_ .nil)
  ·rw [List.getElem?_append_left (List.getElem?_eq_some_iff.mp hj).1]; exact hj
  ·obtain ⟨t,e⟩:=hv n u (by rw [List.getElem?_append_right (by omega),hl]; simp)
   exact ⟨t,e⟩
theorem call_list_rng (hc:X.calm=true):CallR X (.type "list") (fun xs H Q=>∃ p lo hi,xs=[.ref p]∧H p=some (.rng lo hi)∧(-(2 ^ 62) ≤ lo∧lo < 2 ^ 62∧-(2 ^ 62) ≤ hi∧hi < 2 ^ 62)∧(hi - lo).toNat ≤ sizeLine∧∀ l,H l=none→Q (.ref l) (upd H l (.lst (rngV lo hi)))):=by
 intro pins s σ H xs us Q I r h
 obtain ⟨p,lo,hi,rfl,hp,⟨b1,b2,b3,b4⟩,hz,q⟩:=h
 obtain ⟨u,rfl,rx⟩:=vals1 r
 cases rx
 obtain ⟨t,u,v,e⟩:=(show ObjOk X.prog X.w H s.heap p (.rng lo hi) from I.hok p _ hp)
 have hn:Builtin.Range.rangeSize lo hi 1=(((hi - lo).toNat:Nat):Int):=by rw [rangeSize_one]; split <;> omega
 have hs:sizeLine=16777216:=sizeLine_eq
 refine call_list_range (I.ok.hd hc) e (small_one b1 b2 b3 b4) hn (by omega) fun h' tk acc c' kp ho it=>?_
 have rv:Vals (rngV lo hi) acc.toList:=by
  refine vals_items _ acc.toList (by simpa using it.1) fun j v hj=>?_
  obtain ⟨t,e⟩:=it.2 j v (by simpa using hj)
  exact ⟨t,by rw [e,Int.mul_one]⟩
 have I2:Inv X pins σ (upd H s.heap.objs.size (.lst (rngV lo hi))) { s with heap:=h',toks:=tk } :=
  I.laid kp (Nat.le_refl _) (show ObjOk X.prog X.w _ h' _ (.lst (rngV lo hi)) from ⟨by rw [rngV_len]; exact hz,acc.toList,c',rv,ho⟩)
 exact ⟨.ref s.heap.objs.size,_,I2,rfl,q _ (I.hok.fresh (Nat.le_refl _))⟩


def eqVs (xs ys:List V):Bool:=xs.length == ys.length && (List.range xs.length).all fun j=>match xs[j]?,ys[j]? with | some x,some y=>eqV x y | _,_=>false
theorem eqVs_ints (ns ms:List Int):eqVs (ns.map V.int) (ms.map V.int)=decide (ns=ms):=by
 rw [Bool.eq_iff_iff,decide_eq_true_eq]
 unfold eqVs
 rw [Bool.and_eq_true,beq_iff_eq,List.all_eq_true,List.length_map,List.length_map]
 constructor
 ·rintro ⟨hl,ha⟩
  refine List.ext_getElem hl fun j h1 h2=>?_
  have:=ha j (List.mem_range.mpr h1)
  rw [List.getElem?_map,List.getElem?_map,List.getElem?_eq_getElem h1,List.getElem?_eq_getElem h2] at this
  have z:(ns[j] == ms[j])=true:=this
  exact beq_iff_eq.mp z
 ·rintro rfl
  refine ⟨rfl,fun j hj=>?_⟩
  have h1:=List.mem_range.mp hj
  rw [List.getElem?_map,List.getElem?_eq_getElem h1]
  show (ns[j] == ns[j])=true
  simp
theorem eqAt_items {A:Around} {s:Shared} {xs ys:List V} {us ws:List Value} (ru:Vals xs us) (rw':Vals ys ws) (fx:xs.all flatV=true) (fy:ys.all flatV=true) (j:Nat) (h1:j < us.toArray.size) (h2:j < ws.toArray.size) :
  SeqAt.EqAt A s us.toArray[j] ws.toArray[j] (match xs[j]?,ys[j]? with | some x,some y=>eqV x y | _,_=>false):=by
 rw [List.size_toArray] at h1 h2
 have g1:j < xs.length:=by rw [ru.length]; exact h1
 have g2:j < ys.length:=by rw [rw'.length]; exact h2
 obtain ⟨u,e1,r1⟩:=ru.get (List.getElem?_eq_getElem g1)
 obtain ⟨w,e2,r2⟩:=rw'.get (List.getElem?_eq_getElem g2)
 rw [List.getElem?_eq_getElem g1,List.getElem?_eq_getElem g2]
 have q1:us.toArray[j]=u:=by
  have:=(List.getElem?_eq_some_iff.mp e1).2
  simpa using this
 have q2:ws.toArray[j]=w:=by
  have:=(List.getElem?_eq_some_iff.mp e2).2
  simpa using this
 rw [q1,q2]
 exact eqAt_V r1 r2 (List.all_eq_true.mp fx _ (List.getElem_mem g1)) (List.all_eq_true.mp fy _ (List.getElem_mem g2))
def rEqS (K:PySem.W.Frag) (neg:Bool):R2:=fun x y H Q=>∃ a b xs ys,x=.ref a∧y=.ref b∧((SqL K H a xs∧SqL K H b ys)∨(SqT K H a xs∧SqT K H b ys))∧xs.all flatV=true∧ys.all flatV=true∧Q (.bl (if neg then !eqVs xs ys else eqVs xs ys)) H
theorem op_eq_seq (hu:X.A.units < cLine):OpR X (compareOp .Eq) (rEqS X.K false):=by
 intro pins s σ H x y v u Q I rx ry h
 obtain ⟨a,b,xs,ys,rfl,rfl,hq,fx,fy,q⟩:=h
 cases rx
 cases ry
 have q:Q (.bl (eqVs xs ys)) H:=q
 rcases hq with ⟨ha,hb⟩ | ⟨ha,hb⟩
 ·obtain ⟨us,r1,p1,_⟩:=I.list ha
  obtain ⟨ws,r2,p2,_⟩:=I.list hb
  have l1:=r1.length
  have l2:=r2.length
  by_cases hl:xs.length=ys.length
  ·refine SeqAt.eq_listAt p1.isList p2.isList (by simp only [List.size_toArray]; omega) hu (fun j h1 h2=>eqAt_items r1 r2 fx fy j h1 h2) ⟨.bl _,H,I,rfl,?_⟩
   have e:eqVs xs ys=(List.range us.toArray.size).all fun j=>match xs[j]?,ys[j]? with | some x,some y=>eqV x y | _,_=>false:=by
    unfold eqVs
    rw [List.size_toArray,← l1,beq_iff_eq.mpr hl,Bool.true_and]
   rw [← e]; exact q
  ·refine SeqAt.eq_list_lengthsAt p1.isList p2.isList (by simp only [List.size_toArray,bne_iff_ne]; omega) hu ⟨.bl false,H,I,rfl,?_⟩
   have e:eqVs xs ys=false:=by
    unfold eqVs
    rw [beq_eq_false_iff_ne.mpr hl,Bool.false_and]
   rw [← e]; exact q
 ·obtain ⟨us,r1,p1,_⟩:=I.tuple ha
  obtain ⟨ws,r2,p2,_⟩:=I.tuple hb
  have l1:=r1.length
  have l2:=r2.length
  refine SeqAt.eq_tupleAt p1 p2 hu (fun j h1 h2=>eqAt_items r1 r2 fx fy j h1 h2) ⟨.bl _,H,I,rfl,?_⟩
  have e:eqVs xs ys=((List.range (min us.toArray.size ws.toArray.size)).all (fun j=>match xs[j]?,ys[j]? with | some x,some y=>eqV x y | _,_=>false) && us.toArray.size == ws.toArray.size):=by
   unfold eqVs
   simp only [List.size_toArray,← l1,← l2]
   by_cases hl:xs.length=ys.length
   ·rw [hl,Nat.min_self,Bool.and_comm]
   ·rw [beq_eq_false_iff_ne.mpr hl,Bool.false_and,Bool.and_false]
  rw [← e]; exact q


def tyVal:V→Option Value
 | .ty n=>some (.type n)
 | .ref a=>some (.ref a)
 | _=>none
theorem call_isinst:CallR X (.builtin "isinstance") (fun xs H Q=>∃ x c cv t b,xs=[x,c]∧tyVal c=some cv∧TyOf X.K H x t∧PySem.W.kitOne X.K t cv=some b∧Q (.bl b) H):=by
 intro pins s σ H xs us Q I r h
 obtain ⟨x,c,cv,t,b,rfl,hc,ty,e,q⟩:=h
 obtain ⟨u,w',rfl,rx,rc⟩:=vals2 r
 have hw:w'=cv:=by
  cases c with
  | ty n=>cases rc; exact Option.some.inj hc
  | ref a=>cases rc; exact Option.some.inj hc
  | _=>cases hc
 subst hw
 exact isinst_ok I rx ty e fun tk=>⟨.bl b,H,I.tok _,rfl,q⟩
end
end L2

set_option maxHeartbeats 4000000
namespace L2
open PySem PySem.Spec PyProof.Rows

section
variable {D:Ends} {σ:St} {H:Hp} {Q:VK}
theorem r_seq {t u:TS}:tSeq t u D σ H=t { D with nx:=u D } σ H:=rfl
theorem r_next:tNext D σ H=D.nx σ H:=rfl
theorem r_drop {te:TE}:tDrop te D σ H=te σ H (fun _ H1=>D.nx σ H1):=rfl
theorem r_ret {te:TE}:tRet te D σ H=te σ H D.rt:=rfl
theorem r_retN:tRetN D σ H=D.rt .non H:=rfl
theorem r_if {c:TT} {t u:TS}:tIfS c t u D σ H=c σ H (fun b H1=>if b=true then t D σ H1 else u D σ H1):=rfl
theorem r_never:tNever D σ H=False:=rfl
theorem r_break:tBreak D σ H=D.bk σ H:=rfl
theorem r_cont:tCont D σ H=D.ct σ H:=rfl
theorem r_asg {te:TE} {g:TG}:tAsg te g D σ H=te σ H (fun x H1=>g x σ H1 D.nx):=rfl
theorem r_gname {i:Nat} {v:V} {R:St→Hp→Prop}:gName i v σ H R=R (σ.set i (some v)) H:=rfl
theorem r_gsub {to ti:TE} {t:TSet} {v:V} {R:St→Hp→Prop}:gSub to ti t v σ H R=to σ H (fun o H1=>ti σ H1 fun i H2=>t o i v H2 fun H3=>R σ H3):=rfl
theorem r_gnil {vs:List V} {R:St→Hp→Prop}:gNil vs σ H R=(vs=[]∧R σ H):=rfl
theorem r_gcons {t:TG} {u:TGs} {v:V} {vs:List V} {R:St→Hp→Prop}:gCons t u (v :: vs) σ H R=t v σ H (fun σ' H'=>u vs σ' H' R):=propext
 ⟨fun ⟨_,_,e,h⟩=>by cases e; exact h,fun h=>⟨_,_,rfl,h⟩⟩
theorem r_var {i:Nat}:tVar i σ H Q=∃ v,σ[i]?=some (some v)∧Q v H:=rfl
theorem r_c {v:V}:tC v σ H Q=Q v H:=rfl
theorem r_op {r:R2} {ta tb:TE}:tOp r ta tb σ H Q=ta σ H (fun x H1=>tb σ H1 fun y H2=>r x y H2 Q):=rfl
theorem r_un {r:V→Hp→VK→Prop} {ta:TE}:tUn r ta σ H Q=ta σ H (fun x H1=>r x H1 Q):=rfl
theorem r_rI {C:Int→Int→Prop} {g:Int→Int→V} {i j:Int}:rI C g (.int i) (.int j) H Q=(C i j∧Q (g i j) H):=propext
 ⟨fun ⟨_,_,e1,e2,h⟩=>by cases e1; cases e2; exact h,fun h=>⟨_,_,rfl,rfl,h⟩⟩
theorem r_rI0 {g:Int→Int→V} {i j:Int}:rI0 g (.int i) (.int j) H Q=Q (g i j) H:=propext
 ⟨fun ⟨_,_,e1,e2,h⟩=>by cases e1; cases e2; exact h,fun h=>⟨_,_,rfl,rfl,h⟩⟩
theorem r_rU {g:Int→V} {i:Int}:rU g (.int i) H Q=Q (g i) H:=propext ⟨fun ⟨_,e1,h⟩=>by cases e1; exact h,fun h=>⟨_,rfl,h⟩⟩
theorem r_eqI {i j:Int}:rEq (.int i) (.int j) H Q=Q (.bl (decide (i=j))) H:=propext
 ⟨fun ⟨_,h⟩=>by rwa [dec_int,Bool.beq_eq_decide_eq] at h,fun h=>⟨rfl,by rwa [dec_int,Bool.beq_eq_decide_eq]⟩⟩
theorem r_neI {i j:Int}:rNe (.int i) (.int j) H Q=Q (.bl (!decide (i=j))) H:=propext
 ⟨fun ⟨_,h⟩=>by rwa [dec_int,Bool.beq_eq_decide_eq] at h,fun h=>⟨rfl,by rwa [dec_int,Bool.beq_eq_decide_eq]⟩⟩
theorem r_eqB {i j:Bool}:rEq (.bl i) (.bl j) H Q=Q (.bl (decide (i=j))) H:=propext
 ⟨fun ⟨_,h⟩=>by rwa [dec_bl,Bool.beq_eq_decide_eq] at h,fun h=>⟨rfl,by rwa [dec_bl,Bool.beq_eq_decide_eq]⟩⟩
theorem r_neB {i j:Bool}:rNe (.bl i) (.bl j) H Q=Q (.bl (!decide (i=j))) H:=propext
 ⟨fun ⟨_,h⟩=>by rwa [dec_bl,Bool.beq_eq_decide_eq] at h,fun h=>⟨rfl,by rwa [dec_bl,Bool.beq_eq_decide_eq]⟩⟩
theorem r_ebl {b:Bool} {R:Bool→Prop}:(∃ k,V.bl b=V.bl k∧R k)=R b:=propext ⟨fun ⟨_,e,h⟩=>by cases e; exact h,fun h=>⟨_,rfl,h⟩⟩
theorem r_eint {b:Int} {R:Int→Prop}:(∃ k,V.int b=V.int k∧R k)=R b:=propext ⟨fun ⟨_,e,h⟩=>by cases e; exact h,fun h=>⟨_,rfl,h⟩⟩
theorem r_eref {b:Addr} {R:Addr→Prop}:(∃ k,V.ref b=V.ref k∧R k)=R b:=propext ⟨fun ⟨_,e,h⟩=>by cases e; exact h,fun h=>⟨_,rfl,h⟩⟩
theorem r_eargI {b:Int} {R:Int→Prop}:(∃ k,[V.int b]=[V.int k]∧R k)=R b:=propext ⟨fun ⟨_,e,h⟩=>by cases e; exact h,fun h=>⟨_,rfl,h⟩⟩
theorem r_test {t:TE} {R:Bool→Hp→Prop}:tTest t σ H R=t σ H (fun x H'=>∃ k,x=.bl k∧R k H'):=rfl
theorem r_tB {t:TE} {R:Bool→Hp→Prop}:tB t σ H R=t σ H (fun x H'=>∃ k,x=.bl k∧R k H'):=rfl
theorem r_and {t u:TT} {R:Bool→Hp→Prop}:tAnd t u σ H R=t σ H (fun c H1=>if c=true then u σ H1 R else R false H1):=rfl
theorem r_or {t u:TT} {R:Bool→Hp→Prop}:tOr t u σ H R=t σ H (fun c H1=>if c=true then R true H1 else u σ H1 R):=rfl
theorem r_not {t:TT} {R:Bool→Hp→Prop}:tNot t σ H R=t σ H (fun c H1=>R (!c) H1):=rfl
theorem r_andV {ta tb:TE}:tAndV ta tb σ H Q=ta σ H (fun x H1=>∃ c,x=.bl c∧if c=true then tb σ H1 Q else Q (.bl false) H1):=rfl
theorem r_orV {ta tb:TE}:tOrV ta tb σ H Q=ta σ H (fun x H1=>∃ c,x=.bl c∧if c=true then Q (.bl true) H1 else tb σ H1 Q):=rfl
theorem r_notV {ta:TE}:tNotV ta σ H Q=ta σ H (fun x H1=>∃ c,x=.bl c∧Q (.bl (!c)) H1):=rfl
theorem r_chain {r r':R2} {ta tb tc:TE}:tChain r r' ta tb tc σ H Q=ta σ H (fun x H1=>tb σ H1 fun y H2=>r x y H2 fun z H3=>∃ k,z=.bl k∧(if k=true then tc σ H3 fun w' H4=>r' y w' H4 Q else Q (.bl false) H3)):=rfl
theorem r_ifE {t:TT} {ta tb:TE}:tIf t ta tb σ H Q=t σ H (fun c H1=>if c=true then ta σ H1 Q else tb σ H1 Q):=rfl
theorem r_tup {t:TA}:tTup t σ H Q=t σ H (fun xs H1=>xs.length ≤ sizeLine∧∀ p,H1 p=none→Q (.ref p) (upd H1 p (.tup xs))):=rfl
theorem r_lst {t:TA}:tLst t σ H Q=t σ H (fun xs H1=>xs.length ≤ sizeLine∧∀ p,H1 p=none→Q (.ref p) (upd H1 p (.lst xs))):=rfl
theorem r_nil {R:List V→Hp→Prop}:tNil σ H R=R [] H:=rfl
theorem r_cons {ta:TE} {tr:TA} {R:List V→Hp→Prop}:tCons ta tr σ H R=ta σ H (fun x H1=>tr σ H1 fun xs H2=>R (x :: xs) H2):=rfl
theorem r_call {sp:Sp} {dvs:List V} {E:XK} {t:TA}:tCall sp dvs E t σ H Q=t σ H (fun vs H1=>sp (vs ++ dvs) H1 Q E):=rfl
theorem r_cb {r:List V→Hp→VK→Prop} {t:TA}:tCB r t σ H Q=t σ H (fun vs H1=>r vs H1 Q):=rfl
theorem r_bm {K:PySem.W.Frag} {T:String} {r:V→List V→Hp→VK→Prop} {to:TE} {t:TA}:tBM K T r to t σ H Q=to σ H (fun x H1=>tyV K T x H1∧t σ H1 fun xs H2=>r x xs H2 Q):=rfl
theorem r_bm0 {K:PySem.W.Frag} {T:String} {r:V→List V→Hp→VK→Prop} {to:TE}:tBM0 K T r to σ H Q=to σ H (fun x H1=>tyV K T x H1∧r x [] H1 Q):=rfl
def Loop (J:It) (g:TG) (tb:TS) (D:Ends) (σ:St) (H:Hp):Prop:=∃ W:Nat→Nat→St→Hp→Prop,(∃ m,W 0 m σ H)∧∀ i m σ H,W i m σ H →
 (J.stop i H∧D.nx σ H)∨(J.go i H∧∃ N:St→Hp→Prop,(∀ σ' H',N σ' H'→∃ m',m' < m∧W (i + 1) m' σ' H')∧∀ x H',J.yld i H x H'→g x σ H' fun σ2 H2=>tb { D with nx:=N,ct:=N,bk:=D.nx } σ2 H2)
theorem r_for {wi:TI} {g:TG} {tb:TS}:tFor wi g tb D σ H=wi σ H (fun J H1=>Loop J g tb D σ H1):=rfl
theorem r_irng1 {ta:TA} {R:It→Hp→Prop}:iRng1 ta σ H R=ta σ H (fun vs H1=>∃ j:Int,vs=[.int j]∧-(2 ^ 62) ≤ j∧j < 2 ^ 62∧R (Itr 0 j.toNat) H1):=rfl
theorem r_irng2 {ta:TA} {R:It→Hp→Prop}:iRng2 ta σ H R=ta σ H (fun vs H1=>∃ i j:Int,vs=[.int i,.int j]∧(-(2 ^ 62) ≤ i∧i < 2 ^ 62∧-(2 ^ 62) ≤ j∧j < 2 ^ 62)∧R (Itr i (j - i).toNat) H1):=rfl
theorem r_ilist {K:PySem.W.Frag} {tl:TE} {R:It→Hp→Prop}:iList K tl σ H R=tl σ H (fun x H1=>∃ a,x=.ref a∧(∃ xs,SqL K H1 a xs)∧R (Itl K a) H1):=rfl
theorem r_itup {K:PySem.W.Frag} {tl:TE} {R:It→Hp→Prop}:iTup K tl σ H R=tl σ H (fun x H1=>∃ a,x=.ref a∧(∃ xs,SqT K H1 a xs)∧R (Itt K a) H1):=rfl
def CLoop (M:List Str) (J:It) (g:TG) (tt:TT) (te:TE) (σ:St) (H:Hp) (Q:VK):Prop:=∃ W:Nat→Nat→List V→Hp→Prop,(∃ m,W 0 m [] H)∧∀ i m ys H,W i m ys H →
 (J.stop i H∧ys.length ≤ sizeLine∧∀ p,H p=none→Q (.ref p) (upd H p (.lst ys))) ∨
 (J.go i H∧ys.length < sizeLine∧∃ N:List V→Hp→Prop,(∀ ys' H',N ys' H'→∃ m',m' < m∧W (i + 1) m' ys' H')∧∀ x H',J.yld i H x H' →
  g x (M.map (fun _=>none) ++ σ) H' fun σ2 H2=>σ2.drop M.length=σ∧tt σ2 H2 fun b H3=>if b=true then te σ2 H3 fun y H4=>N (ys ++ [y]) H4 else N ys H3)
theorem r_comp {M:List Str} {wi:TI} {g:TG} {tt:TT} {te:TE}:tCompK M wi g tt te σ H Q=wi σ H (fun J H1=>CLoop M J g tt te σ H1 Q):=rfl
theorem r_yes {R:Bool→Hp→Prop}:tYes σ H R=R true H:=rfl
theorem r_append {l:Addr} {y:V}:rAppend (.ref l) [y] H Q=∃ xs,H l=some (.lst xs)∧xs.length < sizeLine∧Q .non (upd H l (.lst (xs ++ [y]))):=propext
 ⟨fun ⟨_,xs,_,e1,e2,h⟩=>by cases e1; cases e2; exact ⟨xs,h⟩,fun ⟨xs,h⟩=>⟨_,xs,_,rfl,rfl,h⟩⟩
end

section
variable {M:List Str} {K:PySem.W.Frag} {a:Addr} {xs:List V} {g:TG} {tt:TT} {te:TE} {σ:St} {H:Hp} {Q:VK} {lo:Int} {n:Nat}
theorem comp_tup (Pv:Nat→List V→Hp→Prop) (h0:Pv 0 [] H) (hl:∀ i ys H,i ≤ xs.length→Pv i ys H→SqT K H a xs) (hz:xs.length ≤ sizeLine) (hn:∀ i ys H,Pv i ys H→ys.length ≤ i)
  (hs:∀ i x ys H,xs[i]?=some x→Pv i ys H→g x (M.map (fun _=>none) ++ σ) H fun σ2 H2=>σ2.drop M.length=σ∧tt σ2 H2 fun b H3=>if b=true then te σ2 H3 fun y H4=>Pv (i + 1) (ys ++ [y]) H4 else Pv (i + 1) ys H3)
  (hd:∀ ys H,Pv xs.length ys H→∀ p,H p=none→Q (.ref p) (upd H p (.lst ys))):CLoop M (Itt K a) g tt te σ H Q:=by
 refine ⟨fun i m ys H=>m=xs.length - i∧i ≤ xs.length∧Pv i ys H,⟨xs.length,by simp,Nat.zero_le _,h0⟩,?_⟩
 rintro i m ys H ⟨rfl,hi,p⟩
 have q:=hl i ys H hi p
 have hy:=hn i ys H p
 by_cases hlt:i < xs.length
 ·refine .inr ⟨⟨xs,xs[i],q,by simp [hlt]⟩,by omega,Pv (i + 1),fun ys' H' p'=>⟨xs.length - (i + 1),by omega,rfl,hlt,p'⟩,fun x H' y=>?_⟩
  obtain ⟨e,y⟩:=y
  subst e
  exact hs i x ys _ (y xs q) p
 ·have e:i=xs.length:=by omega
  subst e
  exact .inl ⟨⟨xs,q,Nat.le_refl _⟩,by omega,hd ys H p⟩
theorem comp_list (Pv:Nat→List V→Hp→Prop) (h0:Pv 0 [] H) (hl:∀ i ys H,i ≤ xs.length→Pv i ys H→SqL K H a xs) (hz:xs.length ≤ sizeLine) (hn:∀ i ys H,Pv i ys H→ys.length ≤ i)
  (hs:∀ i x ys H,xs[i]?=some x→Pv i ys H→g x (M.map (fun _=>none) ++ σ) H fun σ2 H2=>σ2.drop M.length=σ∧tt σ2 H2 fun b H3=>if b=true then te σ2 H3 fun y H4=>Pv (i + 1) (ys ++ [y]) H4 else Pv (i + 1) ys H3)
  (hd:∀ ys H,Pv xs.length ys H→∀ p,H p=none→Q (.ref p) (upd H p (.lst ys))):CLoop M (Itl K a) g tt te σ H Q:=by
 refine ⟨fun i m ys H=>m=xs.length - i∧i ≤ xs.length∧Pv i ys H,⟨xs.length,by simp,Nat.zero_le _,h0⟩,?_⟩
 rintro i m ys H ⟨rfl,hi,p⟩
 have q:=hl i ys H hi p
 have hy:=hn i ys H p
 by_cases hlt:i < xs.length
 ·refine .inr ⟨⟨xs,xs[i],q,by simp [hlt]⟩,by omega,Pv (i + 1),fun ys' H' p'=>⟨xs.length - (i + 1),by omega,rfl,hlt,p'⟩,fun x H' y=>?_⟩
  obtain ⟨e,y⟩:=y
  subst e
  exact hs i x ys _ (y xs q) p
 ·have e:i=xs.length:=by omega
  subst e
  exact .inl ⟨⟨xs,q,Nat.le_refl _⟩,by omega,hd ys H p⟩
theorem comp_range (Pv:Nat→List V→Hp→Prop) (h0:Pv 0 [] H) (hz:n ≤ sizeLine) (hn:∀ i ys H,Pv i ys H→ys.length ≤ i)
  (hs:∀ i ys H,i < n→Pv i ys H→g (.int (lo + i)) (M.map (fun _=>none) ++ σ) H fun σ2 H2=>σ2.drop M.length=σ∧tt σ2 H2 fun b H3=>if b=true then te σ2 H3 fun y H4=>Pv (i + 1) (ys ++ [y]) H4 else Pv (i + 1) ys H3)
  (hd:∀ ys H,Pv n ys H→∀ p,H p=none→Q (.ref p) (upd H p (.lst ys))):CLoop M (Itr lo n) g tt te σ H Q:=by
 refine ⟨fun i m ys H=>m=n - i∧i ≤ n∧Pv i ys H,⟨n,by simp,Nat.zero_le _,h0⟩,?_⟩
 rintro i m ys H ⟨rfl,hi,p⟩
 have hy:=hn i ys H p
 by_cases hlt:i < n
 ·refine .inr ⟨hlt,by omega,Pv (i + 1),fun ys' H' p'=>⟨n - (i + 1),by omega,rfl,hlt,p'⟩,fun x H' y=>?_⟩
  obtain ⟨e,y⟩:=y
  subst e y
  exact hs i ys _ hlt p
 ·have e:i=n:=by omega
  subst e
  exact .inl ⟨Nat.le_refl _,by omega,hd ys H p⟩
end

theorem compScope_of {X:Cx} {scope sc:Scope} {N:List Str} (hsc:X.env.scope=sc) (hN:X.N=N) (h1:scope.kind=.function)
  (h2:∀ y ∈ scope.names,y.2 ≠ .cell∧(y.2=.free→sc.names.lookup y.1=some .cell)∧(y.2=.local→scope.names.lookup y.1=some .local)) (h3:∀ y ∈ N,scope.names.lookup y ≠ some .local):CompScope X scope where
 kind:=h1
 cell:=fun y hy=>(h2 y hy).1
 free:=fun y hy e=>.inl (by show X.env.scope.names.lookup y.1=_; rw [hsc]; exact (h2 y hy).2.1 e)
 names:=fun y hy e=>(h2 y hy).2.2 e
 apart:=fun y hy=>h3 y (by rw [← hN]; exact hy)


theorem same_new {H:Hp} {p:Addr} (h:H p=none) (o:HO):Same H (upd H p o):=fun b u q=>by rw [upd_ne (ne_of_none q h)]; exact q
theorem Same.at {H H':Hp} {a:Addr} {o:HO} (s:Same H H') (h:H a=some o):H' a=some o:=s a o h
theorem Same.sqT {K:PySem.W.Frag} {H H':Hp} {a:Addr} {xs:List V} (e:Same H H') (h:SqT K H a xs):SqT K H' a xs:=by
 rcases h with (h | ⟨o,h⟩) | h
 ·exact .inl (.inl (e _ _ h))
 ·exact .inl (.inr ⟨o,e _ _ h⟩)
 ·exact .inr h
theorem same_put {H H':Hp} {p:Addr} (s:Same H H') (h:H p=none) (o:HO):Same H (upd H' p o):=fun b u q=>by rw [upd_ne (ne_of_none q h)]; exact s b u q
theorem small100 {n:Nat} (h:n ≤ 100):n ≤ sizeLine:=Nat.le_trans h (by decide)
end L2

namespace L2
open PySem

theorem bt_len:bootBuiltins "len"=some (.builtin "len"):=by decide +kernel
theorem bt_isinstance:bootBuiltins "isinstance"=some (.builtin "isinstance"):=by decide +kernel
theorem bt_min:bootBuiltins "min"=some (.builtin "min"):=by decide +kernel
theorem bt_list:bootBuiltins "list"=some (.type "list"):=by decide +kernel
theorem bt_tuple:bootBuiltins "tuple"=some (.type "tuple"):=by decide +kernel
theorem bt_range:bootBuiltins "range"=some (.type "range"):=by decide +kernel
theorem bt_int:bootBuiltins "int"=some (.type "int"):=by decide +kernel
theorem bt_bool:bootBuiltins "bool"=some (.type "bool"):=by decide +kernel
theorem bt_str:bootBuiltins "str"=some (.type "str"):=by decide +kernel
theorem bt_enumerate:bootBuiltins "enumerate"=some (.type "enumerate"):=by decide +kernel
theorem bt_ValueError:bootBuiltins "ValueError"=some (.type "ValueError"):=by decide +kernel
theorem hu0_of {A:Around} {k:Nat} (hr:Room k A):A.units < cLine:=hr.units0

theorem kit_int_int (K:PySem.W.Frag):PySem.W.kitOne K (.type "int") (.type "int")=some true:=by unfold PySem.W.kitOne; rw [if_pos (by decide +kernel)]
theorem kit_tup_tup (K:PySem.W.Frag):PySem.W.kitOne K (.type "tuple") (.type "tuple")=some true:=by unfold PySem.W.kitOne; rw [if_pos (by decide +kernel)]
theorem kit_int_bool (K:PySem.W.Frag):PySem.W.kitOne K (.type "int") (.type "bool")=some false:=by
 have e1:PySem.W.kitMeta "bool"=true:=by decide +kernel
 have e2:(fastBuiltinMro "int").map (·.contains (.type "bool"))=some false:=by decide +kernel
 have e3:¬ ((Value.type "int" == Value.type "bool")=true):=by decide +kernel
 unfold PySem.W.kitOne
 rw [if_neg e3]
 show (if PySem.W.kitMeta "bool"=true then (fastBuiltinMro "int").map (·.contains (.type "bool")) else none)=some false
 rw [if_pos e1]
 exact e2
end L2

namespace L2
open PySem PySem.Spec PyProof.Rows
section
variable {K:PySem.W.Frag} {a:Addr} {xs:List V} {g:TG} {tb:TS} {D:Ends} {σ:St} {H:Hp} {lo:Int} {n:Nat}
theorem loop_range (Pv:Nat→St→Hp→Prop) (h0:Pv 0 σ H) (hs:∀ i σ H,i < n→Pv i σ H→g (.int (lo + i)) σ H fun σ2 H2=>tb { D with nx:=Pv (i + 1),ct:=Pv (i + 1),bk:=D.nx } σ2 H2) (hd:∀ σ H,Pv n σ H→D.nx σ H) :
  Loop (Itr lo n) g tb D σ H:=for_range Pv h0 hs hd
theorem loop_list (Pv:Nat→St→Hp→Prop) (h0:Pv 0 σ H) (hl:∀ i σ H,i ≤ xs.length→Pv i σ H→SqL K H a xs)
  (hs:∀ i x σ H,xs[i]?=some x→Pv i σ H→g x σ H fun σ2 H2=>tb { D with nx:=Pv (i + 1),ct:=Pv (i + 1),bk:=D.nx } σ2 H2) (hd:∀ σ H,Pv xs.length σ H→D.nx σ H):Loop (Itl K a) g tb D σ H:=for_list Pv h0 hl hs hd
theorem loop_tup (Pv:Nat→St→Hp→Prop) (h0:Pv 0 σ H) (hl:∀ i σ H,i ≤ xs.length→Pv i σ H→SqT K H a xs)
  (hs:∀ i x σ H,xs[i]?=some x→Pv i σ H→g x σ H fun σ2 H2=>tb { D with nx:=Pv (i + 1),ct:=Pv (i + 1),bk:=D.nx } σ2 H2) (hd:∀ σ H,Pv xs.length σ H→D.nx σ H):Loop (Itt K a) g tb D σ H:=for_tup Pv h0 hl hs hd
end
end L2

set_option maxHeartbeats 4000000
namespace L2
open PySem PySem.Spec PyProof.Rows

abbrev RC:=List V→Hp→VK→Prop
def rLen (K:PySem.W.Frag):RC:=fun xs H Q=>∃ p ys,xs=[.ref p]∧(SqL K H p ys∨SqT K H p ys)∧Q (.int ys.length) H
def rListOf (K:PySem.W.Frag):RC:=fun xs H Q=>∃ p ys,xs=[.ref p]∧(SqL K H p ys∨SqT K H p ys)∧∀ l,H l=none→Q (.ref l) (upd H l (.lst ys))
def rTupOf (K:PySem.W.Frag):RC:=fun xs H Q=>∃ p ys,xs=[.ref p]∧((SqL K H p ys∧∀ l,H l=none→Q (.ref l) (upd H l (.tup ys)))∨(SqT K H p ys∧Q (.ref p) H))
def rSorted (K:PySem.W.Frag):RC:=fun xs H Q=>∃ p ns,xs=[.ref p]∧(SqL K H p (ns.map V.int)∨SqT K H p (ns.map V.int))∧ns.length < 64 ∧
  ∀ ns':List Int,ns'.Perm ns→ns'.Pairwise (· ≤ ·)→∀ l,H l=none→Q (.ref l) (upd H l (.lst (ns'.map V.int)))
def rIsinst (K:PySem.W.Frag):RC:=fun xs H Q=>∃ x c cv t b,xs=[x,c]∧tyVal c=some cv∧TyOf K H x t∧PySem.W.kitOne K t cv=some b∧Q (.bl b) H
def rRange1:RC:=fun xs H Q=>∃ j:Int,xs=[.int j]∧-(2 ^ 62) ≤ j∧j < 2 ^ 62∧∀ p,H p=none→Q (.ref p) (upd H p (.rng 0 j))
def rRange2:RC:=fun xs H Q=>∃ i j:Int,xs=[.int i,.int j]∧(-(2 ^ 62) ≤ i∧i < 2 ^ 62∧-(2 ^ 62) ≤ j∧j < 2 ^ 62)∧∀ p,H p=none→Q (.ref p) (upd H p (.rng i j))
def rListRng:RC:=fun xs H Q=>∃ p lo hi,xs=[.ref p]∧H p=some (.rng lo hi)∧(-(2 ^ 62) ≤ lo∧lo < 2 ^ 62∧-(2 ^ 62) ≤ hi∧hi < 2 ^ 62)∧(hi - lo).toNat ≤ sizeLine∧∀ l,H l=none→Q (.ref l) (upd H l (.lst (rngV lo hi)))

section
variable {X:Cx} {K:PySem.W.Frag} (hK:X.K=K)
include hK
theorem ix_listK:IxR X (rIxL K):=by subst hK; exact ix_list
theorem ix_tupK:IxR X (rIxT K):=by subst hK; exact ix_tup
theorem call_lenK:CallR X (.builtin "len") (rLen K):=by subst hK; exact call_len_seq
theorem call_list_ofK:CallR X (.type "list") (rListOf K):=by subst hK; exact call_list_of
theorem call_tuple_ofK:CallR X (.type "tuple") (rTupOf K):=by subst hK; exact call_tuple_of
theorem op_in_seqK:OpR X (compareOp .In) (rIn K false):=by subst hK; exact op_in_seq
theorem op_notIn_seqK:OpR X (compareOp .NotIn) (rIn K true):=by subst hK; exact op_notIn_seq
theorem op_eq_seqK (hu:X.A.units < cLine):OpR X (compareOp .Eq) (rEqS K false):=by subst hK; exact op_eq_seq hu
theorem call_isinstK:CallR X (.builtin "isinstance") (rIsinst K):=by subst hK; exact call_isinst
theorem sl_listK:SlR X (rSlL K):=by subst hK; exact sl_list
theorem pi_listK {tg l:Expr} {tl:TE} (hl:PE X l tl):PI X tg l (iList K tl):=by subst hK; exact pi_list hl
theorem pi_tupK {tg l:Expr} {tl:TE} (hl:PE X l tl):PI X tg l (iTup K tl):=by subst hK; exact pi_tup hl
theorem pg_tupK {es:List Expr} {k:Nat} {t:TGs} {n:Nat} {pos:Pos} (hc:X.calm=true) (h:PGs X es t)
  (hn:(assignEach es X.env).length=n:=by rfl) (hst:(assignEach es X.env).findIdx? (·.1)=none:=by rfl):PG X (.Tuple es k pos) (gTup K n t):=by subst hK; exact pg_tup hc h hn hst
theorem pe_bmK {o e:Expr} {es:List Expr} {to:TE} {t:TA} {name:Str} {apos cpos:Pos} {T id:String} {r:V→List V→Hp→VK→Prop} (pa:PlainAttrs T) (slot:Slot T name id) (hty:typeOf (.builtin id)=pure (.type "method_descriptor")) (hm:MtR X id r) (ho:PE X o to) (ha:PA X (e :: es) t)
  (hbase:attributeBase o name X.env (eval o X.env)=eval o X.env:=by rfl)
  (hfew:((backTo cpos (starEach (e :: es) X.env)).all (fun x=>!x.1) && (backToKw cpos (keywordEach [] X.env)).all (fun x=>x.1.isSome)
   && decide ((e :: es).length + ([]:List Keyword).length + (if ([]:List Keyword).isEmpty then 0 else 1) < 30))=true:=by rfl)
  (hline:(apos.endLine == cpos.line)=true:=by rfl) (hs:starEach (e :: es) X.env=(false,eval e X.env) :: starEach es X.env:=by rfl) (hplain:(backTo cpos (starEach es X.env)).any (·.1)=false:=by rfl) :
  PE X (.Call (.Attribute o name apos) (e :: es) [] cpos) (tBM K T r to t):=by subst hK; exact pe_bm pa slot hty hm ho ha hbase hfew hline hs hplain
end
section
variable {X:Cx} {x:Str} {pos:Pos}
theorem call_range1R:CallR X (.type "range") rRange1:=call_range1
theorem call_list_rngR (hc:X.calm=true):CallR X (.type "list") rListRng:=call_list_rng hc
theorem pe_gint {i:Int} {t:Tok} (hg:Gl X x) (hm:X.mg x=some (.int i t)) (hd:(x == ("__debug__":Str))=false:=by decide):PE X (.Name x pos) (tC (.int i)):=pe_glob hg hm ⟨t,rfl⟩ hd
theorem pe_gcls {C:Addr} (hg:Gl X x) (hm:X.mg x=some (.ref C)) (hd:(x == ("__debug__":Str))=false:=by decide):PE X (.Name x pos) (tC (.ref C)):=pe_glob hg hm rfl hd
theorem pe_bty {n:String} (hg:Gl X x) (hm:X.mg x=none) (hv:bootBuiltins x=some (.type n)) (hn:x ≠ "__name__":=by decide) (hd:(x == ("__debug__":Str))=false:=by decide):PE X (.Name x pos) (tC (.ty n)) :=
 pe_bltn hg hm hv rfl hn hd
end

section
variable {K:PySem.W.Frag} {H:Hp} {Q:VK} {p:Addr}
theorem r_len:rLen K [.ref p] H Q=∃ ys,(SqL K H p ys∨SqT K H p ys)∧Q (.int ys.length) H:=propext
 ⟨fun ⟨_,ys,e,h⟩=>by cases e; exact ⟨ys,h⟩,fun ⟨ys,h⟩=>⟨_,ys,rfl,h⟩⟩
theorem r_listOf:rListOf K [.ref p] H Q=∃ ys,(SqL K H p ys∨SqT K H p ys)∧∀ l,H l=none→Q (.ref l) (upd H l (.lst ys)):=propext
 ⟨fun ⟨_,ys,e,h⟩=>by cases e; exact ⟨ys,h⟩,fun ⟨ys,h⟩=>⟨_,ys,rfl,h⟩⟩
theorem r_tupOf:rTupOf K [.ref p] H Q=∃ ys,((SqL K H p ys∧∀ l,H l=none→Q (.ref l) (upd H l (.tup ys)))∨(SqT K H p ys∧Q (.ref p) H)):=propext
 ⟨fun ⟨_,ys,e,h⟩=>by cases e; exact ⟨ys,h⟩,fun ⟨ys,h⟩=>⟨_,ys,rfl,h⟩⟩
theorem r_sorted:rSorted K [.ref p] H Q=∃ ns,(SqL K H p (ns.map V.int)∨SqT K H p (ns.map V.int))∧ns.length < 64 ∧
  ∀ ns':List Int,ns'.Perm ns→ns'.Pairwise (· ≤ ·)→∀ l,H l=none→Q (.ref l) (upd H l (.lst (ns'.map V.int))):=propext
 ⟨fun ⟨_,ys,e,h⟩=>by cases e; exact ⟨ys,h⟩,fun ⟨ys,h⟩=>⟨_,ys,rfl,h⟩⟩
theorem r_isinst {x:V} {n:String}:rIsinst K [x,.ty n] H Q=∃ t b,TyOf K H x t∧PySem.W.kitOne K t (.type n)=some b∧Q (.bl b) H:=propext
 ⟨fun ⟨_,_,cv,t,b,e,hc,h⟩=>by cases e; cases hc; exact ⟨t,b,h⟩,fun ⟨t,b,h⟩=>⟨_,_,_,t,b,rfl,rfl,h⟩⟩
theorem r_isinstC {x:V} {C:Addr}:rIsinst K [x,.ref C] H Q=∃ t b,TyOf K H x t∧PySem.W.kitOne K t (.ref C)=some b∧Q (.bl b) H:=propext
 ⟨fun ⟨_,_,cv,t,b,e,hc,h⟩=>by cases e; cases hc; exact ⟨t,b,h⟩,fun ⟨t,b,h⟩=>⟨_,_,_,t,b,rfl,rfl,h⟩⟩
theorem r_range1 {j:Int}:rRange1 [.int j] H Q=(-(2 ^ 62) ≤ j∧j < 2 ^ 62∧∀ p,H p=none→Q (.ref p) (upd H p (.rng 0 j))):=propext
 ⟨fun ⟨_,e,h⟩=>by cases e; exact h,fun h=>⟨_,rfl,h⟩⟩
theorem r_range2 {i j:Int}:rRange2 [.int i,.int j] H Q=((-(2 ^ 62) ≤ i∧i < 2 ^ 62∧-(2 ^ 62) ≤ j∧j < 2 ^ 62)∧∀ p,H p=none→Q (.ref p) (upd H p (.rng i j))):=propext
 ⟨fun ⟨_,_,e,h⟩=>by cases e; exact h,fun h=>⟨_,_,rfl,h⟩⟩
theorem r_listRng:rListRng [.ref p] H Q=∃ lo hi,H p=some (.rng lo hi)∧(-(2 ^ 62) ≤ lo∧lo < 2 ^ 62∧-(2 ^ 62) ≤ hi∧hi < 2 ^ 62)∧(hi - lo).toNat ≤ sizeLine∧∀ l,H l=none→Q (.ref l) (upd H l (.lst (rngV lo hi))):=propext
 ⟨fun ⟨_,lo,hi,e,h⟩=>by cases e; exact ⟨lo,hi,h⟩,fun ⟨lo,hi,h⟩=>⟨_,lo,hi,rfl,h⟩⟩
theorem r_ixL {i:Int}:rIxL K (.ref p) (.int i) H Q=∃ xs v,SqL K H p xs∧atI xs i=some v∧Q v H:=propext
 ⟨fun ⟨_,xs,_,v,e1,e2,h⟩=>by cases e1; cases e2; exact ⟨xs,v,h⟩,fun ⟨xs,v,h⟩=>⟨_,xs,_,v,rfl,rfl,h⟩⟩
theorem r_ixT {i:Int}:rIxT K (.ref p) (.int i) H Q=∃ xs v,SqT K H p xs∧atI xs i=some v∧Q v H:=propext
 ⟨fun ⟨_,xs,_,v,e1,e2,h⟩=>by cases e1; cases e2; exact ⟨xs,v,h⟩,fun ⟨xs,v,h⟩=>⟨_,xs,_,v,rfl,rfl,h⟩⟩
theorem r_eqS {b:Addr}:rEqS K false (.ref p) (.ref b) H Q=∃ xs ys,((SqL K H p xs∧SqL K H b ys)∨(SqT K H p xs∧SqT K H b ys))∧xs.all flatV=true∧ys.all flatV=true∧Q (.bl (eqVs xs ys)) H:=propext
 ⟨fun ⟨_,_,xs,ys,e1,e2,h⟩=>by cases e1; cases e2; exact ⟨xs,ys,h⟩,fun ⟨xs,ys,h⟩=>⟨_,_,xs,ys,rfl,rfl,h⟩⟩
theorem r_in {x:V}:rIn K false x (.ref p) H Q=∃ xs,(SqL K H p xs∨SqT K H p xs)∧flatV x=true∧xs.all flatV=true∧Q (.bl (inV x xs)) H:=propext
 ⟨fun ⟨_,xs,e,h⟩=>by cases e; exact ⟨xs,h⟩,fun ⟨xs,h⟩=>⟨_,xs,rfl,h⟩⟩
theorem r_notIn {x:V}:rIn K true x (.ref p) H Q=∃ xs,(SqL K H p xs∨SqT K H p xs)∧flatV x=true∧xs.all flatV=true∧Q (.bl (!inV x xs)) H:=propext
 ⟨fun ⟨_,xs,e,h⟩=>by cases e; exact ⟨xs,h⟩,fun ⟨xs,h⟩=>⟨_,xs,rfl,h⟩⟩
theorem r_popAt {i:Int}:rPopAt (.ref p) [.int i] H Q=∃ xs k y,H p=some (.lst xs)∧-(2 ^ 63) ≤ i∧i < 2 ^ 63∧seqIndex? i xs.length=some k∧xs[k]?=some y∧Q y (upd H p (.lst (xs.eraseIdx k))):=propext
 ⟨fun ⟨_,xs,_,k,y,e1,e2,h⟩=>by cases e1; cases e2; exact ⟨xs,k,y,h⟩,fun ⟨xs,k,y,h⟩=>⟨_,xs,_,k,y,rfl,rfl,h⟩⟩
theorem r_setL {k:Int} {v:V} {R:Hp→Prop}:rSetL (.ref p) (.int k) v H R=∃ xs j,H p=some (.lst xs)∧ixN xs.length k=some j∧R (upd H p (.lst (xs.set j v))):=propext
 ⟨fun ⟨_,xs,_,j,e1,e2,h⟩=>by cases e1; cases e2; exact ⟨xs,j,h⟩,fun ⟨xs,j,h⟩=>⟨_,xs,_,j,rfl,rfl,h⟩⟩
theorem r_rep {k:Int}:rRep (.ref p) (.int k) H Q=∃ xs,H p=some (.lst xs)∧-(2 ^ 63) ≤ k∧k < 2 ^ 63∧xs.length * k.toNat ≤ sizeLine∧∀ r,H r=none→Q (.ref r) (upd H r (.lst (List.replicate k.toNat xs).flatten)):=propext
 ⟨fun ⟨_,_,xs,e1,e2,h⟩=>by cases e1; cases e2; exact ⟨xs,h⟩,fun ⟨xs,h⟩=>⟨_,_,xs,rfl,rfl,h⟩⟩
theorem r_gtupR {n:Nat} {t:TGs} {σ:St} {R:St→Hp→Prop}:gTup K n t (.ref p) σ H R=∃ xs,SqT K H p xs∧xs.length=n∧t xs σ H R:=propext
 ⟨fun ⟨_,xs,e,h⟩=>by cases e; exact ⟨xs,h⟩,fun ⟨xs,h⟩=>⟨_,xs,rfl,h⟩⟩
theorem r_esome {a:V} {R:V→Prop}:(∃ v,some (some a)=some (some v)∧R v)=R a:=propext ⟨fun ⟨_,e,h⟩=>by cases e; exact h,fun h=>⟨_,rfl,h⟩⟩
theorem r_earg2 {a b:Int} {R:Int→Int→Prop}:(∃ i j,[V.int a,V.int b]=[V.int i,V.int j]∧R i j)=R a b:=propext ⟨fun ⟨_,_,e,h⟩=>by cases e; exact h,fun h=>⟨_,_,rfl,h⟩⟩
end
structure SEq (σ τ:St):Prop where
 eq:σ=τ
end L2

set_option maxHeartbeats 4000000

namespace L2
open PySem PySem.Spec PyProof.Rows
section
variable {prog:Program} {w:World} {A:Around} {E:Value→Shared→Prop} {s:Shared}
end
section
variable {prog:Program} {w:World} {A:Around} {E:Value→Shared→Prop} {s:Shared}
end

def ItE (K:PySem.W.Frag) (a:Addr):It :=
 ⟨fun i H=>∃ xs x,SqT K H a xs∧xs[i]?=some x,fun i H v H'=>∃ T x,v=.ref T∧H T=none∧H'=upd H T (.tup [.int i,x])∧∀ xs,SqT K H a xs→xs[i]?=some x,fun i H=>∃ xs,SqT K H a xs∧xs.length ≤ i⟩
end L2

set_option maxHeartbeats 4000000
namespace L2
open PySem PySem.Spec PyProof.Rows

def iEnum (K:PySem.W.Frag) (ta:TA):TI:=fun σ H R=>ta σ H fun vs H1=>∃ a,vs=[.ref a]∧(∃ xs,SqT K H1 a xs)∧R (ItE K a) H1
theorem r_ienum {K:PySem.W.Frag} {ta:TA} {σ:St} {H:Hp} {R:It→Hp→Prop}:iEnum K ta σ H R=ta σ H (fun vs H1=>∃ a,vs=[.ref a]∧(∃ xs,SqT K H1 a xs)∧R (ItE K a) H1):=rfl
theorem r_eargR {b:Addr} {R:Addr→Prop}:(∃ k,[V.ref b]=[V.ref k]∧R k)=R b:=propext ⟨fun ⟨_,e,h⟩=>by cases e; exact h,fun h=>⟨_,rfl,h⟩⟩

section
variable {prog:Program} {w:World} {A:Around} {E:Value→Shared→Prop} {s:Shared}
theorem collect_range {Q:List Value→Shared→Prop} {r:Addr} {a b:Int} {t u v:Tok} {n:Nat} (hh:A.handled=none) (hr:IsRange s.heap r a b 1 t u v) (hsm:Builtin.Range.small a b 1=true) (hn:Builtin.Range.rangeSize a b 1=n) (hlen:n ≤ 2 ^ 24)
  (hQ:∀ h' tk (acc:Array Value),(∀ b o',s.heap.get? b=some o'→h'.get? b=some o')→ItemsOf (fun i v=>∃ t,v=.int (a + i * 1) t) acc n→Q acc.toList { s with heap:=h',toks:=tk }) :
  wpAny (model prog w) A (collect (.ref r)) Q E s:=by
 unfold collect
 refine wpAny_bind (wpAny_runValue (codeAny_builtin F.entry_proto_collect ?_))
 rw [Around.under_plainId F.plain_proto_collect _]
 show wpAny _ A.in1 (newList [] >>= fun l=>again (.builtin "list.__iadd__" ⟨[l,.ref r],[]⟩)) _ _ s
 refine wpAny_bind (wpAny_newObj_type ?_)
 refine wpAny_pure ⟨plainId_quiet F.plain_list_iadd _,codeAny_builtin F.entry_list_iadd ?_⟩
 rw [Around.under_plainId F.plain_list_iadd _]
 show wpAny _ A.in1 (Builtin.List.listExtendWith (.ref s.heap.objs.size) (.ref r) (.ref s.heap.objs.size)) _ _ _
 have hS:(s.heap.push { cls:=.type "list",data:=.seq ([]:List Value).toArray }).get? s.heap.objs.size=some { cls:=.type "list",data:=.seq #[] 0 }:=Heap.get?_push_size _ rfl
 have fin':∀ (h':Heap) (tk:Nat) (acc:Array Value) (c:Nat),(∀ b o',s.heap.get? b=some o'→h'.get? b=some o')→h'.get? s.heap.objs.size=some { cls:=.type "list",dict:=none,data:=.seq acc c,slots:=#[] }→ItemsOf (fun i v=>∃ t,v=.int (a + i * 1) t) acc n →
   wpAny (model prog w) A (match Value.ref s.heap.objs.size with
   | Value.ref a=>do
    match (← load a).data with
     | Data.seq xs _=>pure xs.toList
     | _=>unsupported "internal:collect"
   | _=>unsupported "internal:collect") Q E { s with heap:=h',toks:=tk }:=fun h' tk acc c kp ho it=>by
  show wpAny _ A (load s.heap.objs.size >>= _) _ _ _
  refine wpAny_bind (wpAny_load ho ?_)
  exact wpAny_pure (hQ h' tk acc kp it)
 refine wpAny_mono (wpAny_extend_range (A:=A) (R:=fun r' s'=>r'=.ok (.ret (.ref s.heap.objs.size))∧∃ h' tk acc c,s'={ s with heap:=h',toks:=tk }∧(∀ b o',s.heap.get? b=some o'→h'.get? b=some o')∧h'.get? s.heap.objs.size=some { cls:=.type "list",dict:=none,data:=.seq acc c,slots:=#[] }∧ItemsOf (fun i v=>∃ t,v=.int (a + i * 1) t) acc n)
  (s:={ s with heap:=s.heap.push { cls:=.type "list",data:=.seq ([]:List Value).toArray } }) hh (Heap.get?_push_of_some _ hr) hsm hn hlen s.heap.objs.size (.ref s.heap.objs.size) 0 hS
  fun h' tk acc c kp ho it=>⟨rfl,h',tk,acc,c,rfl,fun b o' q=>kp b o' (Nat.ne_of_lt (Heap.lt_size q)) (Heap.get?_push_of_some _ q),ho,it⟩) (fun fin s' h=>?_) (fun e s' h=>?_)
 ·cases fin with
  | done f =>
   obtain ⟨e,h',tk,acc,c,rfl,kp,ho,it⟩:=h
   cases e
   exact fin' h' tk acc c kp ho it
  | again c'=>exact ⟨h.1,codeAny_mono h.2 fun r' s'' hr=>by obtain ⟨rfl,h',tk,acc,c,rfl,kp,ho,it⟩:=hr; exact fin' h' tk acc c kp ho it⟩
 ·exact absurd h.1 (by simp)
end
set_option maxHeartbeats 8000000 in
theorem tupNewRange (r:Addr) (a b:Int) (t u v:Tok) (n:Nat) (hsm:Builtin.Range.small a b 1=true) (hn:Builtin.Range.rangeSize a b 1=n) (hlen:n ≤ sizeLine) :
  Meets (Builtin.«tuple.__new__» ⟨[.type "tuple",.ref r],[]⟩)
   (fun A R s=>A.handled=none∧IsRange s.heap r a b 1 t u v∧∀ (h':Heap) (tk:Nat) (acc:Array Value),(∀ b o',s.heap.get? b=some o'→h'.get? b=some o')→ItemsOf (fun i v=>∃ t,v=.int (a + i * 1) t) acc n →
    R (.ok (.ret (.ref h'.objs.size))) { s with heap:=h'.push { cls:=.type "tuple",data:=.seq acc },toks:=tk }) :=
 .of_wp fun prog w A R s h=>by
  obtain ⟨hp,g,d,tk,os⟩:=s; obtain ⟨hh,ht,h⟩:=h
  have hsub:=sub_tuple_self
  have hinit:=init_tuple_lookup
  have hmh:=madeHere_tuple
  have hs24:sizeLine=16777216:=sizeLine_eq
  have hT:Shared.TypeIs ⟨hp,g,d,tk,os⟩ (.ref r) "range":=⟨_,ht,rfl⟩
  wp_walk using AutoSeq1.wpAny_loadPart' ht,wpAny_typeOf hT,collect_range (A:=A.in1) hh ht hsm hn (by omega)
  intro h' tk' acc hk hit
  show wpAny _ _ (Builtin.Tuple.tupleExact acc.toList.toArray >>= fun v=>ret v) _ _ _
  unfold Builtin.Tuple.tupleExact
  have hz:acc.size ≤ sizeLine:=by rw [hit.1]; exact hlen
  refine wpAny_bind (wpAny_newObj_type ?_ (by show acc.toList.toArray.size ≤ sizeLine; simpa using hz))
  refine wpAny_pure ⟨_,rfl,?_⟩
  have e:acc.toList.toArray=acc:=by simp
  rw [e]
  exact h h' tk' acc hk hit
def rTupRng:RC:=fun xs H Q=>∃ p lo hi,xs=[.ref p]∧H p=some (.rng lo hi)∧(-(2 ^ 62) ≤ lo∧lo < 2 ^ 62∧-(2 ^ 62) ≤ hi∧hi < 2 ^ 62)∧(hi - lo).toNat ≤ sizeLine∧∀ l,H l=none→Q (.ref l) (upd H l (.tup (rngV lo hi)))
theorem call_tuple_rngR {X:Cx} (hc:X.calm=true):CallR X (.type "tuple") rTupRng:=by
 intro pins s σ H xs us Q I r h
 obtain ⟨p,lo,hi,rfl,hp,⟨b1,b2,b3,b4⟩,hz,q⟩:=h
 obtain ⟨u,rfl,rx⟩:=vals1 r
 cases rx
 obtain ⟨t,u,v,e⟩:=(show ObjOk X.prog X.w H s.heap p (.rng lo hi) from I.hok p _ hp)
 have hn:Builtin.Range.rangeSize lo hi 1=(((hi - lo).toNat:Nat):Int):=by rw [rangeSize_one]; split <;> omega
 refine callType_new F.called_tuple (by decide) (F.typeCall_tuple_1 _) (F.newCall_tuple_1 _) (fun obj=>F.args_object_init_2 obj _) F.entry_tuple_new
  (tupNewRange p lo hi t u v (hi - lo).toNat (small_one b1 b2 b3 b4) hn hz) ⟨I.ok.hd hc,e,fun h' tk acc hk it=>⟨⟨_,Heap.get?_push_size _ rfl,rfl⟩,?_⟩⟩
 have rv:Vals (rngV lo hi) acc.toList:=by
  refine vals_items _ acc.toList (by simpa using it.1) fun j v hj=>?_
  obtain ⟨t,e⟩:=it.2 j v (by simpa using hj)
  exact ⟨t,by rw [e,Int.mul_one]⟩
 have I1:Inv X pins σ H { s with heap:=h',toks:=tk }:=I.kept hk
 have I2:Inv X pins σ (upd H h'.objs.size (.tup (rngV lo hi))) { s with heap:=h'.push { cls:=.type "tuple",data:=.seq acc },toks:=tk } :=
  I1.laid (fun b o e=>Heap.get?_push_of_some _ e) (Nat.le_refl _) (show ObjOk X.prog X.w _ _ _ (.tup (rngV lo hi)) from ⟨by rw [rngV_len]; exact hz,acc.toList,rv,by simpa using IsTq.new h' acc⟩)
 exact ⟨.ref h'.objs.size,_,I2,rfl,q _ (I1.hok.fresh (Nat.le_refl _))⟩
theorem r_tupRng {H:Hp} {Q:VK} {p:Addr}:rTupRng [.ref p] H Q=∃ lo hi,H p=some (.rng lo hi)∧(-(2 ^ 62) ≤ lo∧lo < 2 ^ 62∧-(2 ^ 62) ≤ hi∧hi < 2 ^ 62)∧(hi - lo).toNat ≤ sizeLine∧∀ l,H l=none→Q (.ref l) (upd H l (.tup (rngV lo hi))):=propext
 ⟨fun ⟨_,lo,hi,e,h⟩=>by cases e; exact ⟨lo,hi,h⟩,fun ⟨lo,hi,h⟩=>⟨_,lo,hi,rfl,h⟩⟩
end L2

set_option maxHeartbeats 4000000
namespace L2
open PySem PySem.Spec PyProof.Rows

section
variable {prog:Program} {w:World} {A:Around} {E:Value→Shared→Prop} {s:Shared}
theorem min_intTuple {l:Addr} {xs:Array (Int × Tok)} {Q:Value→Shared→Prop} (hh:A.handled=none) (hl:s.heap.IsTuple l (intItems xs)) (hne:0 < xs.size)
  (h:∀ v h' tk,(intItems xs)[argBest (fun i j=>decide (numAt xs i < numAt xs j)) (xs.size - 1)]?=some v→(∀ b o,s.heap.get? b=some o→h'.get? b=some o)→Q v { s with heap:=h',toks:=tk }) :
  wpAny (model prog w) A (call (.builtin "min") [.ref l]) Q E s:=by
 have hlt:l < s.heap.objs.size:=by obtain ⟨_,e,_⟩:=hl; exact Heap.lt_size e
 refine call_min_walk (wpAny_pyIter_tuple hl ?_)
 refine ⟨_,_,_,_,_,_,_,rfl,Walks.tuple (A:=A.in1) hh _ l (Nat.ne_of_lt hlt) (intItems xs),⟨⟨_,Heap.get?_push_size _ rfl,rfl,rfl⟩,hl.push _⟩,fun b hb=>?_,by simpa [intItems] using hne,CmpOf.ints_lt (numAt xs) (fun _ _=>intItems_at),fun v h' tk hP hk=>?_⟩
 ·show b < (s.heap.push _).objs.size
  rw [Heap.size_push]
  rcases List.mem_cons.mp hb with q | q
  ·rw [q]; exact Nat.lt_succ_self _
  ·rw [show b=l by simpa using q]; exact Nat.lt_succ_of_lt hlt
 ·refine h v h' tk (by simpa [intItems] using hP) fun b o e=>hk b o (fun hm=>?_) (Heap.get?_push_of_some _ e)
  exact absurd (show b=s.heap.objs.size by simpa using hm) (Nat.ne_of_lt (Heap.lt_size e))
end
theorem ints_items {us:List Value} {ns:List Int} (hi:IntsAre us ns):∃ xs:Array (Int × Tok),us.toArray=intItems xs∧ns=xs.toList.map (·.1)∧xs.size=ns.length:=by
 obtain ⟨xs,e⟩:=hi.allInts.items
 have hns:ns=xs.toList.map (·.1):=by rw [← hi.numsOf,← nums_intItems,← e]
 exact ⟨xs,e,hns,by rw [hns,List.length_map,Array.length_toList]⟩
theorem least_of {xs:Array (Int × Tok)} {ns:List Int} (hns:ns=xs.toList.map (·.1)) (hsz:0 < xs.size) {v:Value} (hv:(intItems xs)[argBest (fun i j=>decide (numAt xs i < numAt xs j)) (xs.size - 1)]?=some v) :
  ∃ M t,v=.int M t∧M ∈ ns∧∀ a,a ∈ ns→M ≤ a:=by
 obtain ⟨t,rfl⟩:=intItems_at hv
 obtain ⟨h1,h2⟩:=argBest_lt (numAt xs) (xs.size - 1)
 refine ⟨_,t,rfl,?_,fun a ha=>?_⟩
 ·rw [hns,numAt_eq]; exact getD_mem (by rw [List.length_map,Array.length_toList]; omega)
 ·rw [hns] at ha
  obtain ⟨j,hj,rfl⟩:=mem_getD ha
  rw [List.length_map,Array.length_toList] at hj
  rw [← numAt_eq]; exact h2 j (by omega)
def rMin (K:PySem.W.Frag):RC:=fun xs H Q=>∃ (p:Addr) (ns:List Int),xs=[.ref p]∧(SqL K H p (ns.map V.int)∨SqT K H p (ns.map V.int))∧0 < ns.length∧∀ m:Int,m ∈ ns→(∀ a,a ∈ ns→m ≤ a)→Q (.int m) H
def rSum (K:PySem.W.Frag):RC:=fun xs H Q=>∃ (p:Addr) (ns:List Int),xs=[.ref p]∧SqL K H p (ns.map V.int)∧Q (.int ns.sum) H
section
variable {X:Cx} {K:PySem.W.Frag} (hK:X.K=K)
include hK
theorem call_minK (hc:X.calm=true):CallR X (.builtin "min") (rMin K):=by
 subst hK
 intro pins s σ H xs us Q I r h
 obtain ⟨p,ns,rfl,hq,hne,q⟩:=h
 obtain ⟨u,rfl,rx⟩:=vals1 r
 cases rx
 rcases hq with hq | hq
 ·obtain ⟨its,rv,pl,_⟩:=I.list hq
  obtain ⟨zs,e,hns,hz⟩:=ints_items (intsAre_of rv)
  refine min_intList (I.ok.hd hc) (xs:=zs) (by rw [← e]; exact pl.isList) (by omega) fun v h' tk hv hk=>?_
  obtain ⟨M,t,rfl,h1,h2⟩:=least_of hns (by omega) hv
  exact ⟨.int M,H,I.kept hk,⟨t,rfl⟩,q M h1 h2⟩
 ·obtain ⟨its,rv,pl,_⟩:=I.tuple hq
  obtain ⟨zs,e,hns,hz⟩:=ints_items (intsAre_of rv)
  refine min_intTuple (I.ok.hd hc) (xs:=zs) (by rw [← e]; exact pl) (by omega) fun v h' tk hv hk=>?_
  obtain ⟨M,t,rfl,h1,h2⟩:=least_of hns (by omega) hv
  exact ⟨.int M,H,I.kept hk,⟨t,rfl⟩,q M h1 h2⟩
end
section
variable {K:PySem.W.Frag} {H:Hp} {Q:VK} {p:Addr}
theorem r_min:rMin K [.ref p] H Q=∃ ns:List Int,(SqL K H p (ns.map V.int)∨SqT K H p (ns.map V.int))∧0 < ns.length∧∀ m:Int,m ∈ ns→(∀ a,a ∈ ns→m ≤ a)→Q (.int m) H:=propext
 ⟨fun ⟨_,ys,e,h⟩=>by cases e; exact ⟨ys,h⟩,fun ⟨ys,h⟩=>⟨_,ys,rfl,h⟩⟩
theorem r_sum:rSum K [.ref p] H Q=∃ ns:List Int,SqL K H p (ns.map V.int)∧Q (.int ns.sum) H:=propext
 ⟨fun ⟨_,ys,e,h⟩=>by cases e; exact ⟨ys,h⟩,fun ⟨ys,h⟩=>⟨_,ys,rfl,h⟩⟩
def WLoop (c:TT) (tb:TS) (D:Ends) (σ:St) (H:Hp):Prop:=tWhile c tb D σ H
theorem r_while {c:TT} {tb:TS} {D:Ends} {σ:St}:tWhile c tb D σ H=WLoop c tb D σ H:=rfl
end
theorem wloop {c:TT} {tb:TS} {D:Ends} {σ:St} {H:Hp} (W:Nat→St→Hp→Prop) (m:Nat) (h0:W m σ H)
  (hs:∀ m σ H,W m σ H→c σ H fun b H1=>if b=true then ∃ N:St→Hp→Prop,(∀ σ' H',N σ' H'→∃ m',m' < m∧W m' σ' H')∧tb { D with nx:=N,ct:=N,bk:=D.nx } σ H1 else D.nx σ H1):WLoop c tb D σ H :=
 ⟨W,⟨m,h0⟩,hs⟩
end L2

set_option maxHeartbeats 4000000

namespace L2
open PySem PySem.Spec PyProof.Rows
section
variable {X:Cx}
theorem op_ne_seq (hu:X.A.units < cLine):OpR X (compareOp .NotEq) (rEqS X.K true):=by
 intro pins s σ H x y v u Q I rx ry h
 obtain ⟨a,b,xs,ys,rfl,rfl,hq,fx,fy,q⟩:=h
 cases rx
 cases ry
 have q:Q (.bl (!eqVs xs ys)) H:=q
 rcases hq with ⟨ha,hb⟩ | ⟨ha,hb⟩
 ·obtain ⟨us,r1,p1,_⟩:=I.list ha
  obtain ⟨ws,r2,p2,_⟩:=I.list hb
  have l1:=r1.length
  have l2:=r2.length
  by_cases hl:xs.length=ys.length
  ·refine SeqAt.RcNeAt.lists p1.isList p2.isList (by simp only [List.size_toArray]; omega) hu (fun j h1 h2=>eqAt_items r1 r2 fx fy j h1 h2) _ _ _ _ ⟨.bl _,H,I,rfl,?_⟩
   have e:eqVs xs ys=(List.range us.toArray.size).all fun j=>match xs[j]?,ys[j]? with | some x,some y=>eqV x y | _,_=>false:=by
    unfold eqVs
    rw [List.size_toArray,← l1,beq_iff_eq.mpr hl,Bool.true_and]
    all_goals rfl
   rw [e] at q; exact q
  ·refine SeqAt.RcNeAt.lists_lengths p1.isList p2.isList (by simp only [List.size_toArray,bne_iff_ne]; omega) hu _ _ _ _ ⟨.bl true,H,I,rfl,?_⟩
   have e:eqVs xs ys=false:=by
    unfold eqVs
    rw [beq_eq_false_iff_ne.mpr hl,Bool.false_and]
   rw [e] at q; exact q
 ·obtain ⟨us,r1,p1,_⟩:=I.tuple ha
  obtain ⟨ws,r2,p2,_⟩:=I.tuple hb
  have l1:=r1.length
  have l2:=r2.length
  refine SeqAt.RcNeAt.tuples p1 p2 hu (fun j h1 h2=>eqAt_items r1 r2 fx fy j h1 h2) _ _ _ _ ⟨.bl _,H,I,rfl,?_⟩
  have e:eqVs xs ys=((List.range (min us.toArray.size ws.toArray.size)).all (fun j=>match xs[j]?,ys[j]? with | some x,some y=>eqV x y | _,_=>false) && us.toArray.size == ws.toArray.size):=by
   unfold eqVs
   simp only [List.size_toArray,← l1,← l2]
   by_cases hl:xs.length=ys.length
   ·rw [hl,Nat.min_self,Bool.and_comm]
    all_goals rfl
   ·rw [beq_eq_false_iff_ne.mpr hl,Bool.false_and,Bool.and_false]
  rw [e] at q; exact q
theorem op_ne_seqK {K:PySem.W.Frag} (hK:X.K=K) (hu:X.A.units < cLine):OpR X (compareOp .NotEq) (rEqS K true):=by subst hK; exact op_ne_seq hu
theorem r_neS {K:PySem.W.Frag} {H:Hp} {Q:VK} {p b:Addr}:rEqS K true (.ref p) (.ref b) H Q=∃ xs ys,((SqL K H p xs∧SqL K H b ys)∨(SqT K H p xs∧SqT K H b ys))∧xs.all flatV=true∧ys.all flatV=true∧Q (.bl (!eqVs xs ys)) H:=propext
 ⟨fun ⟨_,_,xs,ys,e1,e2,h⟩=>by cases e1; cases e2; exact ⟨xs,ys,h⟩,fun ⟨xs,ys,h⟩=>⟨_,_,xs,ys,rfl,rfl,h⟩⟩
end
end L2


namespace L2
open PySem PySem.Spec PyProof.Rows
def tInts (l:List Int):TA:=fun _ H Q=>Q (l.map V.int) H
theorem r_ints {l:List Int} {σ:St} {H:Hp} {R:List V→Hp→Prop}:tInts l σ H R=R (l.map V.int) H:=rfl
end L2

set_option maxHeartbeats 4000000

namespace L2
open PySem PySem.Spec PyProof.Rows

abbrev bmV:List Value:=[.type "ValueError",.type "Exception",.type "BaseException",.type "object"]
structure XCls (K:PySem.W.Frag) (C:Addr):Prop where
 exc:PySem.W.excIn K C bmV "ValueError.__new__"=true
 ga:PySem.W.findIn K (.ref C) "__getattribute__"=some (some (.builtin "BaseException.__getattribute__"))
 gt:PySem.W.findIn K (.ref C) "__getattr__"=some none
 cl:PySem.W.findIn K (.ref C) "__class__"=some (some (.builtin "object.__class__"))
 sp:PySem.W.specialIn K (.builtin "object.__class__") "__get__"=some (some (.builtin "getset_descriptor.__get__"))
 tk:PySem.W.takesIn K (.builtin "object.__class__")=some true
 ob:PySem.W.mroIn K C (.type "object")=some true
 bs:PySem.W.mroIn K C (.type "BaseException")=some true
 ve:PySem.W.mroIn K C (.type "ValueError")=some true
 ty:PySem.W.typeIn K (.ref C)=some (.type "type")
 me:PySem.W.mroIn K C (.ref C)=some true

section
variable {K:PySem.W.Frag} {C D x:Addr} {h:Heap}
theorem mro_cls {b:Bool} {v:Value} (m:PySem.W.mroIn K C v=some b):(PySem.W.clsIn K C).isSome=true:=by
 unfold PySem.W.mroIn at m
 cases q:PySem.W.clsIn K C with
 | none=>rw [q] at m; cases m
 | some cd=>rfl
theorem XCls.kit {b:Bool} (c:XCls K C) (d:XCls K D) (m:PySem.W.mroIn K C (.ref D)=some b):PySem.W.kitCls K (.ref C) (.ref D)=some b:=by
 unfold PySem.W.kitCls
 dsimp only
 rw [if_pos (by rw [mro_cls d.me,d.ty]; rfl)]
 exact m
theorem XCls.one {b:Bool} (c:XCls K C) (d:XCls K D) (m:PySem.W.mroIn K C (.ref D)=some b):PySem.W.kitOne K (.ref C) (.ref D)=some b:=by
 unfold PySem.W.kitOne
 by_cases q:(Value.ref C == Value.ref D)=true
 ·rw [if_pos q]
  have e:C=D:=Value.ref.inj (beq_iff_eq.mp q)
  subst e
  exact c.me.symm.trans m
 ·rw [if_neg q]
  exact c.kit d m
theorem kitMeta_VE:PySem.W.kitMeta "ValueError"=true:=by decide +kernel
theorem XCls.oneV (c:XCls K C):PySem.W.kitOne K (.ref C) (.type "ValueError")=some true:=by
 unfold PySem.W.kitOne
 rw [if_neg (by intro q; cases beq_iff_eq.mp q)]
 show (if PySem.W.kitMeta "ValueError"=true then PySem.W.subIn K (.ref C) (.type "ValueError") else none)=some true
 rw [if_pos kitMeta_VE]
 exact c.ve
theorem XCls.exm {b:Bool} (c:XCls K C) (d:XCls K D) (m:PySem.W.mroIn K C (.ref D)=some b):PySem.W.exmOne K (.ref C) (.ref D)=some b:=by
 have e:PySem.W.subIn K (.ref D) (.type "BaseException")=some true:=d.bs
 unfold PySem.W.exmOne
 rw [if_pos (by rw [e]; rfl)]
 exact c.kit d m
theorem XCls.own {n:Str} {mg:Str→Option Value} (c:XCls K C) (X:K.In h) (hm:mg n=some (.ref C)):OwnCls n C bmV "ValueError.__new__" mg h:=by
 refine ⟨hm,?_⟩
 have q:=c.exc
 unfold PySem.W.excIn at q
 split at q
 ·rename_i dd cd sl ho
  split at q
  ·rename_i C1 bm k0 k1 k2 k3 nn k5 e1 e2
   rw [Bool.and_eq_true,Bool.and_eq_true,Bool.and_eq_true,Bool.and_eq_true,Bool.and_eq_true,beq_iff_eq,beq_iff_eq,beq_iff_eq,Bool.not_eq_true'] at q
   obtain ⟨⟨⟨⟨⟨z1,z2⟩,z3⟩,z4⟩,z5⟩,z6⟩:=q
   subst z1 z2
   obtain ⟨l⟩:=sl
   have e2:l=[k0,k1,k2,k3,some (.builtin "ValueError.__new__"),k5]:=e2
   subst e2
   obtain ⟨nm,bs,mro,ns,qn,hd,sn,sub,ab,col,del⟩:=cd
   have e1:mro=.ref C1 :: bm:=e1
   have z3:del=false:=z3
   subst e1 z3
   exact ⟨bm,ns,nm,qn,bs,hd,sn,sub,ab,col,dd,k0,k1,k2,k3,k5,_,X _ _ ho,.of_isNs (PySem.W.isNs_of_in X z5),PySem.W.nsMap_none_of_in X z5 z6,PySem.W.tail_of_in X z4⟩
  ·cases q
 ·cases q
end

end L2

namespace L2

open PySem PyProof.Rows PySem.Builtin PySem.Builtin.ObjectAttr PySem.Builtin.Getset_descriptor
section
variable {prog:Program} {w:World} {A:Around} {E:Value→Shared→Prop} {s:Shared} {K:PySem.W.Frag} {x C:Addr}
theorem exc_find {M:Model} {h:Heap} (X:K.In h) (c:XCls K C):PySem.W.Looks M h (find (.ref x) (.ref C) "__class__") (.bind (.builtin "getset_descriptor.__get__") (.builtin "object.__class__")):=by
 have L3:=PySem.W.looks_takesIn (M:=M) X c.tk
 have L4:PySem.W.Looks M h (dataDescriptor? (some (.builtin "object.__class__")) (some (.builtin "getset_descriptor.__get__"))) (some (.builtin "getset_descriptor.__get__",.builtin "object.__class__")):=L3.andThen .now
 exact (PySem.W.looks_findIn (M:=M) X c.cl).andThen ((show PySem.W.Looks M h (getOf (some (.builtin "object.__class__"))) (some (.builtin "getset_descriptor.__get__")) from PySem.W.looks_specialIn X c.sp).andThen (L4.andThen (PySem.W.Looks.tag .now)))
open PySem.W in
theorem exc_get {tp:Value} {R:Result→Shared→Prop} (L0:PySem.W.Looks (model prog w) s.heap (typeOf (.ref x)) (.ref C)) (X:K.In s.heap) (c:XCls K C) (h:R (.ok (.ret (.ref C))) s) :
  codeAny (model prog w) A (.call (.builtin "getset_descriptor.__get__") ⟨[.builtin "object.__class__",.ref x,tp],[]⟩) R s:=by
 obtain ⟨hh,gg,dr,tt,oo⟩:=s
 have L1:=PySem.W.looks_mroIn (M:=model prog w) X c.ob
 refine codeAny_call_builtin KF.slot_gs.plain KF.entry_gs (KF.slot_gs.check _ _ _ _ _ _ _ _ KF.type_class (KF.args_gs _ _ _) ?_)
 unfold Builtin.«getset_descriptor.__get__» descrGet
 rw [PySem.W.dga_obj]
 refine wpAny_bind (wpAny_pure ?_)
 unfold descrGetter descrCheckInstance descrNameAndClass isInstance
 simp only [KF.owner_class]
 repeat lk
 refine ⟨Code.quiet_builtin _ (by decide +kernel),codeAny_builtin KF.entry_class ?_⟩
 unfold Builtin.«object.__class__» shownTypeOf
 repeat lk
 exact h
theorem exc_ga {tk:Tok} {o:Obj} {R:Result→Shared→Prop} (hx:s.heap.get? x=some o) (hc:o.cls=.ref C) (X:K.In s.heap) (c:XCls K C) (h:R (.ok (.ret (.ref C))) s) :
  codeAny (model prog w) A (.call (.builtin "BaseException.__getattribute__") ⟨[.ref x,.str "__class__" tk],[]⟩) R s:=by
 obtain ⟨hh,gg,dr,tt,oo⟩:=s
 have hx:hh.get? x=some o:=hx
 have L0:PySem.W.Looks (model prog w) hh (typeOf (.ref x)) (.ref C):=hc ▸ (PySem.W.Looks.ld hx).andThen .now
 have L1:PySem.W.Looks (model prog w) hh (isSubtype (.ref C) (.type "BaseException")) true:=PySem.W.looks_mroIn (M:=model prog w) X c.bs
 have L2:PySem.W.Looks (model prog w) hh (find (.ref x) (.ref C) "__class__") (.bind (.builtin "getset_descriptor.__get__") (.builtin "object.__class__")):=exc_find (x:=x) (M:=model prog w) X c
 refine codeAny_call_builtin F.excAttr_ValueError.ga.plain F.entry_bexc_ga ?_
 have k1:builtinKind "BaseException.__getattribute__"=some .slot:=by decide +kernel
 have k2:splitId "BaseException.__getattribute__"=some ("BaseException","__getattribute__"):=by decide +kernel
 have k3:=F.args_bexc_ga (.ref x) (.str "__class__" tk)
 simp only [checkBuiltinCall,k1,k2]
 unfold isInstance
 refine wpAny_bind (wpAny_bind (L0.at (L1.at ?_)))
 repeat (any_goals (first | assumption | (with_reducible refine wpAny_loadPart_at hx ?_; rw [hc]) | (with_reducible refine wpAny_bind (L2.at ?_)) | (with_reducible refine L2.at ?_) | wp_step))
 refine exc_get (s:=⟨hh,gg,dr,tt,oo⟩) L0 X c ?_
 exact wpAny_pure h
theorem exc_class {o:Obj} {Q:Option Value→Shared→Prop} (hx:s.heap.get? x=some o) (hc:o.cls=.ref C) (X:K.In s.heap) (c:XCls K C) (h:Q (some (.ref C)) { s with toks:=s.toks + 1 }) :
  wpAny (model prog w) A (getAttr? (.ref x) "__class__") Q E s:=by
 obtain ⟨hh,gg,dr,tt,oo⟩:=s
 have hx:hh.get? x=some o:=hx
 have L0:PySem.W.Looks (model prog w) hh (typeOf (.ref x)) (.ref C):=hc ▸ (PySem.W.Looks.ld hx).andThen .now
 have L1:PySem.W.Looks (model prog w) hh (typeLookup (.ref C) "__getattribute__") (some (.builtin "BaseException.__getattribute__")):=PySem.W.looks_findIn (M:=model prog w) X c.ga
 have L2:PySem.W.Looks (model prog w) hh (typeLookup (.ref C) "__getattr__") none:=PySem.W.looks_findIn (M:=model prog w) X c.gt
 have f3:=F.excAttr_ValueError.ga.bind (.ref x)
 unfold getAttr? getAttrBy? getAttrBy
 refine wpAny_bind (wpAny_mkText (wpAny_bind (wpAny_attempt (wpAny_holding (wpAny_bind (L0.at (wpAny_bind (L1.at ?_))))))))
 have hb:(Value.builtin "BaseException.__getattribute__" == Value.builtin "object.__getattribute__")=false:=by decide +kernel
 dsimp only
 rw [if_neg (by rw [hb]; show ¬ (false=true); decide)]
 unfold getAttrByItsOwn hookBefore
 rw [if_pos (show onTheHeap (.ref C)=true from rfl)]
 refine wpAny_bind (L2.at (wpAny_bind (wpAny_attempt (wpAny_holding ?_))))
 unfold callGetattribute boundAndCalled
 rw [if_neg (by decide)]
 rw [f3]
 refine wpAny_bind (wpAny_pure (wpAny_call (exc_ga (s:=⟨hh,gg,dr,tt + 1,oo⟩) hx hc X c ?_)))
 refine PySem.W.handed_on rfl ?_
 exact wpAny_pure h
end
end L2

set_option maxHeartbeats 4000000
namespace L2
open PySem PySem.Spec PyProof.Rows

theorem ObjOk.there {P:Program} {w:World} {H:Hp} {h:Heap} {a:Addr} {o:HO} (x:ObjOk P w H h a o):∃ u,h.get? a=some u:=by
 cases o with
 | lst xs=>obtain ⟨_,_,_,_,e⟩:=x; exact ⟨_,e⟩
 | tup xs=>obtain ⟨_,_,_,⟨u,e,_⟩,_⟩:=x; exact ⟨u,e⟩
 | dK kvs=>obtain ⟨_,_,_,_,u,_,_,e,_⟩:=x; exact ⟨u,e⟩
 | dT kvs=>obtain ⟨_,_,_,_,u,_,_,e,_⟩:=x; exact ⟨u,e⟩
 | set S n=>obtain ⟨u,_,_,_,e,_⟩:=x; exact ⟨u,e⟩
 | ins C dx fs=>obtain ⟨_,_,_,e,_⟩:=x; exact ⟨_,e⟩
 | own y=>exact x
 | xd fs=>obtain ⟨_,⟨u,_,_,e,_⟩,_⟩:=x; exact ⟨u,e⟩
 | rng lo hi=>obtain ⟨_,_,_,e⟩:=x; exact ⟨_,e⟩
 | frz ob u=>obtain ⟨e,_⟩:=x; exact ⟨_,e⟩
 | tbl ps=>exact ⟨_,(show h.get? a=some _ from x)⟩
 | met f y=>exact ⟨_,(show h.get? a=some _ from x)⟩
 | ext φ=>obtain ⟨_,e,_⟩:=x; exact e

structure Cov (X:Cx) (pins:List (Addr × Obj)) (H:Hp) (B:Heap):Prop where
 trk:∀ b u,H b=some u→∃ o,B.get? b=some o
 old:∀ b o,X.s₀.heap.get? b=some o→b ∉ frs X.stack→b ∉ X.ex→∃ o',B.get? b=some o'
 pin:∀ p ∈ X.pn ++ pins,∃ o,B.get? p.1=some o

section
variable {X:Cx} {pins:List (Addr × Obj)} {σ:St} {H:Hp} {s:Shared} {h' B:Heap}
theorem Inv.ride {t':Nat} (I:Inv X pins σ H s) (b1:B.StaysIn s.heap) (b2:B.StaysIn h') (up:s.heap.UpToSlots h') (cv:Cov X pins H B):Inv X pins σ H { s with heap:=h',toks:=t' }:=by
 have same:∀ b o o',B.get? b=some o'→s.heap.get? b=some o→h'.get? b=some o:=fun b o o' e q=>by
  have z:=b1 b o' e
  rw [q] at z
  cases z
  exact b2 b _ e
 have neL:∀ b o,X.s₀.heap.get? b=some o→b ≠ X.env.locals:=fun b o e=>Nat.ne_of_lt (Nat.lt_of_lt_of_le (Heap.lt_size e) I.ok.above)
 have nst:∀ b o,X.s₀.heap.get? b=some o→b ∉ X.fs→b ∉ frs X.stack:=fun b o e nf z=>by
  rcases List.mem_cons.mp (I.stkSub b z) with q | q
  ·exact neL b o e q
  ·exact nf q
 have cellK:∀ c v,s.heap.IsCell c v→h'.IsCell c v:=fun c v ⟨o,ho,hd⟩=>by
  obtain ⟨sl,q⟩:=up c o ho fun vs z=>by rw [hd] at z; cases z
  exact ⟨_,q,hd⟩
 have slots:∀ b o,X.s₀.heap.get? b=some o→X.H₀ b=none→b ∈ X.fs→b ∉ X.ex→∃ sl,h'.get? b=some { o with slots:=sl }:=fun b o e n hb hx=>by
  obtain ⟨sl,q⟩:=I.base.slot b o e n hb hx
  obtain ⟨_,o1,e1,d1⟩:=I.ok.funs.mem hb
  rw [e] at e1
  cases e1
  obtain ⟨sl',q'⟩:=up b _ q d1
  exact ⟨sl',q'⟩
 refine ⟨I.ok,I.os,I.bare,⟨fun b o e n hb hx=>?_,slots,I.base.free,fun b o e hx=>?_,I.base.tups,I.base.frzs,I.base.tbls⟩,?_,fun y c e=>?_,I.free,I.freeC,fun p hp=>?_,fun b u e=>?_,I.len⟩
 ·obtain ⟨o',q⟩:=cv.old b o e (nst b o e hb) hx
  exact same b o o' q (I.base.keep b o e n hb hx)
 ·by_cases hb:b ∈ X.fs
  ·exact let ⟨sl,q⟩:=slots b o e (I.ok.frf b hb) hb hx; ⟨_,q⟩
  ·obtain ⟨o',q⟩:=cv.old b o e (nst b o e hb) hx
   exact ⟨o',b2 b o' q⟩
 ·obtain ⟨m,hn,hl⟩:=I.loc
  refine ⟨m,up.ns hn,fun i y v e1 e2 e3=>?_⟩
  obtain ⟨u,r,l⟩:=hl i y v e1 e2 e3
  refine ⟨u,r,?_⟩
  rcases l with l | ⟨k,c,e,z⟩
  ·exact .inl l
  ·exact .inr ⟨k,c,e,cellK c _ z⟩
 ·obtain ⟨v,z⟩:=I.cell y c e
  exact ⟨v,cellK c v z⟩
 ·obtain ⟨e,n,ne,nf,d⟩:=I.pin p hp
  obtain ⟨o',q⟩:=cv.pin p hp
  exact ⟨same _ _ o' q e,n,ne,nf,d⟩
 ·refine (I.hok b u e).stay (fun c v hc q=>?_) (fun _ q=>q) fun _ _ q=>q
  have tr:∃ z,H c=some z:=by
   rcases hc with z | z
   ·exact ⟨u,by rw [z]; exact e⟩
   ·exact ⟨_,z⟩
  obtain ⟨z,ez⟩:=tr
  obtain ⟨o',q'⟩:=cv.trk c z ez
  exact same c v o' q' q
theorem Inv.forget {i:Nat} {n:Str} {m:Str→Option Value} {v:Option Value} {t':Nat} (I:Inv X pins σ H s) (hN:X.N.Nodup) (hi:X.N[i]?=some n)
  (hm:∀ (j:Nat) (y:Str) (x:V),X.N[j]?=some y→σ[j]?=some (some x)→Vis X.env.scope y→∃ u,RelV x u∧Look X.env s.heap m y u)
  (hn:h'.Ns X.env.locals (fun y=>if y=n then v else m y)) (hs:Heap.SameBut X.env.locals s.heap h'):Inv X pins (σ.set i none) H { s with heap:=h',toks:=t' }:=by
 have neL:∀ b o,X.s₀.heap.get? b=some o→b ≠ X.env.locals:=fun b o e=>Nat.ne_of_lt (Nat.lt_of_lt_of_le (Heap.lt_size e) I.ok.above)
 have kp:∀ b o,b ≠ X.env.locals→s.heap.get? b=some o→h'.get? b=some o:=fun b o ne e=>(hs.2 b ne).trans e
 have cellK:∀ y c,X.env.cells.lookup y=some c→∀ u,s.heap.IsCell c u→h'.IsCell c u:=fun y c e u ⟨o,ho,hd⟩=>⟨o,kp c o (I.cne y c e) ho,hd⟩
 refine ⟨I.ok,I.os,I.bare,⟨fun b o e n hb hx=>kp b o (neL b o e) (I.base.keep b o e n hb hx),fun b o e n hb hx=>let ⟨sl,q⟩:=I.base.slot b o e n hb hx; ⟨sl,kp b _ (neL b o e) q⟩,I.base.free,
  fun b o e hx=>let ⟨o',q⟩:=I.base.there b o e hx; ⟨o',kp b o' (neL b o e) q⟩,I.base.tups,I.base.frzs,I.base.tbls⟩,⟨_,hn,fun j y x e1 e2 e3=>?_⟩,fun y c e=>?_,I.free,I.freeC,fun p hp=>?_,fun b u e=>?_,?_⟩
 ·have ne:i ≠ j:=fun z=>by
   subst z
   by_cases hl:i < σ.length
   ·rw [List.getElem?_set_self hl] at e2; cases e2
   ·rw [List.getElem?_eq_none (by rw [List.length_set]; omega)] at e2; cases e2
  rw [List.getElem?_set_ne ne] at e2
  obtain ⟨u,r,l⟩:=hm j y x e1 e2 e3
  have hy:y ≠ n:=fun z=>ne (nodup_ix hN hi (by rw [e1,z]))
  refine ⟨u,r,?_⟩
  rcases l with ⟨k,l⟩ | ⟨k,c,e,z⟩
  ·exact .inl ⟨k,(if_neg hy).trans l⟩
  ·exact .inr ⟨k,c,e,cellK y c e _ z⟩
 ·obtain ⟨u,z⟩:=I.cell y c e
  exact ⟨u,cellK y c e u z⟩
 ·obtain ⟨e,n,ne,nf,d⟩:=I.pin p hp
  exact ⟨kp _ _ ne e,n,ne,nf,d⟩
 ·refine (I.hok b u e).stay (fun c w' hc q=>kp c w' ?_ q) (fun _ q=>q) fun _ _ q=>q
  rcases hc with z | z
  ·rw [z]; exact fun q=>by rw [q,I.free] at e; cases e
  ·exact fun q=>by rw [q,I.free] at z; cases z
 ·rw [List.length_set]; exact I.len
theorem Inv.adoptN {a:Addr} {o:HO} (I:Inv X pins σ H s) (hn:H a=none) (hs:X.s₀.heap.get? a=none) (hL:a ≠ X.env.locals)
  (hc:∀ y c,X.env.cells.lookup y=some c→c ≠ a) (hp:∀ p ∈ X.pn ++ pins,p.1 ≠ a) (new:ObjOk X.prog X.w (upd H a o) s.heap a o):Inv X pins σ (upd H a o) s:=by
 have lt0:∀ b ob,X.s₀.heap.get? b=some ob→b ≠ a:=fun b ob e z=>by rw [z,hs] at e; cases e
 refine ⟨I.ok,I.os,I.bare,⟨I.base.keep,I.base.slot,fun b ob e n hx=>?_,I.base.there,fun b xs e=>?_,fun b ob u e=>?_,fun b ps e=>?_⟩,I.loc,I.cell,?_,fun x c e=>?_,fun p hp'=>?_,fun b u e=>?_,I.len⟩
 ·rw [upd_ne (lt0 b ob e)]; exact I.base.free b ob e n hx
 ·rw [upd_ne (ne_of_none (I.base.tups b xs e) hn)]; exact I.base.tups b xs e
 ·rw [upd_ne (ne_of_none (I.base.frzs b ob u e) hn)]; exact I.base.frzs b ob u e
 ·obtain ⟨m,q⟩:=I.base.tbls b ps e
  exact ⟨m,by rw [upd_ne (ne_of_none q hn)]; exact q⟩
 ·rw [upd_ne (Ne.symm hL)]; exact I.free
 ·rw [upd_ne (hc x c e)]; exact I.freeC x c e
 ·obtain ⟨e,n,ne,nf,d⟩:=I.pin p hp'
  exact ⟨e,by rw [upd_ne (hp p hp')]; exact n,ne,nf,d⟩
 ·by_cases hb:b=a
  ·subst hb; rw [upd_same] at e; cases e; exact new
  ·rw [upd_ne hb] at e
   exact (I.hok b u e).stay (fun c v _ q=>q) (fun c q=>by rw [upd_ne (ne_of_none q hn)]; exact q) fun c xs q=>by rw [upd_ne (ne_of_none q hn)]; exact q
end

def CXX (P:Program) (w:World):CXT:=fun outer H s E e s'=>∃ (ea:Addr) (cls a0:Value) (H':Hp) (B:Heap),e=.ref ea∧s'.os=s.os∧AllBare s'.gens∧Un (frs outer) [] H H' s.heap s'.heap∧HOk P w H' s'.heap ∧
 Heap.FlyingW B outer ea cls a0 s'.heap∧(∀ b,b ∉ frs outer→((∃ u,H' b=some u)∨∃ o,s.heap.get? b=some o)→∃ o,B.get? b=some o)∧H' ea=none∧E cls none H'
theorem passX0 {P:Program} {w:World} {X:Cx}:Passes (CXX P w) X E0:=fun _ _ _ _ _ _ _ h=>by
 obtain ⟨_,_,_,_,_,_,_,_,_,_,_,_,_,z⟩:=h
 exact z.elim
def PassesX (CX:CXT) (X:Cx) (Ex:St→XK):Prop:=∀ (pins:List (Addr × Obj)) (σ:St) (H:Hp) (s:Shared) (e:Value) (s':Shared),Inv X pins σ H s→CX X.stack H s (Ex σ) e s'→X.xe e s'
def MadeX (X:Cx) (Ex:St→XK):Prop:=∀ (pins:List (Addr × Obj)) (σ:St) (H:Hp) (s:Shared) (e:Addr) (cls:Value) (h':Heap) (args:List Value),Inv X pins σ H s→Heap.MadeExcOf s.heap h' e cls args→Ex σ cls none H→X.xe (.ref e) { s with heap:=h' }

section
variable {P:Program} {w:World} {K:PySem.W.Frag} {mg:Str→Option Value} {base:Heap} {N:List Str} {qual:Str} {scope:Scope} {f:Addr} {cd:Value} {A:Around} {outer:List Env} {s₀:Shared} {H₀:Hp} {E:XK}
theorem left_cx {pins:List (Addr × Obj)} {σ:St} {H:Hp} {s:Shared} {ea:Addr} {cls a0:Value} {B h':Heap} (I:Inv (cxOf (CXX P w) P w K mg base N qual scope f cd A outer s₀ H₀ E) pins σ H s) (b1:B.StaysIn s.heap) (fl:Heap.FlyingW B outer ea cls a0 h')
  (up:s.heap.UpToSlots h') (cv:Cov (cxOf (CXX P w) P w K mg base N qual scope f cd A outer s₀ H₀ E) [] H B) (ne:H ea=none) (q:E cls none H) :
  CXX P w outer H₀ s₀ E (.ref ea) { s with heap:=h' }:=by
 have I1:Inv (cxOf (CXX P w) P w K mg base N qual scope f cd A outer s₀ H₀ E) [] σ H { s with heap:=h' }:=(I.pins_of fun p hp=>by simp at hp).ride (t':=s.toks) b1 fl.1 up cv
 refine ⟨ea,cls,a0,H,B,rfl,I1.os,I1.bare,I1.base,I1.hok,fl,fun b nb h=>?_,ne,q⟩
 rcases h with ⟨u,hu⟩ | ⟨o,ho⟩
 ·exact cv.trk b u hu
 ·refine cv.old b o ho (fun z=>?_) (by intro z; cases z)
  rcases List.mem_cons.mp (I.stkSub b z) with r | r
  ·exact Nat.ne_of_lt (Nat.lt_of_lt_of_le (Heap.lt_size ho) I.ok.above) r
  ·exact nb r
theorem pass_up:Passes (CXX P w) (cxOf (CXX P w) P w K mg base N qual scope f cd A outer s₀ H₀ E) E:=by
 intro pins σ H s e s' I h
 obtain ⟨ea,cls,a0,H',B,rfl,os,bare,un,hok,fl,cv,ne,q⟩:=h
 have I1:Inv (cxOf (CXX P w) P w K mg base N qual scope f cd A outer s₀ H₀ E) pins σ H' s':=I.call' os un hok bare fun b z=>absurd z (by simp)
 have cov:Cov (cxOf (CXX P w) P w K mg base N qual scope f cd A outer s₀ H₀ E) [] H' B:=by
  refine ⟨fun b u hu=>cv b (fun z=>?_) (.inl ⟨u,hu⟩),fun b o ho nb hx=>cv b nb (.inr ?_),fun p hp=>?_⟩
  ·rw [I1.stkFree b z] at hu; cases hu
  ·exact I.base.there b o ho hx
  ·cases hp
 show wpAny _ _ (leaving _ _) _ _ _
 refine wpAny_leaves_onW I.ok.frames rfl fl fun h1 fl1 up1=>?_
 exact left_cx I1 fl.1 fl1 up1 cov ne q
theorem made_up:MadeX (cxOf (CXX P w) P w K mg base N qual scope f cd A outer s₀ H₀ E) (fun _=>E):=by
 intro pins σ H s e cls h2 args I mk q
 have kp:∀ b o,s.heap.get? b=some o→h2.get? b=some o:=mk.keeps
 have I2:Inv (cxOf (CXX P w) P w K mg base N qual scope f cd A outer s₀ H₀ E) pins σ H { s with heap:=h2 }:=I.kept (t':=s.toks) kp
 have ne:H e=none:=by
  cases z:H e with
  | none=>rfl
  | some u =>
   obtain ⟨o,ho⟩:=(I.hok e u z).there
   rw [mk.new] at ho; cases ho
 have fr:=I.stack
 have hin:∀ env ∈ (cxOf (CXX P w) P w K mg base N qual scope f cd A outer s₀ H₀ E).stack,∀ b,env.frame=some b→b ∈ frs (cxOf (CXX P w) P w K mg base N qual scope f cd A outer s₀ H₀ E).stack:=fun env he b hb=>List.mem_filterMap.mpr ⟨env,he,hb⟩
 have bget:∀ b o,s.heap.get? b=some o→b ∉ frs (cxOf (CXX P w) P w K mg base N qual scope f cd A outer s₀ H₀ E).stack→(PySem.W.hideAll s.heap (frs (cxOf (CXX P w) P w K mg base N qual scope f cd A outer s₀ H₀ E).stack)).get? b=some o:=fun b o e nb=>PySem.W.hideAll_get _ e nb
 have cov:Cov (cxOf (CXX P w) P w K mg base N qual scope f cd A outer s₀ H₀ E) [] H (PySem.W.hideAll s.heap (frs (cxOf (CXX P w) P w K mg base N qual scope f cd A outer s₀ H₀ E).stack)):=by
  refine ⟨fun b u hu=>?_,fun b o ho nb hx=>?_,fun p hp=>?_⟩
  ·obtain ⟨o,ho⟩:=(I.hok b u hu).there
   exact ⟨o,bget b o ho fun z=>by rw [I.stkFree b z] at hu; cases hu⟩
  ·obtain ⟨o',ho'⟩:=I.base.there b o ho hx
   exact ⟨o',bget b o' ho' nb⟩
  ·cases hp
 show wpAny _ _ (leaving _ _) _ _ _
 refine wpAny_leaves_madeW (base:=PySem.W.hideAll s.heap (frs (cxOf (CXX P w) P w K mg base N qual scope f cd A outer s₀ H₀ E).stack)) (h:=s.heap) I.ok.frames rfl (fun b o z=>PySem.W.of_hideAll _ z) (PySem.W.funFrames_hide fr hin) mk fun h3 t fl3 _ _ up3=>?_
 exact left_cx I2 (fun b o z=>kp b o (PySem.W.of_hideAll _ z)) fl3 up3 cov ne q
theorem Fun.okX {x qual:Str} {st:Stmt} {f:Addr} {fd:FuncData} {N ps:List Str} {k:Nat} {sp:Sp} (F:Fun K x qual st f fd) (S:FnScope N ps (defScope st)) (len:∀ vs H Q E,sp vs H Q E→vs.length=ps.length)
  (hbody:∀ (cdv:Value) (A:Around) (outer:List Env) (s:Shared) (H:Hp) (vs:List V) (Q:VK) (E:XK),Room k (A.deeper (envOfC qual (defScope st) s.heap.objs.size f cdv))→sp vs H Q E →
   ∃ t,PSs (cxOf (CXX P w) P w K mg base N qual (defScope st) f cdv A outer s H E) (defBody st) t∧t { nx:=fun _ H'=>Q .non H',rt:=Q } (start N vs) H):FnOk P w K mg base (CXX P w) (k + 1) f fd ps sp:=by
 obtain ⟨oc,od,kV,doc,pm,an,cdv,ct,osl,rfl,lk,hcd⟩:=F.ex
 exact fn_of lk hcd S len fun A outer s H vs Q E hr hsp=>hbody cdv A outer s H vs Q E hr hsp
end

section
variable {X:Cx} {x:Str} {C:Addr} {np cpos pos:Pos} {e:Expr} {es:List Expr} {ta:TA} {Ex:St→XK}
def tRaise (Ex:St→XK) (C:Addr) (ta:TA):TS:=fun _ σ H=>ta σ H fun vs H1=>vs.length ≤ sizeLine∧Ex σ (.ref C) none H1
theorem ps_raise (hc:X.calm=true) (c:XCls X.K C) (hg:Gl X x) (hm:X.mg x=some (.ref C)) (hx:MadeX X Ex) (ha:PA X (e :: es) ta) (hdb:(x == ("__debug__":Str))=false:=by decide)
  (he:starEach (e :: es) X.env=(false,eval e X.env) :: starEach es X.env:=by rfl) (hpl:(backTo cpos (starEach es X.env)).any (·.1)=false:=by rfl) :
  PS X (.Raise (some (.Call (.Name x np) (e :: es) [] cpos)) none pos) (tRaise Ex C ta):=by
 intro pins s σ H D I h
 obtain ⟨tl,nn,nm,q,bs,hdct,sn,sub,ab,col,dd,k0,k1,k2,k3,k5,mN,hC,hN,hni,T⟩:=(c.own I.mod.kin hm).obj
 refine wpAny_Raise_call_subT (C:=C) (nm:=nm) (q:=q) (N:=nn) (bs:=bs) (bm:=tl) (hdct:=hdct) (sn:=sn) (sub:=sub) (ab:=ab) (col:=col) (dd:=dd) (k0:=k0) (k1:=k1) (k2:=k2) (k3:=k3) (k5:=k5)
  PySem.F.excBase_ValueError (mN:=mN) (T.hasType PySem.F.excBase_ValueError.hasBase) (I.ok.hd hc) (by rw [he]; show (false || (backTo cpos (starEach es X.env)).any (·.1))=false; rw [hpl]; rfl) hni (ld_glob I hg hm ⟨rfl,?_⟩ hdb)
 have hw:=ha cpos pins s σ H _ I h
 rw [he] at hw ⊢
 refine Calls.evalArgs_plain (wpAny_mono hw (fun us s1 ⟨vs,H1,I1,r,hl,qe⟩=>?_) fun _ _ z=>z)
 refine ⟨rfl,by rw [← r.length]; exact hl,I1.bk _ _ hC,hN.keeps I1.bk,T.keeps I1.bk,fun h' ea mk=>?_⟩
 exact hx pins σ H1 s1 ea (.ref C) h' us I1 mk qe
def tCallX (sp:Sp) (dvs:List V) (Ex:St→XK) (t:TA):TE:=fun σ H Q=>t σ H fun vs H1=>sp (vs ++ dvs) H1 Q (Ex σ)
variable {CX:CXT} {k:Nat} {f:Addr} {fd:FuncData} {ps:List Str} {sp:Sp} {dvs:List V} {ds:List Value} {p:Pos}
theorem run_fnX {pins:List (Addr × Obj)} {σ:St} {H:Hp} {s:Shared} {Q:VK} {us:List Value} {vs:List V} (F:FnOk X.prog X.w X.K X.mg X.base CX k f fd ps sp) (hr:Room k X.A) (hb:Binds X.K fd ps ds) (hd:Vals dvs ds) (hx:PassesX CX X Ex)
  (I:Inv X pins σ H s) (r:Vals vs us) (h:sp (vs ++ dvs) H Q (Ex σ)):wpAny (model X.prog X.w) X.A (call (.ref f) us) (EP X pins σ Q) X.xe s:=by
 have r2:Vals (vs ++ dvs) (us ++ ds):=r.append hd
 have hl:(us ++ ds).length=ps.length:=by rw [← r2.length]; exact F.len _ _ _ _ h
 refine wpAny_call (codeAny_mono (F.run X.A X.stack s H ⟨us,[]⟩ (us ++ ds) (vs ++ dvs) Q (Ex σ) hr I.env0 (hb s us I.kIn hl) r2 h) fun rr s' hq=>?_)
 match rr,hq with
 | .error e,hq=>exact hx pins σ H s e s' I hq
 | .ok (.ret u),hq=>exact I.after hq
 | .ok .next,hq=>exact False.elim hq
 | .ok .brk,hq=>exact False.elim hq
 | .ok .cont,hq=>exact False.elim hq
theorem pe_callX (F:FnOk X.prog X.w X.K X.mg X.base CX k f fd ps sp) (hr:Room k X.A) (hg:Gl X x) (hm:X.mg x=some (.ref f)) (hk:PySem.W.keepIn X.K (.ref f)=true) (hb:Binds X.K fd ps ds) (hd:Vals dvs ds) (hx:PassesX CX X Ex)
  (ha:PA X (e :: es) ta) (hdb:(x == ("__debug__":Str))=false:=by decide) (he:starEach (e :: es) X.env=(false,eval e X.env) :: starEach es X.env:=by rfl) (hpl:(backTo pos (starEach es X.env)).any (·.1)=false:=by rfl) :
  PE X (.Call (.Name x p) (e :: es) [] pos) (tCallX sp dvs Ex ta):=by
 intro pins s σ H Q I h
 refine wpAny_Call_Name_kw (ld_glob I hg hm ?_ hdb)
 exact PySem.W.callWith_K (h₀:=X.base) I.ok.mod.kin hk (thn (ha pos pins s σ H _ I h) fun us s1 ⟨vs,H1,I1,r,q⟩=>⟨I1.kIn,run_fnX F hr hb hd hx I1 r q⟩) he hpl
end
end L2

set_option maxHeartbeats 4000000
namespace L2
open PySem PySem.Spec PyProof.Rows

def excO (e C:Addr):HO:=.ext fun h=>∃ o,h.get? e=some o∧o.cls=.ref C
def xeT (X:Cx) (pl:List (Addr × Obj)) (Ex:St→XK) (e:Value) (s':Shared):Prop:=∃ (ea:Addr) (cls a0:Value) (σ':St) (H':Hp) (B:Heap),e=.ref ea∧Inv X pl σ' H' s'∧Heap.FlyingW B X.stack ea cls a0 s'.heap∧Cov X pl H' B∧H' ea=none∧Ex σ' cls none H'
abbrev Cx.tr (X:Cx) (pl:List (Addr × Obj)) (Ex:St→XK):Cx:={ X with pn:=X.pn ++ pl,xe:=xeT X pl Ex }
abbrev Cx.hd (X:Cx) (ea:Addr):Cx:={ X with A:=X.A.mark (some (.ref ea)),calm:=false,xe:=fun _ _=>False }
section
variable {X:Cx} {pl pins:List (Addr × Obj)} {σ:St} {H:Hp} {s:Shared} {Ex:St→XK} {ea:Addr}
theorem Inv.toTr (I:Inv X (pl ++ pins) σ H s):Inv (X.tr pl Ex) pins σ H s :=
 ⟨⟨I.ok.mod,I.ok.kind,I.ok.glob,I.ok.blt,I.ok.above,I.ok.inj,I.ok.has,I.ok.cab,I.ok.hd,I.ok.frames,I.ok.stk,I.ok.exf,I.ok.bs,I.ok.bsz,I.ok.noex,I.ok.exfs,I.ok.funs,I.ok.frf⟩,I.os,I.bare,I.base,I.loc,I.cell,I.free,I.freeC,
  fun p hp=>I.pin p (by rw [← List.append_assoc]; exact hp),I.hok,I.len⟩
theorem Inv.ofTr (I:Inv (X.tr pl Ex) pins σ H s):Inv X (pl ++ pins) σ H s :=
 ⟨⟨I.ok.mod,I.ok.kind,I.ok.glob,I.ok.blt,I.ok.above,I.ok.inj,I.ok.has,I.ok.cab,I.ok.hd,I.ok.frames,I.ok.stk,I.ok.exf,I.ok.bs,I.ok.bsz,I.ok.noex,I.ok.exfs,I.ok.funs,I.ok.frf⟩,I.os,I.bare,I.base,I.loc,I.cell,I.free,I.freeC,
  fun p hp=>I.pin p (show p ∈ (X.pn ++ pl) ++ pins by rw [List.append_assoc]; exact hp),I.hok,I.len⟩
theorem frames_mark {A:Around} {e:Option Value} {l:List Env} (h:A.frames=some l):(A.mark e).frames=some l:=by
 first | exact h | (simpa [Around.mark,Around.frames] using h)
theorem Inv.toHd (I:Inv X pins σ H s):Inv (X.hd ea) pins σ H s :=
 ⟨⟨I.ok.mod,I.ok.kind,I.ok.glob,I.ok.blt,I.ok.above,I.ok.inj,I.ok.has,I.ok.cab,fun z=>(nomatch (show false=true from z)),frames_mark I.ok.frames,I.ok.stk,I.ok.exf,I.ok.bs,I.ok.bsz,I.ok.noex,I.ok.exfs,I.ok.funs,I.ok.frf⟩,I.os,I.bare,I.base,I.loc,I.cell,I.free,I.freeC,I.pin,I.hok,I.len⟩
theorem Inv.ofHd (ok:X.Ok) (I:Inv (X.hd ea) pins σ H s):Inv X pins σ H s :=
 ⟨ok,I.os,I.bare,I.base,I.loc,I.cell,I.free,I.freeC,I.pin,I.hok,I.len⟩
theorem passT:PassesX (CXX X.prog X.w) (X.tr pl Ex) Ex:=by
 intro pins σ H s e s' I0 h
 have I:Inv X (pl ++ pins) σ H s:=I0.ofTr
 obtain ⟨ea,cls,a0,H',B,rfl,os,bare,un,hok,fl,cv,ne,q⟩:=h
 have I1:Inv X (pl ++ pins) σ H' s':=I.call' os un hok bare fun b z=>absurd z (by simp)
 have I2:Inv X pl σ H' s':=I1.pins_of fun p hp=>I1.pin p (List.mem_append_right _ (List.mem_append_left _ hp))
 refine ⟨ea,cls,a0,σ,H',B,rfl,I2,fl,⟨fun b u hu=>cv b (fun z=>?_) (.inl ⟨u,hu⟩),fun b o ho nb hx=>cv b nb (.inr (I.base.there b o ho hx)),fun p hp=>?_⟩,ne,q⟩
 ·rw [I1.stkFree b z] at hu; cases hu
 ·obtain ⟨e1,n1,ne1,nf1,_⟩:=I2.pin p hp
  have I0p:=I.pin p (by rw [← List.append_assoc]; exact List.mem_append_left _ hp)
  refine cv p.1 (fun z=>?_) (.inr ⟨p.2,I0p.1⟩)
  rcases List.mem_cons.mp (I.stkSub p.1 z) with r | r
  ·exact ne1 r
  ·exact nf1 r
def tTry (K:PySem.W.Frag) (D:Addr) (i:Nat) (tb:(St→XK)→TS) (th:TS):TS:=fun G σ H=>∃ Ex:St→XK,tb Ex G σ H∧∀ σ' cls H',Ex σ' cls none H'→∃ C,cls=.ref C∧XCls K C∧PySem.W.mroIn K C (.ref D)=some true ∧
 ∀ ea,H' ea=none→th { nx:=fun σ2 H2=>G.nx (σ2.set i none) H2,rt:=G.rt,bk:=fun σ2 H2=>G.bk (σ2.set i none) H2,ct:=fun σ2 H2=>G.ct (σ2.set i none) H2 } (σ'.set i (some (.ref ea))) (upd H' ea (excO ea C))
theorem ps_try {body suite:List Stmt} {b0:Stmt} {x n:Str} {D:Addr} {i:Nat} {np hpos pos:Pos} {tb:(St→XK)→TS} {th:TS} (hstk:X.stack=X.env :: X.outer) (hfr:X.env.frame=some X.env.locals) (hex:X.ex=[])
  (hN:X.N.Nodup) (hi:X.N[i]?=some n) (hl:X.env.scope.names.lookup n=some .local) (d:XCls X.K D) (hg:Gl X x) (hm:X.mg x=some (.ref D))
  (hb:∀ pl Ex,PSs (X.tr pl Ex) body (tb Ex)) (hh:∀ ea,PSs (X.hd ea) (b0 :: suite) th) (hdb:(x == ("__debug__":Str))=false:=by decide) :
  PS X (.Try body [.ExceptHandler (some (.Name x np)) (some n) (b0 :: suite) hpos] [] [] pos) (tTry X.K D i tb th):=by
 intro pins s σ H G I h
 obtain ⟨Ex,hbody,hx⟩:=h
 refine wpAny_Try_except (wpAny_mono (hb pins Ex [] s σ H G (Inv.toTr (by rw [List.append_nil]; exact I)) hbody) (fun f s1 h1=>?_) fun e s1 h1=>?_)
 ·have back:∀ {σ' H'},Inv (X.tr pins Ex) [] σ' H' s1→Inv X pins σ' H' s1:=fun J=>by have:=J.ofTr; rwa [List.append_nil] at this
  cases f with
  | next=>obtain ⟨a,b,J,z⟩:=h1; exact wpAny_execs_nil ⟨a,b,back J,z⟩
  | brk=>obtain ⟨a,b,J,z⟩:=h1; exact ⟨a,b,back J,z⟩
  | cont=>obtain ⟨a,b,J,z⟩:=h1; exact ⟨a,b,back J,z⟩
  | ret u=>obtain ⟨v,a,b,J,r,z⟩:=h1; exact ⟨v,a,b,back J,r,z⟩
 ·obtain ⟨ea,cls,a0,σ',H',B,rfl,I1,fl,cov,ne,ex⟩:=h1
  obtain ⟨C,rfl,c,m,hth⟩:=hx σ' cls H' ex
  have hfrm:X.A.frames=some (X.env :: X.outer):=by rw [← hstk]; exact I1.ok.frames
  rw [hstk] at fl
  refine wpAny_looks_onW hfrm hfr fl fun h4 hd4 u4=>wpAny_landsW hd4 fun h5 fl5 u5=>?_
  have I5:Inv X pins σ' H' { s1 with heap:=h5 }:=I1.ride (t':=s1.toks) fl.1 fl5.1 (u4.trans u5) cov
  have J5:Inv (X.hd ea) pins σ' H' { s1 with heap:=h5 }:=I5.toHd
  have LT:PySem.W.Looks (model X.prog X.w) h5 (typeOf (.ref ea)) (.ref C):=by
   obtain ⟨ob,hob,hc⟩:=fl5.there
   exact hc ▸ (PySem.W.Looks.ld hob).andThen .now
  refine wpAny_handleBy_cons (codeAny_handlers_test (ld_glob (X:=X.hd ea) J5 hg hm ((PySem.W.exm_one (K:=X.K) J5.kIn LT (c.exm d m)).here ?_) hdb)) (by intro q; cases q)
  refine codeAny_handlers_suite_as ?_
  refine lands_againW fl5 fun h6 fl6 u6=>?_
  have I6:Inv X pins σ' H' { s1 with heap:=h6 }:=I5.ride (t':=s1.toks) fl5.1 fl6.1 u6 cov
  obtain ⟨oe,vs,he,hec,hed,_⟩:=fl6.first
  have nf:∀ b ∈ frs X.stack,b ≠ ea:=fun b hb z=>by
   obtain ⟨_,o,ho,hd⟩:=I6.stack.mem hb
   rw [z] at ho
   rw [he] at ho
   cases ho
   exact hd vs hed
  have hs0:X.s₀.heap.get? ea=none:=by
   cases z:X.s₀.heap.get? ea with
   | none=>rfl
   | some o =>
    obtain ⟨o',q⟩:=cov.old ea o z (fun r=>nf ea r rfl) (by rw [hex]; intro r; cases r)
    rw [fl.2.1] at q; cases q
  have hL:ea ≠ X.env.locals:=fun z=>by
   obtain ⟨mm,⟨o,es,ep,ho,hd,_⟩,_⟩:=I6.loc
   rw [← z,he] at ho
   cases ho
   rw [hed] at hd; cases hd
  have hc:∀ y c,X.env.cells.lookup y=some c→c ≠ ea:=fun y c e z=>by
   obtain ⟨v,o,ho,hd⟩:=I6.cell y c e
   rw [z,he] at ho
   cases ho
   rw [hed] at hd; cases hd
  have hp:∀ p ∈ X.pn ++ pins,p.1 ≠ ea:=fun p hp z=>by
   obtain ⟨o,q⟩:=cov.pin p hp
   rw [z,fl.2.1] at q; cases q
  have I7:Inv X pins σ' (upd H' ea (excO ea C)) { s1 with heap:=h6 }:=I6.adoptN ne hs0 hL hc hp ⟨⟨oe,he,hec⟩,⟨oe,he⟩,fun g1 g2 ⟨o,q,r⟩ k=>⟨o,k o q,r⟩⟩
  have J7:Inv (X.hd ea) pins σ' (upd H' ea (excO ea C)) { s1 with heap:=h6 }:=I7.toHd
  refine store_ok (X:=X.hd ea) J7 hN hi (.inl hl) (v:=.ref ea) rfl (fun s8 I8=>?_) (.inr hl)
  refine wpAny_mono (hh ea pins s8 _ _ _ I8 (hth ea ne)) (fun f s9 h9=>?_) fun _ _ z=>z.elim
  have goes:∀ {σ9:St} {H9:Hp} {Q:Shared→Prop},Inv (X.hd ea) pins σ9 H9 s9→(∀ s10,Inv X pins (σ9.set i none) H9 s10→Q s10) →
    wpAny (model X.prog X.w) X.A (do bindName X.env n .none; unbindBehindTheSuite X.env n hpos) (fun _ s10=>Q s10) X.xe s9:=fun {σ9 H9 Q} J9 k=>by
   have I9:=J9.ofHd I.ok
   obtain ⟨mm,hn,hlk⟩:=I9.loc
   refine wpAny_nameGoes_keeps hl hn (by rw [I.ok.kind]; rfl) fun h' v hn' hs'=>?_
   exact k _ (I9.forget hN hi hlk hn' hs')
  cases f with
  | next=>obtain ⟨a,b,J,z⟩:=h9; exact goes J fun s10 I10=>⟨_,b,I10,z⟩
  | brk=>obtain ⟨a,b,J,z⟩:=h9; exact goes J fun s10 I10=>⟨_,b,I10,z⟩
  | cont=>obtain ⟨a,b,J,z⟩:=h9; exact goes J fun s10 I10=>⟨_,b,I10,z⟩
  | ret u=>obtain ⟨v,a,b,J,r,z⟩:=h9; exact goes J fun s10 I10=>⟨v,_,b,I10,r,z⟩
end
end L2


namespace L2
open PySem PySem.Spec PyProof.Rows
section
variable {prog:Program} {w:World} {A:Around} {E:Value→Shared→Prop} {s:Shared} {K:PySem.W.Frag} {x C:Addr}
theorem kitx_exc (c:XCls K C):PySem.W.KitX K (.ref x) (.ref C) (fun h=>∃ o,h.get? x=some o∧o.cls=.ref C) where
 ty:=fun M h X p=>by
  obtain ⟨o,h1,h2⟩:=p
  exact h2 ▸ (PySem.W.Looks.ld h1).andThen .now
 it:=fun M h X p=>by
  have q:=mro_cls c.me
  cases hc:PySem.W.clsIn K C with
  | none=>rw [hc] at q; cases q
  | some cd =>
   unfold PySem.W.clsIn at hc
   split at hc
   ·rename_i c' d' cd' sl' ho
    intro A' Q' E' s' k z
    unfold isType loadHead
    exact wpAny_bind (wpAny_loadPart (k _ _ (X _ _ ho)) (wpAny_pure z))
   ·cases hc
 ne:=fun h tp dd its n sl X htp=>by
  refine Bool.eq_false_iff.mpr fun q=>?_
  have e:C=tp:=Value.ref.inj (beq_iff_eq.mp q)
  subst e
  have q:=mro_cls c.me
  cases hc:PySem.W.clsIn K C with
  | none=>rw [hc] at q; cases q
  | some cd =>
   unfold PySem.W.clsIn at hc
   split at hc
   ·rename_i c' d' cd' sl' ho
    have z:=(X _ _ ho).symm.trans htp
    cases z
   ·cases hc
 ca:=fun X p k=>by
  obtain ⟨o,h1,h2⟩:=p
  exact exc_class h1 h2 X c k
def rIsX (K:PySem.W.Frag):RC:=fun xs H Q=>∃ e C c cv b,xs=[.ref e,c]∧tyVal c=some cv∧H e=some (excO e C)∧XCls K C∧PySem.W.kitOne K (.ref C) cv=some b∧Q (.bl b) H
theorem call_isinstX {X:Cx} (hK:X.K=K):CallR X (.builtin "isinstance") (rIsX K):=by
 subst hK
 intro pins s σ H xs us Q I r h
 obtain ⟨e,C,c,cv,b,rfl,hc,he,cx,kt,q⟩:=h
 obtain ⟨u,w',rfl,rx,rc⟩:=vals2 r
 have hw:w'=cv:=by
  cases c with
  | ty n=>cases rc; exact Option.some.inj hc
  | ref a=>cases rc; exact Option.some.inj hc
  | _=>cases hc
 subst hw
 cases (show u=Value.ref e from rx)
 have p:∃ o,s.heap.get? e=some o∧o.cls=.ref C:=(show ObjOk X.prog X.w H s.heap e (excO e C) from I.hok e _ he).1
 exact PySem.W.kia_one (kitx_exc cx) I.kIn p kt (fun z=>nomatch z) fun tk=>⟨.bl b,H,I.tok _,rfl,q⟩
variable {H:Hp} {Q:VK} {p:Addr} {σ:St}
theorem r_isX {D:Addr}:rIsX K [.ref p,.ref D] H Q=∃ C b,H p=some (excO p C)∧XCls K C∧PySem.W.kitOne K (.ref C) (.ref D)=some b∧Q (.bl b) H:=propext
 ⟨fun ⟨_,C,_,_,b,e,hc,h⟩=>by cases e; cases hc; exact ⟨C,b,h⟩,fun ⟨C,b,h⟩=>⟨_,C,_,_,b,rfl,rfl,h⟩⟩
theorem r_isXT {n:String}:rIsX K [.ref p,.ty n] H Q=∃ C b,H p=some (excO p C)∧XCls K C∧PySem.W.kitOne K (.ref C) (.type n)=some b∧Q (.bl b) H:=propext
 ⟨fun ⟨_,C,_,_,b,e,hc,h⟩=>by cases e; cases hc; exact ⟨C,b,h⟩,fun ⟨C,b,h⟩=>⟨_,C,_,_,b,rfl,rfl,h⟩⟩
theorem r_raise {Ex:St→XK} {ta:TA} {D:Ends}:tRaise Ex C ta D σ H=ta σ H (fun vs H1=>vs.length ≤ sizeLine∧Ex σ (.ref C) none H1):=rfl
theorem r_callX {sp:Sp} {dvs:List V} {Ex:St→XK} {t:TA}:tCallX sp dvs Ex t σ H Q=t σ H (fun vs H1=>sp (vs ++ dvs) H1 Q (Ex σ)):=rfl
def Try (K:PySem.W.Frag) (D:Addr) (i:Nat) (tb:(St→XK)→TS) (th:TS) (G:Ends) (σ:St) (H:Hp):Prop:=tTry K D i tb th G σ H
theorem r_try {D:Addr} {i:Nat} {tb:(St→XK)→TS} {th:TS} {G:Ends}:tTry K D i tb th G σ H=Try K D i tb th G σ H:=rfl
theorem try_by {D:Addr} {i:Nat} {tb:(St→XK)→TS} {th:TS} {G:Ends} (Ex:St→XK) (hb:tb Ex G σ H) (hx:∀ σ' cls H',Ex σ' cls none H'→∃ C,cls=.ref C∧XCls K C∧PySem.W.mroIn K C (.ref D)=some true ∧
  ∀ ea,H' ea=none→th { nx:=fun σ2 H2=>G.nx (σ2.set i none) H2,rt:=G.rt,bk:=fun σ2 H2=>G.bk (σ2.set i none) H2,ct:=fun σ2 H2=>G.ct (σ2.set i none) H2 } (σ'.set i (some (.ref ea))) (upd H' ea (excO ea C))):Try K D i tb th G σ H:=⟨Ex,hb,hx⟩
end
end L2

set_option maxHeartbeats 4000000
namespace L2
open PySem PySem.Spec PyProof.Rows

section
variable {X:Cx} {Ex:St→XK} {CX:CXT} {k:Nat} {f C:Addr} {fd:FuncData} {ps:List Str} {sp:Sp} {dvs:List V} {ds:List Value} {x m:Str} {p pos apos:Pos} {e o:Expr} {es:List Expr} {ta:TE} {t:TA}
def tTry0 (K:PySem.W.Frag) (D:Addr) (tb:(St→XK)→TS) (th:TS):TS:=fun G σ H=>∃ Ex:St→XK,tb Ex G σ H∧∀ σ' cls H',Ex σ' cls none H'→∃ C,cls=.ref C∧XCls K C∧PySem.W.mroIn K C (.ref D)=some true∧th G σ' H'
variable {K:PySem.W.Frag} {σ:St} {H:Hp} {Q:VK}
def Try0 (K:PySem.W.Frag) (D:Addr) (tb:(St→XK)→TS) (th:TS) (G:Ends) (σ:St) (H:Hp):Prop:=tTry0 K D tb th G σ H
theorem r_try0 {D:Addr} {tb:(St→XK)→TS} {th:TS} {G:Ends}:tTry0 K D tb th G σ H=Try0 K D tb th G σ H:=rfl
end
end L2

set_option maxHeartbeats 4000000

namespace L2
open PySem PySem.Spec PyProof.Rows
inductive EqR (K:PySem.W.Frag) (H:Hp):Nat→V→V→Bool→Prop where
 | flat {d:Nat} {x y:V} (fx:flatV x=true) (fy:flatV y=true):EqR K H d x y (eqV x y)
 | tup {d:Nat} {a b:Addr} {xs ys:List V} {e:Nat→Bool} (ha:SqT K H a xs) (hb:SqT K H b ys) (h:∀ j x y,xs[j]?=some x→ys[j]?=some y→EqR K H d x y (e j)) :
   EqR K H (d + 1) (.ref a) (.ref b) ((List.range (min xs.length ys.length)).all e && xs.length == ys.length)
 | lst {d:Nat} {a b:Addr} {xs ys:List V} {e:Nat→Bool} (ha:SqL K H a xs) (hb:SqL K H b ys) (hl:xs.length=ys.length) (h:∀ j x y,xs[j]?=some x→ys[j]?=some y→EqR K H d x y (e j)) :
   EqR K H (d + 1) (.ref a) (.ref b) ((List.range xs.length).all e)
 | lstN {d:Nat} {a b:Addr} {xs ys:List V} (ha:SqL K H a xs) (hb:SqL K H b ys) (hl:xs.length ≠ ys.length):EqR K H (d + 1) (.ref a) (.ref b) false
theorem eqV_self {x:V} (f:flatV x=true):eqV x x=true:=by
 cases x with
 | non=>rfl
 | bl b=>show (b == b)=true; simp
 | int i=>show (i == i)=true; simp
 | str z=>show (z == z)=true; exact beq_self_eq_true z
 | _=>exact absurd (show false=true from f) Bool.false_ne_true
section
variable {X:Cx} {pins:List (Addr × Obj)} {σ:St} {H:Hp} {s:Shared}
end

def rEqD (K:PySem.W.Frag):R2:=fun x y H Q=>∃ a b d k,x=.ref a∧y=.ref b∧d ≤ 50∧EqR K H d x y k∧Q (.bl k) H
def rInD (K:PySem.W.Frag) (neg:Bool):R2:=fun x y H Q=>∃ p xs d e,y=.ref p∧(SqL K H p xs∨SqT K H p xs)∧d ≤ 50∧(∀ z,z ∈ xs→EqR K H d z x (e z))∧Q (.bl (if neg then !xs.any e else xs.any e)) H
section
variable {X:Cx}
variable {K:PySem.W.Frag} (hK:X.K=K)
include hK
end
section
variable {K:PySem.W.Frag} {H:Hp} {Q:VK} {p a b:Addr} {x:V}
theorem r_eqD:rEqD K (.ref a) (.ref b) H Q=∃ d k,d ≤ 50∧EqR K H d (.ref a) (.ref b) k∧Q (.bl k) H:=propext
 ⟨fun ⟨_,_,d,k,e1,e2,h⟩=>by cases e1; cases e2; exact ⟨d,k,h⟩,fun ⟨d,k,h⟩=>⟨_,_,d,k,rfl,rfl,h⟩⟩
theorem r_inD:rInD K false x (.ref p) H Q=∃ xs d e,(SqL K H p xs∨SqT K H p xs)∧d ≤ 50∧(∀ z,z ∈ xs→EqR K H d z x (e z))∧Q (.bl (xs.any e)) H:=propext
 ⟨fun ⟨_,xs,d,e,e1,h⟩=>by cases e1; exact ⟨xs,d,e,h⟩,fun ⟨xs,d,e,h⟩=>⟨_,xs,d,e,rfl,h⟩⟩
theorem r_notInD:rInD K true x (.ref p) H Q=∃ xs d e,(SqL K H p xs∨SqT K H p xs)∧d ≤ 50∧(∀ z,z ∈ xs→EqR K H d z x (e z))∧Q (.bl (!xs.any e)) H:=propext
 ⟨fun ⟨_,xs,d,e,e1,h⟩=>by cases e1; exact ⟨xs,d,e,h⟩,fun ⟨xs,d,e,h⟩=>⟨_,xs,d,e,rfl,h⟩⟩
end
end L2

namespace L2
open PySem PySem.Spec PyProof.Rows

section
variable {κ:Type} [DecidableEq κ]
def valV (kvs:List (κ × V)) (k:κ):Option V:=(kvs.find? fun kv=>decide (kv.1=k)).map (·.2)
def putK (kvs:List (κ × V)) (k:κ) (v:V):List (κ × V) :=
 if (kvs.any fun kv=>decide (kv.1=k))=true then kvs.map (fun kv=>if kv.1=k then (kv.1,v) else kv) else kvs ++ [(k,v)]
def dropK (kvs:List (κ × V)) (k:κ):List (κ × V):=kvs.filter fun kv=>decide (kv.1 ≠ k)

theorem valV_pos {p:κ × V} {r:List (κ × V)} {k:κ} (e:p.1=k):valV (p :: r) k=some p.2:=by simp [valV,List.find?_cons,e]
theorem valV_neg {p:κ × V} {r:List (κ × V)} {k:κ} (e:¬ p.1=k):valV (p :: r) k=valV r k:=by simp [valV,List.find?_cons,e]
theorem valV_any (k:κ):∀ kvs:List (κ × V),(kvs.any fun kv=>decide (kv.1=k))=(valV kvs k).isSome
 | []=>rfl
 | p :: r=>by
  rw [List.any_cons]
  by_cases e:p.1=k
  ·simp only [valV_pos e,decide_eq_true e,Bool.true_or,Option.isSome_some]
  ·rw [valV_neg e,decide_eq_false e,Bool.false_or]; exact valV_any k r
theorem length_putK (kvs:List (κ × V)) (k:κ) (v:V):(putK kvs k v).length ≤ kvs.length + 1:=by
 unfold putK
 split
 ·rw [List.length_map]; omega
 ·rw [List.length_append,List.length_cons,List.length_nil]; omega
theorem putK_new {kvs:List (κ × V)} {k:κ} (v:V) (h:valV kvs k=none):putK kvs k v=kvs ++ [(k,v)]:=by
 unfold putK
 rw [valV_any,h]
 exact if_neg (by decide)

theorem RelO.isSome_eq {o:Option V} {u:Option Value} (r:RelO o u):o.isSome=u.isSome:=by
 cases o with
 | none=>cases u with
  | none=>rfl
  | some _=>exact (show False from r).elim
 | some _=>cases u with
  | none=>exact (show False from r).elim
  | some _=>rfl
theorem RelO.getD {o:Option V} {u:Option Value} {d:V} {d':Value} (r:RelO o u) (rd:RelV d d'):RelV (o.getD d) (u.getD d'):=by
 cases o with
 | none=>cases u with
  | none=>exact rd
  | some _=>exact (show False from r).elim
 | some _=>cases u with
  | none=>exact (show False from r).elim
  | some _=>exact r

theorem KV.val {kvs:List (κ × V)} {vs:List (κ × Value)} (r:KV kvs vs) (k:κ):RelO (valV kvs k) (valueAt vs k):=by
 unfold KV at r
 induction r with
 | nil=>exact True.intro
 | @cons p q ps qs h t ih =>
  obtain ⟨h1,h2⟩:=h
  by_cases e:p.1=k
  ·have e':q.1=k:=h1.symm.trans e
   have b:valueAt (q :: qs) k=some q.2:=by simp [valueAt,List.find?_cons,e']
   rw [valV_pos e,b]; exact h2
  ·have e':¬ q.1=k:=fun z=>e (h1.trans z)
   have b:valueAt (q :: qs) k=valueAt qs k:=by simp [valueAt,List.find?_cons,e']
   rw [valV_neg e,b]; exact ih
theorem KV.any {kvs:List (κ × V)} {vs:List (κ × Value)} (r:KV kvs vs) (k:κ):(kvs.any fun kv=>decide (kv.1=k))=vs.any fun kv=>decide (kv.1=k):=by
 unfold KV at r
 induction r with
 | nil=>rfl
 | cons h t ih=>rw [List.any_cons,List.any_cons,ih,h.1]
theorem KV.repl {kvs:List (κ × V)} {vs:List (κ × Value)} (r:KV kvs vs) (k:κ) {y:V} {u:Value} (ry:RelV y u) :
  KV (kvs.map fun kv=>if kv.1=k then (kv.1,y) else kv) (vs.map fun kv=>if kv.1=k then (kv.1,u) else kv):=by
 unfold KV at r ⊢
 induction r with
 | nil=>exact .nil
 | @cons p q ps qs h t ih =>
  rw [List.map_cons,List.map_cons]
  refine .cons ?_ ih
  obtain ⟨h1,h2⟩:=h
  by_cases e:p.1=k
  ·rw [if_pos e,if_pos (h1.symm.trans e)]; exact ⟨h1,ry⟩
  ·rw [if_neg e,if_neg (fun z=>e (h1.trans z))]; exact ⟨h1,h2⟩
theorem KV.put {kvs:List (κ × V)} {vs:List (κ × Value)} (r:KV kvs vs) (k:κ) {y:V} {u:Value} (ry:RelV y u):KV (putK kvs k y) (stored vs k u):=by
 unfold putK stored
 rw [r.any k]
 by_cases e:(vs.any fun kv=>decide (kv.1=k))=true
 ·rw [if_pos e,if_pos e]; exact r.repl k ry
 ·rw [if_neg e,if_neg e]; exact Paired.snoc r ⟨rfl,ry⟩
theorem KV.drop {kvs:List (κ × V)} {vs:List (κ × Value)} (r:KV kvs vs) (k:κ):KV (dropK kvs k) (without vs k):=by
 unfold KV at r ⊢
 unfold dropK without
 induction r with
 | nil=>exact .nil
 | @cons p q ps qs h t ih =>
  obtain ⟨h1,h2⟩:=h
  rw [List.filter_cons,List.filter_cons]
  by_cases e:p.1=k
  ·have a:¬ decide (p.1 ≠ k)=true:=by simp [e]
   have b:¬ decide (q.1 ≠ k)=true:=by simp [h1.symm.trans e]
   rw [if_neg a,if_neg b]; exact ih
  ·have e':¬ q.1=k:=fun z=>e (h1.trans z)
   have a:decide (p.1 ≠ k)=true:=by simp [e]
   have b:decide (q.1 ≠ k)=true:=by simp [e']
   rw [if_pos a,if_pos b]; exact .cons ⟨h1,h2⟩ ih
theorem KV.length {kvs:List (κ × V)} {vs:List (κ × Value)} (r:KV kvs vs):kvs.length=vs.length:=Paired.length r
end


theorem kV_is {P:Program} {w:World} {k:Key} {u:Value} (r:RelV (kV k) u):(mixKind P w).is k u=true:=by
 cases k with
 | inl i=>obtain ⟨t,e⟩:=(show ∃ t,u=Value.int i t from r); subst e; exact mixKind_int P w i t
 | inr x=>obtain ⟨t,e⟩:=(show ∃ t,u=Value.str x t from r); subst e; exact mixKind_str P w x t
theorem items_are {P:Program} {w:World}:∀ {ks:List Key} {us:List Value},Vals (ks.map kV) us→ItemsAre (mixKind P w) ks us
 | [],_,r=>by rw [List.map_nil] at r; cases r; exact .nil
 | k :: ks,_,r=>by
  rw [List.map_cons] at r
  cases r with
  | cons h t=>exact .cons (kV_is h) (items_are t)

abbrev KT (H:Hp):List (List Key × V)→List (List Key × Addr × Value)→Prop:=Paired fun p q=>p.1=q.1∧H q.2.1=some (.tup (p.1.map kV))∧RelV p.2 q.2.2
theorem KT.val {H:Hp} {kvs:List (List Key × V)} {xs:List (List Key × Addr × Value)} (r:KT H kvs xs) (k:List Key):RelO (valV kvs k) ((atKey xs k).map (·.2)):=by
 induction r with
 | nil=>exact True.intro
 | @cons p q ps qs h t ih =>
  obtain ⟨h1,_,h2⟩:=h
  by_cases e:p.1=k
  ·have e':q.1=k:=h1.symm.trans e
   have b:atKey (q :: qs) k=some q.2:=by simp [atKey,List.find?_cons,e']
   rw [valV_pos e,b]; exact h2
  ·have e':¬ q.1=k:=fun z=>e (h1.trans z)
   have b:atKey (q :: qs) k=atKey qs k:=by simp [atKey,List.find?_cons,e']
   rw [valV_neg e,b]; exact ih
theorem KT.repl {H:Hp} {kvs:List (List Key × V)} {xs:List (List Key × Addr × Value)} (r:KT H kvs xs) (k:List Key) {y:V} {u:Value} (ry:RelV y u) :
  KT H (kvs.map fun kv=>if kv.1=k then (kv.1,y) else kv) (xs.map (putAt k u)):=by
 induction r with
 | nil=>exact .nil
 | @cons p q ps qs h t ih =>
  rw [List.map_cons,List.map_cons]
  refine .cons ?_ ih
  obtain ⟨h1,h2,h3⟩:=h
  unfold putAt
  by_cases e:p.1=k
  ·rw [if_pos e,if_pos (h1.symm.trans e)]; exact ⟨h1,h2,ry⟩
  ·rw [if_neg e,if_neg (fun z=>e (h1.trans z))]; exact ⟨h1,h2,h3⟩
theorem KT.put {H:Hp} {kvs:List (List Key × V)} {xs:List (List Key × Addr × Value)} (r:KT H kvs xs) (k:List Key) {b:Addr} {y:V} {u:Value} (hb:H b=some (.tup (k.map kV))) (ry:RelV y u) :
  KT H (putK kvs k y) (storedH xs k b u):=by
 have e:(kvs.any fun kv=>decide (kv.1=k))=(atKey xs k).isSome:=by
  rw [valV_any,(r.val k).isSome_eq,Option.isSome_map]
 unfold putK storedH
 rw [e]
 by_cases q:(atKey xs k).isSome=true
 ·rw [if_pos q,if_pos q]; exact r.repl k ry
 ·rw [if_neg q,if_neg q]; exact Paired.snoc r ⟨rfl,hb,ry⟩
theorem KT.keeps {H H':Hp} {kvs:List (List Key × V)} {xs:List (List Key × Addr × Value)} (r:KT H kvs xs) (ht:∀ b ys,H b=some (.tup ys)→H' b=some (.tup ys)):KT H' kvs xs :=
 Paired.mapP r fun _ _ z=>⟨z.1,ht _ _ z.2.1,z.2.2⟩

section
variable {P:Program} {w:World} {H:Hp} {h:Heap} {a:Addr}
theorem rd_of {u:HO} (ok:HOk P w H h) (e:Rd H a u):ObjOk P w H h a u:=e.ok ok
theorem dk_rd {kvs:List (Key × V)} (ok:HOk P w H h) (e:Rd H a (.dK kvs)):kvs.length ≤ sizeLine∧(a == sysModules)=false∧∃ vs,KV kvs vs∧h.DictOf (mixKind P w) a vs :=
 show ObjOk P w H h a (.dK kvs) from rd_of ok e
theorem dk_of {kvs:List (Key × V)} (ok:HOk P w H h) (e:H a=some (.dK kvs)):kvs.length ≤ sizeLine∧(a == sysModules)=false∧∃ vs,KV kvs vs∧h.DictOf (mixKind P w) a vs:=dk_rd ok (.inl e)
theorem key_of {ks:List Key} (ok:HOk P w H h) (e:H a=some (.tup (ks.map kV))):(tupleKind (mixKind P w)).is h ks a:=by
 obtain ⟨_,its,r,⟨o,h1,h2,n,h3⟩,_⟩:=(show ObjOk P w H h a (.tup (ks.map kV)) from ok a _ e)
 exact ⟨o,its.toArray,n,h1,h2,h3,by simpa using items_are r⟩
theorem dt_rd {kvs:List (List Key × V)} (ok:HOk P w H h) (e:Rd H a (.dT kvs)):kvs.length ≤ sizeLine∧(a == sysModules)=false ∧
  ∃ xs,KT H kvs xs∧h.DictOfH (tupleKind (mixKind P w)) a xs:=by
 obtain ⟨z,y,xs,r,o,es,ep,h1,h2,h3,h4,h5⟩:=(show ObjOk P w H h a (.dT kvs) from rd_of ok e)
 refine ⟨z,y,xs,r,o,es,ep,h1,h2,h3,h4,fun x hx=>?_,h5⟩
 have all:∀ {l:List (List Key × V)} {m:List (List Key × Addr × Value)},KT H l m→∀ x ∈ m,(tupleKind (mixKind P w)).is h x.1 x.2.1:=by
  intro l m q
  induction q with
  | nil=>intro x hx; exact nomatch hx
  | @cons p q ps qs hq t ih =>
   intro x hx
   rcases List.mem_cons.mp hx with e | hx
   ·subst e
    exact key_of ok (by rw [← hq.1]; exact hq.2.1)
   ·exact ih x hx
 exact all r x hx
theorem dt_of {kvs:List (List Key × V)} (ok:HOk P w H h) (e:H a=some (.dT kvs)):kvs.length ≤ sizeLine∧(a == sysModules)=false ∧
  ∃ xs,KT H kvs xs∧h.DictOfH (tupleKind (mixKind P w)) a xs:=dt_rd ok (.inl e)
end

def DGet (H:Hp) (a:Addr) (y:V) (r:Option V):Prop :=
 (∃ kvs k,Rd H a (.dK kvs)∧y=kV k∧r=valV kvs k)∨∃ kvs k b,Rd H a (.dT kvs)∧y=.ref b∧H b=some (.tup (k.map kV))∧r=valV kvs k
def DPut (H:Hp) (a:Addr) (y v:V) (H':Hp):Prop :=
 (∃ kvs k,H a=some (.dK kvs)∧y=kV k∧kvs.length < sizeLine∧H'=upd H a (.dK (putK kvs k v))) ∨
 ∃ kvs k b,H a=some (.dT kvs)∧y=.ref b∧H b=some (.tup (k.map kV))∧kvs.length < sizeLine∧H'=upd H a (.dT (putK kvs k v))
theorem DGet.k {H:Hp} {a:Addr} {kvs:List (Key × V)} {k:Key} (e:H a=some (.dK kvs)):DGet H a (kV k) (valV kvs k):=.inl ⟨kvs,k,.inl e,rfl,rfl⟩
theorem DPut.k {H:Hp} {a:Addr} {kvs:List (Key × V)} {k:Key} {v:V} (e:H a=some (.dK kvs)) (hl:kvs.length < sizeLine):DPut H a (kV k) v (upd H a (.dK (putK kvs k v))):=.inl ⟨kvs,k,e,rfl,hl,rfl⟩
section
variable {X:Cx} {pins:List (Addr × Obj)} {σ:St} {H:Hp} {s:Shared} {a:Addr} {y v:V} {u r:Value} {o:Option V} {A:Around} {E:Value→Shared→Prop}

theorem Inv.big (I:Inv X pins σ H s):sysModules < s.heap.objs.size:=by
 have h:mainGlobals < s.heap.objs.size:=(I.mod.glob.keeps I.bk).lt
 exact Nat.lt_trans (by decide) h

theorem d_in {Q:Value→Shared→Prop} (hu:A.units + 1 < cLine) (I:Inv X pins σ H s) (g:DGet H a y o) (ry:RelV y u) (h:∀ s',Inv X pins σ H s'→Q (.bool o.isSome) s') :
  wpAny (model X.prog X.w) A (compareOp .In u (.ref a)) Q E s:=by
 rcases g with ⟨kvs,k,e,ey,l⟩ | ⟨kvs,k,b,e,ey,eb,l⟩
 ·subst ey
  obtain ⟨z,hd,vs,rel,dd⟩:=dk_rd I.hok e
  refine wpAny_in_of (kV_is ry) hd dd.mapOf ?_
  rw [← (rel.val k).isSome_eq,← l]
  exact h _ (I.tok _)
 ·subst ey
  cases (show u=Value.ref b from ry)
  obtain ⟨z,hd,xs,rel,dd⟩:=dt_rd I.hok e
  refine wpAny_in_heap (tupleKind_room_in1 hu) (key_of I.hok eb) hd dd ?_
  have q:=(rel.val k).isSome_eq
  rw [Option.isSome_map] at q
  rw [← q,← l]
  exact h _ (I.tok _)
theorem d_write {h':Heap} {t':Nat} {ob:HO} (I:Inv X pins σ H s) (mu:Mut (H a)) (hs:Heap.SameBut a s.heap h') (he:∃ q,h'.get? a=some q) (new:ObjOk X.prog X.w (upd H a ob) h' a ob) :
  Inv X pins σ (upd H a ob) { s with heap:=h',toks:=t' } :=
 I.write (x:=a) (e:=a) mu (.inl rfl) (fun b q hb z=>(hs.2 b hb).trans z) he new
theorem dk_new {P:Program} {w:World} {H':Hp} {h':Heap} {kvs:List (Key × V)} {vs:List (Key × Value)} (z:kvs.length ≤ sizeLine) (hd:(a == sysModules)=false) (rel:KV kvs vs) (dd:h'.DictOf (mixKind P w) a vs) :
  ObjOk P w H' h' a (.dK kvs):=⟨z,hd,vs,rel,dd⟩
theorem d_setItem {H':Hp} {Q:Unit→Shared→Prop} (hu:A.units + 1 < cLine) (I:Inv X pins σ H s) (g:DPut H a y v H') (ry:RelV y u) (rv:RelV v r) (h:∀ s',Inv X pins σ H' s'→Q () s') :
  wpAny (model X.prog X.w) A (setItem (.ref a) u r) Q E s:=by
 rcases g with ⟨kvs,k,e,ey,l,eH⟩ | ⟨kvs,k,b,e,ey,eb,l,eH⟩
 ·subst ey eH
  obtain ⟨z,hd,vs,rel,dd⟩:=dk_of I.hok e
  have hz:vs.length ≤ sizeLine:=by rw [← rel.length]; exact z
  have hl:(putK kvs k v).length ≤ sizeLine:=by have:=length_putK kvs k v; omega
  refine wpAny_setItem_pairs (hsz:=hz) (kV_is ry) dd fun h' dd' hs=>h _ ?_
  have he:∃ q,h'.get? a=some q:=let ⟨q,_,_,hq,_⟩:=dd'; ⟨q,hq⟩
  exact d_write I (by rw [e]; exact True.intro) hs he (dk_new hl hd (rel.put k rv) dd')
 ·subst ey eH
  cases (show u=Value.ref b from ry)
  obtain ⟨z,hd,xs,rel,dd⟩:=dt_of I.hok e
  have hz:xs.length ≤ sizeLine:=by rw [← Paired.length rel]; exact z
  have hl:(putK kvs k v).length ≤ sizeLine:=by have:=length_putK kvs k v; omega
  refine wpAny_setItem_heap (hsz:=hz) (tupleKind_room_in1 hu) (key_of I.hok eb) dd fun h' dd' hs=>h _ ?_
  obtain ⟨q,es,ep,hq,h2,h3,h4,_,h5⟩:=dd'
  refine d_write I (by rw [e]; exact True.intro) hs ⟨q,hq⟩ ⟨hl,hd,_,(rel.put k eb rv).keeps fun c ys ec=>?_,q,es,ep,hq,h2,h3,h4,h5⟩
  rw [upd_ne (ne_of ec e (fun z=>nomatch z))]
  exact ec
end

section
variable {X:Cx} {pins:List (Addr × Obj)} {σ:St} {H:Hp} {s:Shared} {a:Addr} {kvs:List (Key × V)} {k:Key} {u:Value} {A:Around} {E:Value→Shared→Prop}
end


section
variable {X:Cx} {o i e value:Expr} {pos pos' tpos:Pos} {td ty tv:TE}
end


theorem dk_empty {P:Program} {w:World} {H:Hp} (h:Heap) (hb:sysModules < h.objs.size):ObjOk P w H (h.push { cls:=.type "dict",data:=.dict #[] }) h.objs.size (.dK []) :=
 ⟨Nat.zero_le _,beq_eq_false_iff_ne.mpr (Ne.symm (Nat.ne_of_lt hb)),[],.nil,Heap.DictOf.new h⟩
def tDNewK:TE:=fun _ H Q=>∀ p,H p=none→Q (.ref p) (upd H p (.dK []))
section
variable {X:Cx} {pos:Pos}
theorem pe_dnewK:PE X (.Dict [] [] pos) tDNewK:=fun pins s σ H Q I h =>
 wpAny_Dict_empty ⟨.ref s.heap.objs.size,_,I.laid (a:=s.heap.objs.size) (o:=.dK []) (t':=s.toks) (fun _ _ q=>Heap.get?_push_of_some _ q) (Nat.le_refl _) (dk_empty s.heap I.big),rfl,h _ (I.hok.fresh (Nat.le_refl _))⟩
end


structure M1 (X:Cx) (o:Expr) (m:Str) (apos:Pos) (e:Expr) (cpos:Pos):Prop where
 base:attributeBase o m X.env (eval o X.env)=eval o X.env
 few:((backTo cpos (starEach [e] X.env)).all (fun x=>!x.1) && (backToKw cpos (keywordEach [] X.env)).all (fun x=>x.1.isSome)
  && decide (([e]:List Expr).length + ([]:List Keyword).length + (if ([]:List Keyword).isEmpty then 0 else 1) < 30))=true
 line:(apos.endLine == cpos.line)=true
 trees:backTo cpos (starEach [e] X.env)=[(false,eval e X.env)]
structure M2 (X:Cx) (o:Expr) (m:Str) (apos:Pos) (e f:Expr) (cpos:Pos):Prop where
 base:attributeBase o m X.env (eval o X.env)=eval o X.env
 few:((backTo cpos (starEach [e,f] X.env)).all (fun x=>!x.1) && (backToKw cpos (keywordEach [] X.env)).all (fun x=>x.1.isSome)
  && decide (([e,f]:List Expr).length + ([]:List Keyword).length + (if ([]:List Keyword).isEmpty then 0 else 1) < 30))=true
 line:(apos.endLine == cpos.line)=true
 trees:backTo cpos (starEach [e,f] X.env)=[(false,eval e X.env),(false,eval f X.env)]

def IsD (H:Hp) (a:Addr):Prop:=(∃ kvs,Rd H a (.dK kvs))∨∃ kvs,Rd H a (.dT kvs)
theorem isD_at {X:Cx} {pins:List (Addr × Obj)} {σ:St} {H:Hp} {s:Shared} {a:Addr} (I:Inv X pins σ H s) (d:IsD H a) :
  s.TypeIs (.ref a) "dict"∧(∀ b,Value.ref a=.ref b→∃ ob,s.heap.get? b=some ob∧ob.dict=none)∧(a == sysModules)=false:=by
 rcases d with ⟨kvs,e⟩ | ⟨kvs,e⟩
 ·obtain ⟨_,hd,vs,_,dd⟩:=dk_rd I.hok e
  refine ⟨dd.typeIs,fun b q=>?_,hd⟩
  cases q
  obtain ⟨ob,_,_,h1,h2,_⟩:=dd
  exact ⟨ob,h1,h2.2.1⟩
 ·obtain ⟨_,hd,xs,_,dd⟩:=dt_rd I.hok e
  refine ⟨dd.typeIs,fun b q=>?_,hd⟩
  cases q
  obtain ⟨ob,_,_,h1,h2,_⟩:=dd
  exact ⟨ob,h1,h2.2.1⟩

section
variable {X:Cx} {pins:List (Addr × Obj)} {σ:St} {H:Hp} {s:Shared} {a:Addr} {y d:V} {u r:Value} {o:Option V} {A:Around} {E:Value→Shared→Prop}
theorem d_get2 {Q:Value→Shared→Prop} (hu:A.units + 1 < cLine) (I:Inv X pins σ H s) (g:DGet H a y o) (ry:RelV y u) (rd:RelV d r) (h:∀ w' s',Inv X pins σ H s'→RelV (o.getD d) w'→Q w' s') :
  wpAny (model X.prog X.w) A (call (.builtin "dict.get") [.ref a,u,r]) Q E s:=by
 rcases g with ⟨kvs,k,e,ey,l⟩ | ⟨kvs,k,b,e,ey,eb,l⟩
 ·subst ey
  obtain ⟨z,hd,vs,rel,dd⟩:=dk_rd I.hok e
  refine call_meetsIn PySem.F.slot_dict_get dd.typeIs PySem.F.entry_dict_get (PySem.F.args_dict_get_3 _ _ _) (meets_dict_get_default (mixKind X.prog X.w) a (kV_is ry) hd r) ⟨_,dd.mapOf,h _ _ (I.tok _) ?_⟩
  rw [l]
  exact (rel.val k).getD rd
 ·subst ey
  cases (show u=Value.ref b from ry)
  obtain ⟨z,hd,xs,rel,dd⟩:=dt_rd I.hok e
  refine call_meetsIn PySem.F.slot_dict_get dd.typeIs PySem.F.entry_dict_get (PySem.F.args_dict_get_3 _ _ _) (meetsH_dict_get_default (tupleKind (mixKind X.prog X.w)) a b hd r) ⟨tupleKind_room_in1 hu,k,xs,key_of I.hok eb,dd,h _ _ (I.tok _) ?_⟩
  rw [l]
  exact (rel.val k).getD rd
end

def tDGet2 (td ty tx:TE):TE:=fun σ H Q=>td σ H fun x H1=>∃ a,x=.ref a∧IsD H1 a∧ty σ H1 fun y H2=>tx σ H2 fun z H3=>∃ o,DGet H3 a y o∧Q (o.getD z) H3
section
variable {X:Cx} {o e f:Expr} {apos cpos:Pos} {td ty tx:TE}
theorem pe_dget2 (hu:X.A.units + 1 < cLine) (ho:PE X o td) (he:PE X e ty) (hf:PE X f tx) (m:M2 X o "get" apos e f cpos):PE X (.Call (.Attribute o "get" apos) [e,f] [] cpos) (tDGet2 td ty tx):=by
 intro pins s σ H Q I h
 refine wpAny_Call_method m.base m.few m.line PySem.F.plainAttrs_dict PySem.F.slot_dict_get PySem.F.type_dict_get (thn (ho pins s σ H _ I h) fun u s1 ⟨x,H1,I1,rx,a,ex,d,q1⟩=>?_)
 subst ex
 obtain rfl:u=Value.ref a:=rx
 obtain ⟨t1,t2,_⟩:=isD_at I1 d
 refine ⟨t1,t2,?_⟩
 rw [m.trees]
 refine Calls.callWith_builtin rfl (Calls.evalArgs_plain (Calls.spliced_cons (thn (he pins s1 σ H1 _ I1 q1) fun iv s2 ⟨y,H2,I2,ry,q2⟩ =>
  Calls.spliced_cons (thn (hf pins s2 σ H2 _ I2 q2) fun fv s3 ⟨z,H3,I3,rz,ov,g,q3⟩=>Calls.spliced_nil ?_))))
 exact d_get2 hu I3 g ry rz fun w' s4 I4 rw'=>⟨_,H3,I4,rw',q3⟩
end


section
variable {X:Cx} {pins:List (Addr × Obj)} {σ:St} {H:Hp} {s:Shared} {a:Addr} {kvs:List (Key × V)} {A:Around} {E:Value→Shared→Prop}
end

section
variable {X:Cx} {pins:List (Addr × Obj)} {σ:St} {H:Hp} {s:Shared} {a:Addr} {y:V} {u:Value} {A:Around} {E:Value→Shared→Prop}
end
section
variable {X:Cx}
end

section
variable {κ:Type} [DecidableEq κ]
end
end L2

set_option maxHeartbeats 4000000

namespace L2
open PySem PySem.Spec PyProof.Rows
def ItEL (K:PySem.W.Frag) (a:Addr):It :=
 ⟨fun i H=>∃ xs x,SqL K H a xs∧xs[i]?=some x,fun i H v H'=>∃ T x,v=.ref T∧H T=none∧H'=upd H T (.tup [.int i,x])∧∀ xs,SqL K H a xs→xs[i]?=some x,fun i H=>∃ xs,SqL K H a xs∧xs.length ≤ i⟩
theorem turn_enumL {P:Program} {w:World} {K:PySem.W.Frag} {elts:List Expr} {k:Nat} {pos:Pos} (a e it:Addr) (hne:e ≠ it) :
  Turn P w K (.Tuple elts k pos) (ItEL K a) [e,it] e (fun i h=>(∃ old,IsEnum h e it i old)∧h.IsListIter it a i) where
 mem:=by simp
 obj:=fun i h st b hb=>by
  obtain ⟨⟨old,he⟩,o,ho,c,d⟩:=st
  rcases List.mem_cons.mp hb with q | q
  ·subst q
   exact ⟨_,he,fun v z=>by
    have z':Data.fields _=Data.cell v:=z
    cases z'⟩
  ·have q':b=it:=by simpa using q
   subst q'
   exact ⟨o,ho,fun v z=>by rw [d] at z; cases z⟩
 keep:=fun i h h' st kk=>by
  obtain ⟨⟨old,he⟩,o,ho,r⟩:=st
  exact ⟨⟨old,kk e (by simp) _ he⟩,o,kk it (by simp) _ ho,r⟩
 item:=by
  intro X hP hw hK hc i pins s σ H E I hf st hg
  subst hP hw hK
  obtain ⟨xs,x,hq,hx⟩:=hg
  obtain ⟨its,rv,p,hz⟩:=I.list hq
  obtain ⟨u,hu,ru⟩:=rv.get hx
  obtain ⟨⟨old,he⟩,hit⟩:=st
  have pt:s.heap.IsList a its.toArray:=p.isList
  obtain ⟨fe0,fe1,fe2,fe3,fe4,fe5⟩:=hf e (by simp)
  obtain ⟨fi0,fi1,fi2,fi3,fi4,fi5⟩:=hf it (by simp)
  have hlt:i < its.toArray.size:=by rw [List.size_toArray]; exact (List.getElem?_eq_some_iff.mp hu).1
  have alt:a < s.heap.objs.size:=by obtain ⟨_,q,_⟩:=pt; exact Heap.lt_size q
  have hai:a ≠ it:=fun z=>by
   obtain ⟨o1,q1,c1,n1,d1⟩:=pt
   obtain ⟨o2,q2,c2,d2⟩:=hit
   rw [z,q2] at q1; cases q1; rw [d2] at d1; cases d1
  have hae:a ≠ e:=fun z=>by
   obtain ⟨o1,q1,c1,n1,d1⟩:=pt
   rw [z,he] at q1; cases q1; cases d1
  refine wpAny_pyNext_enum_itemD (Draws.list (A:=X.A.in1) (I.ok.hd hc) it a hai its.toArray) he ⟨hit,pt⟩ hlt hne (by simp [hne,Ne.symm hae]) fun x' h' tk hx' out st' ht sz kp=>?_
  have ex:x'=u:=by
   rw [show its.toArray[i]?=some u by simpa using hu] at hx'
   exact (Option.some.inj hx').symm
  subst ex
  refine ⟨_,rfl,?_⟩
  refine wpAny_letOwnedTupleGo_enum (s:={ s with heap:=h',toks:=tk + 1 }) out fun h2 he2 sb2=>?_
  have hT0:H s.heap.objs.size=none:=I.hok.fresh (Nat.le_refl _)
  have eT:s.heap.objs.size ≠ e:=Nat.ne_of_gt (Heap.lt_size he)
  have iT:s.heap.objs.size ≠ it:=by obtain ⟨_,q,_⟩:=hit; exact Nat.ne_of_gt (Heap.lt_size q)
  have kp2:∀ b o,b ∉ [e,it]→s.heap.get? b=some o→h2.get? b=some o:=fun b o hb q=>by
   have b1:b ≠ e:=fun z=>hb (by simp [z])
   have b2:b ≠ it:=fun z=>hb (by simp [z])
   exact (sb2.2 b b1).trans (kp b o b1 b2 q)
  have I1:Inv X pins σ H { s with heap:=h2,toks:=tk + 1 }:=by
   have nit:∀ b u,H b=some u→b ∉ [e,it]:=fun b u q z=>by
    rcases List.mem_cons.mp z with w1 | w1
    ·rw [w1,fe0] at q; cases q
    ·rw [show b=it by simpa using w1,fi0] at q; cases q
   refine I.step (g':=s.gens) (d':=s.drawn) (ch:=[e,it]) (fun b hb=>?_) (fun b o _ _ hcn q _=>kp2 b o hcn q) (fun b o _ _ hcn q _=>⟨o.slots,kp2 b o hcn q⟩) (fun _ _ _ _ n=>n)
    (fun b o hcn q=>⟨o,kp2 b o hcn q⟩) (fun _ _ q=>q) (fun _ _ _ q=>q) (fun b ps q=>⟨#[],by rw [q]; simp⟩) (fun m hm=>?_) (fun b u q=>?_) I.bare
   ·rcases List.mem_cons.mp hb with w1 | w1
    ·rw [w1]; exact ⟨fe3,fe1,fe4,fe5⟩
    ·rw [show b=it by simpa using w1]; exact ⟨fi3,fi1,fi4,fi5⟩
   ·obtain ⟨oo,es,ep,ho,r⟩:=hm
    exact ⟨oo,es,ep,kp2 _ oo (by simp [Ne.symm fe1,Ne.symm fi1]) ho,r⟩
   ·refine (I.hok b u q).stay (fun c v hcv z=>kp2 c v ?_ z) (fun _ z=>z) fun _ _ z=>z
    rcases hcv with w1 | w1
    ·rw [w1]; exact nit b u q
    ·exact nit c _ w1
  have hT2:h2.get? s.heap.objs.size=some { cls:=.type "tuple",data:=.seq #[.int i tk,x'] }:=(sb2.2 _ eT).trans ht
  have I2:Inv X pins σ (upd H s.heap.objs.size (.tup [.int i,x])) { s with heap:=h2,toks:=tk + 1 } :=
   I1.adopt (a:=s.heap.objs.size) (o:=.tup [.int i,x]) hT0 I.sz (Nat.ne_of_gt I.lt) (fun y c q=>by
    obtain ⟨v,z⟩:=I.cell y c q
    exact Nat.ne_of_lt z.lt) (fun pp hp=>Nat.ne_of_lt (Heap.lt_size (I.pin pp hp).1)) ⟨(by show 2 ≤ sizeLine; decide),[.int i tk,x'],.cons ⟨tk,rfl⟩ (.cons ru .nil),⟨_,hT2,rfl,_,rfl⟩,_,hT2,rfl⟩
  refine ⟨.ref s.heap.objs.size,_,I2,rfl,⟨s.heap.objs.size,x,rfl,hT0,rfl,fun ys hy=>by rw [I.list_inj hy hq]; exact hx⟩,⟨⟨_,by simpa using he2⟩,?_⟩,fun b hb=>?_⟩
  ·obtain ⟨o1,q1,r1⟩:=st'.1
   exact ⟨o1,(sb2.2 it (Ne.symm hne)).trans q1,r1⟩
  ·rcases List.mem_cons.mp hb with w1 | w1
   ·rw [w1,upd_ne (Ne.symm eT)]; exact fe0
   ·rw [show b=it by simpa using w1,upd_ne (Ne.symm iT)]; exact fi0
 done:=by
  intro X hP hw hK hc i pins s σ H E I hf st hg
  subst hP hw hK
  obtain ⟨xs,hq,hx⟩:=hg
  obtain ⟨its,rv,p,hz⟩:=I.list hq
  obtain ⟨⟨old,he⟩,hit⟩:=st
  have pt:s.heap.IsList a its.toArray:=p.isList
  obtain ⟨fi0,fi1,fi2,fi3,fi4,fi5⟩:=hf it (by simp)
  have hl:=rv.length
  have hT:s.TypeIs (.ref e) "enumerate":=⟨_,he,rfl⟩
  unfold pyNext
  refine wpAny_bind (wpAny_attempt (wpAny_callSpecial?_slot (name:=Str.ofString "__next__") hT F.slot_enumerate_next (wpAny_call_entry F.slot_enumerate_next hT F.entry_enumerate_next ?_ (F.args_enumerate_next_1 _))))
  show wpAny _ _ (field (.ref e) 2 >>= _) _ _ _
  refine wpAny_bind (wpAny_field he rfl (x:=.ref it) rfl ?_)
  refine wpAny_bind (wpAny_nextOf_list_end (A:=X.A.in1) (I.ok.hd hc) hit pt (by simp; omega) fun h' ex eb hex=>?_)
  obtain ⟨o,ho,hcl⟩:=hex
  refine wpAny_bind (wpAny_isInstance (T:="StopIteration") (b:=true) ⟨o,ho,hcl⟩ isSubtype_stop ?_)
  exact wpAny_pure ⟨rfl,I.turned (t':=s.toks) (fun b o hb q=>eb b o hb q) fi0 fi1 fi3 fi4 fi5⟩
 self:=fun _ _ _ _ _ st h=>by
  obtain ⟨⟨old,he⟩,_⟩:=st
  exact wpAny_pyIter_enum he h
def iEnumL (K:PySem.W.Frag) (ta:TA):TI:=fun σ H R=>ta σ H fun vs H1=>∃ a,vs=[.ref a]∧(∃ xs,SqL K H1 a xs)∧R (ItEL K a) H1
theorem pi_enumL {X:Cx} {elts:List Expr} {k:Nat} {tpos:Pos} {a:Expr} {ta:TA} {p pos:Pos} {K:PySem.W.Frag} (hK:X.K=K) (hg:Gl X "enumerate") (hm:X.mg "enumerate"=none) (ha:PA X [a] ta)
  (hs:starEach [a] X.env=[(false,eval a X.env)]:=by rfl):PI X (.Tuple elts k tpos) (.Call (.Name "enumerate" p) [a] [] pos) (iEnumL K ta):=by
 subst hK
 intro pins s σ H R I h
 refine Call_ (ld_blt I hg hm bt_enumerate (PyProof.Rows.callWith_type1 (thn (ha pos pins s σ H _ I h) fun us s1 ⟨vs,H1,I1,r1,q1⟩=>?_) hs rfl))
 obtain ⟨b,e,⟨xs,hq⟩,q⟩:=q1
 subst e
 obtain ⟨u,rfl,ru⟩:=vals1 r1
 cases ru
 obtain ⟨its,rv,pt,hz⟩:=I1.list hq
 refine call_enumerate_list pt.isList fun h' he hit sz kp=>?_
 have I2:Inv X pins σ H1 { s1 with heap:=h' }:=I1.kept (t':=s1.toks) kp
 refine wpAny_pyIter_enum he ⟨s1.heap.objs.size + 1,[s1.heap.objs.size + 1,s1.heap.objs.size],_,_,H1,rfl,I2,turn_enumL b _ _ (Nat.succ_ne_self _),⟨⟨_,he⟩,hit⟩,fun c hc=>?_,q⟩
 have hcs:s1.heap.objs.size ≤ c:=by
  rcases List.mem_cons.mp hc with z | z
  ·rw [z]; exact Nat.le_succ _
  ·rw [show c=s1.heap.objs.size by simpa using z]; exact Nat.le_refl _
 exact I1.fpOk hcs (I1.hok.fresh hcs)
theorem r_ienumL {K:PySem.W.Frag} {ta:TA} {σ:St} {H:Hp} {R:It→Hp→Prop}:iEnumL K ta σ H R=ta σ H (fun vs H1=>∃ a,vs=[.ref a]∧(∃ xs,SqL K H1 a xs)∧R (ItEL K a) H1):=rfl
theorem loop_enumL {K:PySem.W.Frag} {a:Addr} {xs:List V} {g:TG} {tb:TS} {D:Ends} {σ:St} {H:Hp} (Pv:Nat→St→Hp→Prop) (h0:Pv 0 σ H) (hl:∀ i σ H,i ≤ xs.length→Pv i σ H→SqL K H a xs)
  (hs:∀ i x σ H T,xs[i]?=some x→Pv i σ H→H T=none→g (.ref T) σ (upd H T (.tup [.int i,x])) fun σ2 H2=>tb { D with nx:=Pv (i + 1),ct:=Pv (i + 1),bk:=D.nx } σ2 H2) (hd:∀ σ H,Pv xs.length σ H→D.nx σ H) :
  Loop (ItEL K a) g tb D σ H:=by
 refine ⟨fun i m σ H=>m=xs.length - i∧i ≤ xs.length∧Pv i σ H,⟨xs.length,by simp,Nat.zero_le _,h0⟩,?_⟩
 rintro i m σ H ⟨rfl,hi,p⟩
 have q:=hl i σ H hi p
 by_cases hlt:i < xs.length
 ·refine .inr ⟨⟨xs,xs[i],q,by simp [hlt]⟩,Pv (i + 1),fun σ' H' p'=>⟨xs.length - (i + 1),by omega,rfl,hlt,p'⟩,fun v H' y=>?_⟩
  obtain ⟨T,x,rfl,hT,rfl,hx⟩:=y
  exact hs i x σ H T (hx xs q) p hT
 ·have e:i=xs.length:=by omega
  subst e
  exact .inl ⟨⟨xs,q,Nat.le_refl _⟩,hd σ H p⟩

end L2

set_option maxHeartbeats 4000000
namespace L2
open PySem PySem.Spec PyProof.Rows

section
variable {X:Cx} {K:PySem.W.Frag} {C:Addr} {o e value:Expr} {f m:Str} {pos pos' apos p:Pos} {ta tv td ty tx:TE} {x:Str} {es:List Expr} {t:TA}
def tFldC (C:Addr) (ta:TE) (f:Str):TE:=fun σ H Q=>ta σ H fun x H1=>∃ a,x=.ref a∧∃ dx fs v,H1 a=some (.ins C dx fs)∧fs.lookup f=some v∧Q v H1
def sFldC (C:Addr) (ta tv:TE) (f:Str):TS:=fun D σ H=>tv σ H fun y H1=>ta σ H1 fun x H2=>∃ a,x=.ref a∧∃ dx fs,H2 a=some (.ins C dx fs)∧fs.length < 1000∧D.nx σ (upd H2 a (.ins C dx (putF f y fs)))
variable {CX:CXT} {k:Nat} {g:Addr} {fd:FuncData} {ps ns:List Str} {sp:Sp} {E:XK} {Ex:St→XK}
def tMethC (C:Addr) (ns:List Str) (sp:Sp) (E:XK) (ta:TE) (t:TA):TE:=fun σ H Q=>ta σ H fun x H1=>∃ a,x=.ref a∧(∃ dx fs,H1 a=some (.ins C dx fs)∧fs.map (·.1)=ns)∧t σ H1 fun vs H2=>sp (.ref a :: vs) H2 Q E
def tMethCX (C:Addr) (ns:List Str) (sp:Sp) (Ex:St→XK) (ta:TE) (t:TA):TE:=fun σ H Q=>ta σ H fun x H1=>∃ a,x=.ref a∧(∃ dx fs,H1 a=some (.ins C dx fs)∧fs.map (·.1)=ns)∧t σ H1 fun vs H2=>sp (.ref a :: vs) H2 Q (Ex σ)
def tMakeC (C:Addr) (sp:Sp) (E:XK) (t:TA):TE:=fun σ H Q=>t σ H fun vs H1=>∀ x dx,H1 x=none→H1 dx=none→dx ≠ x →
 sp (.ref x :: vs) (upd (upd H1 dx (.own x)) x (.ins C dx [])) (fun v H2=>v=.non∧Q (.ref x) H2) E

def tDGetK (td ty:TE):TE:=fun σ H Q=>td σ H fun x H1=>ty σ H1 fun y H2=>∃ a,x=.ref a∧∃ i,y=.int i∧∃ kvs v,H2 a=some (.dK kvs)∧valV kvs (.inl i)=some v∧Q v H2
def tDInK (ty td:TE):TE:=fun σ H Q=>ty σ H fun y H1=>td σ H1 fun x H2=>∃ a,x=.ref a∧∃ i,y=.int i∧∃ kvs,H2 a=some (.dK kvs)∧Q (.bl (valV kvs (.inl i)).isSome) H2
def tDNotInK (ty td:TE):TE:=fun σ H Q=>ty σ H fun y H1=>td σ H1 fun x H2=>∃ a,x=.ref a∧∃ i,y=.int i∧∃ kvs,H2 a=some (.dK kvs)∧Q (.bl (!(valV kvs (.inl i)).isSome)) H2
def sDPutK (td ty tv:TE):TS:=fun D σ H=>tv σ H fun v H1=>td σ H1 fun x H2=>ty σ H2 fun y H3=>∃ a,x=.ref a∧∃ i,y=.int i∧∃ kvs,H3 a=some (.dK kvs)∧kvs.length < sizeLine∧D.nx σ (upd H3 a (.dK (putK kvs (.inl i) v)))
variable {i:Expr}
theorem pc_dinK (hu:X.A.units + 1 < cLine) (hi:PE X i ty) (ho:PE X o td):PC X .In i o (tDInK ty td):=by
 intro pins s σ H Q I h
 refine thn (hi pins s σ H _ I h) fun iv s1 ⟨y,H1,I1,ry,q1⟩=>thn (ho pins s1 σ H1 _ I1 q1) fun u s2 ⟨x,H2,I2,rx,a,ex,z,ey,kvs,g,q2⟩=>?_
 subst ex ey
 obtain rfl:u=Value.ref a:=rx
 exact d_in hu I2 (DGet.k (k:=Sum.inl z) g) ry fun s3 I3=>⟨.bl (valV kvs (Sum.inl z)).isSome,H2,I3,rfl,q2⟩
theorem ps_dputK (hu:X.A.units + 1 < cLine) (ho:PE X o td) (hi:PE X i ty) (hv:PE X value tv) (hs:swapsWith value (some (.Subscript o i pos')) pos.line X.env=pure false) :
  PS X (.Assign [.Subscript o i pos'] value pos) (sDPutK td ty tv):=by
 intro pins s σ H D I h
 refine wpAny_Assign_Subscript (thn (hv pins s σ H _ I h) fun r s1 ⟨v,H1,I1,rv,q1⟩=>thn (ho pins s1 σ H1 _ I1 q1) fun u s2 ⟨x,H2,I2,rx,q2⟩=>thn (hi pins s2 σ H2 _ I2 q2) fun iv s3 ⟨y,H3,I3,ry,a,ex,z,ey,kvs,g,hl,q3⟩=>?_) hs
 subst ex ey
 obtain rfl:u=Value.ref a:=rx
 exact d_setItem hu I3 (DPut.k (k:=Sum.inl z) g hl) ry rv fun s4 I4=>⟨σ,_,I4,q3⟩
def rLenD:List V→Hp→VK→Prop:=fun xs H Q=>∃ a,xs=[.ref a]∧∃ kvs,H a=some (.dK kvs)∧Q (.int kvs.length) H

variable {σ:St} {H:Hp} {Q:VK} {D:Ends}
theorem r_fldC:tFldC C ta f σ H Q=ta σ H (fun x H1=>∃ a,x=.ref a∧∃ dx fs v,H1 a=some (.ins C dx fs)∧fs.lookup f=some v∧Q v H1):=rfl
theorem r_sfldC:sFldC C ta tv f D σ H=tv σ H (fun y H1=>ta σ H1 fun x H2=>∃ a,x=.ref a∧∃ dx fs,H2 a=some (.ins C dx fs)∧fs.length < 1000∧D.nx σ (upd H2 a (.ins C dx (putF f y fs)))):=rfl
theorem r_methC:tMethC C ns sp E ta t σ H Q=ta σ H (fun x H1=>∃ a,x=.ref a∧(∃ dx fs,H1 a=some (.ins C dx fs)∧fs.map (·.1)=ns)∧t σ H1 fun vs H2=>sp (.ref a :: vs) H2 Q E):=rfl
theorem r_methCX:tMethCX C ns sp Ex ta t σ H Q=ta σ H (fun x H1=>∃ a,x=.ref a∧(∃ dx fs,H1 a=some (.ins C dx fs)∧fs.map (·.1)=ns)∧t σ H1 fun vs H2=>sp (.ref a :: vs) H2 Q (Ex σ)):=rfl
theorem r_makeC:tMakeC C sp E t σ H Q=t σ H (fun vs H1=>∀ x dx,H1 x=none→H1 dx=none→dx ≠ x→sp (.ref x :: vs) (upd (upd H1 dx (.own x)) x (.ins C dx [])) (fun v H2=>v=.non∧Q (.ref x) H2) E):=rfl
theorem r_dgetK:tDGetK td ty σ H Q=td σ H (fun x H1=>ty σ H1 fun y H2=>∃ a,x=.ref a∧∃ i,y=.int i∧∃ kvs v,H2 a=some (.dK kvs)∧valV kvs (.inl i)=some v∧Q v H2):=rfl
theorem r_dinK:tDInK ty td σ H Q=ty σ H (fun y H1=>td σ H1 fun x H2=>∃ a,x=.ref a∧∃ i,y=.int i∧∃ kvs,H2 a=some (.dK kvs)∧Q (.bl (valV kvs (.inl i)).isSome) H2):=rfl
theorem r_dnotinK:tDNotInK ty td σ H Q=ty σ H (fun y H1=>td σ H1 fun x H2=>∃ a,x=.ref a∧∃ i,y=.int i∧∃ kvs,H2 a=some (.dK kvs)∧Q (.bl (!(valV kvs (.inl i)).isSome)) H2):=rfl
theorem r_dputK:sDPutK td ty tv D σ H=tv σ H (fun v H1=>td σ H1 fun x H2=>ty σ H2 fun y H3=>∃ a,x=.ref a∧∃ i,y=.int i∧∃ kvs,H3 a=some (.dK kvs)∧kvs.length < sizeLine∧D.nx σ (upd H3 a (.dK (putK kvs (.inl i) v)))):=rfl
theorem r_lenD {a:Addr}:rLenD [.ref a] H Q=∃ kvs,H a=some (.dK kvs)∧Q (.int kvs.length) H:=propext ⟨fun ⟨_,e,h⟩=>by cases e; exact h,fun h=>⟨_,rfl,h⟩⟩
theorem r_dnew:tDNewK σ H Q=∀ p,H p=none→Q (.ref p) (upd H p (.dK [])):=rfl
end
end L2

set_option maxHeartbeats 4000000
namespace L2
open PySem PySem.Spec PyProof.Rows

def ItV (K:PySem.W.Frag) (a:Addr) (N:Nat):It :=
 ⟨fun i H=>∃ xs x,SqL K H a xs∧xs.length=N∧i < N∧xs[N - 1 - i]?=some x,fun i H x H'=>H'=H∧∀ xs,SqL K H a xs→xs[N - 1 - i]?=some x,fun i _=>i=N⟩
def iRev (K:PySem.W.Frag) (ta:TA):TI:=fun σ H R=>ta σ H fun vs H1=>∃ a,vs=[.ref a]∧∃ xs,SqL K H1 a xs∧R (ItV K a xs.length) H1
theorem r_irev {K:PySem.W.Frag} {ta:TA} {σ:St} {H:Hp} {R:It→Hp→Prop}:iRev K ta σ H R=ta σ H (fun vs H1=>∃ a,vs=[.ref a]∧∃ xs,SqL K H1 a xs∧R (ItV K a xs.length) H1):=rfl

def Itd (hi:Int) (n:Nat):It:=⟨fun i _=>i < n,fun i H x H'=>H'=H∧x=.int (hi - i),fun i _=>n ≤ i⟩
def iDown (ta:TA):TI:=fun σ H R=>ta σ H fun vs H1=>∃ i j:Int,vs=[.int i,.int j,.int (-1)]∧(-1000000 ≤ i∧i < 1000000∧-1000000 ≤ j∧j < 1000000)∧R (Itd i (i - j).toNat) H1
theorem r_idown {ta:TA} {σ:St} {H:Hp} {R:It→Hp→Prop}:iDown ta σ H R=ta σ H (fun vs H1=>∃ i j:Int,vs=[.int i,.int j,.int (-1)]∧(-1000000 ≤ i∧i < 1000000∧-1000000 ≤ j∧j < 1000000)∧R (Itd i (i - j).toNat) H1):=rfl

section
variable {K:PySem.W.Frag} {σ:St} {H:Hp} {Q:VK} {a b:Addr}
theorem r_slice {r:V→Option Int→Option Int→Hp→VK→Prop} {te:TE} {tl th:TO}:tSl r te tl th σ H Q=te σ H (fun x H1=>tl σ H1 fun l H2=>th σ H2 fun u H3=>r x l u H3 Q):=rfl
theorem r_nopart {R:Option Int→Hp→Prop}:tNoPart σ H R=R none H:=rfl
theorem r_part {t:TE} {R:Option Int→Hp→Prop}:tPart t σ H R=t σ H (fun x H1=>∃ i,x=.int i∧R (some i) H1):=rfl
theorem r_slT {lo hi:Option Int}:rSlT K (.ref a) lo hi H Q=∃ xs,SqT K H a xs∧¬ (HT.sIx xs.length 0 lo=0∧HT.sIx xs.length xs.length hi=xs.length)∧∀ p,H p=none→Q (.ref p) (upd H p (.tup (cutV xs lo hi))):=propext
 ⟨fun ⟨_,xs,e,h⟩=>by cases e; exact ⟨xs,h⟩,fun ⟨xs,h⟩=>⟨_,xs,rfl,h⟩⟩
theorem r_cat:rCat (.ref a) (.ref b) H Q=∃ xs zs,H a=some (.lst xs)∧H b=some (.lst zs)∧xs.length + zs.length ≤ sizeLine∧∀ p,H p=none→Q (.ref p) (upd H p (.lst (xs ++ zs))):=propext
 ⟨fun ⟨_,_,xs,zs,e1,e2,h⟩=>by cases e1; cases e2; exact ⟨xs,zs,h⟩,fun ⟨xs,zs,h⟩=>⟨_,_,xs,zs,rfl,rfl,h⟩⟩
theorem r_clear:rClear (.ref a) [] H Q=∃ xs,H a=some (.lst xs)∧Q .non (upd H a (.lst [])):=propext
 ⟨fun ⟨_,xs,e1,_,h⟩=>by cases e1; exact ⟨xs,h⟩,fun ⟨xs,h⟩=>⟨_,xs,rfl,rfl,h⟩⟩
theorem r_eqStr {x y:Str}:rEq (.str x) (.str y) H Q=Q (.bl (decide (x=y))) H:=propext
 ⟨fun ⟨_,h⟩=>by rwa [show decide (V.str x=V.str y)=decide (x=y) from decide_eq_decide.mpr ⟨fun z=>V.str.inj z,fun z=>by rw [z]⟩] at h,fun h=>⟨rfl,by rwa [show decide (V.str x=V.str y)=decide (x=y) from decide_eq_decide.mpr ⟨fun z=>V.str.inj z,fun z=>by rw [z]⟩]⟩⟩
end
end L2

set_option maxHeartbeats 4000000
namespace L2
open PySem PySem.Spec PyProof.Rows

section
variable {X:Cx}
def rSortedD:List V→Hp→VK→Prop:=fun xs H Q=>∃ p,xs=[.ref p]∧∃ (kvs:List (Key × V)) (ns:List Int),H p=some (.dK kvs)∧kvs.map (·.1)=ns.map Sum.inl∧ns.length < 64 ∧
  ∀ ns':List Int,ns'.Perm ns→ns'.Pairwise (· ≤ ·)→∀ l,H l=none→Q (.ref l) (upd H l (.lst (ns'.map V.int)))
theorem r_sortedD {p:Addr} {H:Hp} {Q:VK}:rSortedD [.ref p] H Q=∃ (kvs:List (Key × V)) (ns:List Int),H p=some (.dK kvs)∧kvs.map (·.1)=ns.map Sum.inl∧ns.length < 64 ∧
  ∀ ns':List Int,ns'.Perm ns→ns'.Pairwise (· ≤ ·)→∀ l,H l=none→Q (.ref l) (upd H l (.lst (ns'.map V.int))):=propext ⟨fun ⟨_,e,h⟩=>by cases e; exact h,fun h=>⟨_,rfl,h⟩⟩
end
end L2

set_option maxHeartbeats 4000000
namespace L2
open PySem PySem.Spec PyProof.Rows

def rAll (K:PySem.W.Frag):RC:=fun xs H Q=>∃ (p:Addr) (bs:List Bool),xs=[.ref p]∧SqL K H p (bs.map V.bl)∧Q (.bl (bs.all id)) H
theorem r_all {K:PySem.W.Frag} {H:Hp} {Q:VK} {p:Addr}:rAll K [.ref p] H Q=∃ bs:List Bool,SqL K H p (bs.map V.bl)∧Q (.bl (bs.all id)) H:=propext
 ⟨fun ⟨_,ys,e,h⟩=>by cases e; exact ⟨ys,h⟩,fun ⟨ys,h⟩=>⟨_,ys,rfl,h⟩⟩
end L2

set_option maxHeartbeats 4000000
namespace L2
open PySem PySem.Spec PyProof.Rows

section
variable {X:Cx} {pins:List (Addr × Obj)} {σ:St} {H:Hp} {s:Shared} {a:Addr} {o:Obj} {kvs:List (Key × V)}
def NoF (X:Cx) (a:Addr):Prop:=∀ o u,X.H₀ a ≠ some (.frz o u)
end
def Itz (a:Addr) (o:Obj) (kvs:List (Key × V)) (ns:List Int):It :=
 ⟨fun i H=>H a=some (.frz o (.dK kvs))∧i < ns.length,fun i H x H'=>H'=H∧∃ n,ns[i]?=some n∧x=.int n,fun i H=>H a=some (.frz o (.dK kvs))∧ns.length ≤ i⟩
section
variable {X:Cx} {tg:Expr}
def iDict (X:Cx) (tl:TE):TI:=fun σ H R=>tl σ H fun x H1=>∃ (a:Addr) (kvs:List (Key × V)) (ns:List Int),x=.ref a∧H1 a=some (.dK kvs)∧kvs.map (·.1)=ns.map Sum.inl∧∀ o,NoF X a→R (Itz a o kvs ns) (upd H1 a (.frz o (.dK kvs)))
def Thaw (X:Cx) (Q:VK):VK:=fun v H=>∃ (a:Addr) (o:Obj) (kvs:List (Key × V)),NoF X a∧H a=some (.frz o (.dK kvs))∧Q v (upd H a (.dK kvs))
def tCompD (X:Cx) (M:List Str) (tl:TE) (g:TG) (tt:TT) (te:TE):TE:=fun σ H Q=>tCompK M (iDict X tl) g tt te σ H (Thaw X Q)
end
section
variable {X:Cx} {elt target iter:Expr} {ifs:List Expr} {scope:Scope} {pos:Pos} {M:List Str} {tl:TE} {g:TG} {tt:TT} {te:TE}
theorem r_compD {σ:St} {H:Hp} {Q:VK}:tCompD X M tl g tt te σ H Q=tl σ H fun x H1=>∃ (a:Addr) (kvs:List (Key × V)) (ns:List Int),x=.ref a∧H1 a=some (.dK kvs)∧kvs.map (·.1)=ns.map Sum.inl∧∀ o,NoF X a→CLoop M (Itz a o kvs ns) g tt te σ (upd H1 a (.frz o (.dK kvs))) (Thaw X Q):=rfl
end
end L2

set_option maxHeartbeats 4000000
namespace L2
open PySem PySem.Spec PyProof.Rows

def rTIndex:V→List V→Hp→VK→Prop:=fun x vs H Q=>∃ (a:Addr) (ms:List Int) (k:Int) (j:Nat),x=.ref a∧vs=[.int k]∧H a=some (.tup (ms.map V.int))∧ms.Nodup∧ms[j]?=some k∧Q (.int (j:Int)) H
def tBMT (r:V→List V→Hp→VK→Prop) (to:TE) (t:TA):TE:=fun σ H Q=>to σ H fun x H1=>(∃ a xs,x=.ref a∧H1 a=some (.tup xs))∧t σ H1 fun xs H2=>r x xs H2 Q
theorem r_bmT {r:V→List V→Hp→VK→Prop} {to:TE} {t:TA} {σ:St} {H:Hp} {Q:VK}:tBMT r to t σ H Q=to σ H (fun x H1=>(∃ a xs,x=.ref a∧H1 a=some (.tup xs))∧t σ H1 fun xs H2=>r x xs H2 Q):=rfl
theorem r_tindex {a:Addr} {k:Int} {H:Hp} {Q:VK}:rTIndex (.ref a) [.int k] H Q=∃ (ms:List Int) (j:Nat),H a=some (.tup (ms.map V.int))∧ms.Nodup∧ms[j]?=some k∧Q (.int (j:Int)) H:=propext
 ⟨fun ⟨_,ms,_,j,e1,e2,h⟩=>by cases e1; cases e2; exact ⟨ms,j,h⟩,fun ⟨ms,j,h⟩=>⟨_,ms,_,j,rfl,rfl,h⟩⟩

def Cx.ren (X:Cx) (N:List Str):Cx:={ X with N:=N }
def tHide (k:Nat) (t:TS):TS:=fun D σ H=>t { nx:=fun σ' H'=>D.nx (σ'.set k none) H',rt:=D.rt,bk:=fun σ' H'=>D.bk (σ'.set k none) H',ct:=fun σ' H'=>D.ct (σ'.set k none) H' } (σ.set k none) H
theorem Inv.ren {X:Cx} {pins:List (Addr × Obj)} {σ:St} {H:Hp} {s:Shared} (k:Nat) {N:List Str} (hl:N.length=X.N.length) (hs:∀ i,i ≠ k→N[i]?=X.N[i]?) (I:Inv X pins σ H s):Inv (X.ren N) pins (σ.set k none) H s:=by
 refine ⟨⟨I.ok.mod,I.ok.kind,I.ok.glob,I.ok.blt,I.ok.above,I.ok.inj,I.ok.has,I.ok.cab,I.ok.hd,I.ok.frames,I.ok.stk,I.ok.exf,I.ok.bs,I.ok.bsz,I.ok.noex,I.ok.exfs,I.ok.funs,I.ok.frf⟩,I.os,I.bare,I.base,?_,I.cell,I.free,I.freeC,I.pin,I.hok,?_⟩
 ·obtain ⟨m,hn,hl'⟩:=I.loc
  refine ⟨m,hn,fun i x v e1 e2 e3=>?_⟩
  have e1:N[i]?=some x:=e1
  by_cases hi:i=k
  ·subst hi
   rw [List.getElem?_set] at e2
   simp only [if_true] at e2
   split at e2 <;> cases e2
  ·rw [List.getElem?_set_ne (fun z=>hi z.symm)] at e2
   exact hl' i x v (by rw [← hs i hi]; exact e1) e2 e3
 ·rw [List.length_set,I.len]
  exact hl.symm
theorem ps_hide {X:Cx} {st:Stmt} {t:TS} {k:Nat} {x:Str} (h:PS (X.ren (X.N.set k x)) st t):PS X st (tHide k t):=by
 intro pins s σ H D I hh
 have I':Inv (X.ren (X.N.set k x)) pins (σ.set k none) H s:=I.ren k (List.length_set ..) fun i hi=>List.getElem?_set_ne (fun z=>hi z.symm)
 have bk:∀ {σ':St} {H':Hp} {s':Shared},Inv (X.ren (X.N.set k x)) pins σ' H' s'→Inv X pins (σ'.set k none) H' s':=fun {σ' H' s'} J =>
  (show Inv ((X.ren (X.N.set k x)).ren X.N) pins (σ'.set k none) H' s' from J.ren k (List.length_set ..).symm fun i hi=>(List.getElem?_set_ne (fun z=>hi z.symm)).symm)
 refine thn (h pins s _ H _ I' hh) fun f s1 q=>?_
 cases f with
 | next=>obtain ⟨σ',H',J,q⟩:=q; exact ⟨_,H',bk J,q⟩
 | brk=>obtain ⟨σ',H',J,q⟩:=q; exact ⟨_,H',bk J,q⟩
 | cont=>obtain ⟨σ',H',J,q⟩:=q; exact ⟨_,H',bk J,q⟩
 | ret u=>obtain ⟨v,σ',H',J,r,q⟩:=q; exact ⟨v,_,H',bk J,r,q⟩
theorem r_hide {k:Nat} {t:TS} {D:Ends} {σ:St} {H:Hp}:tHide k t D σ H=t { nx:=fun σ' H'=>D.nx (σ'.set k none) H',rt:=D.rt,bk:=fun σ' H'=>D.bk (σ'.set k none) H',ct:=fun σ' H'=>D.ct (σ'.set k none) H' } (σ.set k none) H:=rfl
end L2

namespace Mth
def rangeI (n:Nat):List Int:=(List.range n).map fun (i:Nat)=>(i:Int)
theorem rangeI_len (n:Nat):(rangeI n).length=n:=by simp [rangeI]
theorem mem_rangeI {n:Nat} {z:Int}:z ∈ rangeI n ↔ 0 ≤ z∧z < n:=by
 unfold rangeI
 rw [List.mem_map]
 constructor
 ·rintro ⟨i,hi,rfl⟩
  have:=List.mem_range.mp hi
  omega
 ·rintro ⟨h1,h2⟩
  exact ⟨z.toNat,List.mem_range.mpr (by omega),by omega⟩
theorem rangeI_nodup (n:Nat):(rangeI n).Nodup:=by
 unfold rangeI
 exact List.Pairwise.map _ (fun a b h e=>h (by omega)) List.nodup_range
def Seat (n:Nat) (ns:List Int):Prop:=ns.Perm (rangeI n)
theorem Seat.len {n:Nat} {ns:List Int} (h:Seat n ns):ns.length=n:=by rw [h.length_eq,rangeI_len]
theorem Seat.mem {n:Nat} {ns:List Int} (h:Seat n ns) {z:Int} (hz:z ∈ ns):0 ≤ z∧z < n:=mem_rangeI.mp (h.mem_iff.mp hz)
theorem perm_erase {α:Type}:∀ (l:List α) (j:Nat) (v:α),l[j]?=some v→(v :: l.eraseIdx j).Perm l
 | [],_,_,h=>by simp at h
 | a :: l,0,v,h=>by simp at h; subst h; simp
 | a :: l,j + 1,v,h=>by
  have:=perm_erase l j v (by simpa using h)
  rw [List.eraseIdx_cons_succ]
  exact (List.Perm.swap a v _).trans (this.cons a)
theorem pop_perm {row left:List Int} {j:Nat} {v:Int} (h:left[j]?=some v):((row ++ [v]) ++ left.eraseIdx j).Perm (row ++ left):=by
 rw [List.append_assoc]
 exact (perm_erase left j v h).append_left row
end Mth

namespace Mth

theorem nodup_le:∀ {L M:List Int},L.Nodup→(∀ z ∈ L,z ∈ M)→L.length ≤ M.length
 | [],_,_,_=>Nat.zero_le _
 | x :: L,M,h,hs=>by
  obtain ⟨h1,h2⟩:=List.nodup_cons.mp h
  have hx:x ∈ M:=hs x List.mem_cons_self
  have:=nodup_le (L:=L) (M:=M.erase x) h2 fun z hz=>(List.mem_erase_of_ne (fun e=>h1 (by rw [← e]; exact hz))).mpr (hs z (List.mem_cons_of_mem _ hz))
  rw [List.length_erase_of_mem hx] at this
  have:0 < M.length:=List.length_pos_of_mem hx
  rw [List.length_cons]
  omega
theorem Seat.nodup {n:Nat} {ns:List Int} (h:Seat n ns):ns.Nodup:=(h.nodup_iff).mpr (rangeI_nodup n)
theorem Seat.has {n:Nat} {ns:List Int} (h:Seat n ns) {z:Int} (h0:0 ≤ z) (h1:z < n):∃ i,i < n∧ns[i]?=some z:=by
 have hz:z ∈ ns:=h.mem_iff.mpr (mem_rangeI.mpr ⟨h0,h1⟩)
 obtain ⟨i,hi,e⟩:=List.mem_iff_getElem.mp hz
 exact ⟨i,by rw [← h.len]; exact hi,by rw [List.getElem?_eq_getElem hi,e]⟩
theorem Seat.inj {n:Nat} {ns:List Int} (h:Seat n ns) {i j:Nat} {z:Int} (h1:ns[i]?=some z) (h2:ns[j]?=some z):i=j:=by
 obtain ⟨a,ea⟩:=List.getElem?_eq_some_iff.mp h1
 obtain ⟨b,eb⟩:=List.getElem?_eq_some_iff.mp h2
 exact (List.getElem_inj h.nodup).mp (ea.trans eb.symm)
structure IsInv (a L:List Int):Prop where
 len:L.length=a.length
 to:∀ (i:Nat) (z:Int),a[i]?=some z→L[z.toNat]?=some (i:Int)
structure Half (a:List Int) (k:Nat) (L:List Int):Prop where
 len:L.length=a.length
 to:∀ (i:Nat) (z:Int),i < k→a[i]?=some z→L[z.toNat]?=some (i:Int)
end Mth

namespace Mth
def at_ (a:List Int) (z:Int):Int:=a.getD z.toNat 0
def it (a:List Int):Nat→Int→Int
 | 0,z=>z
 | m + 1,z=>at_ a (it a m z)
theorem at_get {n:Nat} {a:List Int} (h:Seat n a) {z:Int} (h0:0 ≤ z) (h1:z < n):a[z.toNat]?=some (at_ a z):=by
 have l:=h.len
 unfold at_
 rw [List.getD_eq_getElem?_getD,List.getElem?_eq_getElem (by omega)]
 rfl
theorem at_in {n:Nat} {a:List Int} (h:Seat n a) {z:Int} (h0:0 ≤ z) (h1:z < n):0 ≤ at_ a z∧at_ a z < n:=h.mem (List.mem_of_getElem? (at_get h h0 h1))
theorem at_inj {n:Nat} {a:List Int} (h:Seat n a) {x y:Int} (x0:0 ≤ x) (x1:x < n) (y0:0 ≤ y) (y1:y < n) (e:at_ a x=at_ a y):x=y:=by
 have q1:=at_get h x0 x1
 have q2:=at_get h y0 y1
 rw [e] at q1
 have:=h.inj q1 q2
 omega
theorem it_in {n:Nat} {a:List Int} (h:Seat n a) {z:Int} (h0:0 ≤ z) (h1:z < n):∀ m,0 ≤ it a m z∧it a m z < n
 | 0=>⟨h0,h1⟩
 | m + 1=>at_in h (it_in h h0 h1 m).1 (it_in h h0 h1 m).2
theorem it_add (a:List Int) (z:Int) (k:Nat):∀ m,it a (m + k) z=it a m (it a k z)
 | 0=>by rw [Nat.zero_add]; rfl
 | m + 1=>by rw [Nat.succ_add]; show at_ a (it a (m + k) z)=at_ a (it a m (it a k z)); rw [it_add a z k m]
theorem it_cancel {n:Nat} {a:List Int} (h:Seat n a) {x y:Int} (x0:0 ≤ x) (x1:x < n) (y0:0 ≤ y) (y1:y < n):∀ m,it a m x=it a m y→x=y
 | 0,e=>e
 | m + 1,e=>it_cancel h x0 x1 y0 y1 m (at_inj h (it_in h x0 x1 m).1 (it_in h x0 x1 m).2 (it_in h y0 y1 m).1 (it_in h y0 y1 m).2 e)
theorem comes_back {n:Nat} {a:List Int} (h:Seat n a) {k:Int} (h0:0 ≤ k) (h1:k < n):∃ m,1 ≤ m∧m ≤ n∧it a m k=k:=by
 refine Classical.byContradiction fun no=>?_
 have nd:((List.range (n + 1)).map fun m=>it a m k).Nodup:=by
  refine List.pairwise_map.mpr (List.pairwise_lt_range.imp_of_mem fun {i j} hi hj hij e=>no ?_)
  have hj':=List.mem_range.mp hj
  refine ⟨j - i,by omega,by omega,?_⟩
  have e2:j=i + (j - i):=by omega
  rw [e2,it_add] at e
  exact (it_cancel h h0 h1 (it_in h h0 h1 _).1 (it_in h h0 h1 _).2 i e).symm
 have:=nodup_le nd (M:=rangeI n) fun z hz=>by
  obtain ⟨m,_,rfl⟩:=List.mem_map.mp hz
  exact mem_rangeI.mpr (it_in h h0 h1 m)
 rw [List.length_map,List.length_range,rangeI_len] at this
 omega
def per (a:List Int) (k:Int):Nat:=(((List.range a.length).find? fun m=>decide (it a (m + 1) k=k)).getD 0) + 1
theorem per_ok {n:Nat} {a:List Int} (h:Seat n a) {k:Int} (h0:0 ≤ k) (h1:k < n):1 ≤ per a k∧per a k ≤ n∧it a (per a k) k=k∧∀ m,1 ≤ m→m < per a k→it a m k ≠ k:=by
 obtain ⟨m0,m1,m2,e0⟩:=comes_back h h0 h1
 have l:=h.len
 cases q:(List.range a.length).find? fun m=>decide (it a (m + 1) k=k) with
 | none =>
  have:=List.find?_eq_none.mp q (m0 - 1) (List.mem_range.mpr (by omega))
  rw [show m0 - 1 + 1=m0 by omega] at this
  exact absurd (decide_eq_true e0) this
 | some i =>
  obtain ⟨p1,p2,p3⟩:=List.find?_range_eq_some.mp q
  have hp:per a k=i + 1:=by unfold per; rw [q]; rfl
  have hi:=List.mem_range.mp p2
  refine ⟨by omega,by omega,by rw [hp]; exact of_decide_eq_true p1,fun m hm hlt e=>?_⟩
  have:=p3 (m - 1) (by omega)
  rw [show m - 1 + 1=m by omega,decide_eq_true e] at this
  cases this
def ringOf (a:List Int) (k:Int):List Int:=(List.range (per a k)).map fun m=>it a m k
def ringTo (a:List Int) (k:Int) (j:Nat):List Int:=(List.range j).map fun m=>it a m k
theorem ringTo_succ (a:List Int) (k:Int) (j:Nat):ringTo a k (j + 1)=ringTo a k j ++ [it a j k]:=by
 unfold ringTo
 rw [List.range_succ,List.map_append]
 rfl
theorem ringTo_len (a:List Int) (k:Int) (j:Nat):(ringTo a k j).length=j:=by simp [ringTo]
theorem ringOf_len (a:List Int) (k:Int):(ringOf a k).length=per a k:=by simp [ringOf]
theorem ring_self {n:Nat} {a:List Int} (h:Seat n a) {k:Int} (h0:0 ≤ k) (h1:k < n):k ∈ ringOf a k:=by
 obtain ⟨p1,_⟩:=per_ok h h0 h1
 exact List.mem_map.mpr ⟨0,List.mem_range.mpr (by omega),rfl⟩
def keepB (a:List Int) (k:Int):Bool:=decide (1 < per a k∧∀ x ∈ ringOf a k,k ≤ x)
def ringsTo (a:List Int) (i:Nat):List (List Int):=((List.range i).filter fun (k:Nat)=>keepB a (k:Int)).map fun (k:Nat)=>ringOf a (k:Int)
end Mth

namespace Mth
theorem rangeI_get {n i:Nat} (h:i < n):(rangeI n)[i]?=some (i:Int):=by
 unfold rangeI
 rw [List.getElem?_map,List.getElem?_range h]
 rfl
theorem it_back {n:Nat} {a:List Int} (h:Seat n a) {k:Int} {p:Nat} (e:it a p k=k):∀ q,it a (p * q) k=k
 | 0=>rfl
 | q + 1=>by rw [Nat.mul_succ,it_add,e]; exact it_back h e q
theorem it_mod {n:Nat} {a:List Int} (h:Seat n a) {k:Int} (h0:0 ≤ k) (h1:k < n) (m:Nat):it a m k=it a (m % per a k) k:=by
 obtain ⟨_,_,e,_⟩:=per_ok h h0 h1
 have q:=Nat.mod_add_div m (per a k)
 have q':it a m k=it a (m % per a k + per a k * (m / per a k)) k:=by rw [q]
 rw [q',it_add,it_back h e]
theorem it_dvd {n:Nat} {a:List Int} (h:Seat n a) {k:Int} (h0:0 ≤ k) (h1:k < n) (m:Nat):it a m k=k ↔ per a k ∣ m:=by
 obtain ⟨p1,_,e,mn⟩:=per_ok h h0 h1
 constructor
 ·intro q
  rw [it_mod h h0 h1] at q
  refine Nat.dvd_of_mod_eq_zero (Classical.byContradiction fun z=>mn _ (by omega) (Nat.mod_lt _ (by omega)) q)
 ·rintro ⟨c,rfl⟩
  exact it_back h e c
theorem per_it {n:Nat} {a:List Int} (h:Seat n a) {k:Int} (h0:0 ≤ k) (h1:k < n) (j:Nat):per a (it a j k)=per a k:=by
 obtain ⟨j0,j1⟩:=it_in h h0 h1 j
 have key:∀ m,it a m (it a j k)=it a j k ↔ it a m k=k:=fun m=>by
  obtain ⟨m0,m1⟩:=it_in h h0 h1 m
  rw [← it_add,Nat.add_comm,it_add]
  exact ⟨fun e=>it_cancel h m0 m1 h0 h1 j e,fun e=>by rw [e]⟩
 refine Nat.dvd_antisymm ?_ ?_
 ·exact (it_dvd h j0 j1 _).mp ((key _).mpr ((it_dvd h h0 h1 _).mpr (Nat.dvd_refl _)))
 ·exact (it_dvd h h0 h1 _).mp ((key _).mp ((it_dvd h j0 j1 _).mpr (Nat.dvd_refl _)))
theorem mem_ring {n:Nat} {a:List Int} (h:Seat n a) {k:Int} (h0:0 ≤ k) (h1:k < n) (j:Nat):it a j k ∈ ringOf a k:=by
 obtain ⟨p1,_⟩:=per_ok h h0 h1
 rw [it_mod h h0 h1]
 exact List.mem_map.mpr ⟨_,List.mem_range.mpr (Nat.mod_lt _ (by omega)),rfl⟩
theorem least_of:∀ (L:List Int),L ≠ []→∃ m ∈ L,∀ x ∈ L,m ≤ x
 | [x],_=>⟨x,List.mem_cons_self,fun y hy=>by simp at hy; omega⟩
 | x :: y :: L,_=>by
  obtain ⟨m,hm,hl⟩:=least_of (y :: L) (by simp)
  by_cases q:x ≤ m
  ·exact ⟨x,List.mem_cons_self,fun z hz=>by
    rcases List.mem_cons.mp hz with e | e
    ·omega
    ·have:=hl z e; omega⟩
  ·exact ⟨m,List.mem_cons_of_mem _ hm,fun z hz=>by
    rcases List.mem_cons.mp hz with e | e
    ·omega
    ·exact hl z e⟩
theorem told_of {n:Nat} {a:List Int} (h:Seat n a) {k:Int} (h0:0 ≤ k) (h1:k < n) (hp:1 < per a k):∃ k0:Nat,k0 < n∧keepB a k0=true∧per a k0=per a k∧k ∈ ringOf a k0:=by
 have ne:ringOf a k ≠ []:=fun z=>by have:=ring_self h h0 h1; rw [z] at this; simp at this
 obtain ⟨m,hm,hl⟩:=least_of _ ne
 obtain ⟨j,hj,rfl⟩:=List.mem_map.mp hm
 obtain ⟨j0,j1⟩:=it_in h h0 h1 j
 have e1:((it a j k).toNat:Int)=it a j k:=by omega
 refine ⟨(it a j k).toNat,by omega,?_,by rw [e1,per_it h h0 h1],?_⟩
 ·unfold keepB
  rw [decide_eq_true_eq,e1,per_it h h0 h1]
  refine ⟨hp,fun x hx=>?_⟩
  obtain ⟨i,_,rfl⟩:=List.mem_map.mp hx
  rw [← it_add]
  exact hl _ (mem_ring h h0 h1 _)
 ·rw [e1]
  have hj':=List.mem_range.mp hj
  have q:it a (per a k - j) (it a j k)=k:=by
   rw [← it_add,show per a k - j + j=per a k by omega]
   exact (it_dvd h h0 h1 _).mpr (Nat.dvd_refl _)
  have:=mem_ring h j0 j1 (per a k - j)
  rwa [q] at this
theorem told_mem {a:List Int} {n k0:Nat} (hk:k0 < n) (h:keepB a k0=true):ringOf a k0 ∈ ringsTo a n :=
 List.mem_map.mpr ⟨k0,List.mem_filter.mpr ⟨List.mem_range.mpr hk,h⟩,rfl⟩

def lens (zs:List (List Int)):List Nat:=zs.map List.length

def spin (a:List Int) (z:Int) (k:Int):Int:=it a (z % (per a k:Int)).toNat k
structure Spun (n:Nat) (a:List Int) (z:Int) (S:List Int) (L:List Int):Prop where
 len:L.length=n
 ok:∀ k:Nat,k < n→(k:Int) ∈ S→L[k]?=some (spin a z k)
 any:∀ k:Nat,k < n→L[k]?=some (spin a z k)∨L[k]?=some (at_ a k)
end Mth

namespace Mth
end Mth
namespace Mth
structure Laid (n:Nat) (o f:List Int) (i:Nat) (L:List Int):Prop where
 len:L.length=n
 to:∀ k,k < i→L.getD (o.getD k 0).toNat 0=f.getD k 0
end Mth

namespace Mth

theorem ring_get {a:List Int} {k:Int} {i:Nat} (h:i < per a k):(ringOf a k)[i]?=some (it a i k):=by
 unfold ringOf
 rw [List.getElem?_map,List.getElem?_range h]
 rfl
theorem ring_of_get {a:List Int} {k z:Int} {i:Nat} (h:(ringOf a k)[i]?=some z):i < per a k∧z=it a i k:=by
 have hi:i < per a k:=by have:=(List.getElem?_eq_some_iff.mp h).1; rwa [ringOf_len] at this
 rw [ring_get hi] at h
 exact ⟨hi,(Option.some.inj h).symm⟩
theorem alone {n:Nat} {a:List Int} (h:Seat n a) {k:Nat} (hk:k < n) (no:¬ (k:Int) ∈ (ringsTo a n).flatten):a.getD k 0=(k:Int):=by
 have p:=per_ok h (show (0:Int) ≤ k by omega) (show (k:Int) < n by omega)
 by_cases c:1 < per a k
 ·obtain ⟨k0,h0,kk,_,hm⟩:=told_of h (show (0:Int) ≤ k by omega) (show (k:Int) < n by omega) c
  exact absurd (List.mem_flatten.mpr ⟨_,told_mem h0 kk,hm⟩) no
 ·have e:per a k=1:=by omega
  have p3:=p.2.2.1
  rw [e] at p3
  have:at_ a (it a 0 k)=k:=p3
  have:at_ a (k:Int)=k:=this
  unfold at_ at this
  rwa [Int.toNat_natCast] at this
end Mth

set_option maxHeartbeats 4000000
namespace L2
open PySem PySem.Spec PyProof.Rows

section
variable {prog:Program} {w:World} {A:Around} {E:Value→Shared→Prop} {s:Shared}
end
def revV (n:Nat):List V:=(List.range n).map fun (i:Nat)=>V.int ((n:Int) - 1 - (i:Int))
def tTupRev (ta:TA):TE:=fun σ H Q=>ta σ H fun vs H1=>∃ (p:Addr) (n:Nat),vs=[.ref p]∧H1 p=some (.rng 0 n)∧n ≤ 1000∧∀ l,H1 l=none→Q (.ref l) (upd H1 l (.tup (revV n)))
theorem r_tupRev {ta:TA} {σ:St} {H:Hp} {Q:VK}:tTupRev ta σ H Q=ta σ H (fun vs H1=>∃ (p:Addr) (n:Nat),vs=[.ref p]∧H1 p=some (.rng 0 n)∧n ≤ 1000∧∀ l,H1 l=none→Q (.ref l) (upd H1 l (.tup (revV n)))):=rfl

def rLIndexI:V→List V→Hp→VK→Prop:=fun x vs H Q=>∃ (p:Addr) (ms:List Int) (k:Int) (j:Nat),x=.ref p∧vs=[.int k]∧H p=some (.lst (ms.map V.int))∧ms.length < 1000∧ms.Nodup∧ms[j]?=some k∧Q (.int (j:Int)) H
theorem r_lindexI {H:Hp} {Q:VK} {p:Addr} {k:Int}:rLIndexI (.ref p) [.int k] H Q=∃ (ms:List Int) (j:Nat),H p=some (.lst (ms.map V.int))∧ms.length < 1000∧ms.Nodup∧ms[j]?=some k∧Q (.int (j:Int)) H:=propext
 ⟨fun ⟨_,ms,_,j,e1,e2,h⟩=>by cases e1; cases e2; exact ⟨ms,j,h⟩,fun ⟨ms,j,h⟩=>⟨_,ms,_,j,rfl,rfl,h⟩⟩
end L2

set_option maxHeartbeats 4000000
namespace L2
open PySem PySem.Spec PyProof.Rows

def fmet (ms:List Int):List Int:=firstMet (fun i=>ms.getD i 0) ms.length
def rSetOf:List V→Hp→VK→Prop:=fun vs H Q=>∃ (p:Addr) (ms:List Int),vs=[.ref p]∧H p=some (.lst (ms.map V.int))∧ms.length ≤ 1000∧∀ l,H l=none→Q (.ref l) (upd H l (.set (fun k=>(fmet ms).any (· == k)) (fmet ms).length))
section
variable {X:Cx}
def rLenZ:List V→Hp→VK→Prop:=fun vs H Q=>∃ p S n,vs=[.ref p]∧H p=some (.set S n)∧Q (.int (n:Int)) H
end
theorem r_setOf {H:Hp} {Q:VK} {p:Addr}:rSetOf [.ref p] H Q=∃ (ms:List Int),H p=some (.lst (ms.map V.int))∧ms.length ≤ 1000∧∀ l,H l=none→Q (.ref l) (upd H l (.set (fun k=>(fmet ms).any (· == k)) (fmet ms).length)):=propext
 ⟨fun ⟨_,ms,e,h⟩=>by cases e; exact ⟨ms,h⟩,fun ⟨ms,h⟩=>⟨_,ms,rfl,h⟩⟩
theorem r_lenZ {H:Hp} {Q:VK} {p:Addr}:rLenZ [.ref p] H Q=∃ S n,H p=some (.set S n)∧Q (.int (n:Int)) H:=propext
 ⟨fun ⟨_,S,n,e,h⟩=>by cases e; exact ⟨S,n,h⟩,fun ⟨S,n,h⟩=>⟨_,S,n,rfl,h⟩⟩

def insI (xs:List V) (k:Nat) (y:V):List V:=xs.take k ++ y :: xs.drop k
def rInsert:V→List V→Hp→VK→Prop:=fun x vs H Q=>∃ (l:Addr) (xs:List V) (k:Nat) (y:V),x=.ref l∧vs=[.int (k:Int),y]∧H l=some (.lst xs)∧k ≤ xs.length∧xs.length ≤ 1000∧Q .non (upd H l (.lst (insI xs k y)))
theorem r_insert {H:Hp} {Q:VK} {l:Addr} {i:Int} {y:V}:rInsert (.ref l) [.int i,y] H Q=∃ (xs:List V) (k:Nat),i=(k:Int)∧H l=some (.lst xs)∧k ≤ xs.length∧xs.length ≤ 1000∧Q .non (upd H l (.lst (insI xs k y))):=propext
 ⟨fun ⟨_,xs,k,_,e1,e2,h⟩=>by
  cases e1
  injection e2 with e2 e3
  injection e2 with e2
  injection e3 with e3
  subst e2 e3
  exact ⟨xs,k,rfl,h⟩,fun ⟨xs,k,e,h⟩=>⟨_,xs,k,_,rfl,by rw [e],h⟩⟩
theorem r_slL {K:PySem.W.Frag} {a:Addr} {H:Hp} {Q:VK} {lo hi:Option Int}:rSlL K (.ref a) lo hi H Q=∃ xs,SqL K H a xs∧∀ p,H p=none→Q (.ref p) (upd H p (.lst (cutV xs lo hi))):=propext
 ⟨fun ⟨_,xs,e,h⟩=>by cases e; exact ⟨xs,h⟩,fun ⟨xs,h⟩=>⟨_,xs,rfl,h⟩⟩
theorem cut_from (xs:List V) (k:Nat):cutV xs (some (k:Int)) none=xs.drop k:=by
 unfold cutV
 rw [HT.sIx_none,HT.sIx_nat]
 by_cases h:k ≤ xs.length
 ·rw [Nat.min_eq_left h]
  exact List.take_of_length_le (by rw [List.length_drop]; exact Nat.le_refl _)
 ·rw [Nat.min_eq_right (by omega),List.drop_of_length_le (Nat.le_refl _),List.drop_of_length_le (by omega),List.take_nil]
end L2

set_option maxHeartbeats 4000000
namespace L2
open PySem PySem.Spec PyProof.Rows

section
variable {M:Model} {A:Around} {E:Value→Shared→Prop} {s:Shared}
theorem leave_any {bs:Heap} {v:Env} {vs:List Env} {L ea:Addr} {cl a0 fl:Value} {Q:Unit→Shared→Prop} (fr:A.frames=some (v :: vs)) (hf:v.frame=some L) (kb:bs.StaysIn s.heap) (nb:bs.get? ea=none) (ff:s.heap.FunFrames bs (v :: vs))
  (tr:s.heap.TracedAtW bs ea cl a0 fl) (hQ:∀ h',Heap.FlyingW bs (v :: vs) ea cl a0 h'→s.heap.UpToSlots h'→Q () { s with heap:=h' }):wpAny M A (leaving v (.ref ea)) Q E s:=by
 by_cases hfl:fl=rawInt L
 ·subst hfl
  unfold leaving
  exact wpAny_bind (wpAny_noteFrame_againW hf tr (wpAny_setFlight_noneW kb ff tr fun h' k1 k2 k3 k4=>hQ h' ⟨k1,nb,k2,k3⟩ fun b o hb hn=>⟨o.slots,k4 b o hb hn⟩))
 obtain ⟨oe,xs,T,oT,ys,he,⟨hcl,h0⟩,hd,h1,nT,Te,hT,dT,h3⟩:=tr
 subst hcl
 unfold leaving noteFrame
 simp only [hf]
 refine wpAny_bind (wpAny_bind (wpAny_field he hd h1 ?_))
 rw [if_pos (by simp:(Value.ref T != Value.none)=true)]
 refine wpAny_bind (wpAny_field hT dT h3 ?_)
 rw [if_neg (fun z=>hfl (by simpa using z))]
 refine wpAny_bind (wpAny_setField hT dT (Array.getElem?_eq_some_iff.mp h3).1 ?_)
 have oth:∀ b,b ≠ T→(s.heap.update T (Obj.mapFields fun z=>z.setIfInBounds 3 Value.none)).get? b=s.heap.get? b:=fun b hb=>Heap.get?_update_other _ _ hb.symm
 have nr:∀ b o,s.heap.get? b=some o→(∀ zs,o.data ≠ .fields zs)→b ≠ T:=fun b o hb hn q=>by
  rw [q,hT] at hb
  cases hb
  exact hn ys dT
 refine wpAny_newEntryW fr (ff.of_keeps fun b o hb hn=>⟨o,by rw [oth b (nr b o hb hn)]; exact hb,rfl⟩) hf (by rw [oth ea Te.symm]; exact he) (fun b o hb=>by rw [oth b fun q=>by rw [q,nT] at hb; cases hb]; exact kb b o hb) nb hd (Array.getElem?_eq_some_iff.mp h1).1 h0 fun h' w=>?_
 obtain ⟨x1,x2,x3,x4⟩:=w
 exact hQ h' ⟨x1,nb,x2,x3⟩ fun b o hb hn=>x4 b o (by rw [oth b (nr b o hb hn)]; exact hb) hn
theorem pass_leave {bs:Heap} {v cv:Env} {vs:List Env} {L ea:Addr} {cl a0 fl:Value} {what:String} {α:Type} {R:α→Shared→Prop} {Q:Value→Unit→Shared→Prop} (fr:A.frames=some (v :: vs)) (hf:v.frame=some L) (kb:bs.StaysIn s.heap) (nb:bs.get? ea=none) (ff:s.heap.FunFrames bs (v :: vs))
  (tr:s.heap.TracedAtW bs ea cl a0 fl) (hQ:∀ h',Heap.FlyingW bs (v :: vs) ea cl a0 h'→s.heap.UpToSlots h'→Q (.ref ea) () { s with heap:=h' }):wpAny M A (PySem.passOn what (.ref ea) cv:Sem α) R (fun e s'=>wpAny M A (leaving v e) (Q e) E s') s:=by
 obtain ⟨oe,xs,T,oT,ys,he,hc,hd,h1,nT,Te,hT,dT,h3⟩:=tr
 have sz:=(Array.getElem?_eq_some_iff.mp h3).1
 unfold PySem.passOn
 refine wpAny_bind (wpAny_field he hd h1 ?_)
 rw [if_neg (by simp:¬ (Value.ref T == Value.none)=true)]
 have st:∀ (x:Value) (E':Value→Shared→Prop),wpAny M A (setField (.ref T) 3 x) (fun _ s'=>wpAny M A (leaving v (.ref ea)) (Q (.ref ea)) E s') E' s:=fun x E'=>by
  refine wpAny_setField hT dT sz ?_
  have oth:∀ b,b ≠ T→(s.heap.update T (Obj.mapFields fun z=>z.setIfInBounds 3 x)).get? b=s.heap.get? b:=fun b hb=>Heap.get?_update_other _ _ hb.symm
  have nr:∀ b o,s.heap.get? b=some o→(∀ zs,o.data ≠ .fields zs)→b ≠ T:=fun b o hb hn q=>by
   rw [q,hT] at hb
   cases hb
   exact hn ys dT
  refine leave_any (fl:=x) fr hf (fun b o hb=>by show Heap.get? _ b=_; rw [oth b fun q=>by rw [q,nT] at hb; cases hb]; exact kb b o hb) nb (ff.of_keeps fun b o hb hn=>⟨o,by rw [oth b (nr b o hb hn)]; exact hb,rfl⟩)
   ⟨oe,xs,T,_,_,by show Heap.get? _ ea=_; rw [oth ea Te.symm]; exact he,hc,hd,h1,nT,Te,Heap.get?_update_self _ hT (Obj.isFreed_of_fields (Obj.data_mapFields dT _)),Obj.data_mapFields dT _,by simp [sz]⟩ fun h' w up=>hQ h' w fun b o hb hn=>?_
  exact up b o (by show Heap.get? _ b=_; rw [oth b (nr b o hb hn)]; exact hb) hn
 unfold setFlight
 refine wpAny_bind (wpAny_bind (wpAny_field he hd h1 ?_))
 rw [if_pos (by simp:(Value.ref T != Value.none)=true)]
 exact wpAny_mono (st _ _) (fun _ s' h=>wpAny_throw h) fun _ _ h=>h
end
theorem get_less {B B':Heap} (lt:∀ b o,B'.get? b=some o→B.get? b=some o) {L:Addr} (hn:B.get? L=none):B'.get? L=none:=by
 cases e:B'.get? L with
 | none=>rfl
 | some z=>rw [lt L z e] at hn; cases hn
theorem funFrames_less {h B B':Heap} (lt:∀ b o,B'.get? b=some o→B.get? b=some o):∀ {l:List Env},h.FunFrames B l→h.FunFrames B' l
 | [],_=>trivial
 | _ :: _,⟨hk,⟨L,o,hf,hn,ho,hd⟩,hr⟩=>⟨hk,⟨L,o,hf,get_less lt hn,ho,hd⟩,funFrames_less lt hr⟩
theorem funFrames_but {h h' B:Heap}:∀ {l:List Env},h.FunFrames B l→(∀ a ∈ frs l,h'.get? a=h.get? a)→h'.FunFrames B l
 | [],_,_=>trivial
 | v :: l,⟨hk,⟨L,o,hf,hn,ho,hd⟩,hr⟩,k=>⟨hk,⟨L,o,hf,hn,(k L (List.mem_filterMap.mpr ⟨v,List.mem_cons_self,hf⟩)).trans ho,hd⟩,funFrames_but hr fun a ha=>k a (by
   obtain ⟨u,hu,e⟩:=List.mem_filterMap.mp ha
   exact List.mem_filterMap.mpr ⟨u,List.mem_cons_of_mem _ hu,e⟩)⟩
def Cx.blockX (X:Cx) (P:Program) (w:World) (E:XK) (M:List Str) (scope:Scope) (cl:List (Str × Addr)) (C:Addr) (s₃:Shared) (H₃:Hp) (ex:List Addr):Cx :=
 { X.block M scope cl C s₃ H₃ ex with xe:=fun e s'=>∃ (pins:List (Addr × Obj)) (σ:St) (H:Hp) (s:Shared),Inv (X.block M scope cl C s₃ H₃ ex) pins σ H s∧CXX P w X.stack H s E e s' }
section
variable {X:Cx} {P:Program} {w:World} {E:XK} {M:List Str} {scope:Scope} {cl:List (Str × Addr)} {C:Addr} {s₃:Shared} {H₃:Hp} {ex:List Addr} {pins:List (Addr × Obj)} {σ:St} {H:Hp} {s:Shared}
theorem Inv.toX (I:Inv (X.block M scope cl C s₃ H₃ ex) pins σ H s):Inv (X.blockX P w E M scope cl C s₃ H₃ ex) pins σ H s :=
 ⟨⟨I.ok.mod,I.ok.kind,I.ok.glob,I.ok.blt,I.ok.above,I.ok.inj,I.ok.has,I.ok.cab,I.ok.hd,I.ok.frames,I.ok.stk,I.ok.exf,I.ok.bs,I.ok.bsz,I.ok.noex,I.ok.exfs,I.ok.funs,I.ok.frf⟩,I.os,I.bare,I.base,I.loc,I.cell,I.free,I.freeC,I.pin,I.hok,I.len⟩
theorem Inv.ofX (I:Inv (X.blockX P w E M scope cl C s₃ H₃ ex) pins σ H s):Inv (X.block M scope cl C s₃ H₃ ex) pins σ H s :=
 ⟨⟨I.ok.mod,I.ok.kind,I.ok.glob,I.ok.blt,I.ok.above,I.ok.inj,I.ok.has,I.ok.cab,I.ok.hd,I.ok.frames,I.ok.stk,I.ok.exf,I.ok.bs,I.ok.bsz,I.ok.noex,I.ok.exfs,I.ok.funs,I.ok.frf⟩,I.os,I.bare,I.base,I.loc,I.cell,I.free,I.freeC,I.pin,I.hok,I.len⟩
theorem pass_blk:Passes (CXX P w) (X.blockX P w E M scope cl C s₃ H₃ ex) E:=fun pins σ H s e s' I h=>⟨pins,σ,H,s,I.ofX,h⟩
end
section
variable {P:Program} {w:World} {K:PySem.W.Frag} {mg:Str→Option Value} {base:Heap} {N:List Str} {qual:Str} {dsc:Scope} {f:Addr} {cd:Value} {A:Around} {outer:List Env} {s₀:Shared} {H₀:Hp} {E:XK}
local macro_rules | `(tactic| walk_at "xx")=>`(tactic| exact cxOf (CXX P w) P w K mg base N qual dsc f cd A outer s₀ H₀ E)
theorem blk_out {X:Cx} (hX:X=cxOf (CXX P w) P w K mg base N qual dsc f cd A outer s₀ H₀ E) {M:List Str} {scope:Scope} {cl:List (Str × Addr)} {D:Addr} {fp:List Addr} {pins:List (Addr × Obj)} {σ:St} {H2:Hp} {s3:Shared} {e:Value} {s':Shared} {Q':Value→Shared→Prop}
  (I3:Inv X pins σ H2 s3) (f3:∀ b ∈ fp,FpOk X pins H2 b) (hD0:X.s₀.heap.objs.size ≤ D) (hDL:D ≠ X.env.locals) (hDc:∀ x c,X.env.cells.lookup x=some c→c ≠ D) (hDp:∀ p ∈ X.pn ++ pins,p.1 ≠ D)
  (hy:(X.blockX P w E M scope cl s3.heap.objs.size s3 H2 (D :: fp)).xe e s') :
  notedBy (model X.prog X.w) X.A (compEnvC scope cl s3.heap.objs.size X.env) (fun x s''=>compPost (model X.prog X.w) X.A X.xe none Q' (.ref D) s3.heap.objs.size (.error x) s'') e s':=by
 obtain ⟨pins',σ',H,s,I,ea,cls,a0,H',B,rfl,os,bare,un,hok,fl,cv,ne,q⟩:=hy
 have I1:Inv (X.block M scope cl s3.heap.objs.size s3 H2 (D :: fp)) pins' σ' H' s':=I.call' os un (by rw [hX]; exact hok) bare fun b z=>absurd z (by simp)
 have hCs:s3.heap.objs.size ∉ frs X.stack:=fun z=>by
  rcases List.mem_cons.mp (I3.stkSub _ z) with r | r
  ·exact Nat.ne_of_gt I3.lt r
  ·exact I3.nofs (Nat.le_refl _) r
 have hCn:H' s3.heap.objs.size=none:=I1.free
 obtain ⟨mC,hnC,_⟩:=id I1.loc
 have hnC':s'.heap.Ns s3.heap.objs.size mC:=hnC
 have hst:X.stack=X.env :: outer:=by rw [hX]; rfl
 have hfrm:X.A.frames=some (X.env :: outer):=by
  have:=I3.ok.frames
  rw [hst] at this
  exact this
 have hfL:X.env.frame=some X.env.locals:=by rw [hX]; rfl
 generalize hC:s3.heap.objs.size=C at *
 have less:∀ b o,(B.hide C).get? b=some o→B.get? b=some o:=fun b o z=>Heap.of_hide z
 have bNo:∀ {b:Addr},B.get? b=none→(B.hide C).get? b=none:=get_less less
 obtain ⟨fl1,fl2,fl3,oe,xs,T,oT,ys,t1,t2,t3,t4,t5,t6,t7,t8,t9⟩:=fl
 have flB:Heap.FlyingW (B.hide C) (X.env :: outer) ea cls a0 s'.heap:=by
  rw [hst] at fl3
  exact ⟨fun b o z=>fl1 b o (less b o z),bNo fl2,funFrames_less less fl3,oe,xs,T,oT,ys,t1,t2,t3,t4,bNo t5,t6,t7,t8,t9⟩
 show wpAny _ _ (noteFrame (.ref ea) X.env) _ _ s'
 refine wpAny_looks_onW hfrm hfL flB fun h1 held up1=>?_
 refine ⟨mC,up1.ns hnC',fun h2 sb cenv hc=>?_⟩
 obtain ⟨g1,g2,g3,oe2,xs2,T2,oT2,ys2,u1,u2,u3,u4,u5,u6,u7,u8,u9⟩:=held
 have nsC:=up1.ns hnC'
 have notC:∀ {b:Addr} {o:Obj} {zs:Array Value},h1.get? b=some o→o.data=.fields zs→b ≠ C:=fun {b o zs} e1 e2 z=>by
  obtain ⟨o',es,ep,r1,r2,_⟩:=nsC
  rw [z,r1] at e1
  cases e1
  rw [r2] at e2
  cases e2
 have sb':∀ b,b ≠ C→h2.get? b=h1.get? b:=sb.2
 have notB:∀ {b:Addr} {o:Obj},(B.hide C).get? b=some o→b ≠ C:=fun {b o} e z=>by rw [z,Heap.hide_self] at e; cases e
 have hxe:X.xe=fun e s'=>wpAny (model X.prog X.w) X.A (leaving X.env e) (fun _ s''=>CXX P w outer H₀ s₀ E e s'') (fun e' s''=>CXX P w outer H₀ s₀ E e' s'') s':=by rw [hX]; rfl
 rw [hxe]
 refine pass_leave (s:={ s' with heap:=h2 }) (Q:=fun e _ s''=>CXX P w outer H₀ s₀ E e s'') (fl:=rawInt X.env.locals) (bs:=B.hide C) (cl:=cls) (a0:=a0) hfrm hfL (fun b o z=>(sb' b (notB z)).trans (g1 b o z)) g2 (funFrames_but g3 fun a ha=>sb' a fun z=>hCs (by rw [hst,← z]; exact ha))
  ⟨oe2,xs2,T2,oT2,ys2,(sb' ea (notC u1 u3)).trans u1,u2,u3,u4,u5,u6,(sb' T2 (notC u7 u8)).trans u7,u8,u9⟩ fun h3 fl3' up3=>?_
 have hsC:Heap.SameBut C s'.heap (s'.heap.hide C):=⟨Heap.hide_size _ _,fun b hb=>Heap.hide_ne _ hb⟩
 have neC:∀ b o,s3.heap.get? b=some o→b ≠ C:=fun b o e=>by rw [← hC]; exact Nat.ne_of_lt (Heap.lt_size e)
 have un6:Un (frs X.stack) (D :: fp) H2 H' s3.heap (s'.heap.hide C):=by
  have B1:=I1.base
  exact ⟨fun b o e n hb hx=>(hsC.2 b (neC b o e)).trans (B1.keep b o e n hb hx),fun b o e n hb hx=>let ⟨sl,q⟩:=B1.slot b o e n hb hx; ⟨sl,(hsC.2 b (neC b o e)).trans q⟩,B1.free,
   fun b o e hx=>let ⟨o',q⟩:=B1.there b o e hx; ⟨o',(hsC.2 b (neC b o e)).trans q⟩,B1.tups,B1.frzs,B1.tbls⟩
 have hok6:HOk X.prog X.w H' (s'.heap.hide C):=fun b u e=>by
  refine (I1.hok b u e).stay (fun c v hc q=>(hsC.2 c ?_).trans q) (fun _ q=>q) fun _ _ q=>q
  rcases hc with z | z
  ·rw [z]; exact fun q=>by rw [q,hCn] at e; cases e
  ·exact fun q=>by rw [q,hCn] at z; cases z
 have I6:Inv X pins σ H' { s' with heap:=s'.heap.hide C }:=I3.call' (s':={ s' with heap:=s'.heap.hide C }) (ch:=D :: fp) I1.os un6 hok6 I1.bare fun b hb=>by
  rcases List.mem_cons.mp hb with q | q
  ·rw [q]; exact ⟨.inr hD0,hDL,hDc,hDp⟩
  ·obtain ⟨q0,q1,q2,q3,q4,q5⟩:=f3 b q
   exact ⟨q3,q1,q4,q5⟩
 have cov:Cov X [] H' (B.hide C):=by
  refine ⟨fun b u hu=>?_,fun b o ho nb hx=>?_,fun p hp=>?_⟩
  ·obtain ⟨o,r⟩:=cv b (fun z=>by rw [I6.stkFree b z] at hu; cases hu) (.inl ⟨u,hu⟩)
   exact ⟨o,(Heap.hide_ne _ fun z=>by rw [z,hCn] at hu; cases hu).trans r⟩
  ·obtain ⟨o1,r1⟩:=I3.base.there b o ho hx
   have ltb:=Heap.lt_size ho
   have nex:b ∉ D :: fp:=fun z=>by
    rcases List.mem_cons.mp z with r | r
    ·rw [r] at ltb; exact absurd (Nat.lt_of_lt_of_le ltb hD0) (Nat.lt_irrefl _)
    ·rcases (f3 b r).2.2.2.1 with y | y
     ·exact hx y
     ·exact absurd (Nat.lt_of_lt_of_le ltb y) (Nat.lt_irrefl _)
   obtain ⟨o2,r2⟩:=I.base.there b o1 r1 nex
   obtain ⟨o3,r3⟩:=cv b nb (.inr ⟨o2,r2⟩)
   exact ⟨o3,(Heap.hide_ne _ (neC b o1 r1)).trans r3⟩
  ·rw [hX] at hp
   cases hp
 have up6:(s'.heap.hide C).UpToSlots h3:=fun b o e hn=>by
  have nb:b ≠ C:=fun z=>by rw [z,Heap.hide_self] at e; cases e
  obtain ⟨sl,r1⟩:=up1 b o (Heap.of_hide e) hn
  obtain ⟨sl',r2⟩:=up3 b _ ((sb' b nb).trans r1) hn
  exact ⟨sl',r2⟩
 subst hX
 have fin:=left_cx (s:={ s' with heap:=s'.heap.hide C }) I6 (fun b o z=>(hsC.2 b (notB z)).trans (fl1 b o (less b o z))) ⟨fl3'.1,fl3'.2.1,fl3'.2.2.1.2.2,fl3'.2.2.2⟩ up6 cov ne q
 exact fin
end
section
variable {prog:Program} {w:World} {A:Around} {R:Result→Shared→Prop} {s:Shared}
theorem compLoop_anyX {E':Value→Shared→Prop} {elt target iter:Expr} {ifs:List Expr} {scope:Scope} {pos:Pos} {it acc:Value} {env:Env} (hE:∀ e s',E' e s'→notedBy (model prog w) A env (fun x s''=>R (.error x) s'') e s') (I:Nat→Shared→Prop)
  (turn:∀ n s,I n s→wpAny (model prog w) A (pyNext it) (fun r s₁=>match r with
   | none=>R (.ok .next) s₁
   | some v=>wpAny (model prog w) A (letOwnedTupleGo target it v) (fun _ s₁'=>wpAny (model prog w) A (assign target env v) (fun _ s₂ =>
     wpAny (model prog w) A (forIn ifs true fun c r=>if r=true then do let ok ← isTrue c env (eval c env); pure (ForInStep.yield ok) else pure (ForInStep.yield r)) (fun ok s₃ =>
      if ok=true then wpAny (model prog w) A (eval elt env) (fun x s₄ =>
       wpAny (model prog w) A (call (.builtin "list.append") [acc,x]) (fun _ s₅=>∃ m,m < n∧I m s₅) E' s₄) E' s₃
      else ∃ m,m < n∧I m s₃) E' s₂) E' s₁') E' s₁) E' s)
  (n:Nat) (h:I n s):codeAny (model prog w) A (.compLoop (.ListComp elt [⟨target,iter,ifs,0⟩] scope pos) 0 it acc env) R s:=by
 refine codeAny_loop rfl I (fun n s hI=>?_) n h
 show wpAny _ A ((compTurn (.ListComp elt [⟨target,iter,ifs,0⟩] scope pos) 0 it acc env).onRaise (fun x=>do noteFrame x env; theTreesLotGoes x)) _ _ s
 refine wpAny_noted ?_
 rw [compTurn_list]
 refine wpAny_bind (wpAny_standAt (wpAny_bind (wpAny_mono (turn n s hI) (fun r s₁ h₁=>?_) fun _ _ h'=>hE _ _ h')))
 cases r with
 | none=>exact wpAny_pure h₁
 | some v =>
  refine wpAny_bind (wpAny_mono h₁ (fun _ s₁' h₁'=>?_) fun _ _ h'=>hE _ _ h')
  refine wpAny_bind (wpAny_mono h₁' (fun _ s₂ h₂=>wpAny_bind (wpAny_mono h₂ (fun ok s₃ h₃=>?_) fun _ _ h'=>hE _ _ h')) fun _ _ h'=>hE _ _ h')
  cases ok with
  | false=>exact wpAny_pure ⟨rfl,h₃⟩
  | true =>
   exact wpAny_bind (wpAny_bind (wpAny_mono h₃ (fun x s₄ h₄=>wpAny_bind (wpAny_mono h₄ (fun _ s₅ h₅=>wpAny_pure (wpAny_pure ⟨rfl,h₅⟩)) fun _ _ h'=>hE _ _ h')) fun _ _ h'=>hE _ _ h'))
end
section
variable {P:Program} {w:World} {K:PySem.W.Frag} {mg:Str→Option Value} {base:Heap} {N:List Str} {qual:Str} {dsc:Scope} {f:Addr} {cd:Value} {A:Around} {outer:List Env} {s₀:Shared} {H₀:Hp} {E:XK}
variable {X:Cx} {elt target iter:Expr} {ifs:List Expr} {scope:Scope} {pos:Pos} {M:List Str} {wi:TI} {g:TG} {tt:TT} {te:TE}
theorem comp_coreX (hX:X=cxOf (CXX P w) P w K mg base N qual dsc f cd A outer s₀ H₀ E) (hc:X.calm=true) (S:CompScope X scope) (hi:PI X target iter wi)
  (hg:∀ cl C s₃ H₃ ex,PG (X.block M scope cl C s₃ H₃ ex) target g) (ht:∀ cl C s₃ H₃ ex,PTs (X.block M scope cl C s₃ H₃ ex) ifs tt) (he:∀ cl C s₃ H₃ ex,PE (X.blockX P w E M scope cl C s₃ H₃ ex) elt te)
  (hs:∀ x,foldedSetIterable iter X.env x=pure x) {Q':Value→Shared→Prop} {pos':Pos} {pins:List (Addr × Obj)} {s:Shared} {σ:St} {H:Hp} {Q:VK} (I:Inv X pins σ H s) (h:tCompK M wi g tt te σ H Q)
  (done:∀ (D C:Addr) (H':Hp) (s5:Shared) (mC:Str→Option Value),Q (.ref D) H'→s5.heap.Ns C mC→H' C=none→C ≠ X.env.locals→X.s₀.heap.objs.size ≤ C→(∀ x c,X.env.cells.lookup x=some c→c ≠ C)→(∀ p ∈ X.pn ++ pins,p.1 ≠ C) →
   (∀ h',Heap.SameBut C s5.heap h'→Inv X pins σ H' { s5 with heap:=h' })→∀ r,compPost (model X.prog X.w) X.A X.xe none Q' (.ref D) C (.ok r) s5) :
  wpAny (model X.prog X.w) X.A (comprehension (.ListComp elt [⟨target,iter,ifs,0⟩] scope pos) scope X.env pos' (newList []) false (eval iter X.env) none) Q' X.xe s:=by
 obtain ⟨cl,hclos,hcl1,hcl2⟩:=closureFor_of (scope:=scope) (env:=X.env) fun y hy e=>I.ok.has y.1 (S.free y hy e)
 refine wpAny_comprehension_free (use:=none) rfl hs hclos S.kind S.names ?_
 refine thn (hi pins s σ H _ I h) fun xv s1 h1=>thn h1 fun itv s2 h2=>?_
 obtain ⟨it,fp,tn,J,H2,e,I2,T,st2,f2,W,⟨m0,w0⟩,turn⟩:=h2
 subst e
 refine wpAny_newObj_type (wpAny_newFunctionEnv S.cell (by intro y hy; simp at hy) (fun h₁ hns₁ hsb₁=>?_) S.kind)
 dsimp only at hns₁ hsb₁ ⊢
 have I3:Inv X pins σ H2 { s2 with heap:=s2.heap.push { cls:=.type "list",dict:=none,data:=.seq ([]:List Value).toArray } }:=I2.kept (t':=s2.toks) fun b o e=>Heap.get?_push_of_some _ e
 have hD3:(s2.heap.push { cls:=.type "list",dict:=none,data:=.seq ([]:List Value).toArray }).get? s2.heap.objs.size=some { cls:=.type "list",dict:=none,data:=.seq ([]:List Value).toArray }:=Heap.get?_push_size _ rfl
 have fpLt:∀ b ∈ fp,b < s2.heap.objs.size:=fun b hb=>by
  obtain ⟨o,e,_⟩:=T.obj 0 s2.heap st2 b hb
  exact Heap.lt_size e
 have st3:tn 0 (s2.heap.push { cls:=.type "list",dict:=none,data:=.seq ([]:List Value).toArray }):=T.keep 0 _ _ st2 fun b _ o e=>Heap.get?_push_of_some _ e
 have f3:∀ b ∈ fp,FpOk X pins H2 b:=f2
 have hDn:H2 s2.heap.objs.size=none:=I2.hok.fresh (Nat.le_refl _)
 have hDL:s2.heap.objs.size ≠ X.env.locals:=Nat.ne_of_gt I2.lt
 have hD0:X.s₀.heap.objs.size ≤ s2.heap.objs.size:=I2.sz
 have hDs:s2.heap.objs.size ∉ frs X.stack:=fun z=>by
  rcases List.mem_cons.mp (I2.stkSub _ z) with q | q
  ·exact hDL q
  ·exact I2.nofs (Nat.le_refl _) q
 have hDc:∀ x c,X.env.cells.lookup x=some c→c ≠ s2.heap.objs.size:=fun x c e=>by
  obtain ⟨v,q⟩:=I2.cell x c e
  exact Nat.ne_of_lt q.lt
 have hDp:∀ p ∈ X.pn ++ pins,p.1 ≠ s2.heap.objs.size:=fun p hp=>Nat.ne_of_lt (Heap.lt_size (I2.pin p hp).1)
 have hDf:s2.heap.objs.size ∉ fp:=fun z=>Nat.lt_irrefl _ (fpLt _ z)
 generalize hDe:s2.heap.objs.size=D at hD3 hDn hDL hD0 hDs hDc hDp hDf ⊢
 generalize hS3:({ s2 with heap:=s2.heap.push { cls:=.type "list",dict:=none,data:=.seq ([]:List Value).toArray } }:Shared)=s3 at I3
 have es3:s2.heap.push { cls:=.type "list",dict:=none,data:=.seq ([]:List Value).toArray }=s3.heap:=by rw [← hS3]
 rw [es3] at hns₁ hsb₁ hD3 st3 ⊢
 have fpLt3:∀ b ∈ fp,b < s3.heap.objs.size:=fun b hb=>by
  rw [← es3,Heap.size_push]; exact Nat.lt_succ_of_lt (fpLt b hb)
 have hDlt:D < s3.heap.objs.size:=Heap.lt_size hD3
 have kp:∀ b o,s3.heap.get? b=some o→h₁.get? b=some o:=fun b o e=>(hsb₁.2 b (Nat.ne_of_lt (Heap.lt_size e))).trans (Heap.get?_push_of_some _ e)
 have IB:=Inv.block (M:=M) (h₁:=h₁) (t₁:=s2.toks + ([]:List (Str × Value)).length) I3 S.free S.cell S.kind S.apart hcl1 hcl2 f3 fpLt3 hDlt hDn hD0 hDL hDs hDc (by simpa using hns₁) kp
 have X'def:X.block M scope cl s3.heap.objs.size s3 H2 (D :: fp)=X.block M scope cl s3.heap.objs.size s3 H2 (D :: fp):=rfl
 have stat:∀ {H':Hp} {ob:Obj},(∀ b ∈ fp,H' b=none)→∀ b ∈ fp,FpOk (X.block M scope cl s3.heap.objs.size s3 H2 (D :: fp)) (pins ++ [(D,ob)]) H' b:=fun {H' ob} hn b hb=>by
  obtain ⟨q0,q1,q2,q3,q4,q5⟩:=f3 b hb
  refine ⟨hn b hb,Nat.ne_of_lt (fpLt3 b hb),fun z=>?_,.inl (List.mem_cons_of_mem _ hb),fun x c e=>q4 x c (hcl1 x c e),fun p hp=>?_⟩
  ·rcases List.mem_cons.mp (I3.stkSub b z) with q | q
   ·exact q1 q
   ·exact q2 q
  ·have hp:p ∈ X.pn ++ (pins ++ [(D,ob)]):=hp
   rw [← List.append_assoc] at hp
   rcases List.mem_append.mp hp with q | q
   ·exact q5 p q
   ·have q':p=(D,ob):=by simpa using q
    rw [q']
    exact fun z=>hDf (by rw [show D=b from z]; exact hb)
 have isL:∀ its:List Value,∀ n:Nat,∀ v,({ cls:=.type "list",data:=.seq its.toArray n }:Obj).data ≠ .cell v:=fun _ _ _ z=>by cases z
 have loop:∀ s₄:Shared,s₄={ s3 with heap:=h₁,toks:=s2.toks + ([]:List (Str × Value)).length } →
   codeAny (model X.prog X.w) X.A (.compLoop (.ListComp elt [⟨target,iter,ifs,0⟩] scope pos) 0 (.ref it) (.ref D) (compEnvC scope cl s3.heap.objs.size X.env))
    (compPost (model X.prog X.w) X.A X.xe none Q' (.ref D) s3.heap.objs.size) s₄:=by
  rintro s₄ rfl
  refine compLoop_anyX (E':=(X.blockX P w E M scope cl s3.heap.objs.size s3 H2 (D :: fp)).xe) (fun _ _ hy=>blk_out hX I3 f3 hD0 hDL hDc hDp hy) (fun n s'=>∃ i ys its k H',Inv (X.block M scope cl s3.heap.objs.size s3 H2 (D :: fp)) pins (M.map (fun _=>none) ++ σ) H' s'∧tn i s'.heap∧(∀ b ∈ fp,H' b=none)∧H' D=none ∧
   Vals ys its∧s'.heap.get? D=some { cls:=.type "list",data:=.seq its.toArray k }∧W i n ys H') ?_ m0 ⟨0,[],[],_,H2,IB,T.keep 0 _ _ st3 fun b _ o e=>kp b o e,fun b hb=>(f3 b hb).1,hDn,.nil,kp _ _ hD3,w0⟩
  rintro n s4 ⟨i,ys,its,k,H4,I4,st4,fr4,hD4,rv4,ho4,w4⟩
  have I4D:Inv (X.block M scope cl s3.heap.objs.size s3 H2 (D :: fp)) (pins ++ [(D,{ cls:=.type "list",data:=.seq its.toArray k })]) (M.map (fun _=>none) ++ σ) H4 s4:=I4.pins_of fun p hp=>by
   rcases List.mem_append.mp hp with q | q
   ·exact I4.pin p (List.mem_append_right _ q)
   ·have q':p=(D,{ cls:=.type "list",data:=.seq its.toArray k }):=by simpa using q
    subst q'
    exact ⟨ho4,hD4,Nat.ne_of_lt hDlt,hDs,isL _ _⟩
  rcases turn i n ys H4 w4 with ⟨stop,hz,fin⟩ | ⟨go,hz,Nx,hNx,step⟩
  ·refine thn (T.done (X.block M scope cl s3.heap.objs.size s3 H2 (D :: fp)) rfl rfl rfl hc i _ s4 _ H4 _ I4D (stat fr4) st4 stop) fun r s5 ⟨hr,I5⟩=>?_
   subst hr
   have ho5:s5.heap.get? D=some { cls:=.type "list",data:=.seq its.toArray k }:=(I5.pin (D,_) (List.mem_append_right _ (List.mem_append_right _ (by simp)))).1
   obtain ⟨mC,hnC,_⟩:=id I5.loc
   have hCn:H4 s3.heap.objs.size=none:=I5.free
   have hCD:s3.heap.objs.size ≠ D:=Nat.ne_of_gt hDlt
   refine done D s3.heap.objs.size (upd H4 D (.lst ys)) s5 mC (fin D hD4) hnC (by rw [upd_ne hCD]; exact hCn) (Nat.ne_of_gt I3.lt) I3.sz (fun x c e=>?_) (fun p hp=>Nat.ne_of_lt (Heap.lt_size (I3.pin p hp).1)) (fun h' hs'=>?_) _
   ·obtain ⟨v,q⟩:=I3.cell x c e
    exact Nat.ne_of_lt q.lt
   have hsC:Heap.SameBut s3.heap.objs.size s5.heap h':=hs'
   have un:Un (frs X.stack) (D :: fp) H2 H4 s3.heap h':=by
    have B:=I5.base
    have neC:∀ b o,s3.heap.get? b=some o→b ≠ s3.heap.objs.size:=fun b o e=>Nat.ne_of_lt (Heap.lt_size e)
    exact ⟨fun b o e n hb hx=>(hsC.2 b (neC b o e)).trans (B.keep b o e n hb hx),fun b o e n hb hx=>let ⟨sl,q⟩:=B.slot b o e n hb hx; ⟨sl,(hsC.2 b (neC b o e)).trans q⟩,B.free,
     fun b o e hx=>let ⟨o',q⟩:=B.there b o e hx; ⟨o',(hsC.2 b (neC b o e)).trans q⟩,B.tups,B.frzs,B.tbls⟩
   have hok':HOk X.prog X.w H4 h':=fun b u e=>by
    refine (I5.hok b u e).stay (fun c v hc q=>(hsC.2 c ?_).trans q) (fun _ q=>q) fun _ _ q=>q
    rcases hc with z | z
    ·rw [z]; exact fun q=>by rw [q,hCn] at e; cases e
    ·exact fun q=>by rw [q,hCn] at z; cases z
   have I6:Inv X pins σ H4 { s5 with heap:=h' }:=I3.call' (s':={ s5 with heap:=h' }) (ch:=D :: fp) I5.os un hok' I5.bare fun b hb=>by
    rcases List.mem_cons.mp hb with q | q
    ·rw [q]; exact ⟨.inr hD0,hDL,hDc,hDp⟩
    ·obtain ⟨q0,q1,q2,q3,q4,q5⟩:=f3 b q
     exact ⟨q3,q1,q4,q5⟩
   have ho6:h'.get? D=some { cls:=.type "list",data:=.seq its.toArray k }:=(hsC.2 D (Nat.ne_of_lt hDlt)).trans ho5
   exact I6.adopt hD4 hD0 hDL hDc hDp ⟨hz,its,k,rv4,ho6⟩
  ·refine thn (T.item (X.block M scope cl s3.heap.objs.size s3 H2 (D :: fp)) rfl rfl rfl hc i _ s4 _ H4 _ I4D (stat fr4) st4 go) fun r s5 ⟨u,hr,h5⟩=>?_
   subst hr
   refine thn h5 fun _ s6 ⟨x,H6,I6,r6,y6,st6,fr6⟩=>?_
   have I6':=I6.pinned (stat fr6) (T.obj _ _ st6)
   refine wpAny_mono (hg _ _ _ _ _ _ s6 _ H6 x u _ I6' r6 (step x H6 y6)) (fun _ s7 ⟨σ7,H7,I7,e7,q7⟩=>?_) fun _ _ z=>z.elim
   refine wpAny_mono (ht _ _ _ _ _ _ s7 σ7 H7 _ I7 q7) (fun b s8 ⟨H8,I8,q8⟩=>?_) fun _ _ z=>z.elim
   have wk:∀ {H9:Hp} {s9:Shared},Inv (X.block M scope cl s3.heap.objs.size s3 H2 (D :: fp)) pins σ7 H9 s9→Inv (X.block M scope cl s3.heap.objs.size s3 H2 (D :: fp)) pins (M.map (fun _=>none) ++ σ) H9 s9:=fun {H9 s9} I9=>by
    have hl:(M.map (fun _=>(none:Option V)) ++ σ).length=σ7.length:=by rw [I9.len]; exact IB.len
    refine I9.weak hl fun j v e=>?_
    by_cases hj:j < M.length
    ·rw [List.getElem?_append_left (by simpa using hj),List.getElem?_map] at e
     cases q:M[j]? with
     | none=>rw [q] at e; cases e
     | some a=>rw [q] at e; cases e
    ·rw [List.getElem?_append_right (by simpa using hj),List.length_map,← e7,List.getElem?_drop] at e
     have:M.length + (j - M.length)=j:=by omega
     rw [this] at e
     exact e
   have unpin:∀ {H9:Hp} {s9:Shared},Inv (X.block M scope cl s3.heap.objs.size s3 H2 (D :: fp)) (pins ++ [(D,{ cls:=.type "list",data:=.seq its.toArray k })] ++ pinsAt fp s6.heap) σ7 H9 s9 →
     Inv (X.block M scope cl s3.heap.objs.size s3 H2 (D :: fp)) pins σ7 H9 s9∧s9.heap.get? D=some { cls:=.type "list",data:=.seq its.toArray k }∧H9 D=none∧tn (i + 1) s9.heap∧∀ b ∈ fp,H9 b=none:=fun {H9 s9} I9=>by
    have pD:=I9.pin (D,{ cls:=.type "list",data:=.seq its.toArray k }) (List.mem_append_right _ (List.mem_append_left _ (List.mem_append_right _ (by simp))))
    refine ⟨I9.pins_of fun p hp=>I9.pin p (List.mem_append_right _ (List.mem_append_left _ (List.mem_append_left _ hp))),pD.1,pD.2.1,T.keep _ _ _ st6 fun b hb o e=>(I9.pin (b,o) (List.mem_append_right _ (List.mem_append_right _ (mem_pinsAt hb e)))).1,fun b hb=>?_⟩
    obtain ⟨o,e,d⟩:=T.obj _ _ st6 b hb
    exact (I9.pin (b,o) (List.mem_append_right _ (List.mem_append_right _ (mem_pinsAt hb e)))).2.1
   cases b with
   | false =>
    have q8:Nx ys H8:=by simpa using q8
    obtain ⟨m',hm,w8⟩:=hNx _ _ q8
    obtain ⟨I9,ho9,hD9,st9,fr9⟩:=unpin I8
    exact ⟨m',hm,i + 1,ys,its,k,H8,wk I9,st9,fr9,hD9,rv4,ho9,w8⟩
   | true =>
    have q8:te σ7 H8 fun y H4=>Nx (ys ++ [y]) H4:=by simpa using q8
    rw [if_pos rfl]
    refine thn (he _ _ _ _ _ _ s8 σ7 H8 _ I8.toX q8) fun yv s9 ⟨y,H9,I9x,r9,n9⟩=>?_
    have I9:=I9x.ofX
    obtain ⟨m',hm,w9⟩:=hNx _ _ n9
    obtain ⟨I10,ho10,hD10,st10,fr10⟩:=unpin I9
    have hlen:=rv4.length
    refine append_at (hsz:=by rw [List.size_toArray]; omega) ho10 fun h11 hs11 hD11=>?_
    have I11:Inv (X.block M scope cl s3.heap.objs.size s3 H2 (D :: fp)) pins σ7 H9 { s9 with heap:=h11 }:=I10.turned (t':=s9.toks) (it:=D) (fun b o hb e=>(hs11.2 b hb).trans e) hD10 (Nat.ne_of_lt hDlt) (.inl List.mem_cons_self) (fun x c e=>hDc x c (hcl1 x c e)) hDp
    refine ⟨m',hm,i + 1,ys ++ [y],its ++ [yv],k + 1,H9,wk I11,T.keep _ _ _ st10 fun b hb o e=>(hs11.2 b (fun z=>hDf (by rw [← z]; exact hb))).trans e,fr10,hD10,rv4.append (.cons r9 .nil),?_,w9⟩
    rw [hD11,List.push_toArray]
 have hst4:tn 0 h₁:=T.keep 0 _ _ st3 fun b _ o e=>kp b o e
 have fin:∀ s₄:Shared,s₄={ s3 with heap:=h₁,toks:=s2.toks + ([]:List (Str × Value)).length } →
   codeAny (model X.prog X.w) X.A (.compStart (.ListComp elt [⟨target,iter,ifs,0⟩] scope pos) 0 (.ref it) (.ref D) (compEnvC scope cl s3.heap.objs.size X.env))
    (compPost (model X.prog X.w) X.A X.xe none Q' (.ref D) s3.heap.objs.size) s₄:=fun s₄ e4 =>
  codeAny_compStart_list (loop s₄ e4) (T.self X.A 0 s₄ _ _ (by rw [e4]; exact hst4) (loop s₄ e4))
 exact fin _ (by rw [← hS3])
theorem pe_compX (hX:X=cxOf (CXX P w) P w K mg base N qual dsc f cd A outer s₀ H₀ E) (hc:X.calm=true) (S:CompScope X scope) (hi:PI X target iter wi)
  (hg:∀ cl C s₃ H₃ ex,PG (X.block M scope cl C s₃ H₃ ex) target g) (ht:∀ cl C s₃ H₃ ex,PTs (X.block M scope cl C s₃ H₃ ex) ifs tt) (he:∀ cl C s₃ H₃ ex,PE (X.blockX P w E M scope cl C s₃ H₃ ex) elt te)
  (hs:∀ x,foldedSetIterable iter X.env x=pure x:=by intro _; rfl):PE X (.ListComp elt [⟨target,iter,ifs,0⟩] scope pos) (tCompK M wi g tt te):=by
 intro pins s σ H Q I h
 rw [eval_ListComp]
 exact comp_coreX hX hc S hi hg ht he hs I h fun D C H' s5 mC q hn _ _ _ _ _ inv _=>⟨mC,hn,fun h' hs'=>⟨.ref D,H',inv h' hs',rfl,q⟩⟩

def tCut (t:TS):TS:=fun D σ H=>t { D with nx:=fun _ _=>False } σ H
theorem r_cut {t:TS} {D:Ends} {σ:St} {H:Hp}:tCut t D σ H=t { D with nx:=fun _ _=>False } σ H:=rfl
def tStop (te:TE):TS:=fun _ σ H=>te σ H fun _ _=>False
theorem r_stop {te:TE} {D:Ends} {σ:St} {H:Hp}:tStop te D σ H=te σ H fun _ _=>False:=rfl
def tHalt (te:TE):TE:=fun σ H _=>te σ H fun _ _=>False
theorem r_halt {te:TE} {σ:St} {H:Hp} {Q:VK}:tHalt te σ H Q=te σ H fun _ _=>False:=rfl
end
end L2

set_option maxHeartbeats 4000000
namespace L2
open PySem PySem.Builtin PySem.Builtin.Str PySem.StrLaws

def Tn (l:List Nat):PySem.Str:=⟨l.toArray⟩
theorem tn_app (a b:List Nat):(Tn a ++ Tn b:PySem.Str)=Tn (a ++ b):=by
 show (⟨a.toArray ++ b.toArray⟩:PySem.Str)=⟨(a ++ b).toArray⟩
 rw [List.append_toArray]
theorem tn_len (l:List Nat):(Tn l).length=l.length:=by show l.toArray.size=_; simp
theorem tn_inj {a b:List Nat} (h:Tn a=Tn b):a=b:=by
 have:a.toArray=b.toArray:=congrArg PySem.Str.cps h
 simpa using this
def inter (sep:List Nat):List (List Nat)→List Nat
 | []=>[]
 | [x]=>x
 | x :: y :: r=>x ++ sep ++ inter sep (y :: r)
theorem glue_fold (sep:List Nat):∀ (ls:List (List Nat)) (acc:List Nat),(ls.map Tn).foldl (fun a p=>a ++ (Tn sep).cps ++ p.cps) acc.toArray=(acc ++ (ls.map fun p=>sep ++ p).flatten).toArray
 | [],acc=>by simp
 | p :: ls,acc=>by
  rw [List.map_cons,List.foldl_cons]
  have:acc.toArray ++ (Tn sep).cps ++ (Tn p).cps=(acc ++ sep ++ p).toArray:=by
   show acc.toArray ++ sep.toArray ++ p.toArray=_
   simp
  rw [this,glue_fold sep ls]
  simp
theorem inter_cons (sep:List Nat):∀ (x:List Nat) (r:List (List Nat)),inter sep (x :: r)=x ++ (r.map fun p=>sep ++ p).flatten
 | x,[]=>by simp [inter]
 | x,y :: r=>by rw [inter,inter_cons sep y r]; simp
theorem join_tn (sep:List Nat) (ls:List (List Nat)):Txt.join (Tn sep) (ls.map Tn)=Tn (inter sep ls):=by
 show glued (Tn sep) (ls.map Tn)=_
 unfold glued
 cases ls with
 | nil=>rfl
 | cons x r =>
  show (⟨((r.map Tn)).foldl (fun a p=>a ++ (Tn sep).cps ++ p.cps) x.toArray⟩:PySem.Str)=_
  rw [glue_fold,inter_cons]
  rfl
def cuts (w:Nat):Nat→List (List Nat)→List Nat
 | _,[]=>[]
 | _,[_]=>[]
 | k,x :: y :: r=>(k + x.length) :: cuts w (k + x.length + w) (y :: r)
theorem cuts_ge (w:Nat):∀ (ls:List (List Nat)) (k c:Nat),c ∈ cuts w k ls→k ≤ c
 | [],_,_,h=>by cases h
 | [_],_,_,h=>by cases h
 | x :: y :: r,k,c,h=>by
  rcases List.mem_cons.mp h with e | e
  ·omega
  ·have:=cuts_ge w (y :: r) _ c e
   omega
theorem sub_at (x sep:List Nat) (i:Nat):subAt (Tn x) (Tn sep) i=decide ((x.drop i).take sep.length=sep):=by
 unfold subAt
 show (x.toArray.extract i (i + (Tn sep).length) == sep.toArray)=_
 rw [tn_len,Bool.eq_iff_iff,beq_iff_eq,decide_eq_true_eq]
 constructor
 ·intro h
  have:=congrArg Array.toList h
  simpa using this
 ·intro h
  apply Array.toList_inj.mp
  simpa using h
theorem head_of {L:List Nat} {j c0:Nat} {r:List Nat} (h:(L.drop j).take (r.length + 1)=c0 :: r):L[j]?=some c0:=by
 have:=congrArg (fun l=>l[0]?) h
 simpa [List.getElem?_take] using this
theorem cut_iff {c0:Nat} {r:List Nat} (hr:¬ c0 ∈ r):∀ (ls:List (List Nat)) (u:List Nat),(∀ p ∈ ls,¬ c0 ∈ p)→∀ j,u.length ≤ j→(((u ++ inter (c0 :: r) ls).drop j).take (r.length + 1)=c0 :: r ↔ j ∈ cuts (r.length + 1) u.length ls)
 | [],u,_,j,hj=>by
  simp only [inter,List.append_nil,cuts,List.not_mem_nil,iff_false]
  rw [List.drop_eq_nil_of_le hj]
  simp
 | [p],u,hp,j,hj=>by
  simp only [inter,cuts,List.not_mem_nil,iff_false]
  intro h
  have h0:=head_of h
  rw [List.getElem?_append_right hj] at h0
  exact hp p List.mem_cons_self (List.mem_of_getElem? h0)
 | p :: q :: ls,u,hp,j,hj=>by
  have e1:u ++ inter (c0 :: r) (p :: q :: ls)=(u ++ p ++ (c0 :: r)) ++ inter (c0 :: r) (q :: ls):=by rw [inter]; simp
  have ec:cuts (r.length + 1) u.length (p :: q :: ls)=(u.length + p.length) :: cuts (r.length + 1) (u.length + p.length + (r.length + 1)) (q :: ls):=rfl
  have eu:(u ++ p ++ (c0 :: r)).length=u.length + p.length + (r.length + 1):=by simp; omega
  rw [e1,ec,List.mem_cons]
  have ge:=fun c h=>cuts_ge (r.length + 1) (q :: ls) (u.length + p.length + (r.length + 1)) c h
  by_cases h1:j < u.length + p.length
  ·constructor
   ·intro h
    have h0:=head_of h
    rw [List.append_assoc,List.append_assoc,List.getElem?_append_right hj,List.getElem?_append_left (by omega)] at h0
    exact absurd (List.mem_of_getElem? h0) (hp p List.mem_cons_self)
   ·rintro (h | h)
    ·omega
    ·have:=ge j h; omega
  ·by_cases h2:j=u.length + p.length
   ·subst h2
    refine ⟨fun _=>.inl rfl,fun _=>?_⟩
    have:(u ++ p ++ (c0 :: r) ++ inter (c0 :: r) (q :: ls)).drop (u.length + p.length)=(c0 :: r) ++ inter (c0 :: r) (q :: ls):=by
     rw [List.append_assoc (u ++ p),show u.length + p.length=(u ++ p).length by simp,List.drop_left]
    rw [this,show r.length + 1=(c0 :: r).length by simp,List.take_left]
   ·by_cases h3:j < u.length + p.length + (r.length + 1)
    ·constructor
     ·intro h
      have h0:=head_of h
      rw [List.append_assoc (u ++ p),List.getElem?_append_right (by simp; omega),List.getElem?_append_left (by simp; omega),List.length_append] at h0
      obtain ⟨m,hm⟩:∃ m,j - (u.length + p.length)=m + 1:=⟨j - (u.length + p.length) - 1,by omega⟩
      rw [hm,List.getElem?_cons_succ] at h0
      exact absurd (List.mem_of_getElem? h0) hr
     ·rintro (h | h)
      ·omega
      ·have:=ge j h; omega
    ·have ih:=cut_iff hr (q :: ls) (u ++ p ++ (c0 :: r)) (fun z hz=>hp z (List.mem_cons_of_mem _ hz)) j (by rw [eu]; omega)
     rw [ih,eu]
     exact ⟨.inr,fun h=>h.elim (fun z=>by omega) id⟩
theorem occ_run {s sub:PySem.Str} {hi limit:Nat} {C:List Nat} (hC:∀ i,i ∈ C ↔ (i + sub.length ≤ hi∧subAt s sub i=true)) (hlim:hi < limit) :
  ∀ (m i:Nat) (fs:List Nat) (free:Nat),i + m=hi + 1→fs.length ≤ i→(∀ c ∈ C,i ≤ c→free ≤ c)→(∀ c ∈ C,∀ d ∈ C,c < d→c + sub.length ≤ d) →
   (forIn (List.range' i m) (fs.toArray,free) (occBody s sub hi limit)).run.fst.toList=fs ++ (List.range' i m).filter (fun c=>decide (c ∈ C))
 | 0,i,fs,free,_,_,_,_=>by simp
 | m + 1,i,fs,free,hm,hl,hf,hg=>by
  rw [List.range'_succ,List.forIn_cons]
  unfold occBody
  by_cases h:i ∈ C
  ·obtain ⟨h1,h2⟩:=(hC i).mp h
   rw [if_pos ⟨⟨⟨by simp; omega,hf i h (Nat.le_refl _)⟩,h1⟩,h2⟩]
   have ih:=occ_run hC hlim m (i + 1) (fs ++ [i]) (i + sub.length) (by omega) (by simp; omega) (fun c hc hic=>hg i h c hc (by omega)) hg
   rw [List.filter_cons_of_pos (by simpa using h)]
   have e:(fs.toArray.push i,i + sub.length)=((fs ++ [i]).toArray,i + sub.length):=by simp
   show (forIn (List.range' (i + 1) m) (fs.toArray.push i,i + sub.length) (occBody s sub hi limit)).run.fst.toList=_
   rw [e,ih]
   simp
  ·rw [if_neg (fun z=>h ((hC i).mpr ⟨z.1.2,z.2⟩))]
   have ih:=occ_run hC hlim m (i + 1) fs free (by omega) (by omega) (fun c hc hic=>hf c hc (by omega)) hg
   rw [List.filter_cons_of_neg (by simpa using h)]
   exact ih
theorem cuts_gap (w:Nat):∀ (ls:List (List Nat)) (k:Nat),(cuts w k ls).Pairwise (fun c d=>c + w ≤ d)
 | [],_=>.nil
 | [_],_=>.nil
 | x :: y :: r,k=>List.pairwise_cons.mpr ⟨fun d hd=>cuts_ge w (y :: r) _ d hd,cuts_gap w (y :: r) _⟩
theorem cuts_lt (sep:List Nat):∀ (ls:List (List Nat)) (k c:Nat),c ∈ cuts sep.length k ls→c + sep.length ≤ k + (inter sep ls).length
 | [],_,_,h=>by cases h
 | [_],_,_,h=>by cases h
 | x :: y :: r,k,c,h=>by
  have el:(inter sep (x :: y :: r)).length=x.length + sep.length + (inter sep (y :: r)).length:=by rw [inter]; simp [Nat.add_assoc]
  rw [el]
  rcases List.mem_cons.mp h with e | e
  ·omega
  ·have:=cuts_lt sep (y :: r) _ c e
   omega
theorem filter_sorted:∀ (m i:Nat) (C:List Nat),C.Pairwise (· < ·)→(∀ c ∈ C,i ≤ c∧c < i + m)→(List.range' i m).filter (fun c=>decide (c ∈ C))=C
 | 0,i,C,_,h=>by
  cases C with
  | nil=>rfl
  | cons c C=>have:=h c List.mem_cons_self; omega
 | m + 1,i,C,hp,h=>by
  rw [List.range'_succ]
  cases C with
  | nil=>simp
  | cons c C =>
   rw [List.pairwise_cons] at hp
   by_cases e:c=i
   ·subst e
    rw [List.filter_cons_of_pos (by simp)]
    congr 1
    have ih:=filter_sorted m (c + 1) C hp.2 fun d hd=>by have:=hp.1 d hd; have:=h d (List.mem_cons_of_mem _ hd); omega
    rw [← ih]
    refine List.filter_congr fun d hd=>?_
    have:=List.mem_range'.mp hd
    have hne:d ≠ c:=by omega
    simp [ih,hne]
   ·have hc:=h c List.mem_cons_self
    rw [List.filter_cons_of_neg (by
     simp only [decide_eq_true_eq]
     intro z
     rcases List.mem_cons.mp z with y | y
     ·omega
     ·have:=hp.1 i y; omega)]
    exact filter_sorted m (i + 1) (c :: C) (List.pairwise_cons.mpr hp) fun d hd=>by
     have:=h d hd
     rcases List.mem_cons.mp hd with y | y
     ·omega
     ·have:=hp.1 d y; omega
theorem occ_tn {c0:Nat} {r:List Nat} (hr:¬ c0 ∈ r) {ls:List (List Nat)} (hp:∀ p ∈ ls,¬ c0 ∈ p) :
  occurrences (Tn (inter (c0 :: r) ls)) (Tn (c0 :: r)) 0 (Tn (inter (c0 :: r) ls)).length ((Tn (inter (c0 :: r) ls)).length + 1)=cuts (r.length + 1) 0 ls:=by
 rw [occ_eq]
 have hw:(Tn (c0 :: r)).length=r.length + 1:=tn_len _
 have hC:∀ i,i ∈ cuts (r.length + 1) 0 ls ↔ (i + (Tn (c0 :: r)).length ≤ (Tn (inter (c0 :: r) ls)).length∧subAt (Tn (inter (c0 :: r) ls)) (Tn (c0 :: r)) i=true):=fun i=>by
  have:=cut_iff hr ls [] hp i (Nat.zero_le _)
  rw [List.nil_append] at this
  rw [sub_at,decide_eq_true_eq,List.length_cons,this,hw,tn_len]
  exact ⟨fun h=>⟨by have:=cuts_lt (c0 :: r) ls 0 i h; simpa using this,h⟩,fun h=>h.2⟩
 have gap:=cuts_gap (r.length + 1) ls 0
 have run:=occ_run hC (Nat.lt_succ_self _) ((Tn (inter (c0 :: r) ls)).length + 1) 0 [] 0 (by omega) (Nat.zero_le _) (fun _ _ _=>Nat.zero_le _) (fun c hc d hd hlt=>by
  rw [hw]
  obtain ⟨i,hi⟩:=List.mem_iff_getElem?.mp hc
  obtain ⟨j,hj⟩:=List.mem_iff_getElem?.mp hd
  obtain ⟨a1,a2⟩:=List.getElem?_eq_some_iff.mp hi
  obtain ⟨b1,b2⟩:=List.getElem?_eq_some_iff.mp hj
  rcases Nat.lt_trichotomy i j with g | g | g
  ·have:=List.pairwise_iff_getElem.mp gap i j a1 b1 g
   rw [a2,b2] at this
   exact this
  ·subst g; rw [a2] at b2; omega
  ·have:=List.pairwise_iff_getElem.mp gap j i b1 a1 g
   rw [a2,b2] at this
   omega)
 rw [Nat.sub_zero]
 have e0:((#[]:Array Nat),0)=(([]:List Nat).toArray,0):=rfl
 rw [e0,run,List.nil_append]
 refine filter_sorted _ _ _ (gap.imp fun h=>by omega) fun c hc=>?_
 have:=(hC c).mp hc
 rw [hw] at this
 omega
theorem parts_tn (sep:List Nat):∀ (ls:List (List Nat)) (u:List Nat),ls ≠ [] →
  ((u.length :: (cuts sep.length u.length ls).map (· + sep.length)).zip (cuts sep.length u.length ls ++ [u.length + (inter sep ls).length])).map (fun (i,j)=>strSub (Tn (u ++ inter sep ls)) i j)=ls.map Tn
 | [],_,h=>absurd rfl h
 | [p],u,_=>by
  simp only [cuts,inter,List.map_nil,List.nil_append,List.zip_cons_cons,List.zip_nil_left,List.map_cons]
  congr 1
  show (⟨(u ++ p).toArray.extract u.length (u.length + p.length)⟩:PySem.Str)=⟨p.toArray⟩
  congr 1
  apply Array.toList_inj.mp
  simp
 | p :: q :: ls,u,_=>by
  have ih:=parts_tn sep (q :: ls) (u ++ p ++ sep) (by simp)
  have e1:u ++ inter sep (p :: q :: ls)=(u ++ p ++ sep) ++ inter sep (q :: ls):=by rw [inter]; simp
  have eu:(u ++ p ++ sep).length=u.length + p.length + sep.length:=by simp; omega
  have el:u.length + (inter sep (p :: q :: ls)).length=(u ++ p ++ sep).length + (inter sep (q :: ls)).length:=by rw [inter]; simp; omega
  have ec:cuts sep.length u.length (p :: q :: ls)=(u.length + p.length) :: cuts sep.length (u ++ p ++ sep).length (q :: ls):=by rw [eu]; rfl
  rw [ec,el,e1]
  simp only [List.map_cons,List.cons_append,List.zip_cons_cons]
  rw [← eu]
  congr 1
  show (⟨((u ++ p ++ sep) ++ inter sep (q :: ls)).toArray.extract u.length (u.length + p.length)⟩:PySem.Str)=⟨p.toArray⟩
  congr 1
  apply Array.toList_inj.mp
  simp
theorem split_tn {c0:Nat} {r:List Nat} (hr:¬ c0 ∈ r) (h256:∀ c ∈ c0 :: r,c < 256) {ls:List (List Nat)} (hne:ls ≠ []) (hp:∀ p ∈ ls,¬ c0 ∈ p):Txt.split (Tn (inter (c0 :: r) ls)) (Tn (c0 :: r))=ls.map Tn:=by
 unfold Txt.split
 rw [occ_tn hr hp]
 have hk:PySem.Builtin.Str.strKind (Tn (c0 :: r))=1:=by
  unfold PySem.Builtin.Str.strKind
  rw [if_pos]
  show ((c0 :: r).toArray.all fun x=>decide (x < 256))=true
  simp only [List.all_toArray,List.all_eq_true,decide_eq_true_eq]
  exact h256
 have hk1:∀ x:PySem.Str,1 ≤ PySem.Builtin.Str.strKind x:=fun x=>by unfold PySem.Builtin.Str.strKind; split <;> (try split) <;> omega
 match ls,hne with
 | [p],_ =>
  simp only [cuts,List.isEmpty_nil,if_true,inter,List.map_cons,List.map_nil,ite_self]
 | p :: q :: ls,_ =>
  have hlt:¬ ((Tn (inter (c0 :: r) (p :: q :: ls))).length < (Tn (c0 :: r)).length):=by
   rw [tn_len,tn_len,inter]
   simp
   omega
  have hkk:¬ (PySem.Builtin.Str.strKind (Tn (inter (c0 :: r) (p :: q :: ls))) < PySem.Builtin.Str.strKind (Tn (c0 :: r))):=by rw [hk]; have:=hk1 (Tn (inter (c0 :: r) (p :: q :: ls))); omega
  rw [if_neg (by simp [hlt,hkk]),if_neg (by simp [cuts])]
  unfold partsBetween
  have:=parts_tn (c0 :: r) (p :: q :: ls) [] (by simp)
  rw [List.nil_append] at this
  rw [tn_len,tn_len]
  simpa using this
theorem slice_ix (n:Nat):strSliceIndices (some 1) (some (-1)) 1 (n + 2)=(List.range n).map (· + 1):=by
 unfold strSliceIndices sliceRange
 have e1:max (0:Int) (min 1 ((n + 2:Nat):Int))=1:=by omega
 have e2:max (0:Int) (min (-1 + ((n + 2:Nat):Int)) ((n + 2:Nat):Int))=(n:Int) + 1:=by omega
 simp only [show (1:Int) > 0 by decide,if_true,show ¬ ((1:Int) < 0) by decide,if_false,show (-1:Int) < 0 by decide,e1,e2]
 have e3:(if (1:Int) < (n:Int) + 1 then ((n:Int) + 1 - 1 + 1 - 1) / 1 else 0).toNat=n:=by
  split <;> omega
 rw [e3]
 refine List.map_congr_left fun k _=>?_
 omega
theorem slice_tn (a b:Nat) (x:List Nat):Txt.slice (Tn (a :: (x ++ [b]))) (some 1) (some (-1))=Tn x:=by
 unfold Txt.slice
 have hl:(Tn (a :: (x ++ [b]))).length=x.length + 2:=by rw [tn_len]; simp
 rw [hl,slice_ix,if_neg (by simp)]
 show (⟨_⟩:PySem.Str)=⟨_⟩
 congr 1
 congr 1
 have go:∀ (L:List Nat),(∀ k ∈ L,k < x.length)→(L.map (· + 1)).filterMap (fun k=>(Tn (a :: (x ++ [b]))).cps[k]?)=L.map fun k=>x.getD k 0:=by
  intro L
  induction L with
  | nil=>intro _; rfl
  | cons k L ih =>
   intro h
   have hk:=h k List.mem_cons_self
   have e:(Tn (a :: (x ++ [b]))).cps[k + 1]?=some (x.getD k 0):=by
    show (a :: (x ++ [b])).toArray[k + 1]?=_
    rw [List.getElem?_toArray,List.getElem?_cons_succ,List.getElem?_append_left hk,List.getElem?_eq_getElem hk,List.getD_eq_getElem?_getD,List.getElem?_eq_getElem hk]
    rfl
   rw [List.map_cons,List.filterMap_cons,e,ih fun j hj=>h j (List.mem_cons_of_mem _ hj)]
   rfl
 rw [go _ fun k hk=>List.mem_range.mp hk]
 refine List.ext_getElem? fun i=>?_
 by_cases hi:i < x.length
 ·simp [hi]
 ·simp [Nat.le_of_not_lt hi]
theorem starts_tn (a:Nat) (x:List Nat):Txt.startswith (Tn (a :: x)) (Tn [a])=true:=by
 unfold Txt.startswith
 rw [sub_at,tn_len,tn_len]
 simp
theorem ends_tn (b:Nat) (x:List Nat):Txt.endswith (Tn (x ++ [b])) (Tn [b])=true:=by
 unfold Txt.endswith
 rw [sub_at,tn_len,tn_len]
 simp

def dg (k:Nat):List Nat:=if k < 10 then [48 + k] else [49,38 + k]
theorem dg_inj:∀ k,k < 16→∀ j,j < 16→dg k=dg j→k=j:=by decide
theorem dg_no:∀ k,k < 16→¬ 32 ∈ dg k∧¬ 40 ∈ dg k∧¬ 41 ∈ dg k∧dg k ≠ []:=by decide
theorem dg_str:∀ k,k < 16→PySem.Str.ofString (toString ((k:Nat):Int))=Tn (dg k):=by decide +kernel
end L2
namespace L2
open PySem PySem.Spec PyProof.Rows
section
variable {X:Cx}
theorem strs_of:∀ {ss:List PySem.Str} {us:List Value},Vals (ss.map V.str) us→∃ l:List (PySem.Str × Tok),us=strValues l∧l.map (·.1)=ss
 | [],_,.nil=>⟨[],rfl,rfl⟩
 | s :: ss,_,.cons r rr=>by
  obtain ⟨t,e⟩:=r
  obtain ⟨l,e1,e2⟩:=strs_of rr
  exact ⟨(s,t) :: l,by rw [e,e1]; rfl,by rw [List.map_cons,e2]⟩
theorem vals_strs:∀ (l:List (PySem.Str × Tok)),Vals ((l.map (·.1)).map V.str) (strValues l)
 | []=>.nil
 | p :: l=>.cons ⟨p.2,rfl⟩ (vals_strs l)

def rStarts:V→List V→Hp→VK→Prop:=fun x vs H Q=>∃ a b,x=.str a∧vs=[.str b]∧Q (.bl (Txt.startswith a b)) H
theorem mt_starts:MtM X "str.startswith" rStarts:=by
 intro pins s σ H x vs v us Q I rx rv h
 obtain ⟨a,b,rfl,rfl,q⟩:=h
 obtain ⟨t,rfl⟩:=rx
 obtain ⟨u,rfl,ru⟩:=rv.one
 obtain ⟨t',rfl⟩:=ru
 exact SC.startswith ⟨.bl _,H,I,(show Value.bool _=Value.bool _ from rfl),q⟩
def rEnds:V→List V→Hp→VK→Prop:=fun x vs H Q=>∃ a b,x=.str a∧vs=[.str b]∧Q (.bl (Txt.endswith a b)) H
theorem mt_ends:MtM X "str.endswith" rEnds:=by
 intro pins s σ H x vs v us Q I rx rv h
 obtain ⟨a,b,rfl,rfl,q⟩:=h
 obtain ⟨t,rfl⟩:=rx
 obtain ⟨u,rfl,ru⟩:=rv.one
 obtain ⟨t',rfl⟩:=ru
 exact SC.endswith ⟨.bl _,H,I,(show Value.bool _=Value.bool _ from rfl),q⟩
def rJoin (K:PySem.W.Frag):V→List V→Hp→VK→Prop:=fun x vs H Q=>∃ (sep:PySem.Str) (p:Addr) (ss:List PySem.Str),x=.str sep∧vs=[.ref p]∧SqL K H p (ss.map V.str)∧JoinOk sep ss=true∧Q (.str (Txt.join sep ss)) H
theorem mt_join {K:PySem.W.Frag} (hK:X.K=K):MtM X "str.join" (rJoin K):=by
 subst hK
 intro pins s σ H x vs v us Q I rx rv h
 obtain ⟨sep,p,ss,rfl,rfl,hq,hj,q⟩:=h
 obtain ⟨t,rfl⟩:=rx
 obtain ⟨u,rfl,ru⟩:=rv.one
 cases ru
 obtain ⟨its,r,pl,_⟩:=I.list hq
 obtain ⟨l,e1,e2⟩:=strs_of r
 subst e1
 exact SC.join pl.isList e2 hj fun t' k=>⟨.str _,H,I.kept (t':=k) fun _ _ e=>e,⟨t',rfl⟩,q⟩
def rSplit:V→List V→Hp→VK→Prop:=fun x vs H Q=>∃ a b,x=.str a∧vs=[.str b]∧(b.length == 0)=false∧a.length ≤ sizeLine∧(Txt.split a b).length ≤ sizeLine∧∀ l,H l=none→Q (.ref l) (upd H l (.lst ((Txt.split a b).map V.str)))
theorem mt_split:MtM X "str.split" rSplit:=by
 intro pins s σ H x vs v us Q I rx rv h
 obtain ⟨a,b,rfl,rfl,hb,hz,hz2,q⟩:=h
 obtain ⟨t,rfl⟩:=rx
 obtain ⟨u,rfl,ru⟩:=rv.one
 obtain ⟨t',rfl⟩:=ru
 have fin:∀ (l:List (PySem.Str × Tok)) (k:Nat),l.map (·.1)=Txt.split a b→EP X pins σ Q (.ref s.heap.objs.size) { s with heap:=s.heap.push { cls:=.type "list",data:=.seq (strValues l).toArray },toks:=k }:=fun l k e=>by
  refine ⟨.ref s.heap.objs.size,_,I.lnew (t':=k) (vals_strs l) (by rw [List.length_map,e]; exact hz2),rfl,?_⟩
  rw [e]
  exact q _ I.fresh
 cases h1:(decide (a.length < b.length) || decide (Builtin.Str.strKind a < Builtin.Str.strKind b)) with
 | false =>
  cases hf:(Builtin.Str.occurrences a b 0 a.length (a.length + 1)).isEmpty with
  | false =>
   have es:Txt.split a b=Builtin.Str.partsBetween a (Builtin.Str.occurrences a b 0 a.length (a.length + 1)) b.length:=by
    unfold Txt.split
    rw [if_neg (by rw [h1]; decide),if_neg (by rw [hf]; decide)]
   refine call_meets F.slot_str_split (typeIs_str _ _ _) F.entry_str_split (F.args_str_split_2 _ _) (meets_str_split_sep a b t t' h1 hb hf hz (by rw [← es]; exact hz2)) ?_
   show wants _ _ _ { s with toks:=_,heap:=s.heap.push { cls:=.type "list",data:=.seq (strsFrom s.toks (Builtin.Str.partsBetween a (Builtin.Str.occurrences a b 0 a.length (a.length + 1)) b.length)).toArray } }
   rw [strsFrom_eq]
   exact fin _ _ ((numbered_texts _ _).trans es.symm)
  | true =>
   refine call_meets F.slot_str_split (typeIs_str _ _ _) F.entry_str_split (F.args_str_split_2 _ _) (meets_str_split_not_found a b t t' h1 hb hf) ?_
   exact fin [(a,t)] s.toks (by unfold Txt.split; rw [if_neg (by rw [h1]; decide),if_pos hf]; rfl)
 | true =>
  refine call_meets F.slot_str_split (typeIs_str _ _ _) F.entry_str_split (F.args_str_split_2 _ _) (meets_str_split_cannot_occur a b t t' h1) ?_
  exact fin [(a,t)] s.toks (by unfold Txt.split; rw [if_pos h1]; rfl)
def rLIndexS (K:PySem.W.Frag):V→List V→Hp→VK→Prop:=fun x vs H Q=>∃ (p:Addr) (ss:List PySem.Str) (y:PySem.Str) (j:Nat),x=.ref p∧vs=[.str y]∧H p=some (.lst (ss.map V.str))∧ss.length < 1000∧ss[j]?=some y∧(∀ m,m < j→ss[m]? ≠ some y)∧Q (.int ((j:Nat):Int)) H
theorem mt_lindexS {K:PySem.W.Frag}:MtM X "list.index" (rLIndexS K):=by
 intro pins s σ H x vs v us Q I rx rv h
 obtain ⟨p,ss,y,j,rfl,rfl,hp,hl,hj,hno,q⟩:=h
 cases rx
 obtain ⟨u,rfl,ru⟩:=rv.one
 obtain ⟨t,rfl⟩:=ru
 obtain ⟨z,its,n,r,hlen,e⟩:=I.lstM hp
 obtain ⟨l,e1,e2⟩:=strs_of r
 subst e1 e2
 have hjl:j < l.length:=by have:=(List.getElem?_eq_some_iff.mp hj).1; simpa using this
 have hat:∀ m (hm:m < (strValues l).toArray.size),(strValues l).toArray[m]=.str (l[m]'(by simpa [strValues] using hm)).1 (l[m]'(by simpa [strValues] using hm)).2:=fun m hm=>by simp [strValues]
 have hsz:(strValues l).toArray.size=l.length:=by simp [strValues]
 refine call_meets F.slot_list_index ⟨_,e,rfl⟩ F.entry_list_index (F.args_list_index_2 _ _)
  (MeetsSeq.list_index p (strValues l).toArray n (.str y t) (fun w=>match w with | .str z _=>decide (z=y) | _=>false) (fun w hw=>?_) j (by rw [hsz]; exact hjl) (by simp at hl; omega) ?_ fun m hm hmj=>?_) ⟨e,?_⟩
 ·have hw:w ∈ strValues l:=by simpa using hw
  obtain ⟨⟨z,tz⟩,_,rfl⟩:=List.mem_map.mp hw
  exact fun _ _ _ _ _ _ h=>wpAny_eqBool_str h
 ·rw [hat]
  have:=(List.getElem?_eq_some_iff.mp hj).2
  simp only [List.getElem_map] at this
  simp [this]
 ·rw [hat]
  have hne:=hno m hmj
  simp only [decide_eq_false_iff_not]
  intro z
  apply hne
  have hml:m < l.length:=by rw [hsz] at hm; exact hm
  rw [List.getElem?_map,List.getElem?_eq_getElem hml]
  simp [z]
 ·exact ⟨.int (j:Int),H,I.kept (t':=s.toks + 1) fun _ _ e=>e,⟨s.toks,rfl⟩,q⟩

def rSlS:V→Option Int→Option Int→Hp→VK→Prop:=fun x lo hi H Q=>∃ a i j,x=.str a∧lo=some i∧hi=some j∧a.length ≤ sizeLine∧Q (.str (Txt.slice a (some i) (some j))) H
theorem sl_str:SlR X rSlS:=by
 intro pins s σ H x v vl vu lo hi sl Q I rx hs pl pu h
 obtain ⟨a,i,j,rfl,rfl,rfl,hz,q⟩:=h
 obtain ⟨t,rfl⟩:=rx
 cases pl
 cases pu
 rename_i ti tj
 refine ⟨"str",_,F.slot_str_getitem.lookup,typeIs_str _ _ _,?_⟩
 refine wpAny_getItem_str_slice (l:=some (i,ti)) (u:=some (j,tj)) (st:=none) hs rfl (post_val_or_str ⟨Nat.le_trans (Txt.slice_le a _ _) hz,fun t' k=>?_⟩)
 exact ⟨.str _,H,I.kept (t':=k) fun _ _ e=>e,⟨t',rfl⟩,q⟩
theorem pe_gstr {x:Str} {pos:Pos} {z:PySem.Str} {t:Tok} (hg:Gl X x) (hm:X.mg x=some (.str z t)) (hd:(x == ("__debug__":Str))=false:=by decide):PE X (.Name x pos) (tC (.str z)):=pe_glob hg hm ⟨t,rfl⟩ hd
end
section
variable {K:PySem.W.Frag} {H:Hp} {Q:VK} {p:Addr}
theorem r_starts {a b:PySem.Str}:rStarts (.str a) [.str b] H Q=Q (.bl (Txt.startswith a b)) H:=propext ⟨fun ⟨_,_,e1,e2,h⟩=>by cases e1; cases e2; exact h,fun h=>⟨_,_,rfl,rfl,h⟩⟩
theorem r_ends {a b:PySem.Str}:rEnds (.str a) [.str b] H Q=Q (.bl (Txt.endswith a b)) H:=propext ⟨fun ⟨_,_,e1,e2,h⟩=>by cases e1; cases e2; exact h,fun h=>⟨_,_,rfl,rfl,h⟩⟩
theorem r_join {sep:PySem.Str}:rJoin K (.str sep) [.ref p] H Q=∃ ss:List PySem.Str,SqL K H p (ss.map V.str)∧JoinOk sep ss=true∧Q (.str (Txt.join sep ss)) H:=propext ⟨fun ⟨_,_,ss,e1,e2,h⟩=>by cases e1; cases e2; exact ⟨ss,h⟩,fun ⟨ss,h⟩=>⟨_,_,ss,rfl,rfl,h⟩⟩
theorem r_split {a b:PySem.Str}:rSplit (.str a) [.str b] H Q=((b.length == 0)=false∧a.length ≤ sizeLine∧(Txt.split a b).length ≤ sizeLine∧∀ l,H l=none→Q (.ref l) (upd H l (.lst ((Txt.split a b).map V.str)))):=propext ⟨fun ⟨_,_,e1,e2,h⟩=>by cases e1; cases e2; exact h,fun h=>⟨_,_,rfl,rfl,h⟩⟩
theorem r_lindexS {y:PySem.Str}:rLIndexS K (.ref p) [.str y] H Q=∃ (ss:List PySem.Str) (j:Nat),H p=some (.lst (ss.map V.str))∧ss.length < 1000∧ss[j]?=some y∧(∀ m,m < j→ss[m]? ≠ some y)∧Q (.int ((j:Nat):Int)) H:=propext
 ⟨fun ⟨_,ss,_,j,e1,e2,h⟩=>by cases e1; cases e2; exact ⟨ss,j,h⟩,fun ⟨ss,j,h⟩=>⟨_,ss,_,j,rfl,rfl,h⟩⟩
theorem r_slS {a:PySem.Str} {i j:Int}:rSlS (.str a) (some i) (some j) H Q=(a.length ≤ sizeLine∧Q (.str (Txt.slice a (some i) (some j))) H):=propext ⟨fun ⟨_,_,_,e1,e2,e3,h⟩=>by cases e1; cases e2; cases e3; exact h,fun h=>⟨_,_,_,rfl,rfl,rfl,h⟩⟩
theorem r_dget2 {td ty tx:TE} {σ:St}:tDGet2 td ty tx σ H Q=td σ H fun x H1=>∃ a,x=.ref a∧IsD H1 a∧ty σ H1 fun y H2=>tx σ H2 fun z H3=>∃ o,DGet H3 a y o∧Q (o.getD z) H3:=rfl
end

theorem r_neStr {x y:PySem.Str} {H:Hp} {Q:VK}:rNe (.str x) (.str y) H Q=Q (.bl (!decide (x=y))) H:=propext
 ⟨fun ⟨_,h⟩=>by rwa [show decide (V.str x=V.str y)=decide (x=y) from decide_eq_decide.mpr ⟨fun z=>V.str.inj z,fun z=>by rw [z]⟩] at h,fun h=>⟨rfl,by rwa [show decide (V.str x=V.str y)=decide (x=y) from decide_eq_decide.mpr ⟨fun z=>V.str.inj z,fun z=>by rw [z]⟩]⟩⟩
theorem r_addS {x y:PySem.Str} {H:Hp} {Q:VK}:(∃ i j,V.str x=V.str i∧V.str y=V.str j∧i.length + j.length ≤ sizeLine∧Q (.str (i ++ j)) H)=(x.length + y.length ≤ sizeLine∧Q (.str (x ++ y)) H):=propext
 ⟨fun ⟨_,_,e1,e2,h⟩=>by cases e1; cases e2; exact h,fun h=>⟨_,_,rfl,rfl,h⟩⟩

def ringTxt (r:List Int):List Nat:=inter [32] (r.map fun z=>dg z.toNat)
def shTxt (rs:List (List Int)):List Nat:=(rs.map fun r=>40 :: (ringTxt r ++ [41])).flatten
theorem sh_inner:∀ {rs:List (List Int)},rs ≠ []→shTxt rs=40 :: (inter [41,40] (rs.map ringTxt) ++ [41])
 | [],h=>absurd rfl h
 | [r],_=>by simp [shTxt,inter]
 | r :: r' :: rs,_=>by
  have ih:=sh_inner (rs:=r' :: rs) (by simp)
  have e:shTxt (r :: r' :: rs)=(40 :: (ringTxt r ++ [41])) ++ shTxt (r' :: rs):=by unfold shTxt; rw [List.map_cons,List.flatten_cons]
  have e2:inter [41,40] ((r :: r' :: rs).map ringTxt)=ringTxt r ++ [41,40] ++ inter [41,40] ((r' :: rs).map ringTxt):=rfl
  rw [e,ih,e2]
  simp
theorem mem_inter {sep:List Nat} {c:Nat}:∀ {ls:List (List Nat)},c ∈ inter sep ls→c ∈ sep∨∃ p ∈ ls,c ∈ p
 | [],h=>by cases h
 | [p],h=>.inr ⟨p,List.mem_cons_self,h⟩
 | p :: q :: ls,h=>by
  rw [inter] at h
  rcases List.mem_append.mp h with h | h
  ·rcases List.mem_append.mp h with h | h
   ·exact .inr ⟨p,List.mem_cons_self,h⟩
   ·exact .inl h
  ·rcases mem_inter h with h | ⟨z,hz,hc⟩
   ·exact .inl h
   ·exact .inr ⟨z,List.mem_cons_of_mem _ hz,hc⟩
theorem inter_len {sep:List Nat} {b:Nat}:∀ {ls:List (List Nat)},(∀ p ∈ ls,p.length ≤ b)→(inter sep ls).length ≤ ls.length * (b + sep.length)
 | [],_=>by simp [inter]
 | [p],h=>by
  have:=h p List.mem_cons_self
  simp [inter]
  omega
 | p :: q :: ls,h=>by
  have h1:=h p List.mem_cons_self
  have ih:=inter_len (sep:=sep) (ls:=q :: ls) fun z hz=>h z (List.mem_cons_of_mem _ hz)
  rw [inter,List.length_append,List.length_append,List.length_cons,Nat.add_mul,Nat.one_mul]
  omega
theorem dg_len (k:Nat):(dg k).length ≤ 2:=by unfold dg; split <;> simp
theorem ringTxt_no {r:List Int} (h:∀ z ∈ r,0 ≤ z∧z < 16):¬ 41 ∈ ringTxt r:=fun hc=>by
 rcases mem_inter hc with h1 | ⟨p,hp,h2⟩
 ·simp at h1
 ·obtain ⟨z,hz,rfl⟩:=List.mem_map.mp hp
  exact (dg_no z.toNat (by have:=h z hz; omega)).2.2.1 h2
theorem ringTxt_len {r:List Int} (h:r.length ≤ 16):(ringTxt r).length ≤ 48:=by
 have:=inter_len (sep:=[32]) (b:=2) (ls:=r.map fun z=>dg z.toNat) fun p hp=>by
  obtain ⟨z,_,rfl⟩:=List.mem_map.mp hp
  exact dg_len _
 rw [List.length_map] at this
 unfold ringTxt
 simp at this
 omega
theorem join_fold (w:Nat):∀ (ls:List PySem.Str) (b acc:Nat),(∀ p ∈ ls,p.length ≤ b)→ls.foldl (fun n p=>n + p.length + w) acc ≤ acc + ls.length * (b + w)
 | [],_,_,_=>by simp
 | p :: ls,b,acc,h=>by
  have h1:=h p List.mem_cons_self
  have ih:=join_fold w ls b (acc + p.length + w) fun z hz=>h z (List.mem_cons_of_mem _ hz)
  rw [List.foldl_cons,List.length_cons,Nat.add_mul,Nat.one_mul]
  omega
theorem joinOk_small {sep:PySem.Str} {ls:List PySem.Str} {b:Nat} (h:∀ p ∈ ls,p.length ≤ b) (hb:ls.length * (b + sep.length) ≤ 1000):JoinOk sep ls=true:=by
 unfold JoinOk
 have:=join_fold sep.length ls b 0 h
 rw [List.foldl_toArray]
 have e:(List.foldl (fun x1 x2=>x1 + PySem.Str.length x2 + sep.length) 0 ls) ≤ 1000:=by omega
 rw [Bool.not_eq_true',]
 unfold Builtin.Str.tooLong
 exact decide_eq_false (by rw [sizeLine_eq]; omega)
end L2

set_option maxHeartbeats 4000000
namespace L2
open PySem PySem.Spec PyProof.Rows

structure RoomN (k:Nat) (A:Around):Prop where
 dp:A.depth + 3 * k + 5 < recursionLimit
 un:A.units + 16 * k + 200 < cLine
structure FnOkN (P:Program) (w:World) (K:PySem.W.Frag) (mg:Str→Option Value) (base:Heap) (CX:CXT) (k:Nat) (f:Addr) (fd:FuncData) (ps:List Str) (sp:Sp):Prop where
 len:∀ vs H Q E,sp vs H Q E→vs.length=ps.length
 run:∀ (A:Around) (outer:List Env) (s:Shared) (H:Hp) (args:Args) (us:List Value) (vs:List V) (Q:VK) (E:XK),RoomN k A→Env0 P w K mg base A outer s H→BindsTo s fd args (ps.zip us)→Vals vs us→sp vs H Q E →
  codeAny (model P w) A (.call (.ref f) args) (CR CX outer P w H s Q E) s
section
variable {X:Cx} {CX:CXT} {k:Nat} {f C:Addr} {fd:FuncData} {ps:List Str} {sp:Sp} {dvs:List V} {ds:List Value} {E:XK} {x m:Str} {p pos apos:Pos} {e o:Expr} {es:List Expr} {ta:TE} {t:TA}
end
section
variable {P:Program} {w:World} {K:PySem.W.Frag} {mg:Str→Option Value} {base:Heap}
end
end L2

set_option maxHeartbeats 4000000
namespace L2
open PySem PySem.Builtin PySem.Builtin.Str PySem.StrLaws Mth

theorem tn_of (s:PySem.Str):∃ l,s=Tn l:=⟨s.cps.toList,by cases s; simp [Tn]⟩
theorem tns_of:∀ (ss:List PySem.Str),∃ ls:List (List Nat),ss=ls.map Tn
 | []=>⟨[],rfl⟩
 | s :: ss=>by
  obtain ⟨l,e⟩:=tn_of s
  obtain ⟨ls,es⟩:=tns_of ss
  exact ⟨l :: ls,by rw [e,es]; rfl⟩
theorem strjoin_tn (sep:List Nat):∀ (ls:List (List Nat)),PySem.Str.join (Tn sep) (ls.map Tn)=Tn (inter sep ls)
 | []=>rfl
 | [x]=>rfl
 | x :: y :: r=>by
  show Tn x ++ Tn sep ++ PySem.Str.join (Tn sep) ((y :: r).map Tn)=_
  rw [strjoin_tn sep (y :: r),tn_app,tn_app]
  rfl
theorem cut_any (sep x:List Nat):∃ ls:List (List Nat),Txt.split (Tn x) (Tn sep)=ls.map Tn∧inter sep ls=x:=by
 obtain ⟨ls,e⟩:=tns_of (Txt.split (Tn x) (Tn sep))
 refine ⟨ls,e,?_⟩
 have:=join_split (Tn x) (Tn sep)
 rw [e,strjoin_tn] at this
 exact tn_inj this
theorem inter_long {sep:List Nat}:∀ (ls:List (List Nat)),0 < sep.length→ls.length ≤ (inter sep ls).length + 1
 | [],_=>Nat.zero_le _
 | [x],_=>by simp
 | x :: y :: r,h=>by
  have:=inter_long (sep:=sep) (y :: r) h
  have e:inter sep (x :: y :: r)=x ++ sep ++ inter sep (y :: r):=rfl
  rw [e,List.length_append,List.length_append]
  simp only [List.length_cons] at this ⊢
  omega
theorem inter_part {sep:List Nat}:∀ {ls:List (List Nat)} {p:List Nat},p ∈ ls→p.length ≤ (inter sep ls).length
 | [x],p,h=>by rw [List.mem_singleton.mp h]; exact Nat.le_refl _
 | x :: y :: r,p,h=>by
  have e:inter sep (x :: y :: r)=x ++ sep ++ inter sep (y :: r):=rfl
  rw [e,List.length_append,List.length_append]
  rcases List.mem_cons.mp h with rfl | h
  ·omega
  ·have:=inter_part (sep:=sep) h
   omega
theorem starts_any (l:List Nat) (c:Nat):Txt.startswith (Tn l) (Tn [c])=true ↔ ∃ x,l=c :: x:=by
 constructor
 ·intro h
  unfold Txt.startswith at h
  rw [sub_at,Bool.and_eq_true,decide_eq_true_eq,decide_eq_true_eq] at h
  cases l with
  | nil=>exact absurd h.2 (by simp)
  | cons a x =>
   have:a=c:=by simpa using h.2
   exact ⟨x,by rw [this]⟩
 ·rintro ⟨x,rfl⟩
  exact starts_tn c x
theorem ends_any (l:List Nat) (c:Nat):Txt.endswith (Tn l) (Tn [c])=true ↔ ∃ x,l=x ++ [c]:=by
 constructor
 ·intro h
  unfold Txt.endswith at h
  rw [sub_at,Bool.and_eq_true,decide_eq_true_eq,decide_eq_true_eq,tn_len,tn_len] at h
  rcases List.eq_nil_or_concat l with rfl | ⟨x,a,rfl⟩
  ·exact absurd h.2 (by simp)
  ·rw [List.concat_eq_append] at h ⊢
   have e:(x ++ [a]).length - [c].length=x.length:=by simp
   rw [e,List.drop_left] at h
   have:a=c:=by simpa using h.2
   exact ⟨x,by rw [this]⟩
 ·rintro ⟨x,rfl⟩
  exact ends_tn c x
theorem outer_any (l:List Nat):(∃ x,l=40 :: (x ++ [41])) ↔ (∃ x,l=40 :: x)∧∃ x,l=x ++ [41]:=by
 constructor
 ·rintro ⟨x,rfl⟩
  exact ⟨⟨_,rfl⟩,⟨40 :: x,rfl⟩⟩
 ·rintro ⟨⟨x,rfl⟩,⟨y,e⟩⟩
  cases y with
  | nil=>cases e
  | cons a y =>
   rw [List.cons_append] at e
   injection e with e1 e2
   exact ⟨y,by rw [e2]⟩

structure Ok8 (n:Nat) (rs:List (List Int)):Prop where
 len:∀ r ∈ rs,2 ≤ r.length
 mem:∀ r ∈ rs,∀ z ∈ r,0 ≤ z∧z < n
 nd:rs.flatten.Nodup
structure Row8 (n:Nat) (rs:List (List Int)) (row:List Int):Prop where
 len:row.length=n
 nx:∀ r ∈ rs,∀ (i:Nat) (z:Int),r[i]?=some z→r[(i + 1) % r.length]?=some (row.getD z.toNat 0)
 st:∀ k:Nat,k < n→¬ (k:Int) ∈ rs.flatten→row.getD k 0=(k:Int)
theorem Row8.unique {n:Nat} {rs:List (List Int)} {a b:List Int} (ha:Row8 n rs a) (hb:Row8 n rs b):a=b:=by
 refine List.ext_getElem (by rw [ha.len,hb.len]) fun k h1 h2=>?_
 have e:a.getD k 0=b.getD k 0:=by
  by_cases c:(k:Int) ∈ rs.flatten
  ·obtain ⟨r,hr,hz⟩:=List.mem_flatten.mp c
   obtain ⟨i,hi⟩:=List.mem_iff_getElem?.mp hz
   have x1:=ha.nx r hr i _ hi
   have x2:=hb.nx r hr i _ hi
   rw [Int.toNat_natCast] at x1 x2
   rw [x1] at x2
   exact Option.some.inj x2
  ·rw [ha.st k (by rw [← ha.len]; exact h1) c,hb.st k (by rw [← ha.len]; exact h1) c]
 rw [List.getD_eq_getElem?_getD,List.getD_eq_getElem?_getD,List.getElem?_eq_getElem h1,List.getElem?_eq_getElem h2] at e
 exact e

structure MS where
 rs:List (List Int)
 ring:List Int
 word:List Nat
 ins:Bool
def valOf:List Nat→Option Nat
 | [a]=>some (a - 48)
 | [a,b]=>if a=48 then none else some (10 * (a - 48) + (b - 48))
 | _=>none
def usedOf (st:MS):List Int:=st.rs.flatten ++ (if st.ins=true then st.ring else [])
def seatOf (n:Nat) (w:List Nat) (used:List Int):Option Int:=match valOf w with
 | some v=>if v < n∧¬ (v:Int) ∈ used then some (v:Int) else none
 | none=>none
def stepM (n:Nat) (st:MS) (c:Nat):Option MS :=
 if st.ins=true∧(c=32∨c=41) then
  match seatOf n st.word (usedOf st) with
  | none=>none
  | some z=>if c=41 then (if st.ring.length + 1 < 2 then none else some ⟨st.rs ++ [st.ring ++ [z]],st.ring ++ [z],[],false⟩) else some ⟨st.rs,st.ring ++ [z],[],true⟩
 else if st.ins=true∧48 ≤ c∧c ≤ 57 then some ⟨st.rs,st.ring,st.word ++ [c],true⟩
 else if c=40∧st.ins=false then some ⟨st.rs,[],st.word,true⟩
 else none
def runM (n:Nat):MS→List Nat→Option MS
 | st,[]=>some st
 | st,c :: l=>match stepM n st c with
  | none=>none
  | some st'=>runM n st' l
theorem run_app (n:Nat):∀ (l m:List Nat) (st:MS),runM n st (l ++ m)=match runM n st l with
  | none=>none
  | some st'=>runM n st' m
 | [],_,_=>rfl
 | c :: l,m,st=>by
  show (match stepM n st c with | none=>none | some st'=>runM n st' (l ++ m))=match (match stepM n st c with | none=>none | some st'=>runM n st' l) with | none=>none | some st'=>runM n st' m
  cases stepM n st c with
  | none=>rfl
  | some st'=>exact run_app n l m st'
theorem val_dg:∀ v,v < 16→valOf (dg v)=some v:=by decide
theorem dg_dig:∀ v,v < 16→∀ c ∈ dg v,48 ≤ c∧c ≤ 57:=by decide
theorem dg_val {w:List Nat} {v:Nat} (hd:∀ c ∈ w,48 ≤ c∧c ≤ 57) (h:valOf w=some v) (hv:v < 16):w=dg v:=by
 match w,h with
 | [a],h =>
  have ha:=hd a (by simp)
  have:a - 48=v:=Option.some.inj h
  unfold dg
  rw [if_pos (by omega)]
  congr 1
  omega
 | [a,b],h =>
  have ha:=hd a (by simp)
  have hb:=hd b (by simp)
  have h':(if a=48 then none else some (10 * (a - 48) + (b - 48)))=some v:=h
  split at h'
  ·cases h'
  ·have:=Option.some.inj h'
   unfold dg
   rw [if_neg (by omega)]
   have e1:a=49:=by omega
   have e2:b=38 + v:=by omega
   rw [e1,e2]
theorem seat_some {n:Nat} {w:List Nat} {u:List Int} {z:Int} (hd:∀ c ∈ w,48 ≤ c∧c ≤ 57) (n16:n ≤ 16) (h:seatOf n w u=some z):w=dg z.toNat∧0 ≤ z∧z < n∧¬ z ∈ u:=by
 unfold seatOf at h
 cases e:valOf w with
 | none=>rw [e] at h; cases h
 | some v =>
  rw [e] at h
  simp only at h
  split at h
  ·rename_i c
   have:=Option.some.inj h
   subst this
   exact ⟨by rw [Int.toNat_natCast]; exact dg_val hd e (by omega),by omega,by omega,c.2⟩
  ·cases h
theorem seat_dg {n:Nat} {u:List Int} {z:Int} (n16:n ≤ 16) (h0:0 ≤ z) (h1:z < n) (hu:¬ z ∈ u):seatOf n (dg z.toNat) u=some z:=by
 unfold seatOf
 rw [val_dg _ (by omega)]
 simp only
 rw [if_pos ⟨by omega,by rw [Int.toNat_of_nonneg h0]; exact hu⟩,Int.toNat_of_nonneg h0]
def preTxt (r:List Int):List Nat:=(r.map fun z=>dg z.toNat ++ [32]).flatten
theorem ring_snoc:∀ (r:List Int) (z:Int),ringTxt (r ++ [z])=preTxt r ++ dg z.toNat
 | [],z=>rfl
 | [y],z=>by
  show dg y.toNat ++ [32] ++ dg z.toNat=_
  simp [preTxt]
 | y :: x :: r,z=>by
  have ih:=ring_snoc (x :: r) z
  have e:ringTxt (y :: x :: r ++ [z])=dg y.toNat ++ [32] ++ ringTxt (x :: r ++ [z]):=rfl
  rw [e,ih]
  simp [preTxt]
theorem sh_snoc (rs:List (List Int)) (r:List Int):shTxt (rs ++ [r])=shTxt rs ++ (40 :: (ringTxt r ++ [41])):=by
 unfold shTxt
 rw [List.map_append,List.flatten_append]
 simp
structure Inv8 (n:Nat) (st:MS) (l:List Nat):Prop where
 txt:l=shTxt st.rs ++ (if st.ins=true then 40 :: (preTxt st.ring ++ st.word) else [])
 ok:Ok8 n st.rs
 mem:st.ins=true→∀ z ∈ st.ring,0 ≤ z∧z < n
 nd:(usedOf st).Nodup
 dig:∀ c ∈ st.word,48 ≤ c∧c ≤ 57
 wo:st.ins=false→st.word=[]
theorem Inv8.init (n:Nat):Inv8 n ⟨[],[],[],false⟩ []:=⟨rfl,⟨fun r h=>(by cases h),fun r h=>(by cases h),List.nodup_nil⟩,fun h=>(by cases h),List.nodup_nil,fun c h=>(by cases h),fun _=>rfl⟩
theorem Inv8.step {n:Nat} (n16:n ≤ 16) {st st':MS} {l:List Nat} {c:Nat} (I:Inv8 n st l) (h:stepM n st c=some st'):Inv8 n st' (l ++ [c]):=by
 obtain ⟨rs,ring,word,ins⟩:=st
 obtain ⟨I1,I2,I3,I4,I5,I6⟩:=I
 unfold stepM at h
 by_cases h1:ins=true∧(c=32∨c=41)
 ·rw [if_pos h1] at h
  obtain ⟨rfl,hc⟩:=h1
  dsimp only at h I1 I3 I4 I5 I6
  cases hs:seatOf n word (usedOf ⟨rs,ring,word,true⟩) with
  | none=>rw [hs] at h; cases h
  | some z =>
   rw [hs] at h
   dsimp only at h
   obtain ⟨w1,w2,w3,w4⟩:=seat_some I5 n16 hs
   have hnd:(rs.flatten ++ (ring ++ [z])).Nodup:=by
    rw [← List.append_assoc]
    have I4':(rs.flatten ++ ring).Nodup:=I4
    have w4':¬ z ∈ rs.flatten ++ ring:=w4
    exact List.nodup_append.mpr ⟨I4',by simp,fun a ha b hb e=>w4' (by rw [← List.mem_singleton.mp hb,← e]; exact ha)⟩
   have hmem:∀ y ∈ ring ++ [z],0 ≤ y∧y < (n:Int):=fun y hy=>by
    rcases List.mem_append.mp hy with e | e
    ·exact I3 rfl y e
    ·rw [List.mem_singleton.mp e]; exact ⟨w2,w3⟩
   rw [if_pos rfl] at I1
   by_cases hc41:c=41
   ·subst hc41
    rw [if_pos rfl] at h
    split at h
    ·cases h
    ·rename_i hl
     cases h
     refine ⟨?_,⟨fun r hr=>?_,fun r hr=>?_,?_⟩,fun z=>(by cases z),?_,fun c hc=>(by cases hc),fun _=>rfl⟩
     ·show l ++ [41]=shTxt (rs ++ [ring ++ [z]]) ++ (if false=true then _ else [])
      rw [if_neg (by decide),List.append_nil,sh_snoc,ring_snoc,I1,w1]
      simp
     ·rcases List.mem_append.mp hr with e | e
      ·exact I2.len r e
      ·rw [List.mem_singleton.mp e,List.length_append,List.length_singleton]; omega
     ·rcases List.mem_append.mp hr with e | e
      ·exact I2.mem r e
      ·rw [List.mem_singleton.mp e]; exact hmem
     ·rw [List.flatten_append]; simpa using hnd
     ·show ((rs ++ [ring ++ [z]]).flatten ++ (if false=true then _ else [])).Nodup
      rw [if_neg (by decide),List.append_nil,List.flatten_append]; simpa using hnd
   ·rw [if_neg hc41] at h
    cases h
    have hc32:c=32:=by rcases hc with e | e; exact e; exact absurd e hc41
    subst hc32
    refine ⟨?_,I2,fun _=>hmem,hnd,fun c hc=>(by cases hc),fun z=>(by cases z)⟩
    show l ++ [32]=shTxt rs ++ (if true=true then 40 :: (preTxt (ring ++ [z]) ++ []) else [])
    rw [if_pos rfl,I1,w1]
    simp [preTxt]
 ·rw [if_neg h1] at h
  by_cases h2:ins=true∧48 ≤ c∧c ≤ 57
  ·rw [if_pos h2] at h
   cases h
   obtain ⟨rfl,hc⟩:=h2
   refine ⟨?_,I2,I3,I4,fun d hd=>?_,fun z=>(by cases z)⟩
   ·dsimp only at I1
    rw [if_pos rfl] at I1
    show l ++ [c]=shTxt rs ++ (if true=true then 40 :: (preTxt ring ++ (word ++ [c])) else [])
    rw [if_pos rfl,I1]
    simp
   ·rcases List.mem_append.mp hd with e | e
    ·exact I5 d e
    ·rw [List.mem_singleton.mp e]; exact hc
  ·rw [if_neg h2] at h
   by_cases h3:c=40∧ins=false
   ·rw [if_pos h3] at h
    cases h
    obtain ⟨rfl,rfl⟩:=h3
    have hw:=I6 rfl
    dsimp only at hw I1 I4
    subst hw
    rw [if_neg (by decide),List.append_nil] at I1
    refine ⟨?_,I2,fun _ z hz=>(by cases hz),?_,fun c hc=>(by cases hc),fun z=>(by cases z)⟩
    ·show l ++ [40]=shTxt rs ++ (if true=true then 40 :: (preTxt [] ++ []) else [])
     rw [if_pos rfl,I1]
     simp [preTxt]
    ·show (rs.flatten ++ (if true=true then [] else [])).Nodup
     have I4':(rs.flatten ++ (if false=true then ring else [])).Nodup:=I4
     simpa using I4'
   ·rw [if_neg h3] at h
    cases h
theorem run_inv {n:Nat} (n16:n ≤ 16):∀ (m l:List Nat) {st st':MS},Inv8 n st l→runM n st m=some st'→Inv8 n st' (l ++ m)
 | [],l,st,st',I,h=>by cases h; rw [List.append_nil]; exact I
 | c :: m,l,st,st',I,h=>by
  unfold runM at h
  cases e:stepM n st c with
  | none=>rw [e] at h; cases h
  | some s2 =>
   rw [e] at h
   have:=run_inv n16 m (l ++ [c]) (I.step n16 e) h
   rwa [List.append_assoc] at this
theorem run_digs (n:Nat) (rs:List (List Int)) (ring:List Int):∀ (ds w:List Nat),(∀ c ∈ ds,48 ≤ c∧c ≤ 57)→runM n ⟨rs,ring,w,true⟩ ds=some ⟨rs,ring,w ++ ds,true⟩
 | [],w,_=>by rw [List.append_nil]; rfl
 | c :: ds,w,h=>by
  have hc:=h c List.mem_cons_self
  have e:stepM n ⟨rs,ring,w,true⟩ c=some ⟨rs,ring,w ++ [c],true⟩:=by
   unfold stepM
   rw [if_neg (fun z=>by rcases z.2 with y | y <;> omega),if_pos ⟨rfl,hc⟩]
  unfold runM
  rw [e]
  simp only
  rw [run_digs n rs ring ds (w ++ [c]) fun d hd=>h d (List.mem_cons_of_mem _ hd),List.append_assoc]
  rfl
theorem run_ring {n:Nat} (n16:n ≤ 16) (rs:List (List Int)):∀ (rest don:List Int),rest ≠ []→(∀ z ∈ rest,0 ≤ z∧z < n)→(rs.flatten ++ (don ++ rest)).Nodup→2 ≤ (don ++ rest).length →
  runM n ⟨rs,don,[],true⟩ (ringTxt rest ++ [41])=some ⟨rs ++ [don ++ rest],don ++ rest,[],false⟩
 | [],_,h,_,_,_=>absurd rfl h
 | [z],don,_,hm,nd,hl=>by
  have hz:=hm z List.mem_cons_self
  have hu:¬ z ∈ rs.flatten ++ don:=fun c=>by
   rw [← List.append_assoc] at nd
   exact (List.nodup_append.mp nd).2.2 z c z (List.mem_singleton.mpr rfl) rfl
  show runM n ⟨rs,don,[],true⟩ (dg z.toNat ++ [41])=_
  rw [run_app,run_digs n rs don _ _ (dg_dig _ (by omega))]
  show runM n ⟨rs,don,[] ++ dg z.toNat,true⟩ [41]=_
  have e:stepM n ⟨rs,don,[] ++ dg z.toNat,true⟩ 41=some ⟨rs ++ [don ++ [z]],don ++ [z],[],false⟩:=by
   unfold stepM
   rw [if_pos ⟨rfl,.inr rfl⟩]
   have hs:seatOf n ([] ++ dg z.toNat) (usedOf ⟨rs,don,[] ++ dg z.toNat,true⟩)=some z:=seat_dg n16 hz.1 hz.2 hu
   simp only [hs]
   rw [if_pos trivial,if_neg (by rw [List.length_append,List.length_singleton] at hl; omega)]
  unfold runM
  rw [e]
  rfl
 | z :: y :: r,don,_,hm,nd,hl=>by
  have hz:=hm z List.mem_cons_self
  have nd':(rs.flatten ++ ((don ++ [z]) ++ (y :: r))).Nodup:=by rw [List.append_assoc]; exact nd
  have hu:¬ z ∈ rs.flatten ++ don:=fun c=>by
   rw [← List.append_assoc] at nd
   exact (List.nodup_append.mp nd).2.2 z c z List.mem_cons_self rfl
  have ih:=run_ring n16 rs (y :: r) (don ++ [z]) (by simp) (fun x hx=>hm x (List.mem_cons_of_mem _ hx)) nd' (by rw [List.append_assoc]; exact hl)
  rw [List.append_assoc] at ih
  have et:ringTxt (z :: y :: r) ++ [41]=dg z.toNat ++ (32 :: (ringTxt (y :: r) ++ [41])):=by
   show dg z.toNat ++ [32] ++ ringTxt (y :: r) ++ [41]=_
   simp
  rw [et,run_app,run_digs n rs don _ _ (dg_dig _ (by omega))]
  show runM n ⟨rs,don,[] ++ dg z.toNat,true⟩ (32 :: (ringTxt (y :: r) ++ [41]))=_
  have e:stepM n ⟨rs,don,[] ++ dg z.toNat,true⟩ 32=some ⟨rs,don ++ [z],[],true⟩:=by
   unfold stepM
   rw [if_pos ⟨rfl,.inl rfl⟩]
   have hs:seatOf n ([] ++ dg z.toNat) (usedOf ⟨rs,don,[] ++ dg z.toNat,true⟩)=some z:=seat_dg n16 hz.1 hz.2 hu
   simp only [hs]
   rw [if_neg (by decide)]
  unfold runM
  rw [e]
  exact ih
theorem run_sh {n:Nat} (n16:n ≤ 16):∀ (rs1 rs0:List (List Int)) (q:List Int),Ok8 n (rs0 ++ rs1)→∃ q',runM n ⟨rs0,q,[],false⟩ (shTxt rs1)=some ⟨rs0 ++ rs1,q',[],false⟩
 | [],rs0,q,_=>⟨q,by rw [List.append_nil]; rfl⟩
 | r :: rs1,rs0,q,ok=>by
  have hr:r ∈ rs0 ++ r :: rs1:=List.mem_append_right _ List.mem_cons_self
  have ok':Ok8 n ((rs0 ++ [r]) ++ rs1):=by rw [List.append_assoc]; exact ok
  obtain ⟨q',ih⟩:=run_sh n16 rs1 (rs0 ++ [r]) ([] ++ r) ok'
  have hnd:(rs0.flatten ++ ([] ++ r)).Nodup:=by
   have:=ok.nd
   rw [List.flatten_append,List.flatten_cons,← List.append_assoc] at this
   rw [List.nil_append]
   exact (List.nodup_append.mp this).1
  have hl:=ok.len r hr
  have e1:=run_ring n16 rs0 r [] (fun z=>by rw [z] at hl; simp at hl) (ok.mem r hr) hnd (by rw [List.nil_append]; exact hl)
  refine ⟨q',?_⟩
  have et:shTxt (r :: rs1)=40 :: ((ringTxt r ++ [41]) ++ shTxt rs1):=by simp [shTxt]
  rw [et]
  have e0:stepM n ⟨rs0,q,[],false⟩ 40=some ⟨rs0,[],[],true⟩:=by
   unfold stepM
   rw [if_neg (fun z=>by cases z.1),if_neg (fun z=>by cases z.1),if_pos ⟨rfl,rfl⟩]
  unfold runM
  rw [e0]
  show runM n ⟨rs0,[],[],true⟩ ((ringTxt r ++ [41]) ++ shTxt rs1)=_
  rw [run_app,e1]
  simp only
  rw [List.append_assoc] at ih
  exact ih
end L2

set_option maxHeartbeats 4000000
namespace L2
open PySem PySem.Spec PyProof.Rows

def ItS (x:PySem.Str):It :=
 ⟨fun i H=>∃ c,x.cps[i]?=some c,fun i H v H'=>H'=H∧∃ c,x.cps[i]?=some c∧v=.str ⟨#[c]⟩,fun i _=>x.cps[i]?=none⟩
theorem turn_asc {P:Program} {w:World} {K:PySem.W.Frag} {tg:Expr} (x:PySem.Str) (t:Tok) (it:Addr):Turn P w K tg (ItS x) [it] it (fun i h=>h.IsStrIter it "str_ascii_iterator" x t i) where
 mem:=by simp
 obj:=fun i h st b hb=>by
  have e:b=it:=by simpa using hb
  subst e
  obtain ⟨o,e,c,d⟩:=st
  exact ⟨o,e,fun v z=>by rw [d] at z; cases z⟩
 keep:=fun i h h' st k=>let ⟨o,e,r⟩:=st; ⟨o,k it (by simp) o e,r⟩
 item:=by
  intro X hP hw hK hc i pins s σ H E I hf st hg
  subst hP hw hK
  obtain ⟨c,hx⟩:=hg
  obtain ⟨f0,f1,f2,f3,f4,f5⟩:=hf it (by simp)
  refine wpAny_pyNext_ascii_item st hx fun h' st' sb=>?_
  have I1:Inv X pins σ H { s with heap:=h',toks:=s.toks + 1 }:=I.turned (t':=s.toks + 1) (fun b o hb e=>(sb.2 b hb).trans e) f0 f1 f3 f4 f5
  obtain ⟨o,eo,c',d⟩:=id st'
  exact ⟨_,rfl,go_of (s:={ s with heap:=h',toks:=s.toks + 1 }) eo c' d (by decide) ⟨.str ⟨#[c]⟩,H,I1,⟨_,rfl⟩,⟨rfl,c,hx,rfl⟩,st',fun b hb=>(hf b hb).1⟩⟩
 done:=by
  intro X hP hw hK hc i pins s σ H E I hf st hg
  subst hP hw hK
  obtain ⟨f0,f1,f2,f3,f4,f5⟩:=hf it (by simp)
  exact wpAny_pyNext_ascii_end (I.ok.hd hc) st hg fun h' eb=>⟨rfl,I.turned (t':=s.toks) (fun b o hb e=>eb b o hb e) f0 f1 f3 f4 f5⟩
 self:=fun _ _ _ _ _ st h=>wpAny_pyIter_striter_ascii st h
theorem turn_wid {P:Program} {w:World} {K:PySem.W.Frag} {tg:Expr} (x:PySem.Str) (t:Tok) (it:Addr):Turn P w K tg (ItS x) [it] it (fun i h=>h.IsStrIter it "str_iterator" x t i) where
 mem:=by simp
 obj:=fun i h st b hb=>by
  have e:b=it:=by simpa using hb
  subst e
  obtain ⟨o,e,c,d⟩:=st
  exact ⟨o,e,fun v z=>by rw [d] at z; cases z⟩
 keep:=fun i h h' st k=>let ⟨o,e,r⟩:=st; ⟨o,k it (by simp) o e,r⟩
 item:=by
  intro X hP hw hK hc i pins s σ H E I hf st hg
  subst hP hw hK
  obtain ⟨c,hx⟩:=hg
  obtain ⟨f0,f1,f2,f3,f4,f5⟩:=hf it (by simp)
  refine wpAny_pyNext_wide_item st hx fun h' st' sb=>?_
  have I1:Inv X pins σ H { s with heap:=h',toks:=s.toks + 1 }:=I.turned (t':=s.toks + 1) (fun b o hb e=>(sb.2 b hb).trans e) f0 f1 f3 f4 f5
  obtain ⟨o,eo,c',d⟩:=id st'
  exact ⟨_,rfl,go_of (s:={ s with heap:=h',toks:=s.toks + 1 }) eo c' d (by decide) ⟨.str ⟨#[c]⟩,H,I1,⟨_,rfl⟩,⟨rfl,c,hx,rfl⟩,st',fun b hb=>(hf b hb).1⟩⟩
 done:=by
  intro X hP hw hK hc i pins s σ H E I hf st hg
  subst hP hw hK
  obtain ⟨f0,f1,f2,f3,f4,f5⟩:=hf it (by simp)
  exact wpAny_pyNext_wide_end (I.ok.hd hc) st hg fun h' eb=>⟨rfl,I.turned (t':=s.toks) (fun b o hb e=>eb b o hb e) f0 f1 f3 f4 f5⟩
 self:=fun _ _ _ _ _ st h=>wpAny_pyIter_striter_wide st h
def iStr (tl:TE):TI:=fun σ H R=>tl σ H fun v H1=>∃ x,v=.str x∧R (ItS x) H1
theorem pi_str {X:Cx} {tg l:Expr} {tl:TE} (hl:PE X l tl):PI X tg l (iStr tl):=by
 intro pins s σ H R I h
 refine thn (hl pins s σ H _ I h) fun u s1 ⟨v,H1,I1,r1,q1⟩=>?_
 obtain ⟨x,rfl,q⟩:=q1
 obtain ⟨t,rfl⟩:=r1
 have fpk:∀ {h':Heap},FpOk X pins H1 s1.heap.objs.size:=fun {h'}=>I1.fpOk (Nat.le_refl _) (I1.hok.fresh (Nat.le_refl _))
 cases ha:x.cps.all (· < 128)
 ·refine wpAny_pyIter_wide ha ⟨s1.heap.objs.size,[s1.heap.objs.size],_,_,H1,rfl,I1.kept (t':=s1.toks) fun b o e=>Heap.get?_push_of_some _ e,turn_wid x t _,⟨_,Heap.get?_push_size _ rfl,rfl,rfl⟩,fun c hc=>?_,q⟩
  have e:c=s1.heap.objs.size:=by simpa using hc
  rw [e]
  exact fpk (h':=s1.heap)
 ·refine wpAny_pyIter_ascii ha ⟨s1.heap.objs.size,[s1.heap.objs.size],_,_,H1,rfl,I1.kept (t':=s1.toks) fun b o e=>Heap.get?_push_of_some _ e,turn_asc x t _,⟨_,Heap.get?_push_size _ rfl,rfl,rfl⟩,fun c hc=>?_,q⟩
  have e:c=s1.heap.objs.size:=by simpa using hc
  rw [e]
  exact fpk (h':=s1.heap)
theorem r_iStr {tl:TE} {σ:St} {H:Hp} {R:It→Hp→Prop}:iStr tl σ H R=tl σ H fun v H1=>∃ x,v=.str x∧R (ItS x) H1:=rfl
theorem loop_str {l:List Nat} {g:TG} {tb:TS} {D:Ends} {σ:St} {H:Hp} (Pv:Nat→St→Hp→Prop) (h0:Pv 0 σ H)
  (hs:∀ i c σ H,l[i]?=some c→Pv i σ H→g (.str (Tn [c])) σ H fun σ2 H2=>tb { D with nx:=Pv (i + 1),ct:=Pv (i + 1),bk:=D.nx } σ2 H2) (hd:∀ σ H,Pv l.length σ H→D.nx σ H):Loop (ItS (Tn l)) g tb D σ H:=by
 have at_:∀ i:Nat,(Tn l).cps[i]?=l[i]?:=fun i=>by show l.toArray[i]?=_; simp
 refine ⟨fun i m σ H=>m=l.length - i∧i ≤ l.length∧Pv i σ H,⟨l.length,by simp,Nat.zero_le _,h0⟩,?_⟩
 rintro i m σ H ⟨rfl,hi,p⟩
 by_cases hlt:i < l.length
 ·refine .inr ⟨⟨l[i],by rw [at_]; simp [hlt]⟩,Pv (i + 1),fun σ' H' p'=>⟨l.length - (i + 1),by omega,rfl,hlt,p'⟩,fun x H' y=>?_⟩
  obtain ⟨rfl,c,hc,rfl⟩:=y
  rw [at_] at hc
  exact hs i c σ _ hc p
 ·have e:i=l.length:=by omega
  subst e
  exact .inl ⟨by show (Tn l).cps[l.length]?=none; rw [at_]; simp,hd σ H p⟩

def rIntS:List V→Hp→VK→Prop:=fun xs H Q=>∃ (z:PySem.Str) (n:Int),xs=[.str z]∧PySem.intText? z=some n∧z.length ≤ 640∧Q (.int n) H
theorem call_intS {X:Cx}:CallR X (.type "int") rIntS:=by
 intro pins s σ H xs us Q I r h
 obtain ⟨z,n,rfl,hn,hl,q⟩:=h
 obtain ⟨u,rfl,ru⟩:=vals1 r
 obtain ⟨t,rfl⟩:=ru
 exact PySem.W.KIN.call_text hn hl ⟨.int n,H,I.kept (t':=s.toks + 1) fun _ _ e=>e,⟨_,rfl⟩,q⟩
theorem r_intS {z:PySem.Str} {H:Hp} {Q:VK}:rIntS [.str z] H Q=∃ n,PySem.intText? z=some n∧z.length ≤ 640∧Q (.int n) H:=propext
 ⟨fun ⟨_,n,e,h⟩=>by cases e; exact ⟨n,h⟩,fun ⟨n,h⟩=>⟨_,n,rfl,h⟩⟩
theorem int_1:∀ a,a < 10→PySem.intText? (Tn [48 + a])=some ((a:Nat):Int):=by decide +kernel
theorem int_2:∀ a,a < 10→∀ b,b < 10→PySem.intText? (Tn [48 + a,48 + b])=some ((10 * a + b:Nat):Int):=by decide +kernel

def rSlA:V→Option Int→Option Int→Hp→VK→Prop:=fun x lo hi H Q=>∃ a,x=.str a∧a.length ≤ sizeLine∧Q (.str (Txt.slice a lo hi)) H
theorem sl_strA {X:Cx}:SlR X rSlA:=by
 intro pins s σ H x v vl vu lo hi sl Q I rx hs pl pu h
 obtain ⟨a,rfl,hz,q⟩:=h
 obtain ⟨t,rfl⟩:=rx
 refine ⟨"str",_,F.slot_str_getitem.lookup,typeIs_str _ _ _,?_⟩
 cases pl <;> cases pu
 ·refine wpAny_getItem_str_slice (l:=none) (u:=none) (st:=none) hs rfl (post_val_or_str ⟨Nat.le_trans (Txt.slice_le a _ _) hz,fun t' k=>?_⟩)
  exact ⟨.str _,H,I.kept (t':=k) fun _ _ e=>e,⟨t',rfl⟩,q⟩
 ·rename_i j tj
  refine wpAny_getItem_str_slice (l:=none) (u:=some (j,tj)) (st:=none) hs rfl (post_val_or_str ⟨Nat.le_trans (Txt.slice_le a _ _) hz,fun t' k=>?_⟩)
  exact ⟨.str _,H,I.kept (t':=k) fun _ _ e=>e,⟨t',rfl⟩,q⟩
 ·rename_i j tj
  refine wpAny_getItem_str_slice (l:=some (j,tj)) (u:=none) (st:=none) hs rfl (post_val_or_str ⟨Nat.le_trans (Txt.slice_le a _ _) hz,fun t' k=>?_⟩)
  exact ⟨.str _,H,I.kept (t':=k) fun _ _ e=>e,⟨t',rfl⟩,q⟩
 ·rename_i i ti j tj
  refine wpAny_getItem_str_slice (l:=some (i,ti)) (u:=some (j,tj)) (st:=none) hs rfl (post_val_or_str ⟨Nat.le_trans (Txt.slice_le a _ _) hz,fun t' k=>?_⟩)
  exact ⟨.str _,H,I.kept (t':=k) fun _ _ e=>e,⟨t',rfl⟩,q⟩
theorem r_slA {a:PySem.Str} {lo hi:Option Int} {H:Hp} {Q:VK}:rSlA (.str a) lo hi H Q=(a.length ≤ sizeLine∧Q (.str (Txt.slice a lo hi)) H):=propext
 ⟨fun ⟨_,e,h⟩=>by cases e; exact h,fun h=>⟨_,rfl,h⟩⟩
theorem r_ixS {z:PySem.Str} {i:Int} {H:Hp} {Q:VK}:rIxS (.str z) (.int i) H Q=∃ c,z.length ≤ sizeLine∧atI z.cps.toList i=some c∧Q (.str (Tn [c])) H:=propext
 ⟨fun ⟨_,_,c,e1,e2,h⟩=>by cases e1; cases e2; exact ⟨c,h⟩,fun ⟨c,h⟩=>⟨_,_,c,rfl,rfl,h⟩⟩

theorem in_sign (l:List Nat) (c:Nat):(!(Builtin.Str.occurrences (Tn l) (Tn [c]) 0 (Tn l).length 1).isEmpty)=decide (c ∈ l):=by
 have:=StrLaws.found_one (Tn l) c
 have e:(Tn l).cps.toList=l:=by show l.toArray.toList=l; simp
 rw [e] at this
 exact this
theorem r_inS {x y:PySem.Str} {H:Hp} {Q:VK}:(∃ i j,V.str x=V.str i∧V.str y=V.str j∧Q (.bl (!(Builtin.Str.occurrences j i 0 j.length 1).isEmpty)) H)=Q (.bl (!(Builtin.Str.occurrences y x 0 y.length 1).isEmpty)) H:=propext
 ⟨fun ⟨_,_,e1,e2,h⟩=>by cases e1; cases e2; exact h,fun h=>⟨_,_,rfl,rfl,h⟩⟩
theorem r_lenStr {x:PySem.Str} {H:Hp} {Q:VK}:(∃ z,[V.str x]=[V.str z]∧z.length ≤ sizeLine∧Q (.int z.length) H)=(x.length ≤ sizeLine∧Q (.int x.length) H):=propext
 ⟨fun ⟨_,e,h⟩=>by cases e; exact h,fun h=>⟨_,rfl,h⟩⟩

open Mth in
theorem words_of {n:Nat} (n16:n ≤ 16) {r:List Int} (hl:1 ≤ r.length) (hm:∀ z ∈ r,0 ≤ z∧z < n) {x:List Nat} {ws:List (List Nat)} (hx:x=ringTxt r) (hs:PySem.Txt.split (Tn x) (Tn [32])=ws.map Tn):ws=r.map fun z=>dg z.toNat:=by
 have hsp:=split_tn (c0:=32) (r:=[]) (by simp) (by decide) (ls:=r.map fun z=>dg z.toNat) (by intro z; rw [List.map_eq_nil_iff] at z; rw [z] at hl; simp at hl) (fun p hp=>by
  obtain ⟨z,hz',rfl⟩:=List.mem_map.mp hp
  exact (dg_no z.toNat (by have:=hm z hz'; omega)).1)
 have hsp:PySem.Txt.split (Tn (ringTxt r)) (Tn [32])=(r.map fun z=>dg z.toNat).map Tn:=hsp
 rw [hx,hsp] at hs
 exact ((List.map_inj_right fun a b z=>tn_inj z).mp hs).symm
theorem rings_of {n:Nat} (n16:n ≤ 16) {rs:List (List Int)} (hne:rs ≠ []) (hm:∀ r ∈ rs,∀ z ∈ r,0 ≤ z∧z < n) {x:List Nat} {ls:List (List Nat)} (hx:40 :: (x ++ [41])=shTxt rs) (hs:PySem.Txt.split (Tn x) (Tn [41,40])=ls.map Tn):ls=rs.map ringTxt:=by
 rw [sh_inner hne] at hx
 have ex:x=inter [41,40] (rs.map ringTxt):=by
  injection hx with _ e
  exact List.append_inj_left' e rfl
 have hsp:=split_tn (c0:=41) (r:=[40]) (by decide) (by decide) (ls:=rs.map ringTxt) (by simpa using hne) (fun p hp=>by
  obtain ⟨r,hr,rfl⟩:=List.mem_map.mp hp
  exact ringTxt_no fun z hz=>by have:=hm r hr z hz; omega)
 rw [ex,hsp] at hs
 exact ((List.map_inj_right fun a b z=>tn_inj z).mp hs).symm
theorem ring_inj {n:Nat} (n16:n ≤ 16) {r q:List Int} (l1:1 ≤ r.length) (l2:1 ≤ q.length) (h1:∀ z ∈ r,0 ≤ z∧z < n) (h2:∀ z ∈ q,0 ≤ z∧z < n) (e:ringTxt r=ringTxt q):r=q:=by
 obtain ⟨ws,hs,_⟩:=cut_any [32] (ringTxt r)
 have a:=words_of n16 l1 h1 rfl hs
 have b:=words_of n16 l2 h2 e hs
 rw [a] at b
 have hlen:r.length=q.length:=by have:=congrArg List.length b; simpa using this
 refine List.ext_getElem hlen fun i i1 i2=>?_
 have g:=congrArg (fun l:List (List Nat)=>l[i]?) b
 simp only [List.getElem?_map,List.getElem?_eq_getElem i1,List.getElem?_eq_getElem i2,Option.map_some] at g
 have m1:=h1 r[i] (List.getElem_mem i1)
 have m2:=h2 q[i] (List.getElem_mem i2)
 have:=dg_inj _ (by omega) _ (by omega) (Option.some.inj g)
 omega
theorem sh_inj {n:Nat} (n16:n ≤ 16) {rs qs:List (List Int)} (n1:rs ≠ []) (n2:qs ≠ []) (l1:∀ r ∈ rs,2 ≤ r.length) (l2:∀ r ∈ qs,2 ≤ r.length) (h1:∀ r ∈ rs,∀ z ∈ r,0 ≤ z∧z < n) (h2:∀ r ∈ qs,∀ z ∈ r,0 ≤ z∧z < n) (e:shTxt rs=shTxt qs):rs=qs:=by
 obtain ⟨ls,hs,_⟩:=cut_any [41,40] (inter [41,40] (rs.map ringTxt))
 have a:=rings_of n16 n1 h1 (sh_inner n1).symm hs
 have b:=rings_of n16 n2 h2 ((sh_inner n1).symm.trans e) hs
 rw [a] at b
 have hlen:rs.length=qs.length:=by have:=congrArg List.length b; simpa using this
 refine List.ext_getElem hlen fun i i1 i2=>?_
 have g:=congrArg (fun l:List (List Nat)=>l[i]?) b
 simp only [List.getElem?_map,List.getElem?_eq_getElem i1,List.getElem?_eq_getElem i2,Option.map_some] at g
 have m1:=List.getElem_mem i1
 have m2:=List.getElem_mem i2
 exact ring_inj n16 (by have:=l1 _ m1; omega) (by have:=l2 _ m2; omega) (h1 _ m1) (h2 _ m2) (Option.some.inj g)
end L2


open PySem L2
local macro_rules | `(tactic| walk_at "rd")=>`(tactic| (try simp (maxSteps:=2000000) only [L2.start,List.map_cons,List.map_nil,List.length_cons,List.length_nil,Nat.zero_add,Nat.reduceAdd,Nat.reduceSub,List.replicate,Nat.sub_self,Nat.sub_zero,
 r_seq,r_next,r_setOf,r_iStr,r_intS,r_slA,r_ixS,r_inS,r_lenStr,r_cut,r_stop,r_halt,r_addS,r_dget2,r_ends,r_join,r_lindexS,r_neStr,r_slS,r_split,r_starts,r_slL,r_lenZ,r_insert,r_drop,r_ret,r_retN,r_if,r_never,r_break,r_cont,r_asg,r_gname,r_gsub,r_gtupR,r_gnil,r_gcons,r_var,r_c,r_op,r_un,r_rI,r_rI0,r_rU,r_eqI,r_neI,r_eqB,r_neB,r_ebl,r_eint,r_eref,r_eargI,r_earg2,r_esome,r_test,r_tB,r_and,r_or,r_not,r_andV,r_orV,r_notV,
 r_chain,r_all,r_ifE,r_tup,r_lst,r_nil,r_cons,r_call,r_cb,r_bm,r_bm0,r_for,r_irng1,r_irng2,r_ilist,r_itup,r_comp,r_yes,r_append,r_len,r_listOf,r_tupOf,r_sorted,r_isinst,r_isinstC,r_range1,r_range2,r_listRng,r_ixL,r_ixT,r_eqS,r_in,r_notIn,r_popAt,r_setL,r_rep,r_ienum,r_eargR,r_tupRng,r_min,r_sum,r_while,r_neS,r_ints,r_raise,r_callX,r_try,r_isX,r_isXT,r_fldC,r_sfldC,r_methC,r_methCX,r_makeC,r_dgetK,r_dinK,r_dnotinK,r_dputK,r_lenD,r_dnew,r_ienumL,r_eqD,r_inD,r_notInD,r_try0,r_irev,r_idown,r_slice,r_nopart,r_part,r_slT,r_cat,r_clear,r_eqStr,r_sortedD,r_compD,r_tindex,r_bmT,r_hide,r_tupRev,r_lindexI,
 List.getElem?_cons_zero,List.getElem?_cons_succ,List.set_cons_zero,List.set_cons_succ,List.cons_append,List.nil_append,List.append_nil,
 decide_eq_true_eq,Bool.not_eq_true',decide_eq_false_iff_not,if_true,if_false,Bool.false_eq_true,List.drop_succ_cons,List.drop_zero]))
namespace Prf
open PySem L2 Mth
set_option maxHeartbeats 4000000
abbrev s_is_size:Stmt:=top 8
theorem sc_is_size:FnScope ["size"] ["size"] (defScope s_is_size):=⟨rfl,rfl,rfl,by decide +kernel,rfl,by decide +kernel,by decide +kernel⟩
abbrev s_need_size:Stmt:=top 9
theorem sc_need_size:FnScope ["size"] ["size"] (defScope s_need_size):=⟨rfl,rfl,rfl,by decide +kernel,rfl,by decide +kernel,by decide +kernel⟩
abbrev s_ring_texts:Stmt:=top 12
theorem sc_ring_texts:FnScope ["text"] ["text"] (defScope s_ring_texts):=⟨rfl,rfl,rfl,by decide +kernel,rfl,by decide +kernel,by decide +kernel⟩
abbrev s_ring_read:Stmt:=top 13
theorem sc_ring_read:FnScope ["text","figures","ring","word"] ["text","figures"] (defScope s_ring_read):=⟨rfl,rfl,rfl,by decide +kernel,rfl,by decide +kernel,by decide +kernel⟩
abbrev s_all_rings_read:Stmt:=top 14
theorem sc_all_rings_read:FnScope ["text","size","figures"] ["text","size"] (defScope s_all_rings_read):=⟨rfl,rfl,rfl,by decide +kernel,rfl,by decide +kernel,by decide +kernel⟩
abbrev s_sent_by_rings:Stmt:=top 15
theorem sc_sent_by_rings:FnScope ["found","size","sent","ring","place","seat"] ["found","size"] (defScope s_sent_by_rings):=⟨rfl,rfl,rfl,by decide +kernel,rfl,by decide +kernel,by decide +kernel⟩
abbrev s_read:Stmt:=top 16
theorem sc_read:FnScope ["text","size"] ["text","size"] (defScope s_read):=⟨rfl,rfl,rfl,by decide +kernel,rfl,by decide +kernel,by decide +kernel⟩
abbrev s_law_cell_at:Stmt:=top 18
theorem sc_law_cell_at:FnScope ["script","k"] ["script","k"] (defScope s_law_cell_at):=⟨rfl,rfl,rfl,by decide +kernel,rfl,by decide +kernel,by decide +kernel⟩
abbrev s_law_whole:Stmt:=top 19
theorem sc_law_whole:FnScope ["found"] ["found"] (defScope s_law_whole):=⟨rfl,rfl,rfl,by decide +kernel,rfl,by decide +kernel,by decide +kernel⟩
abbrev s_law_far:Stmt:=top 20
theorem sc_law_far:FnScope ["cell","size","left","row","k"] ["cell","size"] (defScope s_law_far):=⟨rfl,rfl,rfl,by decide +kernel,rfl,by decide +kernel,by decide +kernel⟩
abbrev s_law_same:Stmt:=top 21
theorem sc_law_same:FnScope ["found","due","x"] ["found","due"] (defScope s_law_same):=⟨rfl,rfl,rfl,by decide +kernel,rfl,by decide +kernel,by decide +kernel⟩
abbrev s_law_rings:Stmt:=top 22
theorem sc_law_rings:FnScope ["a","told","k","ring"] ["a"] (defScope s_law_rings):=⟨rfl,rfl,rfl,by decide +kernel,rfl,by decide +kernel,by decide +kernel⟩
abbrev s_law_text:Stmt:=top 23
theorem sc_law_text:FnScope ["parts","cell","whole","left","ring","cut"] ["parts","cell"] (defScope s_law_text):=⟨rfl,rfl,rfl,by decide +kernel,rfl,by decide +kernel,by decide +kernel⟩
abbrev s_law_sign:Stmt:=top 24
theorem sc_law_sign:FnScope ["cell","some"] ["cell"] (defScope s_law_sign):=⟨rfl,rfl,rfl,by decide +kernel,rfl,by decide +kernel,by decide +kernel⟩
abbrev s_law_changed:Stmt:=top 25
theorem sc_law_changed:FnScope ["text","cell","at","place","way"] ["text","cell","at"] (defScope s_law_changed):=⟨rfl,rfl,rfl,by decide +kernel,rfl,by decide +kernel,by decide +kernel⟩
abbrev s_law_odd:Stmt:=top 26
theorem sc_law_odd:FnScope ["cell","some"] ["cell"] (defScope s_law_odd):=⟨rfl,rfl,rfl,by decide +kernel,rfl,by decide +kernel,by decide +kernel⟩
abbrev s_law_seat:Stmt:=top 27
theorem sc_law_seat:FnScope ["word","size","used"] ["word","size","used"] (defScope s_law_seat):=⟨rfl,rfl,rfl,by decide +kernel,rfl,by decide +kernel,by decide +kernel⟩
abbrev s_law_due:Stmt:=top 28
theorem sc_law_due:FnScope ["text","size","row","used","ring","word","inside","sign","seat","k"] ["text","size"] (defScope s_law_due):=⟨rfl,rfl,rfl,by decide +kernel,rfl,by decide +kernel,by decide +kernel⟩
abbrev s_law_refused:Stmt:=top 29
theorem sc_law_refused:FnScope ["text","size","told","e"] ["text","size"] (defScope s_law_refused):=⟨rfl,rfl,rfl,by decide +kernel,rfl,by decide +kernel,by decide +kernel⟩
abbrev s_law:Stmt:=top 30
theorem sc_law:FnScope ["script","size","text","due"] ["script"] (defScope s_law):=⟨rfl,rfl,rfl,by decide +kernel,rfl,by decide +kernel,by decide +kernel⟩
set_option genInjectivity false in
set_option genSizeOf false in
structure Tx (K:PySem.W.Frag) (mg:Str→Option Value) where
 f_is_size:Addr
 d_is_size:FuncData
 F_is_size:Fun K "is_size" "is_size" s_is_size f_is_size d_is_size
 m_is_size:mg "is_size"=some (.ref f_is_size)
 b_is_size:Binds K d_is_size ["size"] []
 f_need_size:Addr
 d_need_size:FuncData
 F_need_size:Fun K "need_size" "need_size" s_need_size f_need_size d_need_size
 m_need_size:mg "need_size"=some (.ref f_need_size)
 b_need_size:Binds K d_need_size ["size"] []
 f_ring_texts:Addr
 d_ring_texts:FuncData
 F_ring_texts:Fun K "ring_texts" "ring_texts" s_ring_texts f_ring_texts d_ring_texts
 m_ring_texts:mg "ring_texts"=some (.ref f_ring_texts)
 b_ring_texts:Binds K d_ring_texts ["text"] []
 f_ring_read:Addr
 d_ring_read:FuncData
 F_ring_read:Fun K "ring_read" "ring_read" s_ring_read f_ring_read d_ring_read
 m_ring_read:mg "ring_read"=some (.ref f_ring_read)
 b_ring_read:Binds K d_ring_read ["text","figures"] []
 f_all_rings_read:Addr
 d_all_rings_read:FuncData
 F_all_rings_read:Fun K "all_rings_read" "all_rings_read" s_all_rings_read f_all_rings_read d_all_rings_read
 m_all_rings_read:mg "all_rings_read"=some (.ref f_all_rings_read)
 b_all_rings_read:Binds K d_all_rings_read ["text","size"] []
 f_sent_by_rings:Addr
 d_sent_by_rings:FuncData
 F_sent_by_rings:Fun K "sent_by_rings" "sent_by_rings" s_sent_by_rings f_sent_by_rings d_sent_by_rings
 m_sent_by_rings:mg "sent_by_rings"=some (.ref f_sent_by_rings)
 b_sent_by_rings:Binds K d_sent_by_rings ["found","size"] []
 f_read:Addr
 d_read:FuncData
 F_read:Fun K "read" "read" s_read f_read d_read
 m_read:mg "read"=some (.ref f_read)
 b_read:Binds K d_read ["text","size"] []
 f_law_cell_at:Addr
 d_law_cell_at:FuncData
 F_law_cell_at:Fun K "_law_cell_at" "_law_cell_at" s_law_cell_at f_law_cell_at d_law_cell_at
 m_law_cell_at:mg "_law_cell_at"=some (.ref f_law_cell_at)
 b_law_cell_at:Binds K d_law_cell_at ["script","k"] []
 f_law_whole:Addr
 d_law_whole:FuncData
 F_law_whole:Fun K "_law_whole" "_law_whole" s_law_whole f_law_whole d_law_whole
 m_law_whole:mg "_law_whole"=some (.ref f_law_whole)
 b_law_whole:Binds K d_law_whole ["found"] []
 f_law_far:Addr
 d_law_far:FuncData
 F_law_far:Fun K "_law_far" "_law_far" s_law_far f_law_far d_law_far
 m_law_far:mg "_law_far"=some (.ref f_law_far)
 b_law_far:Binds K d_law_far ["cell","size"] []
 f_law_same:Addr
 d_law_same:FuncData
 F_law_same:Fun K "_law_same" "_law_same" s_law_same f_law_same d_law_same
 m_law_same:mg "_law_same"=some (.ref f_law_same)
 b_law_same:Binds K d_law_same ["found","due"] []
 f_law_rings:Addr
 d_law_rings:FuncData
 F_law_rings:Fun K "_law_rings" "_law_rings" s_law_rings f_law_rings d_law_rings
 m_law_rings:mg "_law_rings"=some (.ref f_law_rings)
 b_law_rings:Binds K d_law_rings ["a"] []
 f_law_text:Addr
 d_law_text:FuncData
 F_law_text:Fun K "_law_text" "_law_text" s_law_text f_law_text d_law_text
 m_law_text:mg "_law_text"=some (.ref f_law_text)
 b_law_text:Binds K d_law_text ["parts","cell"] []
 f_law_sign:Addr
 d_law_sign:FuncData
 F_law_sign:Fun K "_law_sign" "_law_sign" s_law_sign f_law_sign d_law_sign
 m_law_sign:mg "_law_sign"=some (.ref f_law_sign)
 b_law_sign:Binds K d_law_sign ["cell"] []
 f_law_changed:Addr
 d_law_changed:FuncData
 F_law_changed:Fun K "_law_changed" "_law_changed" s_law_changed f_law_changed d_law_changed
 m_law_changed:mg "_law_changed"=some (.ref f_law_changed)
 b_law_changed:Binds K d_law_changed ["text","cell","at"] []
 f_law_odd:Addr
 d_law_odd:FuncData
 F_law_odd:Fun K "_law_odd" "_law_odd" s_law_odd f_law_odd d_law_odd
 m_law_odd:mg "_law_odd"=some (.ref f_law_odd)
 b_law_odd:Binds K d_law_odd ["cell"] []
 f_law_seat:Addr
 d_law_seat:FuncData
 F_law_seat:Fun K "_law_seat" "_law_seat" s_law_seat f_law_seat d_law_seat
 m_law_seat:mg "_law_seat"=some (.ref f_law_seat)
 b_law_seat:Binds K d_law_seat ["word","size","used"] []
 f_law_due:Addr
 d_law_due:FuncData
 F_law_due:Fun K "_law_due" "_law_due" s_law_due f_law_due d_law_due
 m_law_due:mg "_law_due"=some (.ref f_law_due)
 b_law_due:Binds K d_law_due ["text","size"] []
 f_law_refused:Addr
 d_law_refused:FuncData
 F_law_refused:Fun K "_law_refused" "_law_refused" s_law_refused f_law_refused d_law_refused
 m_law_refused:mg "_law_refused"=some (.ref f_law_refused)
 b_law_refused:Binds K d_law_refused ["text","size"] []
 f_law:Addr
 d_law:FuncData
 F_law:Fun K "law" "law" s_law f_law d_law
 m_law:mg "law"=some (.ref f_law)
 b_law:Binds K d_law ["script"] []
 c_RoomError:Addr
 k_RoomError:mg "RoomError"=some (.ref c_RoomError)
 x_RoomError:XCls K c_RoomError
 c_NoSize:Addr
 k_NoSize:mg "NoSize"=some (.ref c_NoSize)
 x_NoSize:XCls K c_NoSize
 c_Unreached:Addr
 k_Unreached:mg "Unreached"=some (.ref c_Unreached)
 x_Unreached:XCls K c_Unreached
 c_NotRead:Addr
 k_NotRead:mg "NotRead"=some (.ref c_NotRead)
 x_NotRead:XCls K c_NotRead
 y_RoomError_RoomError:PySem.W.mroIn K c_RoomError (.ref c_RoomError)=some true
 y_NoSize_RoomError:PySem.W.mroIn K c_NoSize (.ref c_RoomError)=some true
 y_NoSize_NoSize:PySem.W.mroIn K c_NoSize (.ref c_NoSize)=some true
 y_NoSize_Unreached:PySem.W.mroIn K c_NoSize (.ref c_Unreached)=some false
 y_NoSize_NotRead:PySem.W.mroIn K c_NoSize (.ref c_NotRead)=some false
 y_Unreached_Unreached:PySem.W.mroIn K c_Unreached (.ref c_Unreached)=some true
 y_NotRead_RoomError:PySem.W.mroIn K c_NotRead (.ref c_RoomError)=some true
 y_NotRead_NoSize:PySem.W.mroIn K c_NotRead (.ref c_NoSize)=some false
 y_NotRead_Unreached:PySem.W.mroIn K c_NotRead (.ref c_Unreached)=some false
 y_NotRead_NotRead:PySem.W.mroIn K c_NotRead (.ref c_NotRead)=some true
 t_LEAST_SIZE:Tok
 g_LEAST_SIZE:mg "LEAST_SIZE"=some (.int 1 t_LEAST_SIZE)
 t_GREATEST_SIZE:Tok
 g_GREATEST_SIZE:mg "GREATEST_SIZE"=some (.int 16 t_GREATEST_SIZE)
 t_REST:Tok
 g_REST:mg "REST"=some (.str (PySem.Str.ofString "()") t_REST)
 z_ValueError:mg "ValueError"=none
 z_bool:mg "bool"=none
 z_enumerate:mg "enumerate"=none
 z_int:mg "int"=none
 z_isinstance:mg "isinstance"=none
 z_len:mg "len"=none
 z_list:mg "list"=none
 z_min:mg "min"=none
 z_range:mg "range"=none
 z_str:mg "str"=none
 z_tuple:mg "tuple"=none
section
seal L2.PE L2.PA L2.PS L2.PSs L2.PT L2.PW L2.PI L2.PG L2.PGs L2.PO L2.PTs
variable {P:Program} {w:World} {K:PySem.W.Frag} {mg:Str→Option Value} {base:Heap}
def IsSeating (ns:List Int):Prop:=1 ≤ ns.length∧ns.length ≤ 16∧Seat ns.length ns
theorem rng_range (n:Nat):rngV 0 (n:Int)=(rangeI n).map V.int:=by
 unfold rngV rangeI
 rw [List.map_map]
 simp
theorem at_int {ns:List Int} {i:Nat} {x:V} (h:(ns.map V.int)[i]?=some x):∃ z:Int,x=.int z∧ns[i]?=some z:=by
 rw [List.getElem?_map] at h
 cases e:ns[i]? with
 | none=>rw [e] at h; cases h
 | some z=>rw [e] at h; exact ⟨z,(Option.some.inj h).symm,rfl⟩
theorem ix_of {n:Nat} {z:Int} (h0:0 ≤ z) (h1:z < n):ixN n z=some z.toNat:=by
 unfold ixN
 rw [if_pos h0,if_pos h1]
theorem map_set_int (ms:List Int) (j:Nat) (z:Int):(ms.map V.int).set j (.int z)=(ms.set j z).map V.int:=by
 rw [List.map_set]
theorem atI_int {ns:List Int} {z:Int} {y:Int} (h0:0 ≤ z) (h:ns[z.toNat]?=some y):atI (ns.map V.int) z=some (.int y):=by
 have e:z=((z.toNat:Nat):Int):=by omega
 have q:atI (ns.map V.int) ((z.toNat:Nat):Int)=some (.int y):=atI_nat (by rw [List.getElem?_map,h]; rfl)
 rw [← e] at q
 exact q
def Tups (H:Hp) (rs:List Addr) (zs:List (List Int)):Prop:=PySem.Paired (fun r (z:List Int)=>H r=some (.tup (z.map V.int))) rs zs
theorem Tups.mono {H H':Hp} {rs:List Addr} {zs:List (List Int)} (s:∀ b xs,H b=some (.tup xs)→H' b=some (.tup xs)) (h:Tups H rs zs):Tups H' rs zs:=L2.Paired.mapP h fun _ _ e=>s _ _ e
theorem Tups.same {H H':Hp} {rs:List Addr} {zs:List (List Int)} (s:Same H H') (h:Tups H rs zs):Tups H' rs zs:=h.mono fun b xs e=>s b _ e
theorem Tups.put {H:Hp} {rs:List Addr} {zs:List (List Int)} {l:Addr} {ys:List V} {o:HO} (hl:H l=some (.lst ys)) (h:Tups H rs zs):Tups (upd H l o) rs zs :=
 h.mono fun b xs e=>by rw [upd_ne (ne_of e hl (by intro z; cases z))]; exact e
theorem Tups.len {H:Hp} {rs:List Addr} {zs:List (List Int)} (h:Tups H rs zs):rs.length=zs.length:=PySem.Paired.length h
theorem Tups.snoc {H:Hp} {rs:List Addr} {zs:List (List Int)} {r:Addr} {z:List Int} (h:Tups H rs zs) (e:H r=some (.tup (z.map V.int))):Tups H (rs ++ [r]) (zs ++ [z]):=PySem.Paired.snoc h e
theorem Tups.get {H:Hp}:∀ {rs:List Addr} {zs:List (List Int)} {j:Nat} {r:Addr},Tups H rs zs→rs[j]?=some r→∃ z,zs[j]?=some z∧H r=some (.tup (z.map V.int))
 | _,_,_,_,.nil,e=>by simp at e
 | _,_,0,_,.cons h _,e=>by simp at e; subst e; exact ⟨_,rfl,h⟩
 | _,_,j + 1,r,.cons _ t,e=>by
  obtain ⟨z,e1,e2⟩:=Tups.get (j:=j) (r:=r) t (by simpa using e)
  exact ⟨z,by simpa using e1,e2⟩
theorem at_ref {rs:List Addr} {i:Nat} {x:V} (h:(rs.map V.ref)[i]?=some x):∃ r:Addr,x=.ref r∧rs[i]?=some r:=by
 rw [List.getElem?_map] at h
 cases e:rs[i]? with
 | none=>rw [e] at h; cases h
 | some z=>rw [e] at h; exact ⟨z,(Option.some.inj h).symm,rfl⟩
def sp_is_size:Sp:=fun vs H Q _=>∃ z:Int,vs=[.int z]∧∀ b:Bool,(b=true ↔ 1 ≤ z∧z ≤ 16)→Q (.bl b) H
theorem ok_is_size (T:Tx K mg):FnOk P w K mg base CX0 1 T.f_is_size T.d_is_size ["size"] sp_is_size:=by
 refine T.F_is_size.ok sc_is_size (fun vs H Q E h=>?_) (fun cdv A outer s H vs Q E hr h=>?_)
 ·obtain ⟨z,rfl,_⟩:=h
  rfl
 obtain ⟨z,rfl,q⟩:=h
 refine ⟨_,(pss_one (ps_ret (pe_chain op_le op_le (pe_gint rfl T.g_LEAST_SIZE) (pv 0) (pe_gint rfl T.g_GREATEST_SIZE)))),?_⟩
 walk_at "rd"
 split
 ·exact q _ (by rw [decide_eq_true_eq]; omega)
 ·rename_i hz
  exact q false ⟨fun h=>(by cases h),fun h=>absurd h.1 hz⟩
def sp_need_size (C:Addr):Sp:=fun vs H Q E=>∃ z:Int,vs=[.int z]∧(1 ≤ z∧z ≤ 16→Q .non H)∧(¬ (1 ≤ z∧z ≤ 16)→E (.ref C) none H)
theorem ok_need_size (T:Tx K mg):FnOk P w K mg base (CXX P w) 2 T.f_need_size T.d_need_size ["size"] (sp_need_size T.c_NoSize):=by
 refine T.F_need_size.okX sc_need_size (fun vs H Q E h=>?_) (fun cdv A outer s H vs Q E hr h=>?_)
 ·obtain ⟨z,rfl,_⟩:=h
  rfl
 obtain ⟨z,rfl,q1,q2⟩:=h
 refine ⟨_,(pss_one (ps_if (pt_not (pt_val (pe_call (ok_is_size T) (hr.mono (by decide)) rfl T.m_is_size T.F_is_size.kp T.b_is_size .nil pass0 (pa_cons (pv 0) pa_nil)))) (pss_one (ps_raise rfl T.x_NoSize rfl T.k_NoSize made_up (pa_cons pe_str pa_nil))) pss_nil)),?_⟩
 walk_at "rd"
 refine ⟨z,rfl,fun b hb=>?_⟩
 walk_at "rd"
 cases b with
 | true =>
  simp only [Bool.true_eq_false,if_false]
  exact q1 (hb.mp rfl)
 | false =>
  simp only [if_true]
  exact ⟨by decide,q2 fun z=>by have:=hb.mpr z; cases this⟩
def Rf (C:Addr) (H:Hp) (E:XK):Prop:=∀ H',Same H H'→E (.ref C) none H'
theorem c32:PySem.Str.ofString " "=Tn [32]:=by decide +kernel
theorem c40:PySem.Str.ofString "("=Tn [40]:=by decide +kernel
theorem c41:PySem.Str.ofString ")"=Tn [41]:=by decide +kernel
theorem c4140:PySem.Str.ofString ")("=Tn [41,40]:=by decide +kernel
theorem c4041:PySem.Str.ofString "()"=Tn [40,41]:=by decide +kernel
theorem cnil:PySem.Str.ofString ""=Tn []:=by decide +kernel
theorem log_small:∀ k,k < 16→k.log2 < 1920:=by decide
theorem fig {z:Int} (h0:0 ≤ z) (h1:z < 16):PySem.Str.ofString (toString z)=Tn (dg z.toNat)∧z.natAbs.log2 < 1920:=by
 obtain ⟨k,rfl⟩:∃ k:Nat,z=k:=⟨z.toNat,by omega⟩
 exact ⟨by rw [Int.toNat_natCast]; exact dg_str k (by omega),log_small _ (by omega)⟩
theorem small_str {n:Nat} (h:n ≤ 5000):n ≤ sizeLine:=by rw [PySem.sizeLine_eq]; omega
def sp_texts8 (D:Addr):Sp:=fun vs H Q E=>∃ l:List Nat,vs=[.str (Tn l)]∧l.length ≤ 2000∧(∀ x,l=40 :: (x ++ [41])→∀ (ls:List (List Nat)) (a:Addr) (H':Hp),PySem.Txt.split (Tn x) (Tn [41,40])=ls.map Tn→inter [41,40] ls=x→Same H H'→H' a=some (.lst (ls.map fun p=>V.str (Tn p)))→Q (.ref a) H')∧((¬ ∃ x,l=40 :: (x ++ [41]))→Rf D H E)
theorem ok_ring_texts (T:Tx K mg):FnOk P w K mg base (CXX P w) 1 T.f_ring_texts T.d_ring_texts ["text"] (sp_texts8 T.c_NotRead):=by
 refine T.F_ring_texts.okX sc_ring_texts (fun vs H Q E h=>?_) (fun cdv A outer s H vs Q E hr h=>?_)
 ·obtain ⟨l,rfl,_⟩:=h
  rfl
 obtain ⟨l,rfl,hl,q1,q2⟩:=h
 refine ⟨_,(pss_cons (ps_if (pt_not (PW.pt (pw_and (pt_val (pe_bmK (K:=K) rfl PySem.F.plainAttrs_str PySem.F.slot_str_startswith PySem.F.type_str_startswith mt_starts (pv 0) (pa_cons pe_str pa_nil))) (pw_and1 (pt_val (pe_bmK (K:=K) rfl PySem.F.plainAttrs_str PySem.F.slot_str_endswith PySem.F.type_str_endswith mt_ends (pv 0) (pa_cons pe_str pa_nil))))))) (pss_one (ps_raise rfl T.x_NotRead rfl T.k_NotRead made_up (pa_cons pe_str pa_nil))) pss_nil)
   (pss_one (ps_ret (pe_bmK (K:=K) rfl PySem.F.plainAttrs_str PySem.F.slot_str_split PySem.F.type_str_split mt_split (pe_slice sl_str (pv 0) (po_some pe_int) (po_some (pe_un un_neg pe_int))) (pa_cons pe_str pa_nil))))),?_⟩
 walk_at "rd"
 refine ⟨rfl,?_⟩
 rw [c40,c41]
 by_cases h1:∃ x,l=40 :: x
 ·rw [(starts_any l 40).mpr h1]
  walk_at "rd"
  refine ⟨rfl,?_⟩
  by_cases h2:∃ x,l=x ++ [41]
  ·rw [(ends_any l 41).mpr h2]
   obtain ⟨x,rfl⟩:=(outer_any l).mpr ⟨h1,h2⟩
   obtain ⟨ls,hs,hx⟩:=cut_any [41,40] x
   have hxl:x.length ≤ 2000:=by simp at hl; omega
   have hll:=inter_long (sep:=[41,40]) ls (by decide)
   rw [hx] at hll
   rw [if_neg (by decide)]
   refine ⟨by rw [tn_len]; exact small_str (by omega),?_⟩
   rw [slice_tn]
   refine ⟨rfl,?_⟩
   walk_at "rd"
   rw [c4140,hs]
   refine ⟨by decide,by rw [tn_len]; exact small_str (by omega),by rw [List.length_map]; exact small_str (by omega),fun a ha=>?_⟩
   rw [List.map_map]
   exact q1 x rfl ls a _ hs hx (same_new ha _) upd_same
  ·have:PySem.Txt.endswith (Tn l) (Tn [41])=false:=by
    cases e:PySem.Txt.endswith (Tn l) (Tn [41]) with
    | false=>rfl
    | true=>exact absurd ((ends_any l 41).mp e) h2
   rw [this,if_pos rfl]
   exact ⟨by decide,q2 (fun z=>h2 ((outer_any l).mp z).2) H (Same.refl _)⟩
 ·have:PySem.Txt.startswith (Tn l) (Tn [40])=false:=by
   cases e:PySem.Txt.startswith (Tn l) (Tn [40]) with
   | false=>rfl
   | true=>exact absurd ((starts_any l 40).mp e) h1
  rw [this]
  walk_at "rd"
  exact ⟨by decide,q2 (fun z=>h1 ((outer_any l).mp z).1) H (Same.refl _)⟩
def figsV (n:Nat):List V:=(List.range n).map fun k=>V.str (Tn (dg k))
theorem figs_flat (n:Nat):(figsV n).all flatV=true:=List.all_eq_true.mpr fun x hx=>by
 obtain ⟨k,_,rfl⟩:=List.mem_map.mp hx
 rfl
theorem figs_iff {n:Nat} {w:List Nat}:inV (.str (Tn w)) (figsV n)=true ↔ ∃ k,k < n∧w=dg k:=by
 unfold inV figsV
 rw [List.any_eq_true]
 constructor
 ·rintro ⟨y,hy,e⟩
  obtain ⟨k,hk,rfl⟩:=List.mem_map.mp hy
  have e':(Tn (dg k) == Tn w)=true:=e
  exact ⟨k,List.mem_range.mp hk,(tn_inj (beq_iff_eq.mp e')).symm⟩
 ·rintro ⟨k,hk,rfl⟩
  exact ⟨_,List.mem_map.mpr ⟨k,List.mem_range.mpr hk,rfl⟩,eqV_self rfl⟩
def sp_ring8 (D:Addr):Sp:=fun vs H Q E=>∃ (f:Addr) (x:List Nat) (n:Nat),vs=[.str (Tn x),.ref f]∧n ≤ 16∧x.length ≤ 2000∧H f=some (.lst (figsV n)) ∧
 (∀ r,x=ringTxt r→2 ≤ r.length→(∀ z ∈ r,0 ≤ z∧z < n)→∀ (l:Addr) (H':Hp),H l=none→Same H H'→H' l=some (.lst (r.map V.int))→Q (.ref l) H')∧((¬ ∃ r:List Int,x=ringTxt r∧2 ≤ r.length∧∀ z ∈ r,0 ≤ z∧z < n)→Rf D H E)
theorem ok_ring_read (T:Tx K mg):FnOk P w K mg base (CXX P w) 1 T.f_ring_read T.d_ring_read ["text","figures"] (sp_ring8 T.c_NotRead):=by
 refine T.F_ring_read.okX sc_ring_read (fun vs H Q E h=>?_) (fun cdv A outer s H vs Q E hr h=>?_)
 ·obtain ⟨f,x,n,rfl,_⟩:=h
  rfl
 obtain ⟨f,x,n,rfl,n2,hxl,hf,q1,q2⟩:=h
 obtain ⟨ws,hsp,hx⟩:=cut_any [32] x
 have hwl:=inter_long (sep:=[32]) ws (by decide)
 rw [hx] at hwl
 refine ⟨_,(pss_cons (ps_set (i:=2) sc_ring_read.nd rfl (Or.inl rfl) (pe_lst pa_nil))
   (pss_cons (ps_for PassesOwn.leaving rfl (pi_listK (K:=K) rfl (pe_bmK (K:=K) rfl PySem.F.plainAttrs_str PySem.F.slot_str_split PySem.F.type_str_split mt_split (pv 0) (pa_cons pe_str pa_nil))) (pg_name (i:=3) sc_ring_read.nd rfl (Or.inl rfl)) (pss_cons (ps_if (pt_cmpR (op_notIn_seqK (K:=K) rfl) (pv 3) (pv 1) (by with_unfolding_all rfl)) (pss_one (ps_raise rfl T.x_NotRead rfl T.k_NotRead made_up (pa_cons pe_str pa_nil))) pss_nil)
   (pss_one (ps_expr (pe_bmK (K:=K) rfl PySem.F.plainAttrs_list PySem.F.slot_list_append PySem.F.type_list_append mt_append (pv 2) (pa_cons (pe_bmK (K:=K) rfl PySem.F.plainAttrs_list PySem.F.slot_list_index PySem.F.type_list_index (mt_lindexS (K:=K)) (pv 1) (pa_cons (pv 3) pa_nil)) pa_nil))))))
   (pss_cons (ps_if (pt_cmpR op_lt (pe_callB (call_lenK (K:=K) rfl) (by rfl) T.z_len bt_len (pa_cons (pv 2) pa_nil)) pe_int (nomark _)) (pss_one (ps_raise rfl T.x_NotRead rfl T.k_NotRead made_up (pa_cons pe_str pa_nil))) pss_nil)
   (pss_one (ps_ret (pv 2)))))),?_⟩
 walk_at "rd"
 refine ⟨by decide,fun l hl=>?_⟩
 have s1:=same_new hl (.lst [])
 have e1:(upd H l (.lst [])) l=some (.lst []):=upd_same
 generalize upd H l (.lst [])=H1 at s1 e1
 refine ⟨rfl,?_⟩
 rw [c32,hsp]
 refine ⟨by decide,by rw [tn_len]; exact small_str (by omega),by rw [List.length_map]; exact small_str (by omega),fun w0 hw0=>?_⟩
 rw [List.map_map]
 have s2:=same_new hw0 (.lst (ws.map (V.str ∘ Tn)))
 have e2:(upd H1 w0 (.lst (ws.map (V.str ∘ Tn)))) w0=some (.lst (ws.map (V.str ∘ Tn))):=upd_same
 generalize upd H1 w0 (.lst (ws.map (V.str ∘ Tn)))=H2 at s2 e2
 have nwl:l ≠ w0:=ne_of_none e1 hw0
 refine ⟨⟨_,SqL.of e2⟩,?_⟩
 refine loop_list (xs:=ws.map (V.str ∘ Tn)) (fun i σ H3=>∃ (v3:Option V) (r:List Int),SEq σ [some (.str (Tn x)),some (.ref f),some (.ref l),v3]∧Same H H3∧H3 l=some (.lst (r.map V.int))∧H3 w0=some (.lst (ws.map (V.str ∘ Tn)))∧(ws.take i=r.map fun z=>dg z.toNat)∧∀ z ∈ r,0 ≤ z∧z < (n:Int))
  ⟨none,[],⟨rfl⟩,s1.trans s2,s2.at e1,e2,rfl,fun z hz=>(by cases hz)⟩ (fun i σ H3 _ ⟨_,_,_,_,_,h,_⟩=>SqL.of h) ?_ ?_
 ·rintro i y σ H3 hy ⟨v3,r,⟨rfl⟩,s3,e3,ew3,htk,hm⟩
  obtain ⟨wd,hwi,rfl⟩:∃ wd,ws[i]?=some wd∧y=V.str (Tn wd):=by
   rw [List.getElem?_map] at hy
   cases e:ws[i]? with
   | none=>rw [e] at hy; cases hy
   | some z=>rw [e] at hy; exact ⟨z,rfl,(Option.some.inj hy).symm⟩
  have hil:=(List.getElem?_eq_some_iff.mp hwi).1
  have hrl:r.length=i:=by
   have:=congrArg List.length htk
   rw [List.length_take,List.length_map] at this
   omega
  have hf3:=s3.at hf
  walk_at "rd"
  refine ⟨_,.inl (SqL.of hf3),rfl,figs_flat n,?_⟩
  by_cases hk:∃ k,k < n∧wd=dg k
  ·rw [figs_iff.mpr hk,if_neg (by decide)]
   obtain ⟨k,hkn,rfl⟩:=hk
   refine ⟨.inl ⟨rfl,_,SqL.of e3⟩,.inl ⟨rfl,_,SqL.of hf3⟩,?_⟩
   have ef:figsV n=((List.range n).map fun k=>Tn (dg k)).map V.str:=by unfold figsV; rw [List.map_map]; rfl
   refine ⟨_,k,by rw [hf3,ef],by rw [List.length_map,List.length_range]; omega,by rw [List.getElem?_map,List.getElem?_range hkn]; rfl,fun m hm' hc=>?_,?_⟩
   ·rw [List.getElem?_map,List.getElem?_range (by omega)] at hc
    have:=dg_inj m (by omega) k (by omega) (tn_inj (Option.some.inj hc))
    omega
   refine ⟨_,e3,small_str (by rw [List.length_map]; omega),_,r ++ [(k:Int)],⟨rfl⟩,same_put s3 hl _,by rw [upd_same,List.map_append]; rfl,by rw [upd_ne nwl.symm]; exact ew3,?_,fun z hz=>?_⟩
   ·rw [List.take_add_one,hwi,htk,List.map_append]
    rfl
   ·rcases List.mem_append.mp hz with e | e
    ·exact hm z e
    ·rw [List.mem_singleton.mp e]; omega
  ·have:inV (.str (Tn wd)) (figsV n)=false:=by
    cases e:inV (.str (Tn wd)) (figsV n) with
    | false=>rfl
    | true=>exact absurd (figs_iff.mp e) hk
   rw [this,if_pos rfl]
   refine ⟨by decide,q2 (fun ⟨r',h1,h2,h3⟩=>hk ?_) H3 s3⟩
   have hws:=words_of n2 (by omega) h3 h1 hsp
   rw [hws,List.getElem?_map] at hwi
   cases e:r'[i]? with
   | none=>rw [e] at hwi; cases hwi
   | some z =>
    rw [e] at hwi
    have b:=h3 z (List.mem_of_getElem? e)
    exact ⟨z.toNat,by omega,(Option.some.inj hwi).symm⟩
 ·rintro σ H3 ⟨v3,r,⟨rfl⟩,s3,e3,ew3,htk,hm⟩
  rw [List.length_map,List.take_length] at htk
  have hxr:x=ringTxt r:=by rw [← hx,htk]; rfl
  walk_at "rd"
  refine ⟨_,.inl (SqL.of e3),?_⟩
  walk_at "rd"
  rw [List.length_map]
  by_cases h2:2 ≤ r.length
  ·rw [if_neg (by omega)]
   exact q1 r hxr h2 hm l H3 hl s3 e3
  ·rw [if_pos (by omega)]
   refine ⟨by decide,q2 (fun ⟨r',h1,h2',h3⟩=>h2 ?_) H3 s3⟩
   have hws:=words_of n2 (by omega) h3 h1 hsp
   have:=congrArg List.length (htk.symm.trans hws)
   rw [List.length_map,List.length_map] at this
   omega
def Lsts (H:Hp) (ls:List Addr) (rs:List (List Int)):Prop:=PySem.Paired (fun a r=>H a=some (.lst (r.map V.int))) ls rs
theorem Lsts.same {H H':Hp} {ls:List Addr} {rs:List (List Int)} (s:Same H H') (h:Lsts H ls rs):Lsts H' ls rs:=L2.Paired.mapP h fun _ _ e=>s _ _ e
theorem Lsts.snoc {H:Hp}:∀ {ls:List Addr} {rs:List (List Int)} {a:Addr} {r:List Int},Lsts H ls rs→H a=some (.lst (r.map V.int))→Lsts H (ls ++ [a]) (rs ++ [r])
 | [],[],_,_,_,e=>.cons e .nil
 | _ :: _,_ :: _,_,_,.cons h t,e=>.cons h (Lsts.snoc t e)
theorem Lsts.get {H:Hp}:∀ {ls:List Addr} {rs:List (List Int)} {i:Nat} {a:Addr},Lsts H ls rs→ls[i]?=some a→∃ r,rs[i]?=some r∧H a=some (.lst (r.map V.int))
 | [],_,_,_,_,e=>by cases e
 | _ :: _,_ :: _,0,_,.cons h _,e=>by cases e; exact ⟨_,rfl,h⟩
 | _ :: _,_ :: _,i + 1,_,.cons _ t,e=>by
  obtain ⟨r,h1,h2⟩:=Lsts.get t (by simpa using e)
  exact ⟨r,by simpa using h1,h2⟩
structure Rd8 (n:Nat) (rs:List (List Int)):Prop where
 ne:rs ≠ []
 len:∀ r ∈ rs,2 ≤ r.length
 mem:∀ r ∈ rs,∀ z ∈ r,0 ≤ z∧z < n
def sp_all8 (D:Addr):Sp:=fun vs H Q E=>∃ (l:List Nat) (n:Nat),vs=[.str (Tn l),.int (n:Int)]∧n ≤ 16∧l.length ≤ 2000∧l ≠ [40,41] ∧
 (∀ rs,Rd8 n rs→rs.length ≤ 2001→l=shTxt rs→∀ (a:Addr) (ls:List Addr) (H':Hp),Same H H'→H' a=some (.lst (ls.map V.ref))→Lsts H' ls rs→Q (.ref a) H')∧((¬ ∃ rs,Rd8 n rs∧l=shTxt rs)→Rf D H E)
theorem ok_all_rings_read (T:Tx K mg):FnOk P w K mg base (CXX P w) 2 T.f_all_rings_read T.d_all_rings_read ["text","size"] (sp_all8 T.c_NotRead):=by
 refine T.F_all_rings_read.okX sc_all_rings_read (fun vs H Q E h=>?_) (fun cdv A outer s H vs Q E hr h=>?_)
 ·obtain ⟨l,n,rfl,_⟩:=h
  rfl
 obtain ⟨l,n,rfl,n2,hll,hnr,q1,q2⟩:=h
 refine ⟨_,(pss_cons (ps_set (i:=2) sc_all_rings_read.nd rfl (Or.inr rfl) (pe_compX rfl (M:=["seat"]) rfl (compScope_of (sc:=defScope s_all_rings_read) (N:=["text","size","figures"]) rfl rfl rfl (by decide +kernel) (by decide +kernel)) (pi_range1 (by rfl) T.z_range (pa_cons (pv 1) pa_nil)) (fun _ _ _ _ _=>(pg_name (i:=0) (by show (["seat","text","size","figures"]:List Str).Nodup; decide +kernel) rfl (Or.inl rfl))) (fun _ _ _ _ _=>pts_nil) (fun _ _ _ _ _=>(pe_callTy call_str_int (by rfl) T.z_str bt_str (pa_cons (pv 0) pa_nil)))))
   (pss_one (ps_ret (pe_compX rfl (M:=["part"]) rfl (compScope_of (sc:=defScope s_all_rings_read) (N:=["text","size","figures"]) rfl rfl rfl (by decide +kernel) (by decide +kernel)) (pi_listK (K:=K) rfl (pe_call (ok_ring_texts T) (hr.mono (by decide)) rfl T.m_ring_texts T.F_ring_texts.kp T.b_ring_texts .nil pass_up (pa_cons (pv 0) pa_nil))) (fun _ _ _ _ _=>(pg_name (i:=0) (by show (["part","text","size","figures"]:List Str).Nodup; decide +kernel) rfl (Or.inl rfl))) (fun _ _ _ _ _=>pts_nil) (fun _ _ _ _ _=>(pe_call (ok_ring_read T) (hr.mono (by decide)) rfl T.m_ring_read T.F_ring_read.kp T.b_ring_read .nil pass_blk (pa_cons (pv 0) (pa_cons (pv 3) pa_nil)))))))),?_⟩
 walk_at "rd"
 refine ⟨by omega,by omega,?_⟩
 rw [Int.toNat_natCast]
 refine comp_range (fun i ys H3=>H3=H∧ys=figsV i) ⟨rfl,rfl⟩ (small_str (by omega)) (fun i ys H3 h=>by rw [h.2]; unfold figsV; rw [List.length_map,List.length_range]; exact Nat.le_refl _) ?_ ?_
 ·rintro i ys H3 hi ⟨rfl,rfl⟩
  obtain ⟨f1,f2⟩:=fig (z:=0 + (i:Int)) (by omega) (by omega)
  walk_at "rd"
  refine ⟨trivial,f2,trivial,?_⟩
  rw [f1,show ((0:Int) + (i:Int)).toNat=i by omega]
  unfold figsV
  rw [List.range_succ,List.map_append]
  rfl
 ·rintro ys H3 ⟨rfl,rfl⟩ f hf
  have s1:=same_new hf (.lst (figsV n))
  have e1:(upd H3 f (.lst (figsV n))) f=some (.lst (figsV n)):=upd_same
  generalize upd H3 f (.lst (figsV n))=H1 at s1 e1
  walk_at "rd"
  refine ⟨l,rfl,hll,fun x hlx ps tl H2 hsp hix s2 e2=>⟨tl,rfl,⟨_,SqL.of e2⟩,?_⟩,fun no H' s'=>q2 (fun ⟨rs,hr8,e⟩=>no ⟨_,e.trans (sh_inner hr8.ne)⟩) H' (s1.trans s')⟩
  have hxl:x.length ≤ 2000:=by rw [hlx] at hll; simp at hll; omega
  have hpl:=inter_long (sep:=[41,40]) ps (by decide)
  rw [hix] at hpl
  have e12:=s2.at e1
  have same:∀ rs,Rd8 n rs→l=shTxt rs→ps=rs.map ringTxt:=fun rs hr8 e=>rings_of n2 hr8.ne hr8.mem (hlx.symm.trans e) hsp
  refine comp_list (xs:=ps.map fun p=>V.str (Tn p)) (fun i ys H4=>∃ (ls:List Addr) (rs:List (List Int)),ys=ls.map V.ref∧ls.length=i∧Same H2 H4∧Lsts H4 ls rs∧ps.take i=rs.map ringTxt∧(∀ r ∈ rs,2 ≤ r.length)∧∀ r ∈ rs,∀ z ∈ r,0 ≤ z∧z < (n:Int)) ⟨[],[],rfl,rfl,Same.refl _,.nil,rfl,fun r hr=>(by cases hr),fun r hr=>(by cases hr)⟩ (fun i ys H4 _ ⟨_,_,_,_,s4,_⟩=>SqL.of (s4.at e2)) (small_str (by rw [List.length_map]; omega)) (fun i ys H4 ⟨ls,_,e,hl,_⟩=>by rw [e,List.length_map,hl]; exact Nat.le_refl _) ?_ ?_
  ·rintro i y ys H4 hy ⟨ls,rs,rfl,hl,s4,ht,htk,hlen,hmem⟩
   obtain ⟨p,hpi,rfl⟩:∃ p,ps[i]?=some p∧y=V.str (Tn p):=by
    rw [List.getElem?_map] at hy
    cases e:ps[i]? with
    | none=>rw [e] at hy; cases hy
    | some z=>rw [e] at hy; exact ⟨z,rfl,(Option.some.inj hy).symm⟩
   have hpx:=inter_part (sep:=[41,40]) (List.mem_of_getElem? hpi)
   rw [hix] at hpx
   walk_at "rd"
   refine ⟨trivial,f,p,n,rfl,n2,by omega,s4.at e12,fun r hpr hr2 hrm a H5 ha s5 e5=>?_,fun no H' s'=>q2 (fun ⟨rs',hr8,e⟩=>no ?_) H' (s1.trans (s2.trans (s4.trans s')))⟩
   ·refine ⟨ls ++ [a],rs ++ [r],by rw [List.map_append]; rfl,by rw [List.length_append,hl]; rfl,s4.trans s5,(ht.same s5).snoc e5,?_,fun q hq=>?_,fun q hq=>?_⟩
    ·rw [List.take_add_one,hpi,htk,List.map_append,hpr]
     rfl
    ·rcases List.mem_append.mp hq with e | e
     ·exact hlen q e
     ·rw [List.mem_singleton.mp e]; exact hr2
    ·rcases List.mem_append.mp hq with e | e
     ·exact hmem q e
     ·rw [List.mem_singleton.mp e]; exact hrm
   ·have hps:=same rs' hr8 e
    rw [hps,List.getElem?_map] at hpi
    cases er:rs'[i]? with
    | none=>rw [er] at hpi; cases hpi
    | some r =>
     rw [er] at hpi
     have hm:=List.mem_of_getElem? er
     exact ⟨r,(Option.some.inj hpi).symm,hr8.len r hm,hr8.mem r hm⟩
  ·rintro ys H4 ⟨ls,rs,rfl,hl,s4,ht,htk,hlen,hmem⟩ p hp
   rw [List.length_map,List.take_length] at htk
   have hne:rs ≠ []:=fun z=>hnr (by
    rw [z] at htk
    have:ps=[]:=htk
    rw [this] at hix
    rw [hlx,← hix]
    rfl)
   have hlr:rs.length ≤ 2001:=by
    have:=congrArg List.length htk
    rw [List.length_map] at this
    omega
   walk_at "rd"
   exact q1 rs ⟨hne,hlen,hmem⟩ hlr (by rw [sh_inner hne,← htk,hix]; exact hlx) p ls _ ((s1.trans s2).trans (s4.trans (same_new hp _))) upd_same (ht.same (same_new hp _))
def kv8 (L:List (Int × Int)):List (Key × V):=L.map fun p=>(Sum.inl p.1,V.int p.2)
theorem val_kv8 (z:Int):∀ (L:List (Int × Int)),(∀ y,valV (kv8 L) (Sum.inl z)=some y→∃ v,y=.int v∧(z,v) ∈ L)∧(z ∈ L.map (·.1) ↔ (valV (kv8 L) (Sum.inl z)).isSome=true)
 | []=>⟨fun y h=>(by cases h),⟨fun h=>(by cases h),fun h=>(by cases h)⟩⟩
 | p :: L=>by
  obtain ⟨ih1,ih2⟩:=val_kv8 z L
  have hk:kv8 (p :: L)=((Sum.inl p.1:Key),V.int p.2) :: kv8 L:=rfl
  rw [hk]
  by_cases e:p.1=z
  ·subst e
   rw [valV_pos (p:=((Sum.inl p.1:Key),V.int p.2)) rfl]
   refine ⟨fun y h=>⟨p.2,(Option.some.inj h).symm,List.mem_cons_self⟩,⟨fun _=>rfl,fun _=>List.mem_cons_self⟩⟩
  ·rw [valV_neg (p:=((Sum.inl p.1:Key),V.int p.2)) (fun q=>e (Sum.inl.inj q))]
   refine ⟨fun y h=>?_,?_⟩
   ·obtain ⟨v,h1,h2⟩:=ih1 y h
    exact ⟨v,h1,List.mem_cons_of_mem _ h2⟩
   ·rw [List.map_cons,List.mem_cons,← ih2]
    exact ⟨fun h=>h.resolve_left fun q=>e q.symm,.inr⟩
theorem flat_one:∀ {rs:List (List Int)},rs.flatten.Nodup→∀ {r q:List Int} {z:Int},r ∈ rs→q ∈ rs→z ∈ r→z ∈ q→r=q
 | [],_,r,q,z,hr,_,_,_=>by cases hr
 | x :: rs,nd,r,q,z,hr,hq,hzr,hzq=>by
  rw [List.flatten_cons] at nd
  obtain ⟨n1,n2,n3⟩:=List.nodup_append.mp nd
  rcases List.mem_cons.mp hr with rfl | hr' <;> rcases List.mem_cons.mp hq with rfl | hq'
  ·rfl
  ·exact absurd rfl (n3 z hzr z (List.mem_flatten.mpr ⟨q,hq',hzq⟩))
  ·exact absurd rfl (n3 z hzq z (List.mem_flatten.mpr ⟨r,hr',hzr⟩))
  ·exact flat_one n2 hr' hq' hzr hzq
theorem flat_nd {rs:List (List Int)} (nd:rs.flatten.Nodup) {r:List Int} (hr:r ∈ rs):r.Nodup:=by
 obtain ⟨a,b,rfl⟩:=List.append_of_mem hr
 rw [List.flatten_append,List.flatten_cons] at nd
 exact (List.nodup_append.mp (List.nodup_append.mp nd).2.1).1
def nxt8 (L:List (Int × Int)) (k:Int):Int:=((L.find? fun p=>decide (p.1=k)).map (·.2)).getD k
theorem val_nxt (k:Int):∀ (L:List (Int × Int)),(valV (kv8 L) (Sum.inl k)).getD (.int k)=.int (nxt8 L k)
 | []=>rfl
 | p :: L=>by
  have ih:=val_nxt k L
  have hk:kv8 (p :: L)=((Sum.inl p.1:Key),V.int p.2) :: kv8 L:=rfl
  rw [hk]
  unfold nxt8 at ih ⊢
  by_cases e:p.1=k
  ·subst e
   rw [valV_pos (p:=((Sum.inl p.1:Key),V.int p.2)) rfl,List.find?_cons_of_pos (by simp)]
   rfl
  ·rw [valV_neg (p:=((Sum.inl p.1:Key),V.int p.2)) (fun q=>e (Sum.inl.inj q)),List.find?_cons_of_neg (by simpa using e)]
   exact ih
theorem nxt_row {n:Nat} {rs:List (List Int)} {L:List (Int × Int)} (hm:∀ r ∈ rs,∀ z ∈ r,0 ≤ z∧z < (n:Int)) (hL:L.map (·.1)=rs.flatten) (nd:rs.flatten.Nodup) (hnx:∀ p ∈ L,∃ r ∈ rs,∃ j:Nat,r[j]?=some p.1∧r[(j + 1) % r.length]?=some p.2):Row8 n rs ((List.range n).map fun k:Nat=>nxt8 L (k:Int)):=by
 have g:∀ k,k < n→((List.range n).map fun k:Nat=>nxt8 L (k:Int)).getD k 0=nxt8 L (k:Int):=fun k hk=>by
  rw [List.getD_eq_getElem?_getD,List.getElem?_map,List.getElem?_range hk]; rfl
 refine ⟨by rw [List.length_map,List.length_range],fun r hr i z hz=>?_,fun k hk hno=>?_⟩
 ·have hzr:=List.mem_of_getElem? hz
  have b:=hm r hr z hzr
  rw [g _ (by omega),Int.toNat_of_nonneg b.1]
  have hzL:z ∈ L.map (·.1):=by rw [hL]; exact List.mem_flatten.mpr ⟨r,hr,hzr⟩
  obtain ⟨p,hp,rfl⟩:=List.mem_map.mp hzL
  unfold nxt8
  cases e:L.find? fun q=>decide (q.1=p.1) with
  | none=>exact absurd (List.find?_eq_none.mp e p hp) (by simp)
  | some q =>
   have hq:=List.mem_of_find?_eq_some e
   have hqe:q.1=p.1:=by simpa using List.find?_some e
   obtain ⟨r',hr',j,j1,j2⟩:=hnx q hq
   rw [hqe] at j1
   have er:=flat_one nd hr hr' hzr (List.mem_of_getElem? j1)
   subst er
   have hij:i=j:=by
    obtain ⟨i1,i2⟩:=List.getElem?_eq_some_iff.mp hz
    obtain ⟨j3,j4⟩:=List.getElem?_eq_some_iff.mp j1
    exact (List.getElem_inj (flat_nd nd hr) (h₀:=i1) (h₁:=j3)).mp (i2.trans j4.symm)
   subst hij
   exact j2
 ·rw [g k hk]
  unfold nxt8
  cases e:L.find? fun q=>decide (q.1=(k:Int)) with
  | none=>rfl
  | some q =>
   have hq:=List.mem_of_find?_eq_some e
   have hqe:q.1=(k:Int):=by simpa using List.find?_some e
   exact absurd (by rw [← hL,← hqe]; exact List.mem_map.mpr ⟨q,hq,rfl⟩) hno
def sp_sent8 (D:Addr):Sp:=fun vs H Q E=>∃ (a:Addr) (ls:List Addr) (rs:List (List Int)) (n:Nat),vs=[.ref a,.int (n:Int)]∧H a=some (.lst (ls.map V.ref))∧Lsts H ls rs∧Rd8 n rs∧n ≤ 16 ∧
 (rs.flatten.Nodup→∀ (t:Addr) (row:List Int) (H':Hp),Same H H'→Row8 n rs row→H' t=some (.tup (row.map V.int))→Q (.ref t) H')∧(¬ rs.flatten.Nodup→Rf D H E)
theorem ok_sent_by_rings (T:Tx K mg):FnOk P w K mg base (CXX P w) 1 T.f_sent_by_rings T.d_sent_by_rings ["found","size"] (sp_sent8 T.c_NotRead):=by
 refine T.F_sent_by_rings.okX sc_sent_by_rings (fun vs H Q E h=>?_) (fun cdv A outer s H vs Q E hr h=>?_)
 ·obtain ⟨a,ls,rs,n,rfl,_⟩:=h
  rfl
 obtain ⟨l,ls,rs,n,rfl,hl,hls,hr8,n2,q1,q2⟩:=h
 have hu:=hu_of hr
 have hln:ls.length=rs.length:=PySem.Paired.length hls
 refine ⟨_,(pss_cons (ps_set (i:=2) sc_sent_by_rings.nd rfl (Or.inr rfl) pe_dnewK)
   (pss_cons (ps_for PassesOwn.leaving rfl (pi_listK (K:=K) rfl (pv 0)) (pg_name (i:=3) sc_sent_by_rings.nd rfl (Or.inl rfl)) (pss_one (ps_for PassesOwn.leaving rfl (pi_enumL (K:=K) rfl (by rfl) T.z_enumerate (pa_cons (pv 3) pa_nil)) (pg_tupK (K:=K) rfl rfl (pgs_cons (pg_name (i:=4) sc_sent_by_rings.nd rfl (Or.inl rfl)) (pgs_cons (pg_name (i:=5) sc_sent_by_rings.nd rfl (Or.inl rfl)) pgs_nil))) (pss_cons (ps_if (pt_cmp (pc_dinK hu (pv 5) (pv 2))) (pss_one (ps_raise rfl T.x_NotRead rfl T.k_NotRead made_up (pa_cons pe_str pa_nil))) pss_nil)
   (pss_one (ps_dputK hu (pv 2) (pv 5) (pe_ix (ix_listK (K:=K) rfl) (pv 3) (pe_op op_mod (pe_op op_add (pv 4) pe_int) (pe_callB (call_lenK (K:=K) rfl) (by rfl) T.z_len bt_len (pa_cons (pv 3) pa_nil))) (fun _ _=>rfl)) rfl))))))
   (pss_one (ps_hide (k:=5) (x:="%") (ps_ret (pe_callTy (call_tuple_ofK (K:=K) rfl) (by rfl) T.z_tuple bt_tuple (pa_cons (pe_comp (M:=["seat"]) rfl (compScope_of (sc:=defScope s_sent_by_rings) (N:=["found","size","sent","ring","place","%"]) rfl rfl rfl (by decide +kernel) (by decide +kernel)) (pi_range1 (by rfl) T.z_range (pa_cons (pv 1) pa_nil)) (fun _ _ _ _ _=>(pg_name (i:=0) (by show (["seat","found","size","sent","ring","place","%"]:List Str).Nodup; decide +kernel) rfl (Or.inl rfl))) (fun _ _ _ _ _=>pts_nil) (fun _ _ _ _ _=>(pe_dget2 hu (pv 3) (pv 0) (pv 0) ⟨rfl,rfl,rfl,rfl⟩))) pa_nil))))))),?_⟩
 walk_at "rd"
 intro d hd
 have s1:=same_new hd (.dK [])
 have e1:(upd H d (.dK [])) d=some (.dK (kv8 [])):=upd_same
 generalize upd H d (.dK [])=H1 at s1 e1
 refine ⟨⟨_,SqL.of (s1.at hl)⟩,?_⟩
 have few:∀ M:List Int,M.Nodup→(∀ z ∈ M,0 ≤ z∧z < (n:Int))→M.length ≤ n:=fun M h1 h2=>by
  have:=nodup_le (M:=rangeI n) h1 fun z hz=>mem_rangeI.mpr (h2 z hz)
  rwa [rangeI_len] at this
 refine loop_list (xs:=ls.map V.ref) (fun i σ H3=>∃ (v3 v4 v5:Option V) (L:List (Int × Int)),SEq σ [some (.ref l),some (.int (n:Int)),some (.ref d),v3,v4,v5]∧Same H H3∧H3 d=some (.dK (kv8 L))∧L.map (·.1)=(rs.take i).flatten∧(rs.take i).flatten.Nodup∧∀ p ∈ L,∃ r ∈ rs,∃ j:Nat,r[j]?=some p.1∧r[(j + 1) % r.length]?=some p.2) ⟨none,none,none,[],⟨rfl⟩,s1,e1,rfl,List.nodup_nil,fun p hp=>(by cases hp)⟩ (fun i σ H3 _ ⟨_,_,_,_,_,s3,_⟩=>SqL.of (s3.at hl)) ?_ ?_
 ·rintro i y σ H3 hy ⟨v3,v4,v5,L,⟨rfl⟩,s3,e3,hL,hnd,hnx⟩
  obtain ⟨a,rfl,hai⟩:=at_ref hy
  obtain ⟨r,hri,hra⟩:=hls.get hai
  have hm:=List.mem_of_getElem? hri
  have hlen:=hr8.len r hm
  have hra3:=s3.at hra
  have htake:(rs.take (i + 1)).flatten=(rs.take i).flatten ++ r:=by rw [List.take_add_one,hri,List.flatten_append]; simp
  have hpre:((rs.take i).flatten ++ r) ++ (rs.drop (i + 1)).flatten=rs.flatten:=by rw [← htake,← List.flatten_append,List.take_append_drop]
  have hin:∀ j,∀ z ∈ (rs.take i).flatten ++ r.take j,0 ≤ z∧z < (n:Int):=fun j z hz=>by
   rcases List.mem_append.mp hz with e | e
   ·obtain ⟨q,hq,hzq⟩:=List.mem_flatten.mp e
    exact hr8.mem q (List.mem_of_mem_take hq) z hzq
   ·exact hr8.mem r hm z (List.mem_of_mem_take e)
  walk_at "rd"
  refine ⟨⟨_,SqL.of hra3⟩,?_⟩
  refine loop_enumL (xs:=r.map V.int) (fun j σ H4=>∃ (v4 v5:Option V) (L:List (Int × Int)),SEq σ [some (.ref l),some (.int (n:Int)),some (.ref d),some (.ref a),v4,v5]∧Same H H4∧H4 d=some (.dK (kv8 L))∧L.map (·.1)=(rs.take i).flatten ++ r.take j∧((rs.take i).flatten ++ r.take j).Nodup∧∀ p ∈ L,∃ r ∈ rs,∃ j:Nat,r[j]?=some p.1∧r[(j + 1) % r.length]?=some p.2)
   ⟨v4,v5,L,⟨rfl⟩,s3,e3,by rw [List.take_zero,List.append_nil]; exact hL,by rw [List.take_zero,List.append_nil]; exact hnd,hnx⟩ (fun j σ H4 _ ⟨_,_,_,_,s4,_⟩=>SqL.of (s4.at hra)) ?_ ?_
  ·rintro j y σ H4 t hy ⟨v4,v5,L,⟨rfl⟩,s4,e4,hL,hnd,hnx⟩ ht
   obtain ⟨z,rfl,hzj⟩:=at_int hy
   have hjl:j < r.length:=(List.getElem?_eq_some_iff.mp hzj).1
   have s5:=s4.trans (same_new ht (.tup [.int j,.int z]))
   have e5:=(same_new ht (.tup [.int j,.int z])).at e4
   have ht5:(upd H4 t (.tup [.int j,.int z])) t=some (.tup [.int j,.int z]):=upd_same
   generalize upd H4 t (.tup [.int j,.int z])=H5 at s5 e5 ht5
   have hra5:=s5.at hra
   obtain ⟨k1,k2⟩:=val_kv8 z L
   have tk:r.take (j + 1)=r.take j ++ [z]:=by rw [List.take_add_one,hzj]; rfl
   walk_at "rd"
   refine ⟨_,SqT.of ht5,rfl,?_⟩
   walk_at "rd"
   refine ⟨trivial,_,e5,?_⟩
   by_cases hz:z ∈ L.map (·.1)
   ·rw [if_pos (k2.mp hz)]
    refine ⟨by decide,q2 (fun nd=>?_) H5 s5⟩
    rw [hL] at hz
    have hpart:((rs.take i).flatten ++ r.take j) ++ (r.drop j ++ (rs.drop (i + 1)).flatten)=rs.flatten:=by
     rw [← hpre,← List.append_assoc,List.append_assoc (rs.take i).flatten,List.take_append_drop]
    rw [← hpart] at nd
    have hzd:z ∈ r.drop j:=List.mem_of_getElem? (i:=0) (by rw [List.getElem?_drop]; simpa using hzj)
    exact (List.nodup_append.mp nd).2.2 z hz z (List.mem_append_left _ hzd) rfl
   ·have hvn:valV (kv8 L) (Sum.inl z)=none:=by
     cases e:valV (kv8 L) (Sum.inl z) with
     | none=>rfl
     | some v=>exact absurd (k2.mpr (by rw [e]; rfl)) hz
    rw [if_neg (by rw [hvn]; decide)]
    refine ⟨_,.inl (SqL.of hra5),?_⟩
    rw [List.length_map]
    have hjm:(j + 1) % r.length < r.length:=Nat.mod_lt _ (by omega)
    have hnext:r[(j + 1) % r.length]?=some r[(j + 1) % r.length]:=List.getElem?_eq_getElem hjm
    generalize r[(j + 1) % r.length]=y at hnext
    have hat:atI (r.map V.int) (((j:Int) + 1) % (r.length:Int))=some (.int y):=by
     rw [show ((j:Int) + 1) % (r.length:Int)=(((j + 1) % r.length:Nat):Int) by rw [Int.natCast_emod]; rfl]
     exact atI_nat (by rw [List.getElem?_map,hnext]; rfl)
    have hLl:L.length ≤ n:=by
     have:=few _ hnd (hin j)
     rw [← hL,List.length_map] at this
     exact this
    have hnd':((rs.take i).flatten ++ r.take (j + 1)).Nodup:=by
     rw [tk,← List.append_assoc]
     exact List.nodup_append.mpr ⟨hnd,by simp,fun a ha b hb e=>hz (by rw [hL,← List.mem_singleton.mp hb,← e]; exact ha)⟩
    refine ⟨by omega,_,_,SqL.of hra5,hat,_,e5,small_str (by unfold kv8; rw [List.length_map]; omega),?_⟩
    refine ⟨_,_,L ++ [(z,y)],⟨rfl⟩,same_put s5 hd _,?_,by rw [List.map_append,hL,tk,List.append_assoc]; rfl,hnd',fun p hp=>?_⟩
    ·rw [upd_same,putK_new _ hvn]
     unfold kv8
     simp
    ·rcases List.mem_append.mp hp with e | e
     ·exact hnx p e
     ·rw [List.mem_singleton.mp e]
      exact ⟨r,hm,j,hzj,hnext⟩
  ·rintro σ H4 ⟨v4,v5,L,⟨rfl⟩,s4,e4,hL,hnd,hnx⟩
   rw [List.length_map,List.take_length] at hL hnd
   exact ⟨_,_,_,L,⟨rfl⟩,s4,e4,by rw [htake]; exact hL,by rw [htake]; exact hnd,hnx⟩
 ·rintro σ H3 ⟨v3,v4,v5,L,⟨rfl⟩,s3,e3,hL,hnd,hnx⟩
  rw [List.length_map,hln,List.take_length] at hL hnd
  walk_at "rd"
  refine ⟨by omega,by omega,?_⟩
  rw [Int.toNat_natCast]
  refine comp_range (fun i ys H4=>H4=H3∧ys=((List.range i).map fun k:Nat=>nxt8 L (k:Int)).map V.int) ⟨rfl,rfl⟩ (small_str (by omega)) (fun i ys H4 h=>by rw [h.2,List.length_map,List.length_map,List.length_range]; exact Nat.le_refl _) ?_ ?_
  ·rintro i ys H4 hi ⟨rfl,rfl⟩
   walk_at "rd"
   refine ⟨trivial,.inl ⟨_,.inl e3⟩,valV (kv8 L) (Sum.inl (0 + (i:Int))),DGet.k (k:=Sum.inl (0 + (i:Int))) e3,trivial,?_⟩
   rw [val_nxt,Int.zero_add,List.range_succ,List.map_append,List.map_append]
   rfl
  ·rintro ys H4 ⟨rfl,rfl⟩ p hp
   have s5:=same_new hp (.lst (((List.range n).map fun k:Nat=>nxt8 L (k:Int)).map V.int))
   walk_at "rd"
   exact ⟨_,.inl ⟨SqL.of upd_same,fun t ht=>q1 hnd t _ _ (s3.trans (s5.trans (same_new ht _))) (nxt_row hr8.mem hL hnd hnx) upd_same⟩⟩
def sp_read8 (C D:Addr):Sp:=fun vs H Q E=>∃ (l:List Nat) (z:Int),vs=[.str (Tn l),.int z]∧l.length ≤ 2000∧(¬ (1 ≤ z∧z ≤ 16)→Rf C H E)∧(∀ n:Nat,z=n→1 ≤ n→n ≤ 16 →
 (l=[40,41]→∀ (t:Addr) (H':Hp),Same H H'→H' t=some (.tup ((rangeI n).map V.int))→Q (.ref t) H')∧(∀ rs,rs ≠ []→Ok8 n rs→l=shTxt rs→∀ (t:Addr) (row:List Int) (H':Hp),Same H H'→Row8 n rs row→H' t=some (.tup (row.map V.int))→Q (.ref t) H') ∧
 (l ≠ [40,41]→(¬ ∃ rs,rs ≠ []∧Ok8 n rs∧l=shTxt rs)→Rf D H E))
theorem ok_read (T:Tx K mg):FnOk P w K mg base (CXX P w) 3 T.f_read T.d_read ["text","size"] (sp_read8 T.c_NoSize T.c_NotRead):=by
 refine T.F_read.okX sc_read (fun vs H Q E h=>?_) (fun cdv A outer s H vs Q E hr h=>?_)
 ·obtain ⟨l,z,rfl,_⟩:=h
  rfl
 obtain ⟨l,z,rfl,hll,q0,q⟩:=h
 refine ⟨_,(pss_cons (ps_expr (pe_call (ok_need_size T) (hr.mono (by decide)) rfl T.m_need_size T.F_need_size.kp T.b_need_size .nil pass_up (pa_cons (pv 1) pa_nil)))
   (pss_cons (ps_if (pt_cmpR op_eq (pv 0) (pe_gstr rfl T.g_REST) (nomark _)) (pss_one (ps_ret (pe_callTy (call_tuple_rngR rfl) (by rfl) T.z_tuple bt_tuple (pa_cons (pe_callTy call_range1R (by rfl) T.z_range bt_range (pa_cons (pv 1) pa_nil)) pa_nil)))) pss_nil)
   (pss_one (ps_ret (pe_call (ok_sent_by_rings T) (hr.mono (by decide)) rfl T.m_sent_by_rings T.F_sent_by_rings.kp T.b_sent_by_rings .nil pass_up (pa_cons (pe_call (ok_all_rings_read T) (hr.mono (by decide)) rfl T.m_all_rings_read T.F_all_rings_read.kp T.b_all_rings_read .nil pass_up (pa_cons (pv 0) (pa_cons (pv 1) pa_nil))) (pa_cons (pv 1) pa_nil))))))),?_⟩
 walk_at "rd"
 refine ⟨z,rfl,fun hz=>?_,fun hz=>q0 hz H (Same.refl _)⟩
 obtain ⟨n,rfl⟩:∃ n:Nat,z=n:=⟨z.toNat,by omega⟩
 obtain ⟨q1,q2,q3⟩:=q n rfl (by omega) (by omega)
 walk_at "rd"
 by_cases hc:l=[40,41]
 ·subst hc
  rw [if_pos c4041.symm]
  refine ⟨by omega,by omega,fun p hp=>⟨0,n,upd_same,⟨by omega,by omega,by omega,by omega⟩,small100 (by omega),fun t0 ht0=>?_⟩⟩
  rw [rng_range]
  exact q1 rfl t0 _ ((same_new hp _).trans (same_new ht0 _)) upd_same
 ·rw [if_neg (by rw [c4041]; exact fun z=>hc (tn_inj z))]
  refine ⟨l,n,rfl,by omega,hll,hc,fun rs hr8 _ hlr a ls H1 s1 e1 hls=>?_,fun no=>q3 hc fun ⟨rs,h1,h2,h3⟩=>no ⟨rs,⟨h1,h2.len,h2.mem⟩,h3⟩⟩
  refine ⟨a,ls,rs,n,rfl,e1,hls,hr8,by omega,fun nd t row H2 s2 hrow e2=>q2 rs hr8.ne ⟨hr8.len,hr8.mem,nd⟩ hlr t row H2 (s1.trans s2) hrow e2,fun nnd H2 s2=>?_⟩
  refine q3 hc (fun ⟨rs',h1,h2,h3⟩=>nnd ?_) H2 (s1.trans s2)
  rw [sh_inj (show n ≤ 16 by omega) hr8.ne h1 hr8.len h2.len hr8.mem h2.mem (hlr.symm.trans h3)]
  exact h2.nd
def sp_law_cell_at (K:PySem.W.Frag):Sp:=fun vs H Q _=>∃ (a:Addr) (ns:List Int) (k:Int),vs=[.ref a,.int k]∧SqL K H a (ns.map V.int)∧0 ≤ k∧Q (.int (ns.getD k.toNat 0)) H
theorem ok_law_cell_at (T:Tx K mg):FnOk P w K mg base CX0 1 T.f_law_cell_at T.d_law_cell_at ["script","k"] (sp_law_cell_at K):=by
 refine T.F_law_cell_at.ok sc_law_cell_at (fun vs H Q E h=>?_) (fun cdv A outer s H vs Q E hr h=>?_)
 ·obtain ⟨a,ns,k,rfl,_⟩:=h
  rfl
 obtain ⟨a,ns,k,rfl,hS,h0,q⟩:=h
 refine ⟨_,(pss_cons (ps_if (pt_cmpR op_lt (pv 1) (pe_callB (call_lenK (K:=K) rfl) (by rfl) T.z_len bt_len (pa_cons (pv 0) pa_nil)) (nomark _)) (pss_one (ps_ret (pe_ix (ix_listK (K:=K) rfl) (pv 0) (pv 1) (fun _ _=>rfl)))) pss_nil)
   (pss_one (ps_ret pe_int))),?_⟩
 walk_at "rd"
 refine ⟨ns.map V.int,.inl hS,?_⟩
 walk_at "rd"
 rw [List.length_map]
 split
 ·rename_i hlt
  refine ⟨ns.map V.int,.int (ns.getD k.toNat 0),hS,?_,q⟩
  have ek:k=((k.toNat:Nat):Int):=by omega
  have z:atI (ns.map V.int) ((k.toNat:Nat):Int)=some (.int (ns.getD k.toNat 0)):=atI_nat (by
   rw [List.getElem?_map,List.getD_eq_getElem?_getD,List.getElem?_eq_getElem (by omega)]
   simp)
  rw [← ek] at z
  exact z
 ·rename_i hge
  have e:ns.getD k.toNat 0=0:=by
   rw [List.getD_eq_getElem?_getD,List.getElem?_eq_none (by omega)]
   rfl
  rw [e] at q
  exact q
def sp_law_whole:Sp:=fun vs H Q _=>∃ z:Int,vs=[.int z]∧Q (.bl true) H
theorem ok_law_whole (T:Tx K mg):FnOk P w K mg base CX0 1 T.f_law_whole T.d_law_whole ["found"] sp_law_whole:=by
 refine T.F_law_whole.ok sc_law_whole (fun vs H Q E h=>?_) (fun cdv A outer s H vs Q E hr h=>?_)
 ·obtain ⟨z,rfl,_⟩:=h
  rfl
 obtain ⟨z,rfl,q⟩:=h
 refine ⟨_,(pss_one (ps_ret (pe_and (pe_callB (call_isinstK (K:=K) rfl) (by rfl) T.z_isinstance bt_isinstance (pa_cons (pv 0) (pa_cons (pe_bty rfl T.z_int bt_int) pa_nil))) (pe_one (pe_not (pe_callB (call_isinstK (K:=K) rfl) (by rfl) T.z_isinstance bt_isinstance (pa_cons (pv 0) (pa_cons (pe_bty rfl T.z_bool bt_bool) pa_nil)))))))),?_⟩
 walk_at "rd"
 refine ⟨_,true,.int z,kit_int_int K,?_⟩
 walk_at "rd"
 refine ⟨_,false,.int z,kit_int_bool K,?_⟩
 walk_at "rd"
 exact q
theorem in_ints {k:Int} {ns:List Int}:inV (.int k) (ns.map V.int)=decide (k ∈ ns):=by
 unfold inV
 rw [Bool.eq_iff_iff,decide_eq_true_eq,List.any_eq_true]
 constructor
 ·rintro ⟨y,hy,e⟩
  obtain ⟨z,hz,rfl⟩:=List.mem_map.mp hy
  have:(z == k)=true:=e
  rw [← beq_iff_eq.mp this]
  exact hz
 ·intro h
  refine ⟨.int k,List.mem_map.mpr ⟨k,h,rfl⟩,?_⟩
  show (k == k)=true
  simp
def sp_seat8:Sp:=fun vs H Q _=>∃ (w:List Nat) (n:Nat) (u:Addr) (us:List Int),vs=[.str (Tn w),.int (n:Int),.ref u]∧(∀ c ∈ w,48 ≤ c∧c ≤ 57)∧w.length ≤ 2000∧H u=some (.lst (us.map V.int))∧Q (.int ((seatOf n w us).getD (-1))) H
theorem ok_law_seat (T:Tx K mg):FnOk P w K mg base CX0 1 T.f_law_seat T.d_law_seat ["word","size","used"] sp_seat8:=by
 refine T.F_law_seat.ok sc_law_seat (fun vs H Q E h=>?_) (fun cdv A outer s H vs Q E hr h=>?_)
 ·obtain ⟨w,n,u,us,rfl,_⟩:=h
  rfl
 obtain ⟨wd,n,u,us,rfl,hd,hwl,hu',q⟩:=h
 have lens:(Tn wd).length ≤ sizeLine:=by rw [tn_len]; exact small_str (by omega)
 refine ⟨_,(pss_cons (ps_if (PW.pt (pw_or (pt_cmpR op_eq (pv 0) pe_str (nomark _)) (pw_or (pt_cmpR op_gt (pe_callB call_len_str (by rfl) T.z_len bt_len (pa_cons (pv 0) pa_nil)) pe_int (nomark _)) (pw_or1 (PW.pt (pw_and (pt_cmpR op_eq (pe_ix ix_str (pv 0) pe_int (fun _ _=>rfl)) pe_str (nomark _)) (pw_and1 (pt_cmpR op_gt (pe_callB call_len_str (by rfl) T.z_len bt_len (pa_cons (pv 0) pa_nil)) pe_int (nomark _))))))))) (pss_one (ps_ret (pe_un un_neg pe_int))) pss_nil)
   (pss_cons (ps_if (PW.pt (pw_or (pt_cmpR op_ge (pe_callTy call_intS (by rfl) T.z_int bt_int (pa_cons (pv 0) pa_nil)) (pv 1) (nomark _)) (pw_or1 (pt_cmpR (op_in_seqK (K:=K) rfl) (pe_callTy call_intS (by rfl) T.z_int bt_int (pa_cons (pv 0) pa_nil)) (pv 2) (by with_unfolding_all rfl))))) (pss_one (ps_ret (pe_un un_neg pe_int))) pss_nil)
   (pss_one (ps_ret (pe_callTy call_intS (by rfl) T.z_int bt_int (pa_cons (pv 0) pa_nil)))))),?_⟩
 have fin:∀ v:Nat,valOf wd=some v→PySem.intText? (Tn wd)=some (v:Int)→wd.length ≤ 2→(∃ k,PySem.intText? (Tn wd)=some k∧(Tn wd).length ≤ 640∧if k ≥ (n:Int) then Q (.int (-1)) H else ∃ k,PySem.intText? (Tn wd)=some k∧(Tn wd).length ≤ 640∧∃ xs,(SqL K H u xs∨SqT K H u xs)∧flatV (.int k)=true∧xs.all flatV=true∧if inV (.int k) xs=true then Q (.int (-1)) H else ∃ k,PySem.intText? (Tn wd)=some k∧(Tn wd).length ≤ 640∧Q (.int k) H):=fun v hv hi hl=>by
  have h640:(Tn wd).length ≤ 640:=by rw [tn_len]; omega
  refine ⟨_,hi,h640,?_⟩
  unfold seatOf at q
  rw [hv] at q
  simp only at q
  by_cases c:v < n
  ·rw [if_neg (by omega)]
   refine ⟨_,hi,h640,_,.inl (SqL.of hu'),rfl,by simp [flatV],?_⟩
   rw [in_ints]
   by_cases d:(v:Int) ∈ us
   ·rw [decide_eq_true d,if_pos rfl]
    rw [if_neg (fun z=>z.2 d)] at q
    exact q
   ·rw [decide_eq_false d,if_neg (by decide)]
    rw [if_pos ⟨c,d⟩] at q
    exact ⟨_,hi,h640,q⟩
  ·rw [if_pos (by omega)]
   rw [if_neg (fun z=>c z.1)] at q
   exact q
 have c48:PySem.Str.ofString "0"=Tn [48]:=by decide +kernel
 walk_at "rd"
 rw [cnil,c48]
 match wd,hd,hwl,q,fin,lens with
 | [],_,_,q,_,_ =>
  rw [if_pos rfl]
  exact q
 | [a],hd,_,q,fin,lens =>
  have ha:=hd a List.mem_cons_self
  obtain ⟨k,rfl⟩:∃ k,a=48 + k:=⟨a - 48,by omega⟩
  rw [if_neg (fun z=>by have:=tn_inj z; cases this)]
  refine ⟨_,rfl,lens,?_⟩
  rw [if_neg (show ¬ (2:Int) < ((Tn [48 + k]).length:Int) by rw [tn_len]; simp)]
  refine ⟨48 + k,lens,rfl,?_⟩
  have fv:=fin k (by show some (48 + k - 48)=_; congr 1; omega) (int_1 k (by omega)) (show 1 ≤ 2 by decide)
  split
  ·refine ⟨_,rfl,lens,?_⟩
   rw [if_neg (show ¬ (1:Int) < ((Tn [48 + k]).length:Int) by rw [tn_len]; simp)]
   exact fv
  ·exact fv
 | [a,b],hd,_,q,fin,lens =>
  have ha:=hd a List.mem_cons_self
  have hb:=hd b (by simp)
  obtain ⟨k,rfl⟩:∃ k,a=48 + k:=⟨a - 48,by omega⟩
  obtain ⟨j,rfl⟩:∃ j,b=48 + j:=⟨b - 48,by omega⟩
  rw [if_neg (fun z=>by have:=tn_inj z; cases this)]
  refine ⟨_,rfl,lens,?_⟩
  rw [if_neg (show ¬ (2:Int) < ((Tn [48 + k,48 + j]).length:Int) by rw [tn_len]; simp)]
  refine ⟨48 + k,lens,rfl,?_⟩
  by_cases e:k=0
  ·subst e
   rw [if_pos rfl]
   refine ⟨_,rfl,lens,?_⟩
   rw [if_pos (show (1:Int) < ((Tn [48 + 0,48 + j]).length:Int) by rw [tn_len]; simp)]
   exact q
  ·rw [if_neg (fun z=>by have:=tn_inj z; injection this with h _; omega)]
   exact fin (10 * k + j) (by
    show (if 48 + k=48 then none else some (10 * (48 + k - 48) + (48 + j - 48)))=_
    rw [if_neg (by omega)]
    congr 1
    omega) (int_2 k (by omega) j (by omega)) (show 2 ≤ 2 by decide)
 | a :: b :: c :: r,_,hwl,q,_,lens =>
  rw [if_neg (fun z=>by have:=tn_inj z; cases this)]
  refine ⟨_,rfl,lens,?_⟩
  rw [if_pos (show (2:Int) < ((Tn (a :: b :: c :: r)).length:Int) by rw [tn_len]; simp only [List.length_cons]; omega)]
  exact q
structure Set8 (n:Nat) (rs:List (List Int)) (r:List Int) (j:Nat) (row:List Int):Prop where
 len:row.length=n
 nx:∀ q ∈ rs,∀ (i:Nat) (z:Int),q[i]?=some z→q[(i + 1) % q.length]?=some (row.getD z.toNat 0)
 dn:∀ i,i < j→∀ z,r[(i + (r.length - 1)) % r.length]?=some z→r[i]?=some (row.getD z.toNat 0)
 st:∀ k:Nat,k < n→¬ (k:Int) ∈ rs.flatten→(∀ i,i < j→r[(i + (r.length - 1)) % r.length]? ≠ some (k:Int))→row.getD k 0=(k:Int)
theorem Set8.init {n:Nat} {rs:List (List Int)} {r row:List Int} (h:Row8 n rs row):Set8 n rs r 0 row:=⟨h.len,h.nx,fun i hi=>absurd hi (Nat.not_lt_zero _),fun k hk hno _=>h.st k hk hno⟩
theorem getD_set8 {row:List Int} {k j:Nat} {v:Int} (hk:k < row.length):(row.set k v).getD j 0=if j=k then v else row.getD j 0:=by
 rw [List.getD_eq_getElem?_getD,List.getElem?_set]
 by_cases e:k=j
 ·subst e
  rw [if_pos rfl,if_pos hk,if_pos rfl]; rfl
 ·rw [if_neg e,if_neg (fun z=>e z.symm),List.getD_eq_getElem?_getD]
theorem Set8.step {n:Nat} {rs:List (List Int)} {r row:List Int} {j:Nat} {z y:Int} (h:Set8 n rs r j row) (hj:j < r.length) (hz:r[(j + (r.length - 1)) % r.length]?=some z) (hy:r[j]?=some y) (hb:∀ x ∈ r,0 ≤ x∧x < (n:Int)) (hnd:r.Nodup) (hap:∀ x ∈ r,¬ x ∈ rs.flatten) (hm:∀ q ∈ rs,∀ x ∈ q,0 ≤ x∧x < (n:Int)):Set8 n rs r (j + 1) (row.set z.toNat y):=by
 have bz:=hb z (List.mem_of_getElem? hz)
 have g:∀ k,(row.set z.toNat y).getD k 0=if k=z.toNat then y else row.getD k 0:=fun k=>getD_set8 (by rw [h.len]; omega)
 refine ⟨by rw [List.length_set]; exact h.len,fun q hq i x hx=>?_,fun i hi x hx=>?_,fun k hk hno hne=>?_⟩
 ·have bx:=hm q hq x (List.mem_of_getElem? hx)
  rw [g,if_neg (fun e=>hap z (List.mem_of_getElem? hz) (List.mem_flatten.mpr ⟨q,hq,by rw [show z=x by omega]; exact List.mem_of_getElem? hx⟩))]
  exact h.nx q hq i x hx
 ·rw [g]
  have bx:=hb x (List.mem_of_getElem? hx)
  by_cases e:i=j
  ·subst e
   rw [hz] at hx
   cases hx
   rw [if_pos rfl]
   exact hy
  ·have hne:x ≠ z:=fun q=>e (by
    subst q
    obtain ⟨a1,a2⟩:=List.getElem?_eq_some_iff.mp hx
    obtain ⟨b1,b2⟩:=List.getElem?_eq_some_iff.mp hz
    have:=(List.getElem_inj hnd (h₀:=a1) (h₁:=b1)).mp (a2.trans b2.symm)
    by_cases i0:i=0
    ·subst i0
     by_cases j0:j=0
     ·omega
     ·rw [Nat.zero_add,Nat.mod_eq_of_lt (show r.length - 1 < r.length by omega),show j + (r.length - 1)=(j - 1) + r.length by omega,Nat.add_mod_right,Nat.mod_eq_of_lt (show j - 1 < r.length by omega)] at this
      omega
    ·rw [show i + (r.length - 1)=(i - 1) + r.length by omega,Nat.add_mod_right,Nat.mod_eq_of_lt (show i - 1 < r.length by omega)] at this
     by_cases j0:j=0
     ·subst j0
      rw [Nat.zero_add,Nat.mod_eq_of_lt (show r.length - 1 < r.length by omega)] at this
      omega
     ·rw [show j + (r.length - 1)=(j - 1) + r.length by omega,Nat.add_mod_right,Nat.mod_eq_of_lt (show j - 1 < r.length by omega)] at this
      omega)
   rw [if_neg (by omega)]
   exact h.dn i (by omega) x hx
 ·rw [g,if_neg (fun e=>hne j (Nat.lt_succ_self _) (by rw [hz]; congr 1; omega))]
  exact h.st k hk hno fun i hi=>hne i (by omega)
theorem Set8.fin {n:Nat} {rs:List (List Int)} {r row:List Int} (h:Set8 n rs r r.length row):Row8 n (rs ++ [r]) row:=by
 refine ⟨h.len,fun q hq i z hz=>?_,fun k hk hno=>?_⟩
 ·rcases List.mem_append.mp hq with e | e
  ·exact h.nx q e i z hz
  ·rw [List.mem_singleton.mp e] at hz ⊢
   have hi:=(List.getElem?_eq_some_iff.mp hz).1
   refine h.dn ((i + 1) % r.length) (Nat.mod_lt _ (by omega)) z ?_
   rw [Nat.mod_add_mod,show i + 1 + (r.length - 1)=i + r.length by omega,Nat.add_mod_right,Nat.mod_eq_of_lt hi]
   exact hz
 ·rw [List.flatten_append] at hno
  have hno2:¬ (k:Int) ∈ rs.flatten∧¬ (k:Int) ∈ r:=by
   constructor
   ·exact fun z=>hno (List.mem_append_left _ z)
   ·exact fun z=>hno (List.mem_append_right _ (by simpa using z))
  exact h.st k hk hno2.1 fun i _ e=>hno2.2 (List.mem_of_getElem? e)
def sp_due8:Sp:=fun vs H Q _=>∃ (l:List Nat) (n:Nat),vs=[.str (Tn l),.int (n:Int)]∧1 ≤ n∧n ≤ 16∧l.length ≤ 2000∧(l=[40,41]→∀ (t:Addr) (H':Hp),Same H H'→H' t=some (.tup ((rangeI n).map V.int))→Q (.ref t) H') ∧
 (∀ rs,rs ≠ []→Ok8 n rs→l=shTxt rs→∀ (t:Addr) (row:List Int) (H':Hp),Same H H'→Row8 n rs row→H' t=some (.tup (row.map V.int))→Q (.ref t) H')∧(l ≠ [40,41]→(¬ ∃ rs,rs ≠ []∧Ok8 n rs∧l=shTxt rs)→∀ H',Same H H'→Q .non H')
theorem ok_law_due (T:Tx K mg):FnOk P w K mg base CX0 2 T.f_law_due T.d_law_due ["text","size"] sp_due8:=by
 refine T.F_law_due.ok sc_law_due (fun vs H Q E h=>?_) (fun cdv A outer s H vs Q E hr h=>?_)
 ·obtain ⟨l,n,rfl,_⟩:=h
  rfl
 obtain ⟨l,n,rfl,n1,n2,hll,q1,q2,q3⟩:=h
 have none_:∀ {H':Hp},Same H H'→l ≠ [40,41]→(∀ st,runM n ⟨[],[],[],false⟩ l=some st→st.ins=true)→Q .non H':=fun {H'} s' hne hno=>q3 hne (fun ⟨rs,h1,h2,h3⟩=>by
  obtain ⟨q',e⟩:=run_sh n2 rs [] [] (by rw [List.nil_append]; exact h2)
  rw [← h3] at e
  have:=hno _ e
  cases this) H' s'
 have stop:∀ {H':Hp} (i:Nat) (c:Nat) (st:MS),Same H H'→l ≠ [40,41]→l[i]?=some c→runM n ⟨[],[],[],false⟩ (l.take i)=some st→stepM n st c=none→Q .non H':=fun {H'} i c st s' hne hc hrun hst=>none_ s' hne fun st' h=>by
  have hi:=(List.getElem?_eq_some_iff.mp hc).1
  have e:l=l.take i ++ (c :: l.drop (i + 1)):=by
   rw [← (List.getElem?_eq_some_iff.mp hc).2,List.getElem_cons_drop,List.take_append_drop]
  rw [e,run_app,hrun] at h
  simp only at h
  unfold runM at h
  rw [hst] at h
  cases h
 refine ⟨_,(pss_cons (ps_if (PW.pt (pw_or (pt_cmpR op_eq (pv 0) pe_str (nomark _)) (pw_or1 (pt_cmpR op_eq (pv 0) pe_str (nomark _))))) (pss_one (ps_ret (pe_ifExp (pt_cmpR op_eq (pv 0) pe_str (nomark _)) (pe_callTy (call_tuple_rngR rfl) (by rfl) T.z_tuple bt_tuple (pa_cons (pe_callTy call_range1R (by rfl) T.z_range bt_range (pa_cons (pv 1) pa_nil)) pa_nil)) pe_non))) pss_nil)
   (pss_cons (ps_set (i:=2) sc_law_due.nd rfl (Or.inl rfl) (pe_callTy (call_list_rngR rfl) (by rfl) T.z_list bt_list (pa_cons (pe_callTy call_range1R (by rfl) T.z_range bt_range (pa_cons (pv 1) pa_nil)) pa_nil)))
   (pss_cons (ps_set (i:=3) sc_law_due.nd rfl (Or.inl rfl) (pe_lst pa_nil))
   (pss_cons (ps_set (i:=4) sc_law_due.nd rfl (Or.inl rfl) (pe_lst pa_nil))
   (pss_cons (ps_set (i:=5) sc_law_due.nd rfl (Or.inl rfl) pe_str)
   (pss_cons (ps_set (i:=6) sc_law_due.nd rfl (Or.inl rfl) pe_bl)
   (pss_cons (ps_for PassesOwn.never rfl (pi_str (pv 0)) (pg_name (i:=7) sc_law_due.nd rfl (Or.inl rfl)) (pss_one (ps_if (PW.pt (pw_and (pt_val (pv 6)) (pw_and1 (pt_cmpR op_in_str (pv 7) pe_str (by with_unfolding_all rfl))))) (pss_cons (ps_set (i:=8) sc_law_due.nd rfl (Or.inl rfl) (pe_call (ok_law_seat T) (hr.mono (by decide)) rfl T.m_law_seat T.F_law_seat.kp T.b_law_seat .nil pass0 (pa_cons (pv 5) (pa_cons (pv 1) (pa_cons (pv 3) pa_nil)))))
   (pss_cons (ps_if (pt_cmpR op_lt (pv 8) pe_int (nomark _)) (pss_one (ps_ret pe_non)) pss_nil)
   (pss_cons (ps_expr (pe_bmK (K:=K) rfl PySem.F.plainAttrs_list PySem.F.slot_list_append PySem.F.type_list_append mt_append (pv 3) (pa_cons (pv 8) pa_nil)))
   (pss_cons (ps_expr (pe_bmK (K:=K) rfl PySem.F.plainAttrs_list PySem.F.slot_list_append PySem.F.type_list_append mt_append (pv 4) (pa_cons (pv 8) pa_nil)))
   (pss_cons (ps_set (i:=5) sc_law_due.nd rfl (Or.inl rfl) pe_str)
   (pss_one (ps_if (pt_cmpR op_eq (pv 7) pe_str (nomark _)) (pss_cons (ps_set (i:=6) sc_law_due.nd rfl (Or.inl rfl) pe_bl)
   (pss_cons (ps_if (pt_cmpR op_lt (pe_callB (call_lenK (K:=K) rfl) (by rfl) T.z_len bt_len (pa_cons (pv 4) pa_nil)) pe_int (nomark _)) (pss_one (ps_ret pe_non)) pss_nil)
   (pss_one (ps_for PassesOwn.never rfl (pi_range1 (by rfl) T.z_range (pa_cons (pe_callB (call_lenK (K:=K) rfl) (by rfl) T.z_len bt_len (pa_cons (pv 4) pa_nil)) pa_nil)) (pg_name (i:=9) sc_law_due.nd rfl (Or.inl rfl)) (pss_one (ps_asg (pe_ix (ix_listK (K:=K) rfl) (pv 4) (pv 9) (fun _ _=>rfl)) (pg_sub (pv 2) (pe_ix (ix_listK (K:=K) rfl) (pv 4) (pe_op op_sub (pv 9) pe_int) (fun _ _=>rfl)) set_list))))))) pss_nil))))))) (pss_one (ps_if (PW.pt (pw_and (pt_val (pv 6)) (pw_and1 (pt_cmpR op_in_str (pv 7) pe_str (by with_unfolding_all rfl))))) (pss_one (ps_set (i:=5) sc_law_due.nd rfl (Or.inl rfl) (pe_op op_add_str (pv 5) (pv 7)))) (pss_one (ps_if (PW.pt (pw_and (pt_cmpR op_eq (pv 7) pe_str (nomark _)) (pw_and1 (pt_not (pt_val (pv 6)))))) (pss_cons (ps_set (i:=6) sc_law_due.nd rfl (Or.inl rfl) pe_bl)
   (pss_one (ps_set (i:=4) sc_law_due.nd rfl (Or.inl rfl) (pe_lst pa_nil)))) (pss_one (ps_ret pe_non)))))))))
   (pss_one (ps_ret (pe_ifExp (pt_val (pv 6)) pe_non (pe_callTy (call_tuple_ofK (K:=K) rfl) (by rfl) T.z_tuple bt_tuple (pa_cons (pv 2) pa_nil)))))))))))),?_⟩
 walk_at "rd"
 rw [cnil,c4041]
 by_cases h0:l=[40,41]
 ·subst h0
  rw [if_pos rfl]
  walk_at "rd"
  refine ⟨by omega,by omega,fun p hp=>⟨0,n,upd_same,⟨by omega,by omega,by omega,by omega⟩,small100 (by omega),fun t0 ht0=>?_⟩⟩
  rw [rng_range]
  exact q1 rfl t0 _ ((same_new hp _).trans (same_new ht0 _)) upd_same
 ·rw [if_neg (fun z=>h0 (tn_inj z))]
  by_cases h1:l=[]
  ·subst h1
   rw [if_pos rfl,if_neg (fun z=>h0 (tn_inj z))]
   refine q3 h0 (fun ⟨rs,e1,_,e3⟩=>?_) H (Same.refl _)
   rw [sh_inner e1] at e3
   cases e3
  rw [if_neg (fun z=>h1 (tn_inj z))]
  refine ⟨by omega,by omega,fun p hp=>⟨0,n,upd_same,⟨by omega,by omega,by omega,by omega⟩,small100 (by omega),fun ra hra=>?_⟩⟩
  rw [rng_range]
  have hraH:H ra=none:=(same_new hp (.rng 0 n)).free hra
  have s1:=(same_new hp (.rng 0 n)).trans (same_new hra (.lst ((rangeI n).map V.int)))
  have e1:(upd (upd H p (.rng 0 n)) ra (.lst ((rangeI n).map V.int))) ra=some (.lst ((rangeI n).map V.int)):=upd_same
  generalize upd (upd H p (.rng 0 n)) ra (.lst ((rangeI n).map V.int))=H1 at s1 e1
  refine ⟨Nat.zero_le _,fun ua hua=>⟨Nat.zero_le _,fun ga0 hga0=>⟨_,rfl,?_⟩⟩⟩
  have huaH:H ua=none:=s1.free hua
  have s2:=same_new hua (.lst [])
  have e2:(upd H1 ua (.lst [])) ua=some (.lst (([]:List Int).map V.int)):=upd_same
  have nru:ra ≠ ua:=ne_of_none e1 hua
  generalize upd H1 ua (.lst [])=H2 at s2 e2 hga0
  have hgaH:H ga0=none:=(s1.trans s2).free hga0
  have s3:=same_new hga0 (.lst [])
  have e3:(upd H2 ga0 (.lst [])) ga0=some (.lst (([]:List Int).map V.int)):=upd_same
  have ngr:ga0 ≠ ra:=(ne_of_none (s2.at e1) hga0).symm
  have ngu:ga0 ≠ ua:=(ne_of_none e2 hga0).symm
  generalize upd H2 ga0 (.lst [])=H3 at s3 e3
  refine loop_str (l:=l) (fun i σ H4=>∃ (st:MS) (ga:Addr) (row:List Int) (v7 v8 v9:Option V),SEq σ [some (.str (Tn l)),some (.int (n:Int)),some (.ref ra),some (.ref ua),some (.ref ga),some (.str (Tn st.word)),some (.bl st.ins),v7,v8,v9]∧Same H H4∧H4 ra=some (.lst (row.map V.int))∧H4 ua=some (.lst ((usedOf st).map V.int))∧H4 ga=some (.lst (st.ring.map V.int))∧ga ≠ ra∧ga ≠ ua∧H ga=none∧runM n ⟨[],[],[],false⟩ (l.take i)=some st∧Row8 n st.rs row)
   ⟨⟨[],[],[],false⟩,ga0,rangeI n,none,none,none,⟨rfl⟩,s1.trans (s2.trans s3),(s2.trans s3).at e1,s3.at e2,e3,ngr,ngu,hgaH,rfl,⟨rangeI_len n,fun r hr=>(by cases hr),fun k hk _=>by rw [List.getD_eq_getElem?_getD,rangeI_get hk]; rfl⟩⟩ ?_ ?_
  ·rintro i c σ H4 hc ⟨st,ga,row,v7,v8,v9,⟨rfl⟩,s4,er,eu,eg,gr,gu,gH,hrun,hrow⟩
   have hil:=(List.getElem?_eq_some_iff.mp hc).1
   have I:=run_inv n2 (l.take i) [] (Inv8.init n) hrun
   rw [List.nil_append] at I
   have tk:l.take (i + 1)=l.take i ++ [c]:=by rw [List.take_add_one,hc]; rfl
   have next:∀ st',stepM n st c=some st'→runM n ⟨[],[],[],false⟩ (l.take (i + 1))=some st':=fun st' h=>by
    rw [tk,run_app,hrun]
    show runM n st [c]=_
    unfold runM
    rw [h]
    rfl
   have no:=fun {H'} (s':Same H H') (h:stepM n st c=none)=>stop i c st s' h0 hc hrun h
   have hwl:st.word.length ≤ 2000:=by
    have:=congrArg List.length I.txt
    rw [List.length_take,List.length_append] at this
    cases hi:st.ins with
    | false=>rw [I.wo hi]; exact Nat.zero_le _
    | true =>
     rw [hi,if_pos rfl,List.length_cons,List.length_append] at this
     omega
   have c1:PySem.Str.ofString " )"=Tn [32,41]:=by decide +kernel
   have c2:PySem.Str.ofString "0123456789"=Tn [48,49,50,51,52,53,54,55,56,57]:=by decide +kernel
   have dig:∀ c:Nat,c ∈ [48,49,50,51,52,53,54,55,56,57] ↔ 48 ≤ c∧c ≤ 57:=fun c=>by
    simp only [List.mem_cons,List.not_mem_nil,or_false]
    omega
   obtain ⟨rs,ring,word,ins⟩:=st
   cases ins with
   | false =>
    have hw:word=[]:=I.wo rfl
    subst hw
    walk_at "rd"
    rw [c40]
    by_cases hc40:c=40
    ·subst hc40
     have hst:stepM n ⟨rs,ring,[],false⟩ 40=some ⟨rs,[],[],true⟩:=by
      unfold stepM
      rw [if_neg (fun z=>by cases z.1),if_neg (fun z=>by cases z.1),if_pos ⟨rfl,rfl⟩]
     rw [if_pos rfl]
     refine ⟨Nat.zero_le _,fun gb hgb=>?_⟩
     have s5:=same_new hgb (.lst [])
     exact ⟨⟨rs,[],[],true⟩,gb,row,_,_,_,⟨rfl⟩,s4.trans s5,s5.at er,by have:=s5.at eu; simpa [usedOf] using this,upd_same,(ne_of_none er hgb).symm,(ne_of_none eu hgb).symm,s4.free hgb,next _ hst,hrow⟩
    ·rw [if_neg (fun z=>hc40 (by have:=tn_inj z; injection this))]
     refine no s4 ?_
     unfold stepM
     rw [if_neg (fun z=>by cases z.1),if_neg (fun z=>by cases z.1),if_neg (fun z=>hc40 z.1)]
   | true =>
    walk_at "rd"
    rw [c1,c2]
    have emp:∀ L:List Nat,(Builtin.Str.occurrences (Tn L) (Tn [c]) 0 (Tn L).length 1).isEmpty=!decide (c ∈ L):=fun L=>by rw [← in_sign,Bool.not_not]
    refine ⟨_,_,rfl,rfl,?_⟩
    rw [emp]
    by_cases hcc:c=32∨c=41
    ·rw [decide_eq_true (by simpa using hcc),if_pos (by decide)]
     refine ⟨word,n,ua,_,rfl,I.dig,hwl,eu,?_⟩
     cases hs:seatOf n word (usedOf ⟨rs,ring,word,true⟩) with
     | none =>
      walk_at "rd"
      rw [if_pos (show Option.getD (none:Option Int) (-1) < 0 by decide)]
      refine no s4 ?_
      unfold stepM
      rw [if_pos ⟨rfl,hcc⟩]
      simp only [hs]
     | some z =>
      obtain ⟨w1,w2,w3,w4⟩:=seat_some I.dig n2 hs
      have memU:∀ y ∈ usedOf ⟨rs,ring,word,true⟩,0 ≤ y∧y < (n:Int):=fun y hy=>by
       rcases List.mem_append.mp hy with e | e
       ·obtain ⟨q,hq,hyq⟩:=List.mem_flatten.mp e
        exact I.ok.mem q hq y hyq
       ·exact I.mem rfl y e
      have fewU:(usedOf ⟨rs,ring,word,true⟩).length ≤ n:=by
       have:=nodup_le (M:=rangeI n) I.nd fun y hy=>mem_rangeI.mpr (memU y hy)
       rwa [rangeI_len] at this
      have fewR:ring.length ≤ n:=by
       have:(usedOf ⟨rs,ring,word,true⟩).length=rs.flatten.length + ring.length:=by show (rs.flatten ++ ring).length=_; rw [List.length_append]
       omega
      walk_at "rd"
      rw [show Option.getD (some z) (-1)=z from rfl,if_neg (by omega)]
      have eg':(upd H4 ua (.lst ((usedOf ⟨rs,ring,word,true⟩).map V.int ++ [.int z]))) ga=some (.lst (ring.map V.int)):=by rw [upd_ne gu]; exact eg
      refine ⟨.inl ⟨rfl,_,SqL.of eu⟩,_,eu,small_str (by rw [List.length_map]; omega),.inl ⟨rfl,_,SqL.of eg'⟩,_,eg',small_str (by rw [List.length_map]; omega),?_⟩
      have s5:Same H (upd (upd H4 ua (.lst ((usedOf ⟨rs,ring,word,true⟩).map V.int ++ [.int z]))) ga (.lst (ring.map V.int ++ [.int z]))):=same_put (same_put s4 huaH _) gH _
      have er5:(upd (upd H4 ua (.lst ((usedOf ⟨rs,ring,word,true⟩).map V.int ++ [.int z]))) ga (.lst (ring.map V.int ++ [.int z]))) ra=some (.lst (row.map V.int)):=by rw [upd_ne gr.symm,upd_ne nru]; exact er
      have eu5:(upd (upd H4 ua (.lst ((usedOf ⟨rs,ring,word,true⟩).map V.int ++ [.int z]))) ga (.lst (ring.map V.int ++ [.int z]))) ua=some (.lst ((rs.flatten ++ (ring ++ [z])).map V.int)):=by
       rw [upd_ne gu.symm,upd_same]
       show some (HO.lst ((rs.flatten ++ ring).map V.int ++ [.int z]))=_
       rw [← List.append_assoc,List.map_append (l₂:=[z])]
       rfl
      have eg5:(upd (upd H4 ua (.lst ((usedOf ⟨rs,ring,word,true⟩).map V.int ++ [.int z]))) ga (.lst (ring.map V.int ++ [.int z]))) ga=some (.lst ((ring ++ [z]).map V.int)):=by rw [upd_same,List.map_append]; rfl
      generalize upd (upd H4 ua (.lst ((usedOf ⟨rs,ring,word,true⟩).map V.int ++ [.int z]))) ga (.lst (ring.map V.int ++ [.int z]))=H5 at s5 er5 eu5 eg5
      rw [c41]
      by_cases h41:c=41
      ·subst h41
       rw [if_pos rfl]
       refine ⟨_,.inl (SqL.of eg5),?_⟩
       rw [List.length_map,List.length_append,List.length_singleton]
       by_cases hl2:ring.length + 1 < 2
       ·rw [if_pos (by omega)]
        refine no s5 ?_
        unfold stepM
        rw [if_pos ⟨rfl,.inr rfl⟩]
        simp only [hs]
        rw [if_pos trivial,if_pos hl2]
       ·rw [if_neg (by omega)]
        have hst:stepM n ⟨rs,ring,word,true⟩ 41=some ⟨rs ++ [ring ++ [z]],ring ++ [z],[],false⟩:=by
         unfold stepM
         rw [if_pos ⟨rfl,.inr rfl⟩]
         simp only [hs]
         rw [if_pos trivial,if_neg hl2]
        have nst:=next _ hst
        have I':=run_inv n2 (l.take (i + 1)) [] (Inv8.init n) nst
        have hrl:(ring ++ [z]).length=ring.length + 1:=by rw [List.length_append,List.length_singleton]
        have hrb:∀ x ∈ ring ++ [z],0 ≤ x∧x < (n:Int):=I'.ok.mem _ (List.mem_append_right _ (List.mem_singleton.mpr rfl))
        have hfl:(rs.flatten ++ (ring ++ [z])).Nodup:=by
         have:=I'.ok.nd
         rw [List.flatten_append] at this
         simpa using this
        have hnd:=(List.nodup_append.mp hfl).2.1
        have hap:∀ x ∈ ring ++ [z],¬ x ∈ rs.flatten:=fun x hx hxr=>(List.nodup_append.mp hfl).2.2 x hxr x hx rfl
        refine ⟨_,.inl (SqL.of eg5),by rw [List.length_map]; exact Int.natCast_nonneg _,by rw [List.length_map,hrl]; omega,?_⟩
        rw [List.length_map,Int.toNat_natCast]
        generalize hR:ring ++ [z]=R at *
        refine loop_range (fun j σ H6=>∃ (v9:Option V) (row:List Int),SEq σ [some (.str (Tn l)),some (.int (n:Int)),some (.ref ra),some (.ref ua),some (.ref ga),some (.str (Tn [])),some (.bl false),some (.str (Tn [41])),some (.int z),v9]∧Same H H6∧H6 ra=some (.lst (row.map V.int))∧H6 ua=some (.lst ((rs.flatten ++ R).map V.int))∧H6 ga=some (.lst (R.map V.int))∧Set8 n rs R j row) ⟨v9,row,⟨rfl⟩,s5,er5,eu5,eg5,Set8.init hrow⟩ ?_ ?_
        ·rintro j σ H6 hj ⟨v9,row,⟨rfl⟩,s6,er6,eu6,eg6,hset⟩
         have hj':j < R.length:=hj
         have hy:R[j]?=some R[j]:=List.getElem?_eq_getElem hj'
         generalize R[j]=y at hy
         have hpi:(j + (R.length - 1)) % R.length < R.length:=Nat.mod_lt _ (by omega)
         have hx:R[(j + (R.length - 1)) % R.length]?=some R[(j + (R.length - 1)) % R.length]:=List.getElem?_eq_getElem hpi
         generalize R[(j + (R.length - 1)) % R.length]=x at hx
         have bx:=hrb x (List.mem_of_getElem? hx)
         have hat:atI (R.map V.int) ((j:Int) - 1)=some (.int x):=by
          by_cases j0:j=0
          ·subst j0
           rw [Nat.zero_add,Nat.mod_eq_of_lt (by omega)] at hx
           obtain ⟨R',w,rfl⟩:∃ R' w,R=R' ++ [w]:=by
            rcases List.eq_nil_or_concat R with e | ⟨a,b,e⟩
            ·rw [e] at hj'; exact absurd hj' (by simp)
            ·exact ⟨a,b,by rw [e,List.concat_eq_append]⟩
           rw [List.length_append,List.length_singleton,Nat.add_sub_cancel,List.getElem?_append_right (Nat.le_refl _),Nat.sub_self] at hx
           cases hx
           rw [List.map_append]
           exact atI_last _ _
          ·rw [show j + (R.length - 1)=(j - 1) + R.length by omega,Nat.add_mod_right,Nat.mod_eq_of_lt (show j - 1 < R.length by omega)] at hx
           rw [show ((j:Int) - 1)=((j - 1:Nat):Int) by omega]
           exact atI_nat (by rw [List.getElem?_map,hx]; rfl)
         walk_at "rd"
         rw [Int.zero_add]
         refine ⟨_,_,SqL.of eg6,atI_nat (by rw [List.getElem?_map,hy]; rfl),_,_,SqL.of eg6,hat,?_⟩
         walk_at "rd"
         refine ⟨_,x.toNat,er6,?_,_,row.set x.toNat y,⟨rfl⟩,same_put s6 hraH _,by rw [upd_same,List.map_set],by rw [upd_ne nru.symm]; exact eu6,by rw [upd_ne gr]; exact eg6,hset.step hj' hx hy hrb hnd hap I.ok.mem⟩
         unfold ixN
         rw [if_pos bx.1,if_pos (by rw [List.length_map,hset.len]; exact bx.2)]
        ·rintro σ H6 ⟨v9,row,⟨rfl⟩,s6,er6,eu6,eg6,hset⟩
         exact ⟨⟨rs ++ [R],R,[],false⟩,ga,row,_,_,_,⟨rfl⟩,s6,er6,by rw [eu6]; simp [usedOf],eg6,gr,gu,gH,nst,hset.fin⟩
      ·rw [if_neg (fun z=>h41 (by have:=tn_inj z; injection this))]
       have h32:c=32:=by rcases hcc with e | e; exact e; exact absurd e h41
       have hst:stepM n ⟨rs,ring,word,true⟩ c=some ⟨rs,ring ++ [z],[],true⟩:=by
        unfold stepM
        rw [if_pos ⟨rfl,hcc⟩]
        simp only [hs]
        rw [if_neg h41]
       exact ⟨⟨rs,ring ++ [z],[],true⟩,ga,row,_,_,_,⟨rfl⟩,s5,er5,eu5,eg5,gr,gu,gH,next _ hst,hrow⟩
    ·rw [decide_eq_false (by simpa using hcc),if_neg (by decide)]
     refine ⟨_,_,rfl,rfl,?_⟩
     rw [emp]
     by_cases hcd:48 ≤ c∧c ≤ 57
     ·rw [decide_eq_true ((dig c).mpr hcd),if_pos (by decide)]
      have hst:stepM n ⟨rs,ring,word,true⟩ c=some ⟨rs,ring,word ++ [c],true⟩:=by
       unfold stepM
       rw [if_neg (fun z=>hcc z.2),if_pos ⟨rfl,hcd⟩]
      walk_at "rd"
      refine ⟨_,_,rfl,rfl,by rw [tn_len,tn_len]; exact small_str (by simp only [List.length_singleton]; have:word.length ≤ 2000:=hwl; omega),?_⟩
      rw [tn_app]
      exact ⟨⟨rs,ring,word ++ [c],true⟩,ga,row,_,_,_,⟨rfl⟩,s4,er,eu,eg,gr,gu,gH,next _ hst,hrow⟩
     ·rw [decide_eq_false (fun z=>hcd ((dig c).mp z)),if_neg (by decide)]
      have hst:stepM n ⟨rs,ring,word,true⟩ c=none:=by
       unfold stepM
       rw [if_neg (fun z=>hcc z.2),if_neg (fun z=>hcd z.2),if_neg (fun z=>by cases z.2)]
      split
      ·rw [if_neg (by decide)]
       exact no s4 hst
      ·exact no s4 hst
  ·rintro σ H4 ⟨st,ga,row,v7,v8,v9,⟨rfl⟩,s4,er,eu,eg,gr,gu,gH,hrun,hrow⟩
   rw [List.take_length] at hrun
   have I:=run_inv n2 l [] (Inv8.init n) hrun
   rw [List.nil_append] at I
   obtain ⟨rs,ring,word,ins⟩:=st
   cases ins with
   | true =>
    walk_at "rd"
    exact none_ s4 h0 fun st' h=>by rw [hrun] at h; cases h; rfl
   | false =>
    have hl:l=shTxt rs:=by
     have:=I.txt
     simpa using this
    have hne:rs ≠ []:=fun z=>h1 (by rw [hl,z]; rfl)
    walk_at "rd"
    exact ⟨_,.inl ⟨SqL.of er,fun t ht=>q2 rs hne I.ok hl t row _ (s4.trans (same_new ht _)) hrow upd_same⟩⟩
def sp_law_seating:Sp:=fun vs H Q _=>∃ (c:Int) (n:Nat),vs=[.int c,.int n]∧n ≤ 20∧∀ (r:Addr) (ns:List Int) (H':Hp),Same H H'→Seat n ns→H' r=some (.tup (ns.map V.int))→Q (.ref r) H'
theorem map_erase {α β:Type} (f:α→β):∀ (l:List α) (j:Nat),(l.map f).eraseIdx j=(l.eraseIdx j).map f
 | [],_=>rfl
 | _ :: _,0=>rfl
 | a :: l,j + 1=>by
  rw [List.map_cons,List.eraseIdx_cons_succ,List.eraseIdx_cons_succ,List.map_cons,map_erase f l j]
structure Draw (H:Hp) (n:Nat) (l r:Addr) (i:Nat) (H':Hp):Prop where
 same:Same H H'
 ex:∃ left row:List Int,H' l=some (.lst (left.map V.int))∧H' r=some (.lst (row.map V.int))∧(row ++ left).Perm (rangeI n)∧row.length=i∧left.length=n - i
theorem Draw.tys {H H':Hp} {n:Nat} {l r:Addr} {i:Nat} (d:Draw H n l r i H') (K:PySem.W.Frag):tyV K "list" (.ref r) H'∧tyV K "list" (.ref l) H':=by
 obtain ⟨left,row,e1,e2,_⟩:=d.ex
 exact ⟨.inl ⟨rfl,_,SqL.of e2⟩,.inl ⟨rfl,_,SqL.of e1⟩⟩
theorem Draw.turn {H H':Hp} {n:Nat} {l r:Addr} {i:Nat} (d:Draw H n l r i H') (hl:H l=none) (hr:H r=none) (hlr:l ≠ r) (hi:i < n) (hn:n ≤ 20) {j:Int} (h0:0 ≤ j) (h1:j < (n:Int) - i) :
  ∃ (left row:List Int) (v:Int),H' l=some (.lst (left.map V.int))∧H' r=some (.lst (row.map V.int))∧row.length < 100∧seqIndex? j (left.map V.int).length=some j.toNat∧(left.map V.int)[j.toNat]?=some (.int v) ∧
   Draw H n l r (i + 1) (upd (upd H' l (.lst ((left.map V.int).eraseIdx j.toNat))) r (.lst (row.map V.int ++ [.int v]))):=by
 obtain ⟨left,row,e1,e2,hp,hrow,hleft⟩:=d.ex
 have hj:j.toNat < left.length:=by omega
 have hg:left[j.toNat]?=some left[j.toNat]:=List.getElem?_eq_getElem hj
 refine ⟨left,row,left[j.toNat],e1,e2,by omega,PySem.seqIndex_of h0 (by rw [List.length_map]; omega),by rw [List.getElem?_map,hg]; rfl,?_⟩
 refine ⟨same_put (same_put d.same hl _) hr _,left.eraseIdx j.toNat,row ++ [left[j.toNat]],?_,?_,(pop_perm hg).trans hp,by rw [List.length_append,hrow]; rfl,?_⟩
 ·rw [upd_ne hlr,upd_same,map_erase]
 ·rw [upd_same,List.map_append]
  rfl
 ·rw [List.length_eraseIdx_of_lt hj]
  omega
theorem Draw.fin {H H':Hp} {n:Nat} {l r:Addr} (d:Draw H n l r n H'):∃ row:List Int,H' r=some (.lst (row.map V.int))∧Seat n row:=by
 obtain ⟨left,row,e1,e2,hp,hrow,hleft⟩:=d.ex
 have:left=[]:=List.eq_nil_of_length_eq_zero (by omega)
 subst this
 rw [List.append_nil] at hp
 exact ⟨row,e2,hp⟩
theorem ok_law_far (T:Tx K mg):FnOk P w K mg base CX0 1 T.f_law_far T.d_law_far ["cell","size"] sp_law_seating:=by
 refine T.F_law_far.ok sc_law_far (fun vs H Q E h=>?_) (fun cdv A outer s H vs Q E hr h=>?_)
 ·obtain ⟨c,n,rfl,_⟩:=h
  rfl
 obtain ⟨c,n,rfl,hn,q⟩:=h
 refine ⟨_,(pss_cons (ps_set (i:=2) sc_law_far.nd rfl (Or.inl rfl) (pe_callTy (call_list_rngR rfl) (by rfl) T.z_list bt_list (pa_cons (pe_callTy call_range1R (by rfl) T.z_range bt_range (pa_cons (pv 1) pa_nil)) pa_nil)))
   (pss_cons (ps_set (i:=3) sc_law_far.nd rfl (Or.inl rfl) (pe_lst pa_nil))
   (pss_cons (ps_for PassesOwn.never rfl (pi_range1 (by rfl) T.z_range (pa_cons (pv 1) pa_nil)) (pg_name (i:=4) sc_law_far.nd rfl (Or.inl rfl)) (pss_cons (ps_set (i:=0) sc_law_far.nd rfl (Or.inl rfl) (pe_op op_mod (pe_op op_add (pe_op op_mul (pv 0) pe_int) pe_int) pe_int))
   (pss_one (ps_expr (pe_bmK (K:=K) rfl PySem.F.plainAttrs_list PySem.F.slot_list_append PySem.F.type_list_append mt_append (pv 3) (pa_cons (pe_bmK (K:=K) rfl PySem.F.plainAttrs_list PySem.F.slot_list_pop PySem.F.type_list_pop mt_popAt (pv 2) (pa_cons (pe_op op_mod (pv 0) (pe_op op_sub (pv 1) (pv 4))) pa_nil)) pa_nil))))))
   (pss_one (ps_ret (pe_callTy (call_tuple_ofK (K:=K) rfl) (by rfl) T.z_tuple bt_tuple (pa_cons (pv 3) pa_nil))))))),?_⟩
 walk_at "rd"
 refine ⟨by omega,by omega,fun p hp=>?_⟩
 have s1:=same_new hp (.rng 0 n)
 refine ⟨0,n,upd_same,⟨by omega,by omega,by omega,by omega⟩,small100 (by omega),fun l hl=>?_⟩
 rw [rng_range]
 have s2:=same_new hl (.lst ((rangeI n).map V.int))
 have e2:(upd (upd H p (.rng 0 n)) l (.lst ((rangeI n).map V.int))) l=some (.lst ((rangeI n).map V.int)):=upd_same
 have s12:=s1.trans s2
 have hlH:H l=none:=s1.free hl
 generalize upd (upd H p (.rng 0 n)) l (.lst ((rangeI n).map V.int))=H2 at e2 s12
 refine ⟨Nat.zero_le _,fun r hr'=>?_⟩
 have s3:=same_new hr' (.lst [])
 have hrH:H r=none:=s12.free hr'
 have hlr:l ≠ r:=ne_of_none e2 hr'
 refine ⟨by omega,by omega,?_⟩
 refine loop_range (fun i σ H3=>∃ (c':Int) (k:Option V),SEq σ [some (.int c'),some (.int n),some (.ref l),some (.ref r),k]∧Draw H n l r i H3) ⟨c,none,⟨rfl⟩,⟨s12.trans s3,rangeI n,[],s3.at e2,upd_same,List.Perm.refl _,rfl,by rw [rangeI_len]; rfl⟩⟩ ?_ ?_
 ·rintro i σ H3 hi ⟨c',k,⟨rfl⟩,d⟩
  have hi':i < n:=by simpa using hi
  walk_at "rd"
  refine ⟨.inr ⟨by decide,by decide⟩,by decide,?_⟩
  generalize (c' * 48271 + 11) % 2147483647=c2
  have hm:(0:Int) < (n:Int) - (0 + (i:Int)):=by omega
  have hlt:=Int.emod_lt_of_pos c2 hm
  have hge:=Int.emod_nonneg c2 (Int.ne_of_gt hm)
  obtain ⟨left,row,v,e1,e2,h20,hx,hv,d4⟩:=d.turn hlH hrH hlr hi' hn hge (by omega)
  refine ⟨(d.tys K).1,(d.tys K).2,hm,left.map V.int,_,_,e1,by omega,by omega,hx,hv,row.map V.int,by rw [upd_ne (Ne.symm hlr)]; exact e2,small1000 (by rw [List.length_map]; omega),_,_,⟨rfl⟩,d4⟩
 ·rintro σ H3 ⟨c',k,⟨rfl⟩,d⟩
  have d':Draw H n l r n H3:=by simpa using d
  obtain ⟨row,e,hs⟩:=d'.fin
  walk_at "rd"
  refine ⟨row.map V.int,.inl ⟨SqL.of e,fun t ht=>?_⟩⟩
  exact q t row _ (d'.same.trans (same_new ht _)) hs upd_same
structure Pts (rs:List (List Int)):Prop where
 len:∀ r ∈ rs,1 ≤ r.length∧r.length ≤ 16
 mem:∀ r ∈ rs,∀ z ∈ r,0 ≤ z∧z < 16
theorem Lsts.put {H:Hp} {l:Addr} {xs:List V} {o:HO}:∀ {ls:List Addr} {rs:List (List Int)},Lsts H ls rs→¬ l ∈ ls→Lsts (upd H l o) ls rs
 | _,_,.nil,_=>.nil
 | a :: _,_ :: _,.cons h t,hn=>.cons (by rw [upd_ne (fun z=>hn (by rw [z]; exact List.mem_cons_self))]; exact h) (Lsts.put (xs:=xs) t fun z=>hn (List.mem_cons_of_mem _ z))
theorem atI_at {n:Nat} {ns:List Int} (h:Seat n ns) {z:Int} (h0:0 ≤ z) (h1:z < n):atI (ns.map V.int) z=some (.int (at_ ns z)):=atI_int h0 (at_get h h0 h1)
theorem last_ring (ns:List Int) (k:Int) (j:Nat):atI ((ringTo ns k (j + 1)).map V.int) (-1)=some (.int (it ns j k)):=by
 rw [ringTo_succ,List.map_append]
 exact atI_last _ _
def sp_rings8 (K:PySem.W.Frag):Sp:=fun vs H Q _=>∃ (a:Addr) (ns:List Int) (n:Nat),vs=[.ref a]∧SqT K H a (ns.map V.int)∧1 ≤ n∧n ≤ 16∧Seat n ns∧∀ (l:Addr) (ls:List Addr) (rs:List (List Int)) (H':Hp),Same H H'→H' l=some (.lst (ls.map V.ref))→Lsts H' ls rs→Pts rs→ls.length ≤ 16→Q (.ref l) H'
theorem ok_law_rings (T:Tx K mg):FnOk P w K mg base CX0 1 T.f_law_rings T.d_law_rings ["a"] (sp_rings8 K):=by
 refine T.F_law_rings.ok sc_law_rings (fun vs H Q E h=>?_) (fun cdv A outer s H vs Q E hr h=>?_)
 ·obtain ⟨a,ns,n,rfl,_⟩:=h
  rfl
 obtain ⟨a,ns,n,rfl,hA,n1,n2,p1,q⟩:=h
 have l1:=p1.len
 refine ⟨_,(pss_cons (ps_set (i:=1) sc_law_rings.nd rfl (Or.inl rfl) (pe_lst pa_nil))
   (pss_cons (ps_for PassesOwn.never rfl (pi_range1 (by rfl) T.z_range (pa_cons (pe_callB (call_lenK (K:=K) rfl) (by rfl) T.z_len bt_len (pa_cons (pv 0) pa_nil)) pa_nil)) (pg_name (i:=2) sc_law_rings.nd rfl (Or.inl rfl)) (pss_cons (ps_set (i:=3) sc_law_rings.nd rfl (Or.inl rfl) (pe_lst (pa_cons (pv 2) pa_nil)))
   (pss_cons (ps_while PassesOwn.never (pt_cmpR op_ne (pe_ix (ix_tupK (K:=K) rfl) (pv 0) (pe_ix (ix_listK (K:=K) rfl) (pv 3) (pe_un un_neg pe_int) (fun _ _=>rfl)) (fun _ _=>rfl)) (pv 2) (nomark _)) (pss_one (ps_expr (pe_bmK (K:=K) rfl PySem.F.plainAttrs_list PySem.F.slot_list_append PySem.F.type_list_append mt_append (pv 3) (pa_cons (pe_ix (ix_tupK (K:=K) rfl) (pv 0) (pe_ix (ix_listK (K:=K) rfl) (pv 3) (pe_un un_neg pe_int) (fun _ _=>rfl)) (fun _ _=>rfl)) pa_nil)))))
   (pss_one (ps_if (PW.pt (pw_and (pt_cmpR op_gt (pe_callB (call_lenK (K:=K) rfl) (by rfl) T.z_len bt_len (pa_cons (pv 3) pa_nil)) pe_int (nomark _)) (pw_and1 (pt_cmpR op_eq (pe_callB (call_minK (K:=K) rfl rfl) (by rfl) T.z_min bt_min (pa_cons (pv 3) pa_nil)) (pv 2) (nomark _))))) (pss_one (ps_expr (pe_bmK (K:=K) rfl PySem.F.plainAttrs_list PySem.F.slot_list_append PySem.F.type_list_append mt_append (pv 1) (pa_cons (pv 3) pa_nil)))) pss_nil)))))
   (pss_one (ps_ret (pv 1))))),?_⟩
 walk_at "rd"
 refine ⟨Nat.zero_le _,fun l hl=>?_⟩
 have s2:=same_new hl (.lst [])
 have e2:(upd H l (.lst [])) l=some (.lst (([]:List Addr).map V.ref)):=upd_same
 generalize upd H l (.lst [])=H2 at s2 e2
 refine ⟨ns.map V.int,.inr (s2.sqT hA),?_⟩
 walk_at "rd"
 rw [List.length_map,l1]
 refine ⟨by omega,by omega,?_⟩
 refine loop_range (fun i σ H3=>∃ (x y:Option V) (ls:List Addr) (rs:List (List Int)),SEq σ [some (.ref a),some (.ref l),x,y]∧Same H H3∧H3 l=some (.lst (ls.map V.ref))∧Lsts H3 ls rs∧Pts rs∧ls.length ≤ i∧¬ l ∈ ls) ⟨none,none,[],[],⟨rfl⟩,s2,e2,.nil,⟨fun _ h=>(by cases h),fun _ h=>(by cases h)⟩,Nat.zero_le _,fun z=>by cases z⟩ ?_ ?_
 ·rintro i σ H3 hi ⟨x0,y0,ls,rs,⟨rfl⟩,s3,e3,ht,hpt,hlen,hnl⟩
  have hi':i < n:=by simpa using hi
  have k0:(0:Int) ≤ (i:Int):=by omega
  have k1:(i:Int) < n:=by omega
  obtain ⟨q1,q2,q3,q4⟩:=per_ok p1 k0 k1
  walk_at "rd"
  rw [Int.zero_add]
  refine ⟨by show 1 ≤ sizeLine; decide,fun g hg=>?_⟩
  have hgH:H g=none:=s3.free hg
  have s34:=same_new hg (.lst [.int i])
  have s4:=same_put s3 hgH (.lst [.int i])
  have e4:(upd H3 g (.lst [.int i])) g=some (.lst ((ringTo ns i 1).map V.int)):=upd_same
  have e34:(upd H3 g (.lst [.int i])) l=some (.lst (ls.map V.ref)):=by rw [upd_ne (ne_of_none e3 hg)]; exact e3
  have ht4:Lsts (upd H3 g (.lst [.int i])) ls rs:=ht.same s34
  have hlg:l ≠ g:=ne_of_none e3 hg
  have hgl:¬ g ∈ ls:=fun z=>by
   obtain ⟨j,hj⟩:=List.getElem?_of_mem z
   obtain ⟨r,_,e⟩:=ht.get hj
   rw [hg] at e
   cases e
  generalize upd H3 g (.lst [.int i])=H4 at s4 e4 e34 ht4
  refine wloop (fun m σ H5=>∃ j:Nat,m=per ns i - (j + 1)∧j + 1 ≤ per ns i∧SEq σ [some (.ref a),some (.ref l),some (.int i),some (.ref g)]∧Same H H5∧H5 g=some (.lst ((ringTo ns i (j + 1)).map V.int))∧H5 l=some (.lst (ls.map V.ref))∧Lsts H5 ls rs) _ ⟨0,rfl,q1,⟨rfl⟩,s4,e4,e34,ht4⟩ ?_
  rintro m σ H5 ⟨j,rfl,j2,⟨rfl⟩,s5,e5,e35,ht5⟩
  obtain ⟨b0,b1⟩:=it_in p1 k0 k1 j
  walk_at "rd"
  refine ⟨_,_,SqL.of e5,last_ring ns i j,?_⟩
  walk_at "rd"
  refine ⟨ns.map V.int,_,s5.sqT hA,atI_at p1 b0 b1,?_⟩
  walk_at "rd"
  split
  ·rename_i hne
   have jl:j + 1 < per ns i:=by
    refine Nat.lt_of_le_of_ne j2 fun z=>hne ?_
    show it ns (j + 1) i=i
    rw [z]; exact q3
   refine ⟨fun σ' H'=>SEq σ' [some (.ref a),some (.ref l),some (.int i),some (.ref g)]∧Same H H'∧H' g=some (.lst ((ringTo ns i (j + 1 + 1)).map V.int))∧H' l=some (.lst (ls.map V.ref))∧Lsts H' ls rs,
    fun σ' H' ⟨z1,z2,z3,z4,z5⟩=>⟨_,by omega,j + 1,rfl,jl,z1,z2,z3,z4,z5⟩,?_⟩
   refine ⟨.inl ⟨rfl,_,SqL.of e5⟩,_,_,SqL.of e5,last_ring ns i j,?_⟩
   walk_at "rd"
   refine ⟨ns.map V.int,_,s5.sqT hA,atI_at p1 b0 b1,?_⟩
   walk_at "rd"
   refine ⟨_,e5,small1000 (by rw [List.length_map,ringTo_len]; omega),⟨rfl⟩,same_put s5 hgH _,?_,?_,ht5.put (xs:=[]) hgl⟩
   ·rw [upd_same,ringTo_succ ns i (j + 1),List.map_append]
    rfl
   ·rw [upd_ne hlg]; exact e35
  ·rename_i he
   have he':it ns (j + 1) i=i:=Classical.byContradiction fun z=>he z
   have ej:j + 1=per ns i:=Classical.byContradiction fun z=>q4 (j + 1) (by omega) (by omega) he'
   have er:ringTo ns i (j + 1)=ringOf ns i:=by rw [ej]; rfl
   rw [er] at e5
   refine ⟨(ringOf ns i).map V.int,.inl (SqL.of e5),?_⟩
   walk_at "rd"
   rw [List.length_map,ringOf_len]
   split
   ·rename_i h1
    refine ⟨ringOf ns i,.inl (SqL.of e5),by rw [ringOf_len]; omega,fun m hm hl'=>?_⟩
    walk_at "rd"
    split
    ·refine ⟨.inl ⟨rfl,_,SqL.of e35⟩,_,e35,small1000 (by rw [List.length_map]; omega),_,_,ls ++ [g],rs ++ [ringOf ns i],⟨rfl⟩,same_put s5 hl _,by rw [upd_same,List.map_append]; rfl,?_,?_,by rw [List.length_append,List.length_singleton]; omega,?_⟩
     ·exact (ht5.snoc e5).put (xs:=[]) fun z=>by
       rcases List.mem_append.mp z with e | e
       ·exact hnl e
       ·exact hlg (List.mem_singleton.mp e)
     ·refine ⟨fun r hr=>?_,fun r hr z hz=>?_⟩
      ·rcases List.mem_append.mp hr with e | e
       ·exact hpt.len r e
       ·rw [List.mem_singleton.mp e,ringOf_len]; omega
      ·rcases List.mem_append.mp hr with e | e
       ·exact hpt.mem r e z hz
       ·rw [List.mem_singleton.mp e] at hz
        obtain ⟨j',hj'⟩:=List.getElem?_of_mem hz
        obtain ⟨_,rfl⟩:=ring_of_get hj'
        have:=it_in p1 k0 k1 j'
        omega
     ·intro z
      rcases List.mem_append.mp z with e | e
      ·exact hnl e
      ·exact hlg (List.mem_singleton.mp e)
    ·exact ⟨_,_,ls,rs,⟨rfl⟩,s5,e35,ht5,hpt,by omega,hnl⟩
   ·exact ⟨_,_,ls,rs,⟨rfl⟩,s5,e35,ht5,hpt,by omega,hnl⟩
 ·rintro σ H3 ⟨x0,y0,ls,rs,⟨rfl⟩,s3,e3,ht,hpt,hlen,hnl⟩
  rw [Int.toNat_natCast] at hlen
  walk_at "rd"
  exact q l ls rs H3 s3 e3 ht hpt (by omega)
def sp_text8:Sp:=fun vs H Q _=>∃ (a:Addr) (ls:List Addr) (rs:List (List Int)) (c:Int),vs=[.ref a,.int c]∧H a=some (.lst (ls.map V.ref))∧Lsts H ls rs∧Pts rs∧ls.length ≤ 16∧∀ (l:List Nat) (H':Hp),l.length ≤ 900→Same H H'→Q (.str (Tn l)) H'
def Rg (H:Hp) (a:Addr):Prop:=∃ r:List Int,H a=some (.lst (r.map V.int))∧1 ≤ r.length∧r.length ≤ 16∧∀ z ∈ r,0 ≤ z∧z < 16
theorem cut_to (xs:List V) {k:Nat} (h:k ≤ xs.length):cutV xs none (some (k:Int))=xs.take k:=by
 unfold cutV
 rw [HT.sIx_none,HT.sIx_nat,Nat.min_eq_left h,List.drop_zero,Nat.sub_zero]
theorem figs_len {r:List Int}:∀ p ∈ r.map (fun z=>Tn (dg z.toNat)),p.length ≤ 2:=fun p hp=>by
 obtain ⟨z,_,rfl⟩:=List.mem_map.mp hp
 rw [tn_len]
 exact dg_len _
theorem figs_join (r:List Int):Txt.join (Tn [32]) (r.map fun z=>Tn (dg z.toNat))=Tn (ringTxt r):=by
 have:=join_tn [32] (r.map fun z=>dg z.toNat)
 rwa [List.map_map] at this
theorem ok_law_text (T:Tx K mg):FnOk P w K mg base CX0 1 T.f_law_text T.d_law_text ["parts","cell"] sp_text8:=by
 refine T.F_law_text.ok sc_law_text (fun vs H Q E h=>?_) (fun cdv A outer s H vs Q E hr h=>?_)
 ·obtain ⟨a,ls,rs,c,rfl,_⟩:=h
  rfl
 obtain ⟨a,ls,rs,c,rfl,ha,hls,hpt,hl16,q⟩:=h
 have rg:∀ x ∈ ls,Rg H x:=fun x hx=>by
  obtain ⟨j,hj⟩:=List.getElem?_of_mem hx
  obtain ⟨r,h1,h2⟩:=hls.get hj
  have hm:=List.mem_of_getElem? h1
  exact ⟨r,h2,(hpt.len r hm).1,(hpt.len r hm).2,hpt.mem r hm⟩
 refine ⟨_,(pss_cons (ps_set (i:=2) sc_law_text.nd rfl (Or.inl rfl) pe_str)
   (pss_cons (ps_set (i:=3) sc_law_text.nd rfl (Or.inl rfl) (pe_callTy (call_list_ofK (K:=K) rfl) (by rfl) T.z_list bt_list (pa_cons (pv 0) pa_nil)))
   (pss_cons (ps_while PassesOwn.never (pt_cmpR op_gt (pe_callB (call_lenK (K:=K) rfl) (by rfl) T.z_len bt_len (pa_cons (pv 3) pa_nil)) pe_int (nomark _)) (pss_cons (ps_set (i:=1) sc_law_text.nd rfl (Or.inl rfl) (pe_op op_mod (pe_op op_add (pe_op op_mul (pv 1) pe_int) pe_int) pe_int))
   (pss_cons (ps_set (i:=4) sc_law_text.nd rfl (Or.inl rfl) (pe_bmK (K:=K) rfl PySem.F.plainAttrs_list PySem.F.slot_list_pop PySem.F.type_list_pop mt_popAt (pv 3) (pa_cons (pe_op op_mod (pv 1) (pe_callB (call_lenK (K:=K) rfl) (by rfl) T.z_len bt_len (pa_cons (pv 3) pa_nil))) pa_nil)))
   (pss_cons (ps_set (i:=5) sc_law_text.nd rfl (Or.inl rfl) (pe_op op_mod (pe_op op_fdiv (pv 1) pe_int) (pe_callB (call_lenK (K:=K) rfl) (by rfl) T.z_len bt_len (pa_cons (pv 4) pa_nil))))
   (pss_one (ps_set (i:=2) sc_law_text.nd rfl (Or.inl rfl) (pe_op op_add_str (pe_op op_add_str (pe_op op_add_str (pv 2) pe_str) (pe_bmK (K:=K) rfl PySem.F.plainAttrs_str PySem.F.slot_str_join PySem.F.type_str_join (mt_join (K:=K) rfl) pe_str (pa_cons (pe_comp (M:=["x"]) rfl (compScope_of (sc:=defScope s_law_text) (N:=["parts","cell","whole","left","ring","cut"]) rfl rfl rfl (by decide +kernel) (by decide +kernel)) (pi_listK (K:=K) rfl (pe_op op_cat (pe_slice (sl_listK (K:=K) rfl) (pv 4) (po_some (pv 5)) po_none) (pe_slice (sl_listK (K:=K) rfl) (pv 4) po_none (po_some (pv 5))))) (fun _ _ _ _ _=>(pg_name (i:=0) (by show (["x","parts","cell","whole","left","ring","cut"]:List Str).Nodup; decide +kernel) rfl (Or.inl rfl))) (fun _ _ _ _ _=>pts_nil) (fun _ _ _ _ _=>(pe_callTy call_str_int (by rfl) T.z_str bt_str (pa_cons (pv 0) pa_nil)))) pa_nil))) pe_str)))))))
   (pss_cons (ps_if (pt_cmpR op_eq (pv 2) pe_str (nomark _)) (pss_one (ps_ret pe_str)) pss_nil)
   (pss_one (ps_ret (pv 2))))))),?_⟩
 walk_at "rd"
 refine ⟨ls.map V.ref,.inl (SqL.of ha),fun L hL=>?_⟩
 rw [cnil]
 have s2:=same_new hL (.lst (ls.map V.ref))
 have e2:(upd H L (.lst (ls.map V.ref))) L=some (.lst (ls.map V.ref)):=upd_same
 generalize upd H L (.lst (ls.map V.ref))=H2 at s2 e2
 refine wloop (fun m σ H5=>∃ (c:Int) (t:List Nat) (ls':List Addr) (v4 v5:Option V),m=ls'.length∧SEq σ [some (.ref a),some (.int c),some (.str (Tn t)),some (.ref L),v4,v5]∧Same H H5∧H5 L=some (.lst (ls'.map V.ref))∧(∀ x ∈ ls',Rg H x)∧t.length + 50 * ls'.length ≤ 800) _ ⟨c,[],ls,none,none,rfl,⟨rfl⟩,s2,e2,rg,by simp only [List.length_nil]; omega⟩ ?_
 rintro m σ H5 ⟨c,t,ls',v4,v5,rfl,⟨rfl⟩,s5,e5,rg',ht⟩
 walk_at "rd"
 refine ⟨_,.inl (SqL.of e5),?_⟩
 walk_at "rd"
 rw [List.length_map]
 by_cases h0:0 < ls'.length
 ·rw [if_pos (by omega)]
  refine ⟨fun σ' H'=>∃ (c:Int) (t:List Nat) (ls'':List Addr) (v4 v5:Option V),ls''.length < ls'.length∧SEq σ' [some (.ref a),some (.int c),some (.str (Tn t)),some (.ref L),v4,v5]∧Same H H'∧H' L=some (.lst (ls''.map V.ref))∧(∀ x ∈ ls'',Rg H x)∧t.length + 50 * ls''.length ≤ 800,
   fun σ' H' ⟨c,t,ls'',v4,v5,z1,z2,z3,z4,z5,z6⟩=>⟨_,z1,c,t,ls'',v4,v5,rfl,z2,z3,z4,z5,z6⟩,?_⟩
  refine ⟨.inr ⟨by decide,by decide⟩,by decide,?_⟩
  generalize (c * 48271 + 11) % 2147483647=c2
  walk_at "rd"
  refine ⟨.inl ⟨rfl,_,SqL.of e5⟩,_,.inl (SqL.of e5),?_⟩
  walk_at "rd"
  have hm:(0:Int) < ((ls'.map V.ref).length:Int):=by rw [List.length_map]; omega
  have hlt:=Int.emod_lt_of_pos c2 hm
  have hge:=Int.emod_nonneg c2 (Int.ne_of_gt hm)
  refine ⟨hm,?_⟩
  generalize c2 % ((ls'.map V.ref).length:Int)=ix at hlt hge
  rw [List.length_map] at hlt
  have hj:ix.toNat < ls'.length:=by omega
  have hg:ls'[ix.toNat]?=some ls'[ix.toNat]:=List.getElem?_eq_getElem hj
  generalize ls'[ix.toNat]=g at hg
  obtain ⟨r,er,r1,r2,rb⟩:=rg' g (List.mem_of_getElem? hg)
  have hgL:g ≠ L:=ne_of_none er hL
  have er5:(upd H5 L (.lst ((ls'.map V.ref).eraseIdx ix.toNat))) g=some (.lst (r.map V.int)):=by rw [upd_ne hgL]; exact s5.at er
  have s6:Same H (upd H5 L (.lst ((ls'.map V.ref).eraseIdx ix.toNat))):=same_put s5 hL _
  have e6:(upd H5 L (.lst ((ls'.map V.ref).eraseIdx ix.toNat))) L=some (.lst ((ls'.eraseIdx ix.toNat).map V.ref)):=by rw [upd_same,map_erase]
  refine ⟨_,ix.toNat,.ref g,e5,by omega,by omega,PySem.seqIndex_of hge (by rw [List.length_map]; omega),by rw [List.getElem?_map,hg]; rfl,⟨by decide,by decide⟩,?_⟩
  generalize upd H5 L (.lst ((ls'.map V.ref).eraseIdx ix.toNat))=H6 at er5 s6 e6
  walk_at "rd"
  refine ⟨_,.inl (SqL.of er5),?_⟩
  walk_at "rd"
  rw [List.length_map]
  have hm2:(0:Int) < (r.length:Int):=by omega
  have hlt2:=Int.emod_lt_of_pos (c2 / 97) hm2
  have hge2:=Int.emod_nonneg (c2 / 97) (Int.ne_of_gt hm2)
  refine ⟨hm2,?_⟩
  obtain ⟨k,hk⟩:∃ k:Nat,c2 / 97 % (r.length:Int)=k:=⟨(c2 / 97 % (r.length:Int)).toNat,by omega⟩
  rw [hk] at hlt2 ⊢
  refine ⟨_,_,rfl,rfl,by rw [c40,tn_len,tn_len]; exact small_str (by simp only [List.length_singleton]; omega),rfl,_,SqL.of er5,fun p1 hp1=>?_⟩
  rw [cut_from,← List.map_drop]
  have s7:=same_new hp1 (.lst ((r.drop k).map V.int))
  have e7:(upd H6 p1 (.lst ((r.drop k).map V.int))) p1=some (.lst ((r.drop k).map V.int)):=upd_same
  generalize upd H6 p1 (.lst ((r.drop k).map V.int))=H7 at s7 e7
  walk_at "rd"
  refine ⟨_,SqL.of (s7.at er5),fun p2 hp2=>?_⟩
  rw [cut_to _ (show k ≤ (r.map V.int).length by rw [List.length_map]; omega),← List.map_take]
  have s8:=same_new hp2 (.lst ((r.take k).map V.int))
  have e8:(upd H7 p2 (.lst ((r.take k).map V.int))) p2=some (.lst ((r.take k).map V.int)):=upd_same
  generalize upd H7 p2 (.lst ((r.take k).map V.int))=H8 at s8 e8
  walk_at "rd"
  refine ⟨_,_,s8.at e7,e8,?_,fun p3 hp3=>?_⟩
  ·refine small_str ?_
   rw [List.length_map,List.length_map,List.length_drop,List.length_take]
   omega
  rw [← List.map_append]
  have hRl:(r.drop k ++ r.take k).length ≤ 16:=by rw [List.length_append,List.length_drop,List.length_take]; omega
  have hRb:∀ z ∈ r.drop k ++ r.take k,0 ≤ z∧z < 16:=fun z hz=>by
   rcases List.mem_append.mp hz with e | e
   ·exact rb z (List.mem_of_mem_drop e)
   ·exact rb z (List.mem_of_mem_take e)
  generalize r.drop k ++ r.take k=R at hRl hRb
  have htl:=ringTxt_len hRl
  have s9:=same_new hp3 (.lst (R.map V.int))
  have e9:(upd H8 p3 (.lst (R.map V.int))) p3=some (.lst (R.map V.int)):=upd_same
  generalize upd H8 p3 (.lst (R.map V.int))=H9 at s9 e9
  refine ⟨⟨_,SqL.of e9⟩,?_⟩
  refine comp_list (xs:=R.map V.int) (fun i ys H3=>H3=H9∧ys=(R.take i).map fun z=>V.str (Tn (dg z.toNat))) ⟨rfl,rfl⟩ (fun i ys H3 _ h=>by rw [h.1]; exact SqL.of e9) (small100 (by rw [List.length_map]; omega)) (fun i ys H3 h=>by rw [h.2,List.length_map,List.length_take]; omega) ?_ ?_
  ·rintro i y ys H3 hy ⟨rfl,rfl⟩
   obtain ⟨z,rfl,hzi⟩:=at_int hy
   have b:=hRb z (List.mem_of_getElem? hzi)
   obtain ⟨f1,f2⟩:=fig b.1 b.2
   walk_at "rd"
   refine ⟨trivial,f2,trivial,?_⟩
   rw [f1,List.take_add_one,hzi,List.map_append]
   rfl
  ·rintro ys H3 ⟨rfl,rfl⟩ p hp
   rw [List.length_map,List.take_length]
   have e1:(R.map fun z=>V.str (Tn (dg z.toNat)))=(R.map fun z=>Tn (dg z.toNat)).map V.str:=by rw [List.map_map]; rfl
   rw [e1]
   have s10:=same_new hp (.lst ((R.map fun z=>Tn (dg z.toNat)).map V.str))
   walk_at "rd"
   refine ⟨_,SqL.of upd_same,joinOk_small (b:=2) figs_len (by rw [List.length_map,c32,tn_len]; simp; omega),?_⟩
   rw [c32,figs_join,c40,c41,tn_app]
   have sAll:Same H (upd H3 p (.lst ((R.map fun z=>Tn (dg z.toNat)).map V.str))):=s6.trans (s7.trans (s8.trans (s9.trans s10)))
   have eL:(upd H3 p (.lst ((R.map fun z=>Tn (dg z.toNat)).map V.str))) L=some (.lst ((ls'.eraseIdx ix.toNat).map V.ref)):=s10.at (s9.at (s8.at (s7.at e6)))
   have hel:(ls'.eraseIdx ix.toNat).length=ls'.length - 1:=List.length_eraseIdx_of_lt hj
   refine ⟨_,_,rfl,rfl,by rw [tn_len,tn_len]; exact small_str (by simp; omega),?_⟩
   rw [tn_app]
   refine ⟨_,_,rfl,rfl,by rw [tn_len,tn_len]; exact small_str (by simp; omega),?_⟩
   rw [tn_app]
   exact ⟨_,_,ls'.eraseIdx ix.toNat,_,_,by omega,⟨rfl⟩,sAll,eL,fun x hx=>rg' x (List.mem_of_mem_eraseIdx hx),by simp; omega⟩
 ·rw [if_neg (by omega),c4041]
  split
  ·exact q _ _ (by decide) s5
  ·exact q _ _ (by omega) s5
def sp_sign8:Sp:=fun vs H Q _=>∃ c:Int,vs=[.int c]∧∀ l:List Nat,l.length ≤ 1→Q (.str (Tn l)) H
theorem at_sign {z:PySem.Str} {c:Int} (h:0 < z.length):∃ s,atI z.cps.toList (c % (z.length:Int))=some s:=by
 have hm:(0:Int) < (z.length:Int):=by omega
 have hlt:=Int.emod_lt_of_pos c hm
 have hge:=Int.emod_nonneg c (Int.ne_of_gt hm)
 obtain ⟨k,hk⟩:∃ k:Nat,c % (z.length:Int)=k:=⟨(c % (z.length:Int)).toNat,by omega⟩
 rw [hk] at hlt ⊢
 have hk2:k < z.cps.toList.length:=by rw [Array.length_toList]; exact Int.ofNat_lt.mp hlt
 exact ⟨_,atI_nat (List.getElem?_eq_getElem hk2)⟩
theorem ok_law_sign (T:Tx K mg):FnOk P w K mg base CX0 1 T.f_law_sign T.d_law_sign ["cell"] sp_sign8:=by
 refine T.F_law_sign.ok sc_law_sign (fun vs H Q E h=>?_) (fun cdv A outer s H vs Q E hr h=>?_)
 ·obtain ⟨c,rfl,_⟩:=h
  rfl
 obtain ⟨c,rfl,q⟩:=h
 refine ⟨_,(pss_cons (ps_set (i:=1) sc_law_sign.nd rfl (Or.inl rfl) pe_str)
   (pss_cons (ps_set (i:=1) sc_law_sign.nd rfl (Or.inl rfl) (pe_op op_add_str (pe_op op_add_str (pv 1) pe_str) pe_str))
   (pss_one (ps_ret (pe_ix ix_str (pv 1) (pe_op op_mod (pv 0) (pe_callB call_len_str (by rfl) T.z_len bt_len (pa_cons (pv 1) pa_nil))) (fun _ _=>rfl)))))),?_⟩
 walk_at "rd"
 refine ⟨_,_,rfl,rfl,small_str (by decide +kernel),_,_,rfl,rfl,small_str (by decide +kernel),_,rfl,small_str (by decide +kernel),?_⟩
 generalize hz:(PySem.Str.ofString " !\"#$&'()*+,-./0123456789:;<=>?@ABCDEFGHIJKLMNOPQRSTUVWXYZ[\\]^_`" ++ PySem.Str.ofString "abcdefghijklmnopqrstuvwxyz{|}~" ++ PySem.Str.ofString "0123456789() 0123456789() ":PySem.Str)=z
 have h1:0 < z.length:=by rw [← hz]; decide +kernel
 have h2:z.length ≤ 5000:=by rw [← hz]; decide +kernel
 obtain ⟨s',hs⟩:=at_sign (c:=c) h1
 exact ⟨by omega,s',small_str h2,hs,q _ (Nat.le_refl _)⟩
def sp_changed8:Sp:=fun vs H Q _=>∃ (t:List Nat) (c d:Int),vs=[.str (Tn t),.int c,.int d]∧t.length ≤ 900∧∀ l:List Nat,l.length ≤ 2000→Q (.str (Tn l)) H
theorem sl_tn (t:List Nat) (lo hi:Option Int):∃ l:List Nat,Txt.slice (Tn t) lo hi=Tn l∧l.length ≤ t.length:=by
 obtain ⟨l,e⟩:=tn_of (Txt.slice (Tn t) lo hi)
 have:=Txt.slice_le (Tn t) lo hi
 rw [e,tn_len,tn_len] at this
 exact ⟨l,e,this⟩
theorem ok_law_changed (T:Tx K mg):FnOk P w K mg base CX0 2 T.f_law_changed T.d_law_changed ["text","cell","at"] sp_changed8:=by
 refine T.F_law_changed.ok sc_law_changed (fun vs H Q E h=>?_) (fun cdv A outer s H vs Q E hr h=>?_)
 ·obtain ⟨t,c,d,rfl,_⟩:=h
  rfl
 obtain ⟨t,c,d,rfl,ht,q⟩:=h
 have lens:(Tn t).length ≤ sizeLine:=by rw [tn_len]; exact small_str (by omega)
 refine ⟨_,(pss_cons (ps_set (i:=3) sc_law_changed.nd rfl (Or.inl rfl) (pe_op op_mod (pv 2) (pe_op op_add (pe_callB call_len_str (by rfl) T.z_len bt_len (pa_cons (pv 0) pa_nil)) pe_int)))
   (pss_cons (ps_set (i:=4) sc_law_changed.nd rfl (Or.inl rfl) (pe_op op_mod (pv 1) pe_int))
   (pss_cons (ps_if (pt_cmpR op_eq (pv 4) pe_int (nomark _)) (pss_one (ps_ret (pe_op op_add_str (pe_op op_add_str (pe_slice sl_strA (pv 0) po_none (po_some (pv 3))) (pe_call (ok_law_sign T) (hr.mono (by decide)) rfl T.m_law_sign T.F_law_sign.kp T.b_law_sign .nil pass0 (pa_cons (pe_op op_fdiv (pv 1) pe_int) pa_nil))) (pe_slice sl_strA (pv 0) (po_some (pv 3)) po_none)))) pss_nil)
   (pss_cons (ps_if (pt_cmpR op_eq (pv 4) pe_int (nomark _)) (pss_one (ps_ret (pe_op op_add_str (pe_op op_add_str (pe_slice sl_strA (pv 0) po_none (po_some (pv 3))) (pe_call (ok_law_sign T) (hr.mono (by decide)) rfl T.m_law_sign T.F_law_sign.kp T.b_law_sign .nil pass0 (pa_cons (pe_op op_fdiv (pv 1) pe_int) pa_nil))) (pe_slice sl_strA (pv 0) (po_some (pe_op op_add (pv 3) pe_int)) po_none)))) pss_nil)
   (pss_one (ps_ret (pe_op op_add_str (pe_slice sl_strA (pv 0) po_none (po_some (pv 3))) (pe_slice sl_strA (pv 0) (po_some (pe_op op_add (pv 3) pe_int)) po_none)))))))),?_⟩
 walk_at "rd"
 refine ⟨_,rfl,lens,by omega,by decide,?_⟩
 generalize d % (((Tn t).length:Int) + 1)=d
 obtain ⟨l1,e1,h1⟩:=sl_tn t none (some d)
 obtain ⟨l2,e2,h2⟩:=sl_tn t (some d) none
 obtain ⟨l3,e3,h3⟩:=sl_tn t (some (d + 1)) none
 rw [e1,e2,e3]
 split
 ·refine ⟨lens,⟨by decide,by decide⟩,_,rfl,fun m hm=>⟨_,_,rfl,rfl,by rw [tn_len,tn_len]; exact small_str (by omega),lens,?_⟩⟩
  rw [tn_app,tn_app,tn_len,tn_len]
  exact ⟨small_str (by rw [List.length_append]; omega),q _ (by rw [List.length_append,List.length_append]; omega)⟩
 ·split
  ·refine ⟨lens,⟨by decide,by decide⟩,_,rfl,fun m hm=>⟨_,_,rfl,rfl,by rw [tn_len,tn_len]; exact small_str (by omega),lens,?_⟩⟩
   rw [tn_app,tn_app,tn_len,tn_len]
   exact ⟨small_str (by rw [List.length_append]; omega),q _ (by rw [List.length_append,List.length_append]; omega)⟩
  ·refine ⟨lens,lens,?_⟩
   rw [tn_app,tn_len,tn_len]
   exact ⟨small_str (by omega),q _ (by rw [List.length_append]; omega)⟩
def shB:V→Bool
 | .str z=>decide (z.length ≤ 20)
 | _=>false
def sp_odd8:Sp:=fun vs H Q _=>∃ c:Int,vs=[.int c]∧∀ (l:List Nat) (H':Hp),l.length ≤ 100→Same H H'→Q (.str (Tn l)) H'
theorem ok_law_odd (T:Tx K mg):FnOk P w K mg base CX0 1 T.f_law_odd T.d_law_odd ["cell"] sp_odd8:=by
 refine T.F_law_odd.ok sc_law_odd (fun vs H Q E h=>?_) (fun cdv A outer s H vs Q E hr h=>?_)
 ·obtain ⟨c,rfl,_⟩:=h
  rfl
 obtain ⟨c,rfl,q⟩:=h
 refine ⟨_,(pss_cons (ps_set (i:=1) sc_law_odd.nd rfl (Or.inl rfl) (pe_lst (pa_cons pe_str (pa_cons pe_str (pa_cons pe_str (pa_cons pe_str (pa_cons pe_str (pa_cons pe_str (pa_cons pe_str (pa_cons pe_str (pa_cons pe_str (pa_cons pe_str (pa_cons pe_str (pa_cons pe_str (pa_cons pe_str pa_nil)))))))))))))))
   (pss_cons (ps_set (i:=1) sc_law_odd.nd rfl (Or.inl rfl) (pe_op op_cat (pv 1) (pe_lst (pa_cons pe_str (pa_cons pe_str (pa_cons pe_str (pa_cons pe_str (pa_cons pe_str (pa_cons pe_str (pa_cons pe_str (pa_cons pe_str (pa_cons pe_str pa_nil))))))))))))
   (pss_cons (ps_set (i:=1) sc_law_odd.nd rfl (Or.inl rfl) (pe_op op_cat (pv 1) (pe_lst (pa_cons pe_str (pa_cons pe_str (pa_cons pe_str (pa_cons pe_str (pa_cons pe_str (pa_cons pe_str (pa_cons pe_str (pa_cons pe_str (pa_cons pe_str pa_nil))))))))))))
   (pss_one (ps_ret (pe_ix (ix_listK (K:=K) rfl) (pv 1) (pe_op op_mod (pv 0) (pe_callB (call_lenK (K:=K) rfl) (by rfl) T.z_len bt_len (pa_cons (pv 1) pa_nil))) (fun _ _=>rfl))))))),?_⟩
 simp only [L2.start,List.map_cons,List.map_nil,List.length_cons,List.length_nil,Nat.zero_add,Nat.reduceAdd,Nat.reduceSub,List.replicate,Nat.sub_self,Nat.sub_zero,r_seq,r_asg,r_gname,r_lst,r_nil,r_cons,r_c,r_op,r_var,r_ret,List.getElem?_cons_zero,List.getElem?_cons_succ,List.set_cons_zero,List.set_cons_succ,List.cons_append,List.nil_append,List.append_nil]
 refine ⟨small_str (by decide),fun a ha=>⟨_,rfl,small_str (by decide),fun b hb=>?_⟩⟩
 generalize hX:(PySem.Str.ofString "" |> V.str) :: _=X at hb ⊢
 have bX:X.all shB=true:=by rw [← hX]; decide +kernel
 have lX:X.length=13:=by rw [← hX]; rfl
 clear hX
 generalize hY:(PySem.Str.ofString "(0 1) " |> V.str) :: _=Y
 have bY:Y.all shB=true:=by rw [← hY]; decide +kernel
 have lY:Y.length=9:=by rw [← hY]; rfl
 clear hY
 have s1:=(same_new ha (.lst X)).trans (same_new hb (.lst Y))
 have ea:=(same_new hb (.lst Y)).at (upd_same (H:=H) (a:=a) (o:=.lst X))
 have eb:(upd (upd H a (.lst X)) b (.lst Y)) b=some (.lst Y):=upd_same
 generalize upd (upd H a (.lst X)) b (.lst Y)=H1 at s1 ea eb
 rw [r_cat]
 refine ⟨_,_,ea,eb,small_str (by omega),fun d hd=>⟨_,rfl,small_str (by decide),fun e he=>?_⟩⟩
 generalize hZ:(PySem.Str.ofString "(0 1) (2 3)" |> V.str) :: _=Z
 have bZ:Z.all shB=true:=by rw [← hZ]; decide +kernel
 have lZ:Z.length=9:=by rw [← hZ]; rfl
 clear hZ
 have s2:=s1.trans ((same_new hd (.lst (X ++ Y))).trans (same_new he (.lst Z)))
 have ed:=(same_new he (.lst Z)).at (upd_same (H:=H1) (a:=d) (o:=.lst (X ++ Y)))
 have ee:(upd (upd H1 d (.lst (X ++ Y))) e (.lst Z)) e=some (.lst Z):=upd_same
 generalize upd (upd H1 d (.lst (X ++ Y))) e (.lst Z)=H2 at s2 ed ee
 rw [r_cat]
 refine ⟨_,_,ed,ee,small_str (by rw [List.length_append]; omega),fun f hf=>?_⟩
 have bW:(X ++ Y ++ Z).all shB=true:=by rw [List.all_append,List.all_append,bX,bY,bZ]; rfl
 have lW:(X ++ Y ++ Z).length=31:=by rw [List.length_append,List.length_append,lX,lY,lZ]
 generalize X ++ Y ++ Z=W at bW lW
 have s3:=s2.trans (same_new hf (.lst W))
 have ef:(upd H2 f (.lst W)) f=some (.lst W):=upd_same
 generalize upd H2 f (.lst W)=H3 at s3 ef
 walk_at "rd"
 refine ⟨_,.inl (SqL.of ef),?_⟩
 walk_at "rd"
 have hm:(0:Int) < (W.length:Int):=by omega
 have hlt:=Int.emod_lt_of_pos c hm
 have hge:=Int.emod_nonneg c (Int.ne_of_gt hm)
 obtain ⟨k,hk⟩:∃ k:Nat,c % (W.length:Int)=k:=⟨(c % (W.length:Int)).toNat,by omega⟩
 rw [hk] at hlt ⊢
 have hk2:k < W.length:=Int.ofNat_lt.mp hlt
 have hg:=List.getElem?_eq_getElem hk2
 generalize W[k]=v at hg
 have hv:=List.all_eq_true.mp bW v (List.mem_of_getElem? hg)
 refine ⟨hm,_,_,SqL.of ef,atI_nat hg,?_⟩
 match v,hv with
 | .str z,hv =>
  obtain ⟨l,rfl⟩:=tn_of z
  have:(Tn l).length ≤ 20:=of_decide_eq_true hv
  rw [tn_len] at this
  exact q l _ (by omega) s3
def sp_law_same:Sp:=fun vs H Q _=>∃ (a b:Addr) (ns ms:List Int),vs=[.ref a,.ref b]∧H a=some (.tup (ns.map V.int))∧H b=some (.tup (ms.map V.int))∧Q (.bl (decide (ns=ms))) H
theorem ok_law_same (T:Tx K mg):FnOk P w K mg base CX0 2 T.f_law_same T.d_law_same ["found","due"] sp_law_same:=by
 refine T.F_law_same.ok sc_law_same (fun vs H Q E h=>?_) (fun cdv A outer s H vs Q E hr h=>?_)
 ·obtain ⟨a,b,ns,ms,rfl,_⟩:=h
  rfl
 obtain ⟨a,b,ns,ms,rfl,hA,hB,q⟩:=h
 have hu0:=hu0_of hr
 refine ⟨_,(pss_cons (ps_if (PW.pt (pw_or (pt_not (pt_val (pe_callB (call_isinstK (K:=K) rfl) (by rfl) T.z_isinstance bt_isinstance (pa_cons (pv 0) (pa_cons (pe_bty rfl T.z_tuple bt_tuple) pa_nil))))) (pw_or1 (pt_cmpR op_ne (pe_callB (call_lenK (K:=K) rfl) (by rfl) T.z_len bt_len (pa_cons (pv 0) pa_nil)) (pe_callB (call_lenK (K:=K) rfl) (by rfl) T.z_len bt_len (pa_cons (pv 1) pa_nil)) (nomark _))))) (pss_one (ps_ret pe_bl)) pss_nil)
   (pss_cons (ps_for PassesOwn.never rfl (pi_tupK (K:=K) rfl (pv 0)) (pg_name (i:=2) sc_law_same.nd rfl (Or.inl rfl)) (pss_one (ps_if (pt_not (pt_val (pe_call (ok_law_whole T) (hr.mono (by decide)) rfl T.m_law_whole T.F_law_whole.kp T.b_law_whole .nil pass0 (pa_cons (pv 2) pa_nil)))) (pss_one (ps_ret pe_bl)) pss_nil)))
   (pss_one (ps_ret (pe_cmpR (op_eq_seqK (K:=K) rfl hu0) (pv 0) (pv 1) (nomark _)))))),?_⟩
 walk_at "rd"
 refine ⟨_,true,.tup hA,kit_tup_tup K,?_⟩
 walk_at "rd"
 refine ⟨ns.map V.int,.inr (SqT.of hA),ms.map V.int,.inr (SqT.of hB),?_⟩
 walk_at "rd"
 rw [List.length_map,List.length_map]
 split
 ·rename_i hne
  have e:decide (ns=ms)=false:=decide_eq_false fun z=>hne (by rw [z])
  rw [e] at q
  exact q
 refine ⟨⟨_,SqT.of hA⟩,?_⟩
 refine loop_tup (xs:=ns.map V.int) (fun i σ H3=>H3=H∧∃ k:Option V,SEq σ [some (.ref a),some (.ref b),k]) ⟨rfl,none,⟨rfl⟩⟩ (fun i σ H3 _ h=>by rw [h.1]; exact SqT.of hA) ?_ ?_
 ·rintro i x σ H3 hx ⟨rfl,k,⟨rfl⟩⟩
  obtain ⟨z,rfl⟩:∃ z:Int,x=.int z:=by
   rw [List.getElem?_map] at hx
   cases e:ns[i]? with
   | none=>rw [e] at hx; cases hx
   | some z=>rw [e] at hx; exact ⟨z,(Option.some.inj hx).symm⟩
  walk_at "rd"
  refine ⟨z,rfl,?_⟩
  walk_at "rd"
  exact ⟨trivial,_,⟨rfl⟩⟩
 ·rintro σ H3 ⟨rfl,k,⟨rfl⟩⟩
  walk_at "rd"
  refine ⟨ns.map V.int,ms.map V.int,.inr ⟨SqT.of hA,SqT.of hB⟩,by simp [flatV],by simp [flatV],?_⟩
  rw [eqVs_ints]
  exact q
def sp_law (K:PySem.W.Frag):Sp:=fun vs H Q _=>∃ (a:Addr) (ns:List Int),vs=[.ref a]∧SqL K H a (ns.map V.int)∧ns.length ≤ 63∧∀ H',Q (.bl true) H'
def sp_refused8:Sp:=fun vs H Q _=>∃ (l:List Nat) (z:Int) (bs:List Bool),vs=[.str (Tn l),.int z]∧l.length ≤ 2000∧((¬ (1 ≤ z∧z ≤ 16)∧bs=[false,true,true,false])∨((∃ n:Nat,z=n∧1 ≤ n∧n ≤ 16∧¬ ∃ rs,rs ≠ []∧Ok8 n rs∧l=shTxt rs)∧l ≠ [40,41]∧bs=[true,false,true,false]))∧∀ (p:Addr) (H':Hp),Same H H'→H' p=some (.tup (bs.map V.bl))→Q (.ref p) H'
theorem ok_law_refused (T:Tx K mg):FnOk P w K mg base CX0 4 T.f_law_refused T.d_law_refused ["text","size"] sp_refused8:=by
 refine T.F_law_refused.ok sc_law_refused (fun vs H Q E h=>?_) (fun cdv A outer s H vs Q E hr h=>?_)
 ·obtain ⟨l,z,bs,rfl,_⟩:=h
  rfl
 obtain ⟨l,z,bs,rfl,hll,hre,q⟩:=h
 have hu0:=hu0_of hr
 refine ⟨_,(pss_cons (ps_set (i:=2) sc_law_refused.nd rfl (Or.inl rfl) pe_non)
   (pss_cons (ps_try (i:=3) rfl rfl rfl sc_law_refused.nd rfl rfl T.x_RoomError rfl T.k_RoomError (fun _ _=>(pss_one (ps_expr (pe_callX (ok_read T) (hr.mono (by decide)) rfl T.m_read T.F_read.kp T.b_read .nil passT (pa_cons (pv 0) (pa_cons (pv 1) pa_nil)))))) (fun _=>(pss_one (ps_set (i:=2) sc_law_refused.nd rfl (Or.inl rfl) (pe_tup (pa_cons (pe_callB (call_isinstX (K:=K) rfl) (by rfl) T.z_isinstance bt_isinstance (pa_cons (pv 3) (pa_cons (pe_gcls rfl T.k_NotRead) pa_nil))) (pa_cons (pe_callB (call_isinstX (K:=K) rfl) (by rfl) T.z_isinstance bt_isinstance (pa_cons (pv 3) (pa_cons (pe_gcls rfl T.k_NoSize) pa_nil))) (pa_cons (pe_callB (call_isinstX (K:=K) rfl) (by rfl) T.z_isinstance bt_isinstance (pa_cons (pv 3) (pa_cons (pe_bty rfl T.z_ValueError bt_ValueError) pa_nil))) (pa_cons (pe_callB (call_isinstX (K:=K) rfl) (by rfl) T.z_isinstance bt_isinstance (pa_cons (pv 3) (pa_cons (pe_gcls rfl T.k_Unreached) pa_nil))) pa_nil)))))))))
   (pss_one (ps_ret (pv 2))))),?_⟩
 walk_at "rd"
 refine try_by (fun σ' cls _ H'=>SEq σ' [some (.str (Tn l)),some (.int z),some .non,none]∧Same H H'∧((cls=.ref T.c_NoSize∧bs=[false,true,true,false])∨(cls=.ref T.c_NotRead∧bs=[true,false,true,false]))) ?_ ?_
 ·walk_at "rd"
  refine ⟨l,z,rfl,hll,fun no H' s'=>?_,fun n e n1 n2=>?_⟩
  ·rcases hre with ⟨_,e⟩ | ⟨⟨n,e,n1,n2,_⟩,_⟩
   ·exact ⟨⟨rfl⟩,s',.inl ⟨rfl,e⟩⟩
   ·exact absurd ⟨by omega,by omega⟩ no
  ·rcases hre with ⟨no,_⟩ | ⟨⟨n',e',_,_,hno⟩,hne,eb⟩
   ·exact absurd ⟨by omega,by omega⟩ no
   ·have:n'=n:=by omega
    subst this
    exact ⟨fun z=>absurd z hne,fun rs a b c=>absurd ⟨rs,a,b,c⟩ hno,fun _ _ H' s'=>⟨⟨rfl⟩,s',.inr ⟨rfl,eb⟩⟩⟩
 ·rintro σ' cls H' ⟨⟨rfl⟩,s',h⟩
  rcases h with ⟨rfl,rfl⟩ | ⟨rfl,rfl⟩
  ·refine ⟨_,rfl,T.x_NoSize,T.y_NoSize_RoomError,fun ea hea=>?_⟩
   have s2:Same H (upd H' ea (excO ea T.c_NoSize)):=s'.trans (same_new hea _)
   have e2:(upd H' ea (excO ea T.c_NoSize)) ea=some (excO ea T.c_NoSize):=upd_same
   generalize upd H' ea (excO ea T.c_NoSize)=H2 at s2 e2
   walk_at "rd"
   refine ⟨_,_,e2,T.x_NoSize,T.x_NoSize.one T.x_NotRead T.y_NoSize_NotRead,?_⟩
   refine ⟨_,_,e2,T.x_NoSize,T.x_NoSize.one T.x_NoSize T.y_NoSize_NoSize,?_⟩
   refine ⟨_,_,e2,T.x_NoSize,T.x_NoSize.oneV,?_⟩
   refine ⟨_,_,e2,T.x_NoSize,T.x_NoSize.one T.x_Unreached T.y_NoSize_Unreached,?_⟩
   walk_at "rd"
   exact ⟨by decide,fun p hp=>q p _ (s2.trans (same_new hp _)) upd_same⟩
  ·refine ⟨_,rfl,T.x_NotRead,T.y_NotRead_RoomError,fun ea hea=>?_⟩
   have s2:Same H (upd H' ea (excO ea T.c_NotRead)):=s'.trans (same_new hea _)
   have e2:(upd H' ea (excO ea T.c_NotRead)) ea=some (excO ea T.c_NotRead):=upd_same
   generalize upd H' ea (excO ea T.c_NotRead)=H2 at s2 e2
   walk_at "rd"
   refine ⟨_,_,e2,T.x_NotRead,T.x_NotRead.one T.x_NotRead T.y_NotRead_NotRead,?_⟩
   refine ⟨_,_,e2,T.x_NotRead,T.x_NotRead.one T.x_NoSize T.y_NotRead_NoSize,?_⟩
   refine ⟨_,_,e2,T.x_NotRead,T.x_NotRead.oneV,?_⟩
   refine ⟨_,_,e2,T.x_NotRead,T.x_NotRead.one T.x_Unreached T.y_NotRead_Unreached,?_⟩
   walk_at "rd"
   exact ⟨by decide,fun p hp=>q p _ (s2.trans (same_new hp _)) upd_same⟩
theorem sh_ne {n:Nat} {rs:List (List Int)} (n2:n ≤ 16) (h:rs ≠ []) (ok:Ok8 n rs):shTxt rs ≠ [40,41]:=fun e=>by
 rw [sh_inner h] at e
 cases rs with
 | nil=>exact h rfl
 | cons r rs =>
  have hl:=ok.len r List.mem_cons_self
  cases r with
  | nil=>simp at hl
  | cons z r =>
   have hd:=(dg_no z.toNat (by have:=ok.mem (z :: r) List.mem_cons_self z List.mem_cons_self; omega)).2.2.2
   have:=congrArg List.length e
   rw [List.map_cons,inter_cons] at this
   unfold ringTxt at this
   rw [List.map_cons,inter_cons] at this
   cases hdd:dg z.toNat with
   | nil=>exact hd hdd
   | cons c cs=>rw [hdd] at this; simp at this
theorem ok_law (T:Tx K mg):FnOk P w K mg base CX0 5 T.f_law T.d_law ["script"] (sp_law K):=by
 refine T.F_law.ok sc_law (fun vs H Q E h=>?_) (fun cdv A outer s H vs Q E hr h=>?_)
 ·obtain ⟨a,ns,rfl,_⟩:=h
  rfl
 obtain ⟨a,ns,rfl,hS,h63,q⟩:=h
 have hu0:=hu0_of hr
 have sz:∀ z:Int,∃ n:Nat,1 + z % 16=(n:Int)∧1 ≤ n∧n ≤ 16:=fun z=>⟨(1 + z % 16).toNat,by omega,by omega,by omega⟩
 obtain ⟨t5,ht5,hq5⟩:∃ tl:TS,PSs (cxOf CX0 P w K mg base ["script","size","text","due"] "law" (defScope s_law) T.f_law cdv A outer s H E).nox ((defBody s_law).drop 5) tl∧∀ (l:List Nat) (n:Nat) (H1:Hp),Same H H1→l.length ≤ 2000→1 ≤ n→n ≤ 16 →
   tl { nx:=fun _ H'=>Q .non H',rt:=Q } [some (.ref a),some (.int n),some (.str (Tn l)),none] H1:=by
  refine ⟨_,(pss_cons (ps_set (i:=3) sc_law.nd rfl (Or.inl rfl) (pe_call (ok_law_due T) (hr.mono (by decide)) rfl T.m_law_due T.F_law_due.kp T.b_law_due .nil pass0 (pa_cons (pv 2) (pa_cons (pv 1) pa_nil))))
   (pss_cons (ps_if (pt_cmpR op_isN (pv 3) pe_non (nomark _)) (pss_cons (ps_if (pt_cmpR (op_ne_seqK (K:=K) rfl hu0) (pe_call (ok_law_refused T) (hr.mono (by decide)) rfl T.m_law_refused T.F_law_refused.kp T.b_law_refused .nil pass0 (pa_cons (pv 2) (pa_cons pe_int pa_nil))) (pe_tup (pa_cons pe_bl (pa_cons pe_bl (pa_cons pe_bl (pa_cons pe_bl pa_nil))))) (nomark _)) (pss_one (ps_ret pe_bl)) pss_nil)
   (pss_one (ps_ret (pe_cmpR (op_eq_seqK (K:=K) rfl hu0) (pe_call (ok_law_refused T) (hr.mono (by decide)) rfl T.m_law_refused T.F_law_refused.kp T.b_law_refused .nil pass0 (pa_cons (pv 2) (pa_cons (pv 1) pa_nil))) (pe_tup (pa_cons pe_bl (pa_cons pe_bl (pa_cons pe_bl (pa_cons pe_bl pa_nil))))) (nomark _))))) pss_nil)
   (pss_one (ps_ret (pe_call (ok_law_same T) (hr.mono (by decide)) rfl T.m_law_same T.F_law_same.kp T.b_law_same .nil pass0 (pa_cons (pe_call (ok_read T) (hr.mono (by decide)) rfl T.m_read T.F_read.kp T.b_read .nil passX0 (pa_cons (pv 2) (pa_cons (pv 1) pa_nil))) (pa_cons (pv 3) pa_nil))))))),fun l n H1 s1 hl n1 n2=>?_⟩
  walk_at "rd"
  refine ⟨l,n,rfl,n1,n2,hl,fun e t H2 s2 e2=>?_,fun rs ne ok e t row H2 s2 hr2 e2=>?_,fun ne no H2 s2=>?_⟩
  ·refine ⟨trivial,?_⟩
   rw [if_neg (fun z=>by cases z)]
   refine ⟨l,n,rfl,hl,fun no=>absurd ⟨by omega,by omega⟩ no,fun m em m1 m2=>?_⟩
   have:m=n:=by omega
   subst this
   refine ⟨fun _ t' H3 s3 e3=>?_,fun rs ne ok er=>?_,fun ne=>absurd e ne⟩
   ·refine ⟨t',t,_,_,rfl,e3,s3.at e2,?_⟩
    rw [decide_eq_true rfl]
    exact q _
   ·exact absurd (er.symm.trans e) (sh_ne n2 ne ok)
  ·refine ⟨trivial,?_⟩
   rw [if_neg (fun z=>by cases z)]
   refine ⟨l,n,rfl,hl,fun no=>absurd ⟨by omega,by omega⟩ no,fun m em m1 m2=>?_⟩
   have:m=n:=by omega
   subst this
   refine ⟨fun e'=>?_,fun qs ne' ok' e' t' row' H3 s3 hr3 e3=>?_,fun _ no=>absurd ⟨rs,ne,ok,e⟩ no⟩
   ·exact absurd (e.symm.trans e') (sh_ne n2 ne ok)
   ·have:rs=qs:=sh_inj n2 ne ne' ok.len ok'.len ok.mem ok'.mem (e.symm.trans e')
    subst this
    refine ⟨t',t,_,_,rfl,e3,s3.at e2,?_⟩
    rw [decide_eq_true (hr3.unique hr2)]
    exact q _
  ·refine ⟨trivial,?_⟩
   rw [if_pos rfl]
   refine ⟨l,0,_,rfl,hl,.inl ⟨by omega,rfl⟩,fun p H3 s3 e3=>⟨by decide,fun p2 hp2=>?_⟩⟩
   have s4:=same_new hp2 (.tup [.bl false,.bl true,.bl true,.bl false])
   walk_at "rd"
   refine ⟨_,_,.inr ⟨SqT.of (s4.at e3),SqT.of upd_same⟩,rfl,rfl,?_⟩
   walk_at "rd"
   rw [if_neg (by decide)]
   refine ⟨l,n,_,rfl,hl,.inr ⟨⟨n,rfl,n1,n2,no⟩,ne,rfl⟩,fun p5 H5 s5 e5=>⟨by decide,fun p6 hp6=>?_⟩⟩
   have s6:=same_new hp6 (.tup [.bl true,.bl false,.bl true,.bl false])
   walk_at "rd"
   refine ⟨_,_,.inr ⟨SqT.of (s6.at e5),SqT.of upd_same⟩,rfl,rfl,?_⟩
   exact q _
 obtain ⟨t4,ht4,hq4⟩:∃ tl:TS,PSs (cxOf CX0 P w K mg base ["script","size","text","due"] "law" (defScope s_law) T.f_law cdv A outer s H E).nox ((defBody s_law).drop 4) tl∧∀ (l:List Nat) (n:Nat) (H1:Hp),Same H H1→l.length ≤ 2000→1 ≤ n→n ≤ 16 →
   tl { nx:=fun _ H'=>Q .non H',rt:=Q } [some (.ref a),some (.int n),some (.str (Tn l)),none] H1:=by
  refine ⟨_,(pss_cons (ps_if (pt_cmpR op_eq (pe_op op_mod (pe_op op_fdiv (pe_call (ok_law_cell_at T) (hr.mono (by decide)) rfl T.m_law_cell_at T.F_law_cell_at.kp T.b_law_cell_at .nil pass0 (pa_cons (pv 0) (pa_cons pe_int pa_nil))) pe_int) pe_int) pe_int (nomark _)) (pss_one (ps_set (i:=1) sc_law.nd rfl (Or.inl rfl) (pe_op op_add pe_int (pe_op op_mod (pe_op op_fdiv (pe_call (ok_law_cell_at T) (hr.mono (by decide)) rfl T.m_law_cell_at T.F_law_cell_at.kp T.b_law_cell_at .nil pass0 (pa_cons (pv 0) (pa_cons pe_int pa_nil))) pe_int) pe_int)))) pss_nil)
   ht5),fun l n H1 s1 hl n1 n2=>?_⟩
  walk_at "rd"
  refine ⟨a,ns,0,rfl,s1.seq hS,by decide,?_⟩
  walk_at "rd"
  refine ⟨⟨by decide,by decide⟩,by decide,?_⟩
  split
  ·refine ⟨a,ns,0,rfl,s1.seq hS,by decide,?_⟩
   walk_at "rd"
   refine ⟨⟨by decide,by decide⟩,by decide,?_⟩
   obtain ⟨m,hm,m1,m2⟩:=sz (ns.getD (0:Int).toNat 0 / 64)
   rw [hm]
   exact hq5 l m H1 s1 hl m1 m2
  ·exact hq5 l n H1 s1 hl n1 n2
 obtain ⟨t3,ht3,hq3⟩:∃ tl:TS,PSs (cxOf CX0 P w K mg base ["script","size","text","due"] "law" (defScope s_law) T.f_law cdv A outer s H E).nox ((defBody s_law).drop 3) tl∧∀ (l:List Nat) (n:Nat) (H1:Hp),Same H H1→l.length ≤ 2000→1 ≤ n→n ≤ 16 →
   tl { nx:=fun _ H'=>Q .non H',rt:=Q } [some (.ref a),some (.int n),some (.str (Tn l)),none] H1:=by
  refine ⟨_,(pss_cons (ps_if (pt_cmpR op_eq (pe_op op_mod (pe_op op_fdiv (pe_call (ok_law_cell_at T) (hr.mono (by decide)) rfl T.m_law_cell_at T.F_law_cell_at.kp T.b_law_cell_at .nil pass0 (pa_cons (pv 0) (pa_cons pe_int pa_nil))) pe_int) pe_int) pe_int (nomark _)) (pss_one (ps_set (i:=2) sc_law.nd rfl (Or.inl rfl) (pe_call (ok_law_odd T) (hr.mono (by decide)) rfl T.m_law_odd T.F_law_odd.kp T.b_law_odd .nil pass0 (pa_cons (pe_call (ok_law_cell_at T) (hr.mono (by decide)) rfl T.m_law_cell_at T.F_law_cell_at.kp T.b_law_cell_at .nil pass0 (pa_cons (pv 0) (pa_cons pe_int pa_nil))) pa_nil)))) pss_nil)
   ht4),fun l n H1 s1 hl n1 n2=>?_⟩
  walk_at "rd"
  refine ⟨a,ns,3,rfl,s1.seq hS,by decide,?_⟩
  walk_at "rd"
  refine ⟨⟨by decide,by decide⟩,by decide,?_⟩
  split
  ·refine ⟨a,ns,4,rfl,s1.seq hS,by decide,?_⟩
   walk_at "rd"
   refine ⟨_,rfl,fun l2 H2 hl2 s2=>?_⟩
   exact hq4 l2 n H2 (s1.trans s2) (by omega) n1 n2
  ·exact hq4 l n H1 s1 hl n1 n2
 obtain ⟨n,hn,n1,n2⟩:=sz (ns.getD (0:Int).toNat 0)
 refine ⟨_,(pss_cons (ps_set (i:=1) sc_law.nd rfl (Or.inl rfl) (pe_op op_add pe_int (pe_op op_mod (pe_call (ok_law_cell_at T) (hr.mono (by decide)) rfl T.m_law_cell_at T.F_law_cell_at.kp T.b_law_cell_at .nil pass0 (pa_cons (pv 0) (pa_cons pe_int pa_nil))) pe_int)))
   (pss_cons (ps_set (i:=2) sc_law.nd rfl (Or.inl rfl) (pe_call (ok_law_text T) (hr.mono (by decide)) rfl T.m_law_text T.F_law_text.kp T.b_law_text .nil pass0 (pa_cons (pe_call (ok_law_rings T) (hr.mono (by decide)) rfl T.m_law_rings T.F_law_rings.kp T.b_law_rings .nil pass0 (pa_cons (pe_call (ok_law_far T) (hr.mono (by decide)) rfl T.m_law_far T.F_law_far.kp T.b_law_far .nil pass0 (pa_cons (pe_call (ok_law_cell_at T) (hr.mono (by decide)) rfl T.m_law_cell_at T.F_law_cell_at.kp T.b_law_cell_at .nil pass0 (pa_cons (pv 0) (pa_cons pe_int pa_nil))) (pa_cons (pv 1) pa_nil))) pa_nil)) (pa_cons (pe_call (ok_law_cell_at T) (hr.mono (by decide)) rfl T.m_law_cell_at T.F_law_cell_at.kp T.b_law_cell_at .nil pass0 (pa_cons (pv 0) (pa_cons pe_int pa_nil))) pa_nil))))
   (pss_cons (ps_if (pt_cmpR op_eq (pe_op op_mod (pe_call (ok_law_cell_at T) (hr.mono (by decide)) rfl T.m_law_cell_at T.F_law_cell_at.kp T.b_law_cell_at .nil pass0 (pa_cons (pv 0) (pa_cons pe_int pa_nil))) pe_int) pe_int (nomark _)) (pss_one (ps_set (i:=2) sc_law.nd rfl (Or.inl rfl) (pe_call (ok_law_changed T) (hr.mono (by decide)) rfl T.m_law_changed T.F_law_changed.kp T.b_law_changed .nil pass0 (pa_cons (pv 2) (pa_cons (pe_call (ok_law_cell_at T) (hr.mono (by decide)) rfl T.m_law_cell_at T.F_law_cell_at.kp T.b_law_cell_at .nil pass0 (pa_cons (pv 0) (pa_cons pe_int pa_nil))) (pa_cons (pe_call (ok_law_cell_at T) (hr.mono (by decide)) rfl T.m_law_cell_at T.F_law_cell_at.kp T.b_law_cell_at .nil pass0 (pa_cons (pv 0) (pa_cons pe_int pa_nil))) pa_nil)))))) pss_nil)
   ht3))),?_⟩
 walk_at "rd"
 refine ⟨a,ns,0,rfl,hS,by decide,?_⟩
 walk_at "rd"
 refine ⟨by decide,?_⟩
 rw [hn]
 refine ⟨a,ns,1,rfl,hS,by decide,?_⟩
 refine ⟨_,n,rfl,by omega,fun r1 x1 H1 s1 p1 e1=>?_⟩
 refine ⟨r1,x1,n,rfl,SqT.of e1,n1,n2,p1,fun g ls rs H2 s2 e2 t2 pt l16=>?_⟩
 have s12:=s1.trans s2
 refine ⟨a,ns,2,rfl,s12.seq hS,by decide,?_⟩
 refine ⟨g,ls,rs,_,rfl,e2,t2,pt,l16,fun l H3 hl s3=>?_⟩
 have s13:=s12.trans s3
 refine ⟨a,ns,3,rfl,s13.seq hS,by decide,?_⟩
 walk_at "rd"
 refine ⟨by decide,?_⟩
 split
 ·refine ⟨a,ns,4,rfl,s13.seq hS,by decide,?_⟩
  refine ⟨a,ns,5,rfl,s13.seq hS,by decide,?_⟩
  refine ⟨l,_,_,rfl,hl,fun l2 hl2=>?_⟩
  exact hq3 l2 n H3 s13 hl2 n1 n2
 ·exact hq3 l n H3 s13 (by omega) n1 n2
end
local macro_rules | `(tactic| walk_at "b1")=>`(tactic| exact fun _ _ _ _ _ _ us hl=>match us,hl with | [_],_=>rfl)
local macro_rules | `(tactic| walk_at "b2")=>`(tactic| exact fun _ _ _ _ _ _ us hl=>match us,hl with | [_,_],_=>rfl)
local macro_rules | `(tactic| walk_at "b3")=>`(tactic| exact fun _ _ _ _ _ _ us hl=>match us,hl with | [_,_,_],_=>rfl)
open PySem.W in
theorem all_mk {l:OpenLaw} {w:World} {K:Frag} {h:Heap} {mg:Str→Option Value} {fa f0 f1 f2 f3 f4 f5 f6 f7 f8 f9 f10 f11 f12 f13 f14 f15 f16 f17 f18 f19:Addr} {t_LEAST_SIZE:Tok} {t_GREATEST_SIZE:Tok} {t_REST:Tok} {C_RoomError:Addr} {C_NoSize:Addr} {C_Unreached:Addr} {C_NotRead:Addr} (X:K.In h) (G:h.Ns mainGlobals mg) (hfa:mg "law"=some (.ref fa))
 {od0 an0:Option Addr} {sl0:Array (Option Value)} {oc0 kV0 dc0 pm0 cd0 ct0:Value}
 {od1 an1:Option Addr} {sl1:Array (Option Value)} {oc1 kV1 dc1 pm1 cd1 ct1:Value}
 {od2 an2:Option Addr} {sl2:Array (Option Value)} {oc2 kV2 dc2 pm2 cd2 ct2:Value}
 {od3 an3:Option Addr} {sl3:Array (Option Value)} {oc3 kV3 dc3 pm3 cd3 ct3:Value}
 {od4 an4:Option Addr} {sl4:Array (Option Value)} {oc4 kV4 dc4 pm4 cd4 ct4:Value}
 {od5 an5:Option Addr} {sl5:Array (Option Value)} {oc5 kV5 dc5 pm5 cd5 ct5:Value}
 {od6 an6:Option Addr} {sl6:Array (Option Value)} {oc6 kV6 dc6 pm6 cd6 ct6:Value}
 {od7 an7:Option Addr} {sl7:Array (Option Value)} {oc7 kV7 dc7 pm7 cd7 ct7:Value}
 {od8 an8:Option Addr} {sl8:Array (Option Value)} {oc8 kV8 dc8 pm8 cd8 ct8:Value}
 {od9 an9:Option Addr} {sl9:Array (Option Value)} {oc9 kV9 dc9 pm9 cd9 ct9:Value}
 {od10 an10:Option Addr} {sl10:Array (Option Value)} {oc10 kV10 dc10 pm10 cd10 ct10:Value}
 {od11 an11:Option Addr} {sl11:Array (Option Value)} {oc11 kV11 dc11 pm11 cd11 ct11:Value}
 {od12 an12:Option Addr} {sl12:Array (Option Value)} {oc12 kV12 dc12 pm12 cd12 ct12:Value}
 {od13 an13:Option Addr} {sl13:Array (Option Value)} {oc13 kV13 dc13 pm13 cd13 ct13:Value}
 {od14 an14:Option Addr} {sl14:Array (Option Value)} {oc14 kV14 dc14 pm14 cd14 ct14:Value}
 {od15 an15:Option Addr} {sl15:Array (Option Value)} {oc15 kV15 dc15 pm15 cd15 ct15:Value}
 {od16 an16:Option Addr} {sl16:Array (Option Value)} {oc16 kV16 dc16 pm16 cd16 ct16:Value}
 {od17 an17:Option Addr} {sl17:Array (Option Value)} {oc17 kV17 dc17 pm17 cd17 ct17:Value}
 {od18 an18:Option Addr} {sl18:Array (Option Value)} {oc18 kV18 dc18 pm18 cd18 ct18:Value}
 {od19 an19:Option Addr} {sl19:Array (Option Value)} {oc19 kV19 dc19 pm19 cd19 ct19:Value}
 (a0:nsIn K mainGlobals "is_size"=some (some (.ref f0)))
 (l0:K.lookup f0=some ⟨oc0,od0,.func (fnOf "is_size" "is_size" (defArgs s_is_size) (defBody s_is_size) (defScope s_is_size) .none kV0 dc0 pm0 an0 cd0 ct0),sl0⟩) (c0:codeIn K cd0 "is_size"=true) (k0:keepIn K (.ref f0)=true)
 (a1:nsIn K mainGlobals "need_size"=some (some (.ref f1)))
 (l1:K.lookup f1=some ⟨oc1,od1,.func (fnOf "need_size" "need_size" (defArgs s_need_size) (defBody s_need_size) (defScope s_need_size) .none kV1 dc1 pm1 an1 cd1 ct1),sl1⟩) (c1:codeIn K cd1 "need_size"=true) (k1:keepIn K (.ref f1)=true)
 (a2:nsIn K mainGlobals "ring_texts"=some (some (.ref f2)))
 (l2:K.lookup f2=some ⟨oc2,od2,.func (fnOf "ring_texts" "ring_texts" (defArgs s_ring_texts) (defBody s_ring_texts) (defScope s_ring_texts) .none kV2 dc2 pm2 an2 cd2 ct2),sl2⟩) (c2:codeIn K cd2 "ring_texts"=true) (k2:keepIn K (.ref f2)=true)
 (a3:nsIn K mainGlobals "ring_read"=some (some (.ref f3)))
 (l3:K.lookup f3=some ⟨oc3,od3,.func (fnOf "ring_read" "ring_read" (defArgs s_ring_read) (defBody s_ring_read) (defScope s_ring_read) .none kV3 dc3 pm3 an3 cd3 ct3),sl3⟩) (c3:codeIn K cd3 "ring_read"=true) (k3:keepIn K (.ref f3)=true)
 (a4:nsIn K mainGlobals "all_rings_read"=some (some (.ref f4)))
 (l4:K.lookup f4=some ⟨oc4,od4,.func (fnOf "all_rings_read" "all_rings_read" (defArgs s_all_rings_read) (defBody s_all_rings_read) (defScope s_all_rings_read) .none kV4 dc4 pm4 an4 cd4 ct4),sl4⟩) (c4:codeIn K cd4 "all_rings_read"=true) (k4:keepIn K (.ref f4)=true)
 (a5:nsIn K mainGlobals "sent_by_rings"=some (some (.ref f5)))
 (l5:K.lookup f5=some ⟨oc5,od5,.func (fnOf "sent_by_rings" "sent_by_rings" (defArgs s_sent_by_rings) (defBody s_sent_by_rings) (defScope s_sent_by_rings) .none kV5 dc5 pm5 an5 cd5 ct5),sl5⟩) (c5:codeIn K cd5 "sent_by_rings"=true) (k5:keepIn K (.ref f5)=true)
 (a6:nsIn K mainGlobals "read"=some (some (.ref f6)))
 (l6:K.lookup f6=some ⟨oc6,od6,.func (fnOf "read" "read" (defArgs s_read) (defBody s_read) (defScope s_read) .none kV6 dc6 pm6 an6 cd6 ct6),sl6⟩) (c6:codeIn K cd6 "read"=true) (k6:keepIn K (.ref f6)=true)
 (a7:nsIn K mainGlobals "_law_cell_at"=some (some (.ref f7)))
 (l7:K.lookup f7=some ⟨oc7,od7,.func (fnOf "_law_cell_at" "_law_cell_at" (defArgs s_law_cell_at) (defBody s_law_cell_at) (defScope s_law_cell_at) .none kV7 dc7 pm7 an7 cd7 ct7),sl7⟩) (c7:codeIn K cd7 "_law_cell_at"=true) (k7:keepIn K (.ref f7)=true)
 (a8:nsIn K mainGlobals "_law_whole"=some (some (.ref f8)))
 (l8:K.lookup f8=some ⟨oc8,od8,.func (fnOf "_law_whole" "_law_whole" (defArgs s_law_whole) (defBody s_law_whole) (defScope s_law_whole) .none kV8 dc8 pm8 an8 cd8 ct8),sl8⟩) (c8:codeIn K cd8 "_law_whole"=true) (k8:keepIn K (.ref f8)=true)
 (a9:nsIn K mainGlobals "_law_far"=some (some (.ref f9)))
 (l9:K.lookup f9=some ⟨oc9,od9,.func (fnOf "_law_far" "_law_far" (defArgs s_law_far) (defBody s_law_far) (defScope s_law_far) .none kV9 dc9 pm9 an9 cd9 ct9),sl9⟩) (c9:codeIn K cd9 "_law_far"=true) (k9:keepIn K (.ref f9)=true)
 (a10:nsIn K mainGlobals "_law_same"=some (some (.ref f10)))
 (l10:K.lookup f10=some ⟨oc10,od10,.func (fnOf "_law_same" "_law_same" (defArgs s_law_same) (defBody s_law_same) (defScope s_law_same) .none kV10 dc10 pm10 an10 cd10 ct10),sl10⟩) (c10:codeIn K cd10 "_law_same"=true) (k10:keepIn K (.ref f10)=true)
 (a11:nsIn K mainGlobals "_law_rings"=some (some (.ref f11)))
 (l11:K.lookup f11=some ⟨oc11,od11,.func (fnOf "_law_rings" "_law_rings" (defArgs s_law_rings) (defBody s_law_rings) (defScope s_law_rings) .none kV11 dc11 pm11 an11 cd11 ct11),sl11⟩) (c11:codeIn K cd11 "_law_rings"=true) (k11:keepIn K (.ref f11)=true)
 (a12:nsIn K mainGlobals "_law_text"=some (some (.ref f12)))
 (l12:K.lookup f12=some ⟨oc12,od12,.func (fnOf "_law_text" "_law_text" (defArgs s_law_text) (defBody s_law_text) (defScope s_law_text) .none kV12 dc12 pm12 an12 cd12 ct12),sl12⟩) (c12:codeIn K cd12 "_law_text"=true) (k12:keepIn K (.ref f12)=true)
 (a13:nsIn K mainGlobals "_law_sign"=some (some (.ref f13)))
 (l13:K.lookup f13=some ⟨oc13,od13,.func (fnOf "_law_sign" "_law_sign" (defArgs s_law_sign) (defBody s_law_sign) (defScope s_law_sign) .none kV13 dc13 pm13 an13 cd13 ct13),sl13⟩) (c13:codeIn K cd13 "_law_sign"=true) (k13:keepIn K (.ref f13)=true)
 (a14:nsIn K mainGlobals "_law_changed"=some (some (.ref f14)))
 (l14:K.lookup f14=some ⟨oc14,od14,.func (fnOf "_law_changed" "_law_changed" (defArgs s_law_changed) (defBody s_law_changed) (defScope s_law_changed) .none kV14 dc14 pm14 an14 cd14 ct14),sl14⟩) (c14:codeIn K cd14 "_law_changed"=true) (k14:keepIn K (.ref f14)=true)
 (a15:nsIn K mainGlobals "_law_odd"=some (some (.ref f15)))
 (l15:K.lookup f15=some ⟨oc15,od15,.func (fnOf "_law_odd" "_law_odd" (defArgs s_law_odd) (defBody s_law_odd) (defScope s_law_odd) .none kV15 dc15 pm15 an15 cd15 ct15),sl15⟩) (c15:codeIn K cd15 "_law_odd"=true) (k15:keepIn K (.ref f15)=true)
 (a16:nsIn K mainGlobals "_law_seat"=some (some (.ref f16)))
 (l16:K.lookup f16=some ⟨oc16,od16,.func (fnOf "_law_seat" "_law_seat" (defArgs s_law_seat) (defBody s_law_seat) (defScope s_law_seat) .none kV16 dc16 pm16 an16 cd16 ct16),sl16⟩) (c16:codeIn K cd16 "_law_seat"=true) (k16:keepIn K (.ref f16)=true)
 (a17:nsIn K mainGlobals "_law_due"=some (some (.ref f17)))
 (l17:K.lookup f17=some ⟨oc17,od17,.func (fnOf "_law_due" "_law_due" (defArgs s_law_due) (defBody s_law_due) (defScope s_law_due) .none kV17 dc17 pm17 an17 cd17 ct17),sl17⟩) (c17:codeIn K cd17 "_law_due"=true) (k17:keepIn K (.ref f17)=true)
 (a18:nsIn K mainGlobals "_law_refused"=some (some (.ref f18)))
 (l18:K.lookup f18=some ⟨oc18,od18,.func (fnOf "_law_refused" "_law_refused" (defArgs s_law_refused) (defBody s_law_refused) (defScope s_law_refused) .none kV18 dc18 pm18 an18 cd18 ct18),sl18⟩) (c18:codeIn K cd18 "_law_refused"=true) (k18:keepIn K (.ref f18)=true)
 (a19:nsIn K mainGlobals "law"=some (some (.ref f19)))
 (l19:K.lookup f19=some ⟨oc19,od19,.func (fnOf "law" "law" (defArgs s_law) (defBody s_law) (defScope s_law) .none kV19 dc19 pm19 an19 cd19 ct19),sl19⟩) (c19:codeIn K cd19 "law"=true) (k19:keepIn K (.ref f19)=true)
 (xs0:specialIn K (.builtin "object.__class__") "__get__"=some (some (.builtin "getset_descriptor.__get__"))) (xt0:takesIn K (.builtin "object.__class__")=some true)
 (xk_RoomError:nsIn K mainGlobals "RoomError"=some (some (.ref C_RoomError)))
 (xe_RoomError:excIn K C_RoomError L2.bmV "ValueError.__new__"=true)
 (xa_RoomError:findIn K (.ref C_RoomError) "__getattribute__"=some (some (.builtin "BaseException.__getattribute__")))
 (xb_RoomError:findIn K (.ref C_RoomError) "__getattr__"=some none)
 (xc_RoomError:findIn K (.ref C_RoomError) "__class__"=some (some (.builtin "object.__class__")))
 (xf_RoomError:mroIn K C_RoomError (.type "object")=some true)
 (xg_RoomError:mroIn K C_RoomError (.type "BaseException")=some true)
 (xh_RoomError:mroIn K C_RoomError (.type "ValueError")=some true)
 (xi_RoomError:typeIn K (.ref C_RoomError)=some (.type "type"))
 (xk_NoSize:nsIn K mainGlobals "NoSize"=some (some (.ref C_NoSize)))
 (xe_NoSize:excIn K C_NoSize L2.bmV "ValueError.__new__"=true)
 (xa_NoSize:findIn K (.ref C_NoSize) "__getattribute__"=some (some (.builtin "BaseException.__getattribute__")))
 (xb_NoSize:findIn K (.ref C_NoSize) "__getattr__"=some none)
 (xc_NoSize:findIn K (.ref C_NoSize) "__class__"=some (some (.builtin "object.__class__")))
 (xf_NoSize:mroIn K C_NoSize (.type "object")=some true)
 (xg_NoSize:mroIn K C_NoSize (.type "BaseException")=some true)
 (xh_NoSize:mroIn K C_NoSize (.type "ValueError")=some true)
 (xi_NoSize:typeIn K (.ref C_NoSize)=some (.type "type"))
 (xk_Unreached:nsIn K mainGlobals "Unreached"=some (some (.ref C_Unreached)))
 (xe_Unreached:excIn K C_Unreached L2.bmV "ValueError.__new__"=true)
 (xa_Unreached:findIn K (.ref C_Unreached) "__getattribute__"=some (some (.builtin "BaseException.__getattribute__")))
 (xb_Unreached:findIn K (.ref C_Unreached) "__getattr__"=some none)
 (xc_Unreached:findIn K (.ref C_Unreached) "__class__"=some (some (.builtin "object.__class__")))
 (xf_Unreached:mroIn K C_Unreached (.type "object")=some true)
 (xg_Unreached:mroIn K C_Unreached (.type "BaseException")=some true)
 (xh_Unreached:mroIn K C_Unreached (.type "ValueError")=some true)
 (xi_Unreached:typeIn K (.ref C_Unreached)=some (.type "type"))
 (xk_NotRead:nsIn K mainGlobals "NotRead"=some (some (.ref C_NotRead)))
 (xe_NotRead:excIn K C_NotRead L2.bmV "ValueError.__new__"=true)
 (xa_NotRead:findIn K (.ref C_NotRead) "__getattribute__"=some (some (.builtin "BaseException.__getattribute__")))
 (xb_NotRead:findIn K (.ref C_NotRead) "__getattr__"=some none)
 (xc_NotRead:findIn K (.ref C_NotRead) "__class__"=some (some (.builtin "object.__class__")))
 (xf_NotRead:mroIn K C_NotRead (.type "object")=some true)
 (xg_NotRead:mroIn K C_NotRead (.type "BaseException")=some true)
 (xh_NotRead:mroIn K C_NotRead (.type "ValueError")=some true)
 (xi_NotRead:typeIn K (.ref C_NotRead)=some (.type "type"))
 (y_RoomError_RoomError:mroIn K C_RoomError (.ref C_RoomError)=some true)
 (y_NoSize_RoomError:mroIn K C_NoSize (.ref C_RoomError)=some true)
 (y_NoSize_NoSize:mroIn K C_NoSize (.ref C_NoSize)=some true)
 (y_NoSize_Unreached:mroIn K C_NoSize (.ref C_Unreached)=some false)
 (y_NoSize_NotRead:mroIn K C_NoSize (.ref C_NotRead)=some false)
 (y_Unreached_Unreached:mroIn K C_Unreached (.ref C_Unreached)=some true)
 (y_NotRead_RoomError:mroIn K C_NotRead (.ref C_RoomError)=some true)
 (y_NotRead_NoSize:mroIn K C_NotRead (.ref C_NoSize)=some false)
 (y_NotRead_Unreached:mroIn K C_NotRead (.ref C_Unreached)=some false)
 (y_NotRead_NotRead:mroIn K C_NotRead (.ref C_NotRead)=some true)
 (g_LEAST_SIZE:nsIn K mainGlobals "LEAST_SIZE"=some (some (.int 1 t_LEAST_SIZE)))
 (g_GREATEST_SIZE:nsIn K mainGlobals "GREATEST_SIZE"=some (some (.int 16 t_GREATEST_SIZE)))
 (g_REST:nsIn K mainGlobals "REST"=some (some (.str (PySem.Str.ofString "()") t_REST)))
 (z_ValueError:nsIn K mainGlobals "ValueError"=some none)
 (z_bool:nsIn K mainGlobals "bool"=some none)
 (z_enumerate:nsIn K mainGlobals "enumerate"=some none)
 (z_int:nsIn K mainGlobals "int"=some none)
 (z_isinstance:nsIn K mainGlobals "isinstance"=some none)
 (z_len:nsIn K mainGlobals "len"=some none)
 (z_list:nsIn K mainGlobals "list"=some none)
 (z_min:nsIn K mainGlobals "min"=some none)
 (z_range:nsIn K mainGlobals "range"=some none)
 (z_str:nsIn K mainGlobals "str"=some none)
 (z_tuple:nsIn K mainGlobals "tuple"=some none) :
 ∃ fd:FuncData,(∀ (s:Shared) (v:Value),BindsTo s fd ⟨[v],[]⟩ [("script",v)])∧∀ base:Heap,K.In base→base.Ns mainGlobals mg→FnOk l.prog w K mg base CX0 5 fa fd ["script"] (sp_law K):=by
  have e:=hfa.symm.trans (mg_of X G a19)
  cases e
  have F0:=fun_mk (st:=s_is_size) l0 c0 k0
  have b0:=F0.binds (ps:=["size"]) (by walk_at "b1")
  have F1:=fun_mk (st:=s_need_size) l1 c1 k1
  have b1:=F1.binds (ps:=["size"]) (by walk_at "b1")
  have F2:=fun_mk (st:=s_ring_texts) l2 c2 k2
  have b2:=F2.binds (ps:=["text"]) (by walk_at "b1")
  have F3:=fun_mk (st:=s_ring_read) l3 c3 k3
  have b3:=F3.binds (ps:=["text","figures"]) (by walk_at "b2")
  have F4:=fun_mk (st:=s_all_rings_read) l4 c4 k4
  have b4:=F4.binds (ps:=["text","size"]) (by walk_at "b2")
  have F5:=fun_mk (st:=s_sent_by_rings) l5 c5 k5
  have b5:=F5.binds (ps:=["found","size"]) (by walk_at "b2")
  have F6:=fun_mk (st:=s_read) l6 c6 k6
  have b6:=F6.binds (ps:=["text","size"]) (by walk_at "b2")
  have F7:=fun_mk (st:=s_law_cell_at) l7 c7 k7
  have b7:=F7.binds (ps:=["script","k"]) (by walk_at "b2")
  have F8:=fun_mk (st:=s_law_whole) l8 c8 k8
  have b8:=F8.binds (ps:=["found"]) (by walk_at "b1")
  have F9:=fun_mk (st:=s_law_far) l9 c9 k9
  have b9:=F9.binds (ps:=["cell","size"]) (by walk_at "b2")
  have F10:=fun_mk (st:=s_law_same) l10 c10 k10
  have b10:=F10.binds (ps:=["found","due"]) (by walk_at "b2")
  have F11:=fun_mk (st:=s_law_rings) l11 c11 k11
  have b11:=F11.binds (ps:=["a"]) (by walk_at "b1")
  have F12:=fun_mk (st:=s_law_text) l12 c12 k12
  have b12:=F12.binds (ps:=["parts","cell"]) (by walk_at "b2")
  have F13:=fun_mk (st:=s_law_sign) l13 c13 k13
  have b13:=F13.binds (ps:=["cell"]) (by walk_at "b1")
  have F14:=fun_mk (st:=s_law_changed) l14 c14 k14
  have b14:=F14.binds (ps:=["text","cell","at"]) (by walk_at "b3")
  have F15:=fun_mk (st:=s_law_odd) l15 c15 k15
  have b15:=F15.binds (ps:=["cell"]) (by walk_at "b1")
  have F16:=fun_mk (st:=s_law_seat) l16 c16 k16
  have b16:=F16.binds (ps:=["word","size","used"]) (by walk_at "b3")
  have F17:=fun_mk (st:=s_law_due) l17 c17 k17
  have b17:=F17.binds (ps:=["text","size"]) (by walk_at "b2")
  have F18:=fun_mk (st:=s_law_refused) l18 c18 k18
  have b18:=F18.binds (ps:=["text","size"]) (by walk_at "b2")
  have F19:=fun_mk (st:=s_law) l19 c19 k19
  have b19:=F19.binds (ps:=["script"]) (by walk_at "b1")
  let T:Tx K mg:={
 f_is_size:=f0,d_is_size:=_,F_is_size:=F0,b_is_size:=b0,m_is_size:=mg_of X G a0,
 f_need_size:=f1,d_need_size:=_,F_need_size:=F1,b_need_size:=b1,m_need_size:=mg_of X G a1,
 f_ring_texts:=f2,d_ring_texts:=_,F_ring_texts:=F2,b_ring_texts:=b2,m_ring_texts:=mg_of X G a2,
 f_ring_read:=f3,d_ring_read:=_,F_ring_read:=F3,b_ring_read:=b3,m_ring_read:=mg_of X G a3,
 f_all_rings_read:=f4,d_all_rings_read:=_,F_all_rings_read:=F4,b_all_rings_read:=b4,m_all_rings_read:=mg_of X G a4,
 f_sent_by_rings:=f5,d_sent_by_rings:=_,F_sent_by_rings:=F5,b_sent_by_rings:=b5,m_sent_by_rings:=mg_of X G a5,
 f_read:=f6,d_read:=_,F_read:=F6,b_read:=b6,m_read:=mg_of X G a6,
 f_law_cell_at:=f7,d_law_cell_at:=_,F_law_cell_at:=F7,b_law_cell_at:=b7,m_law_cell_at:=mg_of X G a7,
 f_law_whole:=f8,d_law_whole:=_,F_law_whole:=F8,b_law_whole:=b8,m_law_whole:=mg_of X G a8,
 f_law_far:=f9,d_law_far:=_,F_law_far:=F9,b_law_far:=b9,m_law_far:=mg_of X G a9,
 f_law_same:=f10,d_law_same:=_,F_law_same:=F10,b_law_same:=b10,m_law_same:=mg_of X G a10,
 f_law_rings:=f11,d_law_rings:=_,F_law_rings:=F11,b_law_rings:=b11,m_law_rings:=mg_of X G a11,
 f_law_text:=f12,d_law_text:=_,F_law_text:=F12,b_law_text:=b12,m_law_text:=mg_of X G a12,
 f_law_sign:=f13,d_law_sign:=_,F_law_sign:=F13,b_law_sign:=b13,m_law_sign:=mg_of X G a13,
 f_law_changed:=f14,d_law_changed:=_,F_law_changed:=F14,b_law_changed:=b14,m_law_changed:=mg_of X G a14,
 f_law_odd:=f15,d_law_odd:=_,F_law_odd:=F15,b_law_odd:=b15,m_law_odd:=mg_of X G a15,
 f_law_seat:=f16,d_law_seat:=_,F_law_seat:=F16,b_law_seat:=b16,m_law_seat:=mg_of X G a16,
 f_law_due:=f17,d_law_due:=_,F_law_due:=F17,b_law_due:=b17,m_law_due:=mg_of X G a17,
 f_law_refused:=f18,d_law_refused:=_,F_law_refused:=F18,b_law_refused:=b18,m_law_refused:=mg_of X G a18,
 f_law:=fa,d_law:=_,F_law:=F19,b_law:=b19,m_law:=mg_of X G a19,
 c_RoomError:=C_RoomError,k_RoomError:=mg_of X G xk_RoomError,x_RoomError:=⟨xe_RoomError,xa_RoomError,xb_RoomError,xc_RoomError,xs0,xt0,xf_RoomError,xg_RoomError,xh_RoomError,xi_RoomError,y_RoomError_RoomError⟩,
 c_NoSize:=C_NoSize,k_NoSize:=mg_of X G xk_NoSize,x_NoSize:=⟨xe_NoSize,xa_NoSize,xb_NoSize,xc_NoSize,xs0,xt0,xf_NoSize,xg_NoSize,xh_NoSize,xi_NoSize,y_NoSize_NoSize⟩,
 c_Unreached:=C_Unreached,k_Unreached:=mg_of X G xk_Unreached,x_Unreached:=⟨xe_Unreached,xa_Unreached,xb_Unreached,xc_Unreached,xs0,xt0,xf_Unreached,xg_Unreached,xh_Unreached,xi_Unreached,y_Unreached_Unreached⟩,
 c_NotRead:=C_NotRead,k_NotRead:=mg_of X G xk_NotRead,x_NotRead:=⟨xe_NotRead,xa_NotRead,xb_NotRead,xc_NotRead,xs0,xt0,xf_NotRead,xg_NotRead,xh_NotRead,xi_NotRead,y_NotRead_NotRead⟩,
 y_RoomError_RoomError:=y_RoomError_RoomError,
 y_NoSize_RoomError:=y_NoSize_RoomError,
 y_NoSize_NoSize:=y_NoSize_NoSize,
 y_NoSize_Unreached:=y_NoSize_Unreached,
 y_NoSize_NotRead:=y_NoSize_NotRead,
 y_Unreached_Unreached:=y_Unreached_Unreached,
 y_NotRead_RoomError:=y_NotRead_RoomError,
 y_NotRead_NoSize:=y_NotRead_NoSize,
 y_NotRead_Unreached:=y_NotRead_Unreached,
 y_NotRead_NotRead:=y_NotRead_NotRead,
 t_LEAST_SIZE:=t_LEAST_SIZE,g_LEAST_SIZE:=mg_of X G g_LEAST_SIZE,
 t_GREATEST_SIZE:=t_GREATEST_SIZE,g_GREATEST_SIZE:=mg_of X G g_GREATEST_SIZE,
 t_REST:=t_REST,g_REST:=mg_of X G g_REST,
 z_ValueError:=mg_none_of X G z_ValueError,
 z_bool:=mg_none_of X G z_bool,
 z_enumerate:=mg_none_of X G z_enumerate,
 z_int:=mg_none_of X G z_int,
 z_isinstance:=mg_none_of X G z_isinstance,
 z_len:=mg_none_of X G z_len,
 z_list:=mg_none_of X G z_list,
 z_min:=mg_none_of X G z_min,
 z_range:=mg_none_of X G z_range,
 z_str:=mg_none_of X G z_str,
 z_tuple:=mg_none_of X G z_tuple
  }
  exact ⟨fnOf "law" "law" (defArgs s_law) (defBody s_law) (defScope s_law) .none kV19 dc19 pm19 an19 cd19 ct19,fun s v=>.of_eq rfl,fun base _ _=>ok_law T⟩
theorem walk {l:PySem.W.OpenLaw} {q:Program} {loose:List Str} {XP:(Str→Option Value)→Heap→Prop} {YP:World→Heap→Prop} {d:DefRec} {K:Params→PySem.W.Frag} (hn:l.most=some 63) (hdf:d.params.defaults=[])
  (hY:∀ (w:World) (h:Heap),YP w h→(K w.params).In h)
  (F:∀ (w:World) (mg:Str→Option Value) (fa:Addr) (h:Heap),(K w.params).In h→h.Ns mainGlobals mg→mg d.name=some (.ref fa) →
   ∃ fd:FuncData,(∀ (s:Shared) (u:Value),BindsTo s fd ⟨[u],[]⟩ [("script",u)])∧∀ base:Heap,(K w.params).In base→base.Ns mainGlobals mg→FnOk l.prog w (K w.params) mg base CX0 5 fa fd ["script"] (sp_law (K w.params))) :
  PySem.W.WalkO q loose XP YP l.row.toRowW d [] (fun f vs=>PySem.call f vs) :=
 L2.walk_of (n:=63) (k:=5) (x:="script") (CX:=fun _=>CX0) (sp:=fun w=>sp_law (K w.params)) hn (by decide) hdf ⟨rfl,by decide,by decide⟩ hY F (fun _ _ a ns hl _ hS=>⟨a,ns,rfl,hS,hl,fun _=>rfl⟩) fun _ _ _ _ _ z=>z
end Prf
open PySem PySem.W PyProof.Rows
set_option maxRecDepth 100000 in
set_option maxHeartbeats 0 in
theorem PySem.Challenge.cw_shiftroom_k08_read_holds : PySem.Challenge.rw_shiftroom_k08_read.Holds := by
 w_on; o_law
 refine holds_open (q:=Prf.QQ) (loose:=[]) (Xt:=(fun s=>xlAt Prf.QQ [] s && recOk (RowW.records (OpenRow.toRowW (OpenLaw.row PySem.Challenge.rw_shiftroom_k08_read))) s)) (XP:=XL Prf.QQ []) (Yf:=Hook.obs (kHook Prf.KK Prf.KA Prf.KE)) (Ya:=Hook.val (kHook Prf.KK Prf.KA Prf.KE)) (YP:=Hook.says (kHook Prf.KK Prf.KA Prf.KE)) (N:=3118) Prf.left (Hook.of (kHook Prf.KK Prf.KA Prf.KE)) (Hook.keeps (kHook Prf.KK Prf.KA Prf.KE)) (fun s e=>xl_of s (Bool.and_eq_true_iff.mp e).1) XL.keeps (by rfl) (by rfl) (by rfl) (fun s e=>recFacts_of (Bool.and_eq_true_iff.mp e).2) (by rfl) (by first | assumption | decide +kernel) (by decide +kernel) ⟨rfl,rfl,rfl,rfl,rfl,by decide +kernel⟩ ?hw ?hc
 (case hw=>w_witness2)
 k_fill
 refine Prf.walk (l:=PySem.Challenge.rw_shiftroom_k08_read) rfl rfl (fun w h Y=>PySem.W.kIn_of Y) ?F
 case F =>
  intro w mg fa h KX G hmg
  refine' Prf.all_mk KX G hmg ?a0 ?l0 ?c0 ?k0 ?a1 ?l1 ?c1 ?k1 ?a2 ?l2 ?c2 ?k2 ?a3 ?l3 ?c3 ?k3 ?a4 ?l4 ?c4 ?k4 ?a5 ?l5 ?c5 ?k5 ?a6 ?l6 ?c6 ?k6 ?a7 ?l7 ?c7 ?k7 ?a8 ?l8 ?c8 ?k8 ?a9 ?l9 ?c9 ?k9 ?a10 ?l10 ?c10 ?k10 ?a11 ?l11 ?c11 ?k11 ?a12 ?l12 ?c12 ?k12 ?a13 ?l13 ?c13 ?k13 ?a14 ?l14 ?c14 ?k14 ?a15 ?l15 ?c15 ?k15 ?a16 ?l16 ?c16 ?k16 ?a17 ?l17 ?c17 ?k17 ?a18 ?l18 ?c18 ?k18 ?a19 ?l19 ?c19 ?k19 ?xs0 ?xt0 ?xk_RoomError ?xe_RoomError ?xa_RoomError ?xb_RoomError ?xc_RoomError ?xf_RoomError ?xg_RoomError ?xh_RoomError ?xi_RoomError ?xk_NoSize ?xe_NoSize ?xa_NoSize ?xb_NoSize ?xc_NoSize ?xf_NoSize ?xg_NoSize ?xh_NoSize ?xi_NoSize ?xk_Unreached ?xe_Unreached ?xa_Unreached ?xb_Unreached ?xc_Unreached ?xf_Unreached ?xg_Unreached ?xh_Unreached ?xi_Unreached ?xk_NotRead ?xe_NotRead ?xa_NotRead ?xb_NotRead ?xc_NotRead ?xf_NotRead ?xg_NotRead ?xh_NotRead ?xi_NotRead ?y_RoomError_RoomError ?y_NoSize_RoomError ?y_NoSize_NoSize ?y_NoSize_Unreached ?y_NoSize_NotRead ?y_Unreached_Unreached ?y_NotRead_RoomError ?y_NotRead_NoSize ?y_NotRead_Unreached ?y_NotRead_NotRead ?g_LEAST_SIZE ?g_GREATEST_SIZE ?g_REST ?z_ValueError ?z_bool ?z_enumerate ?z_int ?z_isinstance ?z_len ?z_list ?z_min ?z_range ?z_str ?z_tuple
  (case a0=>k_is)
  (case l0=>k_is)
  (case c0=>k_is)
  (case k0=>k_is)
  (case a1=>k_is)
  (case l1=>k_is)
  (case c1=>k_is)
  (case k1=>k_is)
  (case a2=>k_is)
  (case l2=>k_is)
  (case c2=>k_is)
  (case k2=>k_is)
  (case a3=>k_is)
  (case l3=>k_is)
  (case c3=>k_is)
  (case k3=>k_is)
  (case a4=>k_is)
  (case l4=>k_is)
  (case c4=>k_is)
  (case k4=>k_is)
  (case a5=>k_is)
  (case l5=>k_is)
  (case c5=>k_is)
  (case k5=>k_is)
  (case a6=>k_is)
  (case l6=>k_is)
  (case c6=>k_is)
  (case k6=>k_is)
  (case a7=>k_is)
  (case l7=>k_is)
  (case c7=>k_is)
  (case k7=>k_is)
  (case a8=>k_is)
  (case l8=>k_is)
  (case c8=>k_is)
  (case k8=>k_is)
  (case a9=>k_is)
  (case l9=>k_is)
  (case c9=>k_is)
  (case k9=>k_is)
  (case a10=>k_is)
  (case l10=>k_is)
  (case c10=>k_is)
  (case k10=>k_is)
  (case a11=>k_is)
  (case l11=>k_is)
  (case c11=>k_is)
  (case k11=>k_is)
  (case a12=>k_is)
  (case l12=>k_is)
  (case c12=>k_is)
  (case k12=>k_is)
  (case a13=>k_is)
  (case l13=>k_is)
  (case c13=>k_is)
  (case k13=>k_is)
  (case a14=>k_is)
  (case l14=>k_is)
  (case c14=>k_is)
  (case k14=>k_is)
  (case a15=>k_is)
  (case l15=>k_is)
  (case c15=>k_is)
  (case k15=>k_is)
  (case a16=>k_is)
  (case l16=>k_is)
  (case c16=>k_is)
  (case k16=>k_is)
  (case a17=>k_is)
  (case l17=>k_is)
  (case c17=>k_is)
  (case k17=>k_is)
  (case a18=>k_is)
  (case l18=>k_is)
  (case c18=>k_is)
  (case k18=>k_is)
  (case a19=>k_is)
  (case l19=>k_is)
  (case c19=>k_is)
  (case k19=>k_is)
  (case xs0=>k_is)
  (case xt0=>k_is)
  (case xk_RoomError=>k_is)
  (case xe_RoomError=>k_exc)
  (case xa_RoomError=>k_is)
  (case xb_RoomError=>k_is)
  (case xc_RoomError=>k_is)
  (case xf_RoomError=>k_is)
  (case xg_RoomError=>k_is)
  (case xh_RoomError=>k_is)
  (case xi_RoomError=>k_is)
  (case xk_NoSize=>k_is)
  (case xe_NoSize=>k_exc)
  (case xa_NoSize=>k_is)
  (case xb_NoSize=>k_is)
  (case xc_NoSize=>k_is)
  (case xf_NoSize=>k_is)
  (case xg_NoSize=>k_is)
  (case xh_NoSize=>k_is)
  (case xi_NoSize=>k_is)
  (case xk_Unreached=>k_is)
  (case xe_Unreached=>k_exc)
  (case xa_Unreached=>k_is)
  (case xb_Unreached=>k_is)
  (case xc_Unreached=>k_is)
  (case xf_Unreached=>k_is)
  (case xg_Unreached=>k_is)
  (case xh_Unreached=>k_is)
  (case xi_Unreached=>k_is)
  (case xk_NotRead=>k_is)
  (case xe_NotRead=>k_exc)
  (case xa_NotRead=>k_is)
  (case xb_NotRead=>k_is)
  (case xc_NotRead=>k_is)
  (case xf_NotRead=>k_is)
  (case xg_NotRead=>k_is)
  (case xh_NotRead=>k_is)
  (case xi_NotRead=>k_is)
  (case y_RoomError_RoomError=>k_is)
  (case y_NoSize_RoomError=>k_is)
  (case y_NoSize_NoSize=>k_is)
  (case y_NoSize_Unreached=>k_is)
  (case y_NoSize_NotRead=>k_is)
  (case y_Unreached_Unreached=>k_is)
  (case y_NotRead_RoomError=>k_is)
  (case y_NotRead_NoSize=>k_is)
  (case y_NotRead_Unreached=>k_is)
  (case y_NotRead_NotRead=>k_is)
  (case g_LEAST_SIZE=>k_is)
  (case g_GREATEST_SIZE=>k_is)
  (case g_REST=>k_is)
  (case z_ValueError=>k_is)
  (case z_bool=>k_is)
  (case z_enumerate=>k_is)
  (case z_int=>k_is)
  (case z_isinstance=>k_is)
  (case z_len=>k_is)
  (case z_list=>k_is)
  (case z_min=>k_is)
  (case z_range=>k_is)
  (case z_str=>k_is)
  (case z_tuple=>k_is)
