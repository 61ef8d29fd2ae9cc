import PyProof.Rows.All
import Wide.All
import OpenK.AllK
import Wide.FinOn
import Lean
import PyProof.EqAt
import PyProof.EqKinds
import PyProof.TupleCall
import PyProof.ConsumeS
import PySem.Challenge.RW_cordbook_k14_whole_moves_keep_the_sum
set_option Elab.async false
set_option linter.all false
set_option maxRecDepth 100000
set_option genSizeOf false
set_option compiler.extract_closed false
set_option bootstrap.genMatcherCode false
noncomputable section
theorem gV:type_of% @Bool.false_eq_true:=@Bool.false_eq_true
theorem gh:type_of% @List.length_map:=@List.length_map
theorem bg:type_of% @if_pos:=@if_pos
theorem bh:type_of% @if_neg:=@if_neg
theorem ja:type_of% @List.length_cons:=@List.length_cons
theorem dy:type_of% @PySem.wpAny_bind:=@PySem.wpAny_bind
theorem cw:type_of% @if_true:=@if_true
theorem kj:type_of% @Bool.false_ne_true:=@Bool.false_ne_true
theorem dq:type_of% @if_false:=@if_false
theorem qm:type_of% @PySem.Heap.get?_push_of_some:=@PySem.Heap.get?_push_of_some
theorem rk:type_of% @List.mem_cons_of_mem:=@List.mem_cons_of_mem
theorem j_:type_of% @List.map_cons:=@List.map_cons
theorem jr:type_of% @Nat.zero_add:=@Nat.zero_add
theorem ji:type_of% @Nat.le_refl:=@Nat.le_refl
theorem jv:type_of% @PySem.Heap.lt_size:=@PySem.Heap.lt_size
theorem oy:type_of% @Bool.and_eq_true:=@Bool.and_eq_true
theorem ql:type_of% @List.append_assoc:=@List.append_assoc
theorem ou:type_of% @List.length_nil:=@List.length_nil
theorem vm:type_of% @List.length_append:=@List.length_append
theorem uq:type_of% @List.size_toArray:=@List.size_toArray
theorem Ai:type_of% @List.getElem?_eq_getElem:=@List.getElem?_eq_getElem
theorem x_:type_of% @List.getElem?_set_ne:=@List.getElem?_set_ne
theorem za:type_of% @List.perm_append_comm:=@List.perm_append_comm
theorem wo:type_of% @List.mem_cons_self:=@List.mem_cons_self
theorem qf:type_of% @List.mem_cons:=@List.mem_cons
theorem Av:type_of% @List.mem_append_right:=@List.mem_append_right
theorem Ae:type_of% @List.map_congr_left:=@List.map_congr_left
theorem mw:type_of% @PySem.wpAny_pure:=@PySem.wpAny_pure
theorem wj:type_of% @List.map_append:=@List.map_append
theorem xk:type_of% @List.getElem_mem:=@List.getElem_mem
theorem wt:type_of% @decide_eq_false:=@decide_eq_false
theorem rm:type_of% @Nat.le_trans:=@Nat.le_trans
theorem DD:type_of% @List.take_succ_eq_append_getElem:=@List.take_succ_eq_append_getElem
theorem BM:type_of% @List.getElem?_set_self:=@List.getElem?_set_self
theorem BN:type_of% @PySem.Heap.get?_update_other:=@PySem.Heap.get?_update_other
theorem AR:type_of% @Nat.lt_of_lt_of_le:=@Nat.lt_of_lt_of_le
theorem ya:type_of% @decide_eq_true:=@decide_eq_true
theorem wk:type_of% @List.map_map:=@List.map_map
theorem A9:type_of% @List.getElem?_map:=@List.getElem?_map
theorem kg:type_of% @Ne.symm:=@Ne.symm
theorem DE:type_of% @List.getElem?_append_right:=@List.getElem?_append_right
theorem Aw:type_of% @Option.some.inj:=@Option.some.inj
theorem Ax:type_of% @List.count_cons:=@List.count_cons
theorem BU:type_of% @PySem.Heap.get?_push_size:=@PySem.Heap.get?_push_size
theorem DF:type_of% @List.getElem?_append_left:=@List.getElem?_append_left
theorem ur:type_of% @PySem.wpAny_mono:=@PySem.wpAny_mono
theorem CS:type_of% @PySem.Heap.get?_update_self:=@PySem.Heap.get?_update_self
theorem BO:type_of% @Int.toNat_natCast:=@Int.toNat_natCast
theorem Be:type_of% @List.length_take:=@List.length_take
theorem Bf:type_of% @List.lookup_cons:=@List.lookup_cons
theorem A_:type_of% @List.append_nil:=@List.append_nil
theorem xl:type_of% @PySem.wpAny_field:=@PySem.wpAny_field
theorem Aj:type_of% @Nat.lt_irrefl:=@Nat.lt_irrefl
theorem Dl:type_of% @PySem.Obj.isFreed_of_fields:=@PySem.Obj.isFreed_of_fields
theorem Ck:type_of% @PySem.Obj.data_mapFields:=@PySem.Obj.data_mapFields
theorem Bg:type_of% @List.nil_append:=@List.nil_append
theorem Bh:type_of% @List.mem_append:=@List.mem_append
theorem Af:type_of% @Nat.ne_of_lt:=@Nat.ne_of_lt
theorem Fc:type_of% @List.getD_eq_getElem?_getD:=@List.getD_eq_getElem?_getD
theorem BV:type_of% @List.take_length:=@List.take_length
theorem BW:type_of% @List.not_mem_nil:=@List.not_mem_nil
theorem Cm:type_of% @List.flatten_cons:=@List.flatten_cons
theorem EW:type_of% @List.Perm.append_right:=@List.Perm.append_right
theorem Dm:type_of% @Nat.lt_of_le_of_lt:=@Nat.lt_of_le_of_lt
theorem Dn:type_of% @List.count_eq_zero:=@List.count_eq_zero
theorem DG:type_of% @List.flatten_append:=@List.flatten_append
theorem Ie:type_of% @Classical.byContradiction:=@Classical.byContradiction
theorem Cn:type_of% @List.length_set:=@List.length_set
theorem A':type_of% @List.map_nil:=@List.map_nil
theorem Dp:type_of% @List.count_append:=@List.count_append
theorem EX:type_of% @List.drop_succ_cons:=@List.drop_succ_cons
theorem Ig:type_of% @List.getElem?_replicate:=@List.getElem?_replicate
theorem DH:type_of% @decide_eq_true_eq:=@decide_eq_true_eq
theorem Fd:type_of% @PySem.mem_of_lookup:=@PySem.mem_of_lookup
theorem Fe:type_of% @List.take_succ_cons:=@List.take_succ_cons
theorem Ih:type_of% @List.getElem?_eq_none:=@List.getElem?_eq_none
theorem Ii:type_of% @List.Perm.append_left:=@List.Perm.append_left
theorem EY:type_of% @PySem.wpAny_newObj_type:=@PySem.wpAny_newObj_type
theorem BX:type_of% @List.mem_map:=@List.mem_map
theorem Ff:type_of% @List.set_cons_zero:=@List.set_cons_zero
theorem Fg:type_of% @List.set_cons_succ:=@List.set_cons_succ
theorem Fh:type_of% @List.getElem_idxOf:=@List.getElem_idxOf
theorem Fi:type_of% @List.count_pos_iff:=@List.count_pos_iff
theorem DI:type_of% @List.range_succ:=@List.range_succ
theorem Co:type_of% @Nat.ne_of_gt:=@Nat.ne_of_gt
theorem EZ:type_of% @Nat.lt_succ_self:=@Nat.lt_succ_self
theorem Jp:type_of% @List.take_of_length_le:=@List.take_of_length_le
theorem E0:type_of% @List.cons_append:=@List.cons_append
theorem MP:type_of% @List.drop_eq_getElem_cons:=@List.drop_eq_getElem_cons
theorem Jq:type_of% @List.length_replicate:=@List.length_replicate
theorem DJ:type_of% @List.drop_zero:=@List.drop_zero
theorem DK:type_of% @List.mem_range:=@List.mem_range
theorem CT:type_of% @Nat.lt_trans:=@Nat.lt_trans
theorem E1:type_of% @List.mem_filter:=@List.mem_filter
theorem MQ:type_of% @PySem.wpAny_callSpecial?_slot:=@PySem.wpAny_callSpecial?_slot
theorem Fj:type_of% @List.mem_flatMap:=@List.mem_flatMap
theorem MR:type_of% @Int.eq_ofNat_of_zero_le:=@Int.eq_ofNat_of_zero_le
theorem E2:type_of% @PySem.wpAny_setField:=@PySem.wpAny_setField
theorem Ij:type_of% @List.flatMap_cons:=@List.flatMap_cons
theorem Jr:type_of% @Nat.add_le_add_left:=@Nat.add_le_add_left
theorem Js:type_of% @List.flatMap_append:=@List.flatMap_append
theorem Fl:type_of% @List.nodup_cons:=@List.nodup_cons
theorem Fm:type_of% @Int.emod_two_eq:=@Int.emod_two_eq
theorem Ik:type_of% @List.length_drop:=@List.length_drop
theorem Jt:type_of% @List.pairwise_cons:=@List.pairwise_cons
theorem DL:type_of% @Nat.le_of_lt:=@Nat.le_of_lt
theorem MS:type_of% @List.mem_of_getElem?:=@List.mem_of_getElem?
theorem MT:type_of% @List.count_cons_self:=@List.count_cons_self
theorem Ju:type_of% @Function.comp_def:=@Function.comp_def
theorem Il:type_of% @List.find?_cons:=@List.find?_cons
theorem MU:type_of% @Option.some_ne_none:=@Option.some_ne_none
theorem Fp:type_of% @List.any_cons:=@List.any_cons
theorem Fq:type_of% @List.all_cons:=@List.all_cons
theorem Jv:type_of% @PySem.wpAny_call_entry:=@PySem.wpAny_call_entry
theorem Jw:type_of% @Option.bind_some:=@Option.bind_some
theorem Jx:type_of% @List.getElem_map:=@List.getElem_map
theorem Im:type_of% @List.nodup_nil:=@List.nodup_nil
theorem MV:type_of% @List.mem_singleton:=@List.mem_singleton
theorem Jy:type_of% @Nat.not_lt_zero:=@Nat.not_lt_zero
theorem Jz:type_of% @List.idxOf_cons:=@List.idxOf_cons
theorem E3:type_of% @Nat.zero_le:=@Nat.zero_le
theorem BY:type_of% @or_false:=@or_false
namespace L2
open PySem PySem.Spec PyProof.Rows
def rn(s:Stmt):Arguments:=match s with
 |.FunctionDef _ a _ _ _ _ _ _ _ _=>a
 |_=>{posonlyargs:=[],args:=[],vararg:=none,kwonlyargs:=[],kw_defaults:=[],kwarg:=none,defaults:=[]}
def ng(s:Stmt):List Stmt:=match s with
 |.FunctionDef _ _ b _ _ _ _ _ _ _=>b
 |_=>[]
def d_(s:Stmt):Scope:=match s with
 |.FunctionDef _ _ _ _ _ _ sc _ _ _=>sc
 |_=>{kind:=.function,names:=[],isGenerator:=false,isCoroutine:=false}
end L2
namespace L
open PySem PySem.Spec PyProof.Rows L2
def ta:Nat->Nat×Str×Nat×List Str
 |0=>(7,"ends",2,["sheet","line","places","at","crossing","end"])
 |1=>(8,"crossing_at",2,["sheet","at"])
 |2=>(9,"turned",2,["crossing","by"])
 |3=>(10,"line_at",2,["crossings","place"])
 |4=>(11,"opposite",1,["place"])
 |5=>(12,"numbered",2,["crossings","rings","numbers","told","crossing","line"])
 |6=>(13,"without",2,["crossings","gone"])
 |7=>(14,"joined",3,["crossings","rings","pairs","left","waiting","kept","lost"])
 |8=>(15,"renamed",3,["rows","old","new"])
 |9=>(18,"curled",3,["sheet","line","way","crossings","fresh","into_ring","opened"])
 |10=>(19,"curl",4,["kept","new","loop","way"])
 |11=>(20,"uncurled",2,["sheet","at","crossing","end","others"])
 |12=>(21,"laid_over",4,["sheet","upper","lower","way","upper_place","lower_place","fresh","opened","sides"])
 |13=>(22,"overlay",4,["upper","lower","fresh","way","bow","under"])
 |14=>(23,"taken_apart",3,["sheet","one","other","first","second","turns","pairs"])
 |15=>(24,"loosened",2,["first","second","end"])
 |16=>(25,"slid",4,["sheet","first","second","third","told","step","low","found"])
 |17=>(26,"slide_ends",3,["told","low","step","over","into","beneath","last","closing"])
 |18=>(27,"end_with",3,["crossing","choices","line","end"])
 |19=>(28,"passed",3,["crossings","numbers","found","cords","left","one","other","inner"])
 |20=>(29,"relined",3,["crossings","place","line","left","crossing"])
 |21=>(31,"_law_cell_at",2,["script","k"])
 |22=>(32,"_law_pick",2,["script","k"])
 |23=>(33,"_law_rows",4,["script","start","many","fixed","owner","k","left","name","at"])
 |24=>(34,"_law_numbered",1,["rows","names","row","name","found"])
 |25=>(35,"_law_whole",1,["x"])
 |26=>(36,"_law_good",1,["found","lines","row","line"])
 |27=>(37,"_law_corners",4,["c","g","h","ways","step","p","j","q","one","two"])
 |28=>(38,"_law_start",2,["script","room","kind","ways","many","fixed","a","b","end"])
 |29=>(39,"_law_mate",2,["rows","place","line","k","e"])
 |30=>(40,"_law_twist",1,["rows","found","at","place"])
 |31=>(41,"_law_rings",1,["pairs","left","found","two","other","e"])
 |32=>(42,"_law_ways",1,["many","ways","k"])
 |33=>(43,"_law_choices",1,["rings","row","k","more","e"])
 |34=>(44,"_law_add",3,["found","power","rings","row","e","at"])
 |35=>(45,"_law_total",2,["rows","rings","found","way","pairs","k","row"])
 |36=>(46,"_law_listed",3,["found","shift","sign"])
 |37=>(47,"_law_deed",3,["sheet","cell","room","many","lines","part","spots","found"])
 |38=>(48,"_law_kept",1,["sheet","w","sums","pairs","row"])
 |39=>(49,"law",1,["script","sheet","due","k","found"])
 |_=>(0,"",0,[])
abbrev nm(i:Nat):Str:=(ta i).2.1
abbrev Nn(i:Nat):List Str:=(ta i).2.2.2
abbrev Ps(i:Nat):List Str:=(Nn i).take (ta i).2.2.1
abbrev sT(i:Nat):Stmt:=PySem.Challenge.pw_cordbook_k14_whole_moves_keep_the_sum.main.body.getD (ta i).1 (.Pass ⟨0,0,0,0⟩)
abbrev Qp:List Value:=[.type "ValueError",.type "Exception",.type "BaseException",.type "object"]
def bl:List Str:=["bool","enumerate","int","isinstance","len","list","max","range","sorted","sum","tuple"]
abbrev FH(K:W.Frag)(i:Nat):Prop:=∃(f:Addr)(oc kV dc pm cd ct:Value)(od an:Option Addr)(sl:Array (Option Value)),W.nsIn K mainGlobals (nm i)=some (some (.ref f))/\K.lookup f=some ⟨oc,od,.func (W.fnOf (nm i) (nm i) (rn (sT i)) (ng (sT i)) (d_ (sT i)) .none kV dc pm an cd ct),sl⟩/\W.codeIn K cd (nm i)=true/\W.keepIn K (.ref f)=true
abbrev Rb(K:W.Frag)(C:Addr):Prop:=(W.findIn K (.ref C) "__getattribute__"=some (some (.builtin "BaseException.__getattribute__"))/\W.findIn K (.ref C) "__getattr__"=some none)/\W.findIn K (.ref C) "__class__"=some (some (.builtin "object.__class__"))/\W.mroIn K C (.type "object")=some true/\W.mroIn K C (.type "BaseException")=some true
abbrev qq:Program:=W.view PySem.Challenge.pw_cordbook_k14_whole_moves_keep_the_sum [1,2,3,4,6,7,8,9,10,11,12,13,14,15,17,18,19,20,21,22,23,24,25,26,27,28,29,31,32,33,34,35,36,37,38,39,40,41,42,43,44,45,46,47,48,49]
def Fx(K:W.Frag):Prop:=∃(C0 C1 C2 C3:Addr)(Nk:ClassData)(Nl:ClassData)(Nm:ClassData)(Np:ClassData),specOf qq "Crowded"=some ("ValueError.__new__",Qp)/\specOf qq "NoPlace"=some ("ValueError.__new__",Qp)/\specOf qq "NoMove"=some ("ValueError.__new__",Qp)/\(∀i,i<40->FH K i)/\(∀i,i<11->W.nsIn K mainGlobals (bl.getD i "")=some none)/\(W.nsIn K mainGlobals "Crowded"=some (some (.ref C0))/\W.nsIn K mainGlobals "NoPlace"=some (some (.ref C1))/\W.nsIn K mainGlobals "NoMove"=some (some (.ref C2))/\W.nsIn K mainGlobals "CordError"=some (some (.ref C3))/\W.specialIn K (.builtin "object.__class__") "__get__"=some (some (.builtin "getset_descriptor.__get__"))/\W.takesIn K (.builtin "object.__class__")=some true/\Rb K C0/\Rb K C1)/\(Rb K C2/\W.clsIn K C0=some Nk/\W.typeIn K (.ref C0)=some (.type "type")/\W.subIn K (.ref C0) (.ref C0)=some true/\W.clsIn K C1=some Nl/\W.typeIn K (.ref C1)=some (.type "type")/\W.subIn K (.ref C1) (.ref C1)=some true/\W.clsIn K C2=some Nm)/\(W.typeIn K (.ref C2)=some (.type "type")/\W.subIn K (.ref C2) (.ref C2)=some true/\W.clsIn K C3=some Np/\W.typeIn K (.ref C3)=some (.type "type")/\W.subIn K (.ref C3) (.ref C3)=some true/\W.subIn K (.ref C0) (.ref C3)=some true/\W.subIn K (.ref C1) (.ref C3)=some true/\W.subIn K (.ref C2) (.ref C3)=some true)/\(W.subIn K (.ref C3) (.type "BaseException")=some true)/\(∃(Bi:Tok),W.nsIn K mainGlobals "LIMIT"=some (some (.int 10 Bi)))/\(∃(nu:Addr)(sr:Option Addr)(sx:Array (Option Value))(sy:Nat)(kc:Addr)(s_:Option Addr)(tf:Array (Option Value))(tj:Nat)(tm:Tok)(tu:Tok)(ke:Addr)(t_:Option Addr)(ua:Array (Option Value))(ub:Nat)(uc:Tok)(ud:Tok)(kf:Addr)(ue:Option Addr)(uf:Array (Option Value))(ug:Nat)(uh:Tok)(ui:Tok)(jl:Addr)(qp:Option Addr)(qr:Array (Option Value))(qt:Nat)(qu:Tok)(qv:Tok),W.nsIn K mainGlobals "READINGS"=some (some (.ref nu))/\K.lookup nu=some ⟨.type "tuple",sr,.seq #[.ref kc,.ref ke,.ref kf,.ref jl] sy,sx⟩/\K.lookup kc=some ⟨.type "tuple",s_,.seq #[.int (0) tm,.int (0) tu] tj,tf⟩/\K.lookup ke=some ⟨.type "tuple",t_,.seq #[.int (0) uc,.int (2) ud] ub,ua⟩/\K.lookup kf=some ⟨.type "tuple",ue,.seq #[.int (2) uh,.int (0) ui] ug,uf⟩/\K.lookup jl=some ⟨.type "tuple",qp,.seq #[.int (2) qu,.int (2) qv] qt,qr⟩)
end L
section
open PySem PySem.W PyProof.Rows
set_option hygiene false in
local macro_rules | `(tactic| o_head $H) => `(tactic| (refine holds_open (N := 6000) (loose := []) (q := (view PySem.Challenge.pw_cordbook_k14_whole_moves_keep_the_sum [1, 2, 3, 4, 6, 7, 8, 9, 10, 11, 12, 13, 14, 15, 17, 18, 19, 20, 21, 22, 23, 24, 25, 26, 27, 28, 29, 31, 32, 33, 34, 35, 36, 37, 38, 39, 40, 41, 42, 43, 44, 45, 46, 47, 48, 49])) (XP := XL (view PySem.Challenge.pw_cordbook_k14_whole_moves_keep_the_sum [1, 2, 3, 4, 6, 7, 8, 9, 10, 11, 12, 13, 14, 15, 17, 18, 19, 20, 21, 22, 23, 24, 25, 26, 27, 28, 29, 31, 32, 33, 34, 35, 36, 37, 38, 39, 40, 41, 42, 43, 44, 45, 46, 47, 48, 49]) []) (YP := Hook.says $H) (Yf := Hook.obs $H) (Ya := Hook.val $H) (Xt := fun s => xlAt (view PySem.Challenge.pw_cordbook_k14_whole_moves_keep_the_sum [1, 2, 3, 4, 6, 7, 8, 9, 10, 11, 12, 13, 14, 15, 17, 18, 19, 20, 21, 22, 23, 24, 25, 26, 27, 28, 29, 31, 32, 33, 34, 35, 36, 37, 38, 39, 40, 41, 42, 43, 44, 45, 46, 47, 48, 49]) [] s && recOk (RowW.records (OpenRow.toRowW (OpenLaw.row PySem.Challenge.rw_cordbook_k14_whole_moves_keep_the_sum))) s) ?hl (Hook.of $H) (Hook.keeps $H) (fun s e => xl_of s (Bool.and_eq_true_iff.mp e).1) XL.keeps (by rfl) (by rfl) (by rfl) (fun s e => recFacts_of (Bool.and_eq_true_iff.mp e).2) (by rfl) (by first | assumption | decide +kernel) (by decide +kernel) ⟨rfl, rfl, rfl, rfl, rfl, by decide +kernel⟩ ?hw ?hc; case hl => (intro w; kernel_rfl)))
set_option maxRecDepth 100000 in
set_option maxHeartbeats 0 in
theorem L.beg (call : ∀ {XP : (Str → Option Value) → Heap → Prop} {YP : World → Heap → Prop} {d : DefRec} {K : Params → W.Frag}, d.name = "law" → d.params.defaults = [] → (∀ (w : World) (h : Heap), YP w h → (K w.params).In h) → (∀ p, L.Fx (K p)) →
  W.WalkO L.qq [] XP YP PySem.Challenge.rw_cordbook_k14_whole_moves_keep_the_sum.row.toRowW d [] fun f vs => PySem.call f vs) : PySem.Challenge.rw_cordbook_k14_whole_moves_keep_the_sum.Holds := by
 w_on; (refine holds_law ?_ fun said => ?_); (unfold OpenLaw.wellSaid OpenRow.wellSaid OpenRow.partSaid looksOpen; (repeat' (with_reducible refine look_both ?_ ?_)) <;> decide +kernel); k_head; (case hw => w_witness2)
 k_fill
 refine call rfl rfl (fun w h Y => W.kIn_of Y) fun p => ?_
 refine ⟨_, _, _, _, _, _, _, _, by first | rfl | decide +kernel, by first | rfl | decide +kernel, by first | rfl | decide +kernel, ?hF, ?hB, ⟨by k_is, by k_is, by k_is, by k_is, by k_is, by k_is, ⟨⟨by k_is, by k_is⟩, by k_is, by k_is, by k_is⟩, ⟨⟨by k_is, by k_is⟩, by k_is, by k_is, by k_is⟩⟩, ⟨⟨⟨by k_is, by k_is⟩, by k_is, by k_is, by k_is⟩, by k_is, by k_is, by k_is, by k_is, by k_is, by k_is, by k_is⟩, ⟨by k_is, by k_is, by k_is, by k_is, by k_is, by k_is, by k_is, by k_is⟩, by k_is, ⟨_, by k_is⟩, ⟨_, _, _, _, _, _, _, _, _, _, _, _, _, _, _, _, _, _, _, _, _, _, _, _, _, _, _, _, by k_is, by k_is, by k_is, by k_is, by k_is, by k_is⟩⟩
 case hF =>
  intro i hi
  match i, hi with
  | 0, _ | 1, _ | 2, _ | 3, _ | 4, _ | 5, _ | 6, _ | 7, _ | 8, _ | 9, _ | 10, _ | 11, _ | 12, _ | 13, _ | 14, _ | 15, _ | 16, _ | 17, _ | 18, _ | 19, _ | 20, _ | 21, _ | 22, _ | 23, _ | 24, _ | 25, _ | 26, _ | 27, _ | 28, _ | 29, _ | 30, _ | 31, _ | 32, _ | 33, _ | 34, _ | 35, _ | 36, _ | 37, _ | 38, _ | 39, _ =>
   exact ⟨_, _, _, _, _, _, _, _, _, _, by k_is, by k_is, by k_is, by k_is⟩
  | n + 40, h => exact absurd h (by omega)
 case hB =>
  intro i hi
  match i, hi with
  | 0, _ | 1, _ | 2, _ | 3, _ | 4, _ | 5, _ | 6, _ | 7, _ | 8, _ | 9, _ | 10, _ => show _ = _; k_is
  | n + 11, h => exact absurd h (by omega)
end
namespace L2
open PySem PySem.Spec PyProof.Rows
noncomputable abbrev Key:=Sum Int Str
noncomputable def zb:Key->Value->Bool
 |.inl k,v=>Value.isInt k v
 |.inr x,v=>Value.isStrOf x v
noncomputable def Rc(w:World):Key->Int
 |.inl k=>hashInt k
 |.inr x=>hashStr w x
theorem aK:∀{k:Key}{v:Value},zb k v=true->(∃i t,k=Sum.inl i/\v=Value.int i t)\/(∃x t,k=Sum.inr x/\v=Value.str x t)
 |.inl i,v,h=>by
  obtain⟨t,e⟩:=Value.isInt_shape (k:=i) (v:=v) h;exact .inl ⟨i,t,rfl,e⟩
 |.inr x,v,h=>by
  obtain⟨t,e⟩:=Value.isStrOf_shape (x:=x) (v:=v) h;exact .inr ⟨x,t,rfl,e⟩
theorem uE(i:Int)(t:Tok):zb (.inl i) (.int i t)=true:=by simp[zb,Value.isInt]
theorem uF(x:Str)(t:Tok):zb (.inr x) (.str x t)=true:=by simp[zb,Value.isStrOf]
theorem JA(a b:Int):decide ((Sum.inl a:Key)=Sum.inl b)=(a==b):=by
 by_cases e:a=b
 ·subst e;simp
 ·have h:¬(Sum.inl a:Key)=Sum.inl b:=λq=>e (Sum.inl.inj q)
  rw[wt h];exact(beq_eq_false_iff_ne.mpr e).symm
theorem JB(a b:Str):decide ((Sum.inr a:Key)=Sum.inr b)=decide (a=b):=by
 by_cases e:a=b
 ·subst e;simp
 ·have h:¬(Sum.inr a:Key)=Sum.inr b:=λq=>e (Sum.inr.inj q)
  rw[wt h,wt e]
theorem JC(a:Int)(b:Str):decide ((Sum.inl a:Key)=Sum.inr b)=false:=wt (λq=>nomatch q)
theorem JD(a:Str)(b:Int):decide ((Sum.inr a:Key)=Sum.inl b)=false:=wt (λq=>nomatch q)
noncomputable def fu(prog:Program)(w:World):PySem.KeyKind prog w Key where
 is:=zb
 hash:=Rc w
 inj:=λv a b ha hb=>by
  rcases aK ha with⟨i,t,rfl,rfl⟩|⟨x,t,rfl,rfl⟩
  ·rcases aK hb with⟨j,u,rfl,e⟩|⟨y,u,rfl,e⟩
   ·injection e with e1 _;rw[e1]
   ·exact nomatch e
  ·rcases aK hb with⟨j,u,rfl,e⟩|⟨y,u,rfl,e⟩
   ·exact nomatch e
   ·injection e with e1 _;rw[e1]
 byValue:=λk v h=>by
  rcases aK h with⟨i,t,rfl,rfl⟩|⟨x,t,rfl,rfl⟩<;>rfl
 pyHash:=λhv h=>by
  rcases aK hv with⟨i,t,rfl,rfl⟩|⟨x,t,rfl,rfl⟩
  ·exact wpAny_pyHash_int h
  ·exact wpAny_pyHash_str h
 eqBool:=λhu hv h=>by
  rcases aK hu with⟨i,t,rfl,rfl⟩|⟨x,t,rfl,rfl⟩
  ·rcases aK hv with⟨j,u,rfl,rfl⟩|⟨y,u,rfl,rfl⟩
   ·rw[JA] at h;exact wpAny_eqBool_int h
   ·rw[JC] at h;exact SeqAt.EqAt.int_str i t y u _ _ _ _ h
  ·rcases aK hv with⟨j,u,rfl,rfl⟩|⟨y,u,rfl,rfl⟩
   ·rw[JD] at h;exact SeqAt.EqAt.str_int x t j u _ _ _ _ h
   ·rw[JB] at h;exact wpAny_eqBool_str h
 «strs»:=λk x t v h=>by
  rcases aK h with⟨i,u,rfl,e⟩|⟨y,u,rfl,e⟩
  ·exact nomatch e
  ·injection e with e1 _
   subst e1;cases v<;>rfl
theorem nW(prog:Program)(w:World)(i:Int)(t:Tok):(fu prog w).is (.inl i) (.int i t)=true:=uE i t
theorem nX(prog:Program)(w:World)(x:Str)(t:Tok):(fu prog w).is (.inr x) (.str x t)=true:=uF x t
inductive V where
 |de|bl (b:Bool)|int (i:Int)|str (x:Str)|Cp (b:Array UInt8)|Qq (b:UInt64)|ref (a:Addr)|ty (n:String)
 deriving DecidableEq
noncomputable def cm:V->Value->Prop
 |.de,u=>u=Value.none
 |.bl b,u=>u=Value.bool b
 |.int i,u=>∃t,u=Value.int i t
 |.str x,u=>∃t,u=Value.str x t
 |.Cp b,u=>∃t,u=Value.bytes b t
 |.Qq b,u=>∃t,u=Value.float b t
 |.ref a,u=>u=Value.ref a
 |.ty n,u=>u=Value.type n
noncomputable abbrev dj:List V->List Value->Prop:=Paired cm
theorem dj.length(r:dj xs us):xs.length=us.length:=Paired.length r
theorem dj.get:∀{xs:List V}{us:List Value}{i:Nat}{x:V},dj xs us->xs[i]?=some x->∃u,us[i]?=some u/\cm x u
 |_,_,_,_,.nil,e=>by simp at e
 |_,_,0,_,.cons r _,e=>by simp at e;subst e;exact⟨_,rfl,r⟩
 |_,_,i+1,x,.cons _ t,e=>by
  obtain⟨u,h1,h2⟩:=dj.get (i:=i) (x:=x) t (by simpa using e);exact⟨u,by simpa using h1,h2⟩
theorem dj.set(r:cm x u):∀{xs:List V}{us:List Value}(i:Nat),dj xs us->dj (xs.set i x) (us.set i u)
 |_,_,_,.nil=>.nil
 |_,_,0,.cons _ t=>.cons r t
 |_,_,i+1,.cons q t=>.cons q (dj.set r i t)
theorem dj.append:∀{xs ys:List V}{us ws:List Value},dj xs us->dj ys ws->dj (xs++ys) (us++ws)
 |_,_,_,_,.nil,s=>s
 |_,_,_,_,.cons r t,s=>.cons r (dj.append t s)
theorem dj.take:∀{xs:List V}{us:List Value}(n:Nat),dj xs us->dj (xs.take n) (us.take n)
 |_,_,0,_=>.nil
 |_,_,_+1,.nil=>.nil
 |_,_,n+1,.cons r t=>.cons r (dj.take n t)
theorem dj.drop:∀{xs:List V}{us:List Value}(n:Nat),dj xs us->dj (xs.drop n) (us.drop n)
 |_,_,0,r=>r
 |_,_,_+1,.nil=>.nil
 |_,_,n+1,.cons _ t=>dj.drop n t
noncomputable def yb:Option V->Option Value->Prop
 |some v,some u=>cm v u
 |none,none=>True
 |_,_=>False
noncomputable def KV{κ:Type}:List (κ×V)->List (κ×Value)->Prop:=Paired λ(p:κ×V)(q:κ×Value)=>p.1=q.1/\cm p.2 q.2
noncomputable def kV:Key->V
 |.inl i=>.int i
 |.inr x=>.str x
inductive HO where
 |ak (xs:List V)
 |ar (xs:List V)
 |dK (kvs:List (Key×V))|dT (kvs:List (List Key×V))
 |set (S:Int->Bool) (n:Nat)
 |ins (C dx:Addr) (fs:List (Str×V))
 |own (x:Addr)
 |xd (fs:List (Str×V))
 |met (f x:Addr)
 |js (lo hi:Int)
 |bf (o:Obj) (u:HO)
 |Io (ps:Array Value)
 |ext (φ:Heap->Prop)
noncomputable abbrev Hp:=Addr->Option HO
noncomputable def upd(H:Hp)(a:Addr)(o:HO):Hp:=λb=>if b=a then some o else H b
theorem aC:upd H a o a=some o:=by unfold upd;rw[bg rfl]
theorem aB(h:b≠a):upd H a o b=H b:=by unfold upd;rw[bh h]
theorem sG:upd (upd H a o) a u=upd H a u:=by
 funext b;unfold upd;split<;>rfl
theorem Nq{H:Hp}(h:H a=some o)(h':H b=some u)(d:o≠u):a≠b:=by
 intro e;subst e;rw[h] at h';exact d (Aw h')
theorem aO{H:Hp}(h:H a=some o)(h':H b=none):a≠b:=by
 intro e;subst e;rw[h] at h';cases h'
section
variable(P:Program)(w:World)
noncomputable def jd(H:Hp)(h:Heap)(a:Addr):HO->Prop
 |.ak xs=>xs.length<=sizeLine/\∃(its:List Value)(n:Nat),dj xs its/\h.get? a=some {cls:=.type "list",data:=.seq its.toArray n}
 |.ar xs=>xs.length<=sizeLine/\∃its:List Value,dj xs its/\IsTup h a its.toArray
 |.dK kvs=>kvs.length<=sizeLine/\(a==sysModules)=false/\∃vs,KV kvs vs/\h.DictOf (fu P w) a vs
 | .dT kvs=>kvs.length<=sizeLine/\(a==sysModules)=false/\∃xs:List (List Key×Addr×Value),
   Paired (λ(p:List Key×V)(q:List Key×Addr×Value)=>p.1=q.1/\H q.2.1=some (.ar (p.1.map kV))/\cm p.2 q.2.2) kvs xs/\
   ∃o es ep,h.get? a=some o/\o.ExactDict/\o.data=.dict es ep/\es.toList=xs.map (entryOfKey (tupleKind (fu P w)))/\(xs.map (·.1)).Nodup
 |.set S n=>h.SetOf (intKind P w) a S n
 | .ins C dx fs=>H dx=some (.own a)/\fs.length<=1000/\dx≠a/\h.get? a=some (PySem.W.instObj C dx)/\
   ∃mA,h.Ns1 dx mA/\(∀f,yb (fs.lookup f) (mA f))/\PySem.Within mA (fs.map (·.1))
 |.own _=>∃o,h.get? a=some o
 |.xd fs=>∃mA,h.Ns1 a mA/\∀f,yb (fs.lookup f) (mA f)
 |.js lo hi=>∃t u v,h.get? a=some {cls:=.type "range",data:=.fields #[.int lo t,.int hi u,.int 1 v]}
 |.bf o u=>h.get? a=some o/\jd H h a u
 |.Io ps=>h.get? a=some {cls:=.none,data:=.fields ps}
 |.met f x=>h.get? a=some (PySem.W.methodObj (.ref f) (.ref x))
 |.ext φ=>φ h/\(∃o,h.get? a=some o)/\∀h1 h2:Heap,φ h1->(∀o,h1.get? a=some o->h2.get? a=some o)->φ h2
def qg(H:Hp)(h:Heap):Prop:=∀a o,H a=some o->jd P w H h a o
end
section
variable{P:Program}{w:World}{H H':Hp}{h h':Heap}{a:Addr}{o:HO}
theorem jd.lt(x:jd P w H h a o):a<h.objs.size:=by
 cases o with
 |ak xs=>obtain⟨_,_,_,_,e⟩:=x;exact jv e
 |ar xs=>obtain⟨_,_,_,p⟩:=x;exact p.lt
 |dK kvs=>obtain⟨_,_,_,_,o,_,_,e,_⟩:=x;exact jv e
 |dT kvs=>obtain⟨_,_,_,_,o,_,_,e,_⟩:=x;exact jv e
 |set S n=>obtain⟨o,_,_,_,e,_⟩:=x;exact jv e
 |ins C dx fs=>obtain⟨_,_,_,e,_⟩:=x;exact jv e
 |own y=>obtain⟨_,e⟩:=x;exact jv e
 |xd fs=>obtain⟨_,⟨_,_,_,e,_⟩,_⟩:=x;exact jv e
 |js lo hi=>obtain⟨_,_,_,e⟩:=x;exact jv e
 |bf ob u=>obtain⟨e,_⟩:=x;exact jv e
 |Io ps=>exact jv (show h.get? a=some _ from x)
 |met f y=>exact jv (show h.get? a=some _ from x)
 |ext φ=>obtain⟨_,⟨_,e⟩,_⟩:=x;exact jv e
theorem Paired.JE:∀{l₁:List α}{l₂:List β},Paired F l₁ l₂->(∀a b,F a b->G a b)->Paired G l₁ l₂
 |_,_,.nil,_=>.nil
 |_,_,.cons r t,f=>.cons (f _ _ r) (Paired.JE t f)
theorem jd.BZ(x:jd P w H h a o)(k:∀b u,(b=a\/H b=some (.own a))->h.get? b=some u->h'.get? b=some u)
  (ho:∀b,H b=some (.own a)->H' b=some (.own a)) (ht:∀b xs,H b=some (.ar xs)->H' b=some (.ar xs)):jd P w H' h' a o:=by
 induction o with
 |ak xs=>obtain⟨z,its,n,r,e⟩:=x;exact⟨z,its,n,r,k _ _ (.inl rfl) e⟩
 |ar xs=>obtain⟨z,its,r,ob,e,c⟩:=x;exact⟨z,its,r,ob,k _ _ (.inl rfl) e,c⟩
 |dK kvs=>obtain⟨z,y,vs,r,ob,es,ep,e,c⟩:=x;exact⟨z,y,vs,r,ob,es,ep,k _ _ (.inl rfl) e,c⟩
 |dT kvs=>
  obtain⟨z,y,xs,r,ob,es,ep,e,c⟩:=x;exact⟨z,y,xs,Paired.JE r λp q z=>⟨z.1,ht _ _ z.2.1,z.2.2⟩,ob,es,ep,k _ _ (.inl rfl) e,c⟩
 |set S n=>obtain⟨ob,es,ep,t,e,c⟩:=x;exact⟨ob,es,ep,t,k _ _ (.inl rfl) e,c⟩
 |ins C dx fs=>
  obtain⟨d,z,ne,e,mA,⟨od,es,ep,e2,c⟩,r⟩:=x;exact⟨ho _ d,z,ne,k _ _ (.inl rfl) e,mA,⟨od,es,ep,k _ _ (.inr d) e2,c⟩,r⟩
 |own y=>obtain⟨ob,e⟩:=x;exact⟨ob,k _ _ (.inl rfl) e⟩
 |xd fs=>obtain⟨mA,⟨od,es,ep,e,c⟩,r⟩:=x;exact⟨mA,⟨od,es,ep,k _ _ (.inl rfl) e,c⟩,r⟩
 |js lo hi=>obtain⟨t,u,v,e⟩:=x;exact⟨t,u,v,k _ _ (.inl rfl) e⟩
 |bf ob u ih=>obtain⟨e,q⟩:=x;exact⟨k _ _ (.inl rfl) e,ih q⟩
 |Io ps=>
  have e:h.get? a=some {cls:=.none,data:=.fields ps}:=x;show h'.get? a=some {cls:=.none,data:=.fields ps};exact k a _ (.inl rfl) e
 |met f y=>
  have e:h.get? a=some (PySem.W.methodObj (.ref f) (.ref y)):=x;show h'.get? a=some (PySem.W.methodObj (.ref f) (.ref y));exact k a _ (.inl rfl) e
 |ext φ=>obtain⟨p,⟨o,e⟩,st⟩:=x;exact⟨st _ _ p λo q=>k _ _ (.inl rfl) q,⟨o,k _ _ (.inl rfl) e⟩,st⟩
theorem qg.lt(x:qg P w H h)(e:H a=some o):a<h.objs.size:=(x a o e).lt
theorem qg.fresh(x:qg P w H h)(e:h.objs.size<=a):H a=none:=by
 cases q:H a with
 |none=>rfl
 |some u=>exact absurd (AR (x.lt q) e) (Aj _)
theorem qg.kept(x:qg P w H h)(k:∀b u,h.get? b=some u->h'.get? b=some u):qg P w H h':=λa o e=>
 (x a o e).BZ (λb u _ q=>k b u q) (λ_ q=>q) λ_ _ q=>q
theorem qg.laid(x:qg P w H h)(k:∀b u,h.get? b=some u->h'.get? b=some u)(hp:h.objs.size<=a)(new:jd P w (upd H a o) h' a o):qg P w (upd H a o) h':=λb u e=>by
 have hn:=x.fresh hp;by_cases hb:b=a
 ·subst hb;rw[aC] at e;cases e;exact new
 ·rw[aB hb] at e
  exact(x b u e).BZ (λc v _ q=>k c v q) (λc q=>by rw[aB (aO q hn)];exact q) λc xs q=>by rw[aB (aO q hn)];exact q
end
def Rd(H:Hp)(a:Addr)(u:HO):Prop:=H a=some u\/∃o,H a=some (.bf o u)
theorem Rd.ok(r:Rd H a u)(x:qg P w H h):jd P w H h a u:=by
 rcases r with r|⟨o,r⟩
 ·exact x a u r
 ·obtain⟨_,q⟩:=x a _ r
  exact q
noncomputable def Nr:Option HO->Prop
 |some (.ak _)=>True
 |some (.dK _)=>True
 |some (.dT _)=>True
 |some (.set _ _)=>True
 |some (.ins _ _ _)=>True
 |some (.ext _)=>True
 |_=>False
section
variable{P:Program}{w:World}{H:Hp}{h h':Heap}{x e:Addr}{o':HO}
theorem qg.write(ok:qg P w H h)(mu:Nr (H x))(he:e=x\/H e=some (.own x))(k:∀b u,b≠e->h.get? b=some u->h'.get? b=some u)(Ip:∃u,h'.get? e=some u)
  (new:jd P w (upd H x o') h' x o'):qg P w (upd H x o') h':=λb u q=>by
 have Nt:∀c y,H c=some (.own y)->c≠x:=λc y r z=>by subst z;rw[r] at mu;exact mu
 have Rf:∀c xs,H c=some (.ar xs)->c≠x:=λc xs r z=>by subst z;rw[r] at mu;exact mu
 by_cases hb:b=x
 ·subst hb;rw[aC] at q;cases q;exact new
 ·rw[aB hb] at q
  by_cases vn:b=e
  ·have q':H b=some (.own x):=by
    rcases he with z|z
    ·exact absurd (vn.trans z) hb
    ·rw[vn];exact z
   rw[q] at q';cases q';obtain⟨v,hv⟩:=Ip;exact⟨v,by rw[vn];exact hv⟩
  ·refine(ok b u q).BZ (λc v hc r=>k c v ?_ r) (λc r=>by rw[aB (Nt c b r)];exact r) λc xs r=>by rw[aB (Rf c xs r)];exact r
   rcases hc with rfl|hc
   ·exact vn
   ·rintro rfl
    rcases he with z|z
    ·exact Nt c b hc z
    ·rw[hc] at z;cases z;exact hb rfl
end
structure Un(fs ex:List Addr)(H H':Hp)(h h':Heap):Prop where
 keep:∀b o,h.get? b=some o->H b=none->b∉fs->b∉ex->h'.get? b=some o
 slot:∀b o,h.get? b=some o->H b=none->b∈fs->b∉ex->∃sl,h'.get? b=some {o with slots:=sl}
 free:∀b o,h.get? b=some o->H b=none->b∉ex->H' b=none
 there:∀b o,h.get? b=some o->b∉ex->∃o',h'.get? b=some o'
 vo:∀b xs,H b=some (.ar xs)->H' b=some (.ar xs)
 uv:∀b o u,H b=some (.bf o u)->H' b=some (.bf o u)
 vp:∀b ps,H b=some (.Io ps)->∃more,H' b=some (.Io (ps++more))
section
variable{fs Wx ex Wy:List Addr}{H H1 H2:Hp}{h h1 h2 h':Heap}{a x e:Addr}{o:HO}
theorem Un.any(u:Un fs ex H H1 h h1)(q:h.get? b=some ob)(n:H b=none)(hx:b∉ex):∃sl,h1.get? b=some {ob with slots:=sl}:=by
 by_cases hb:b∈fs
 ·exact u.slot b ob q n hb hx
 ·exact⟨ob.slots,u.keep b ob q n hb hx⟩
theorem Un.trans(a:Un fs ex H H1 h h1)(b:Un fs ex H1 H2 h1 h2):Un fs ex H H2 h h2 where
 keep:=λc ob q n hc hx=>b.keep c ob (a.keep c ob q n hc hx) (a.free c ob q n hx) hc hx
 slot:=λc ob q n hc hx=>by
  obtain⟨sl,e1⟩:=a.slot c ob q n hc hx;obtain⟨Fs,e2⟩:=b.slot c _ e1 (a.free c ob q n hx) hc hx;exact⟨Fs,e2⟩
 free:=λc ob q n hx=>by
  obtain⟨o',e1⟩:=a.there c ob q hx;exact b.free c o' e1 (a.free c ob q n hx) hx
 there:=λc ob q hx=>by
  obtain⟨o',e1⟩:=a.there c ob q hx;exact b.there c o' e1 hx
 vo:=λc xs q=>b.vo c xs (a.vo c xs q)
 uv:=λc ob xs q=>b.uv c ob xs (a.uv c ob xs q)
 vp:=λc ps q=>by
  obtain⟨m1,e1⟩:=a.vp c ps q;obtain⟨m2,e2⟩:=b.vp c _ e1;exact⟨m1++m2,by rw[e2,Array.append_assoc]⟩
theorem Un.kept(k:∀b u,h.get? b=some u->h'.get? b=some u):Un fs ex H H h h':=
 ⟨λb ob q _ _ _=>k b ob q,λb ob q _ _ _=>⟨ob.slots,k b ob q⟩,λ_ _ _ n _=>n,λb ob q _=>⟨ob,k b ob q⟩,λ_ _ q=>q,λ_ _ _ q=>q,λ_ ps q=>⟨#[],by rw[q];simp⟩⟩
theorem Un.refl:Un fs ex H H h h:=Un.kept λ_ _ q=>q
theorem Un.laid(k:∀b u,h.get? b=some u->h'.get? b=some u)(hp:h.objs.size<=a)(hn:H a=none):Un fs ex H (upd H a o) h h' where
 keep:=λb u q _ _ _=>k b u q
 slot:=λb u q _ _ _=>⟨u.slots,k b u q⟩
 free:=λb u q n _=>by rw[aB (Af (AR (jv q) hp))];exact n
 there:=λb u q _=>⟨u,k b u q⟩
 vo:=λb xs q=>by rw[aB (aO q hn)];exact q
 uv:=λb u xs q=>by rw[aB (aO q hn)];exact q
 vp:=λb ps q=>⟨#[],by rw[aB (aO q hn),q];simp⟩
theorem Un.write(mu:Nr (H x))(he:e=x\/H e=some (.own x))(k:∀b u,b≠e->h.get? b=some u->h'.get? b=some u)(Ip:∃u,h'.get? e=some u):Un fs ex H (upd H x o) h h':=by
 have hx:∀b,H b=none->b≠x:=λb n z=>by subst z;rw[n] at mu;exact mu
 have hb:∀b,H b=none->b≠e:=λb n z=>by
  subst z;rcases he with r|r
  ·exact hx b n r
  ·rw[n] at r;cases r
 have hm:∀b u,H b=some u->¬Nr (some u)->b≠x:=λb u q nm z=>by subst z;rw[q] at mu;exact nm mu
 refine⟨λb u q n _ _=>k b u (hb b n) q,λb u q n _ _=>⟨u.slots,k b u (hb b n) q⟩,λb u q n _=>by rw[aB (hx b n)];exact n,λb u q _=>?_,
  λb xs q=>by rw[aB (hm b _ q λz=>z)];exact q,λb u xs q=>by rw[aB (hm b _ q λz=>z)];exact q,λb ps q=>⟨#[],by rw[aB (hm b _ q λz=>z),q];simp⟩⟩
 by_cases vn:b=e
 ·subst vn;exact Ip
 ·exact⟨u,k b u vn q⟩
end
noncomputable def Ag(h:Heap)(H:Hp):List Addr:=(List.range h.objs.size).filter λa=>(H a).isSome
noncomputable def AS(h:Heap)(H:Hp):Heap:=PySem.W.hideAll h (Ag h H)
theorem uG(h:Heap)(H:Hp):(AS h H).objs.size=h.objs.size:=PySem.W.hideAll_size _ _
theorem v5(e:h.get? b=some o)(n:H b=none):(AS h H).get? b=some o:=
 PySem.W.hideAll_get _ e λhm=>by
  have q:(H b).isSome=true:=(List.mem_filter.mp hm).2;rw[n] at q;simp at q
theorem Ft(e:(AS h H).get? b=some o):h.get? b=some o/\H b=none:=by
 have e':h.get? b=some o:=PySem.W.of_hideAll (Ag h H) e;refine⟨e',?_⟩
 cases q:H b with
 |none=>rfl
 |some x=>
  have hm:b∈Ag h H:=List.mem_filter.mpr ⟨List.mem_range.mpr (jv e'),by simp[q]⟩;have z:(AS h H).get? b=none:=PySem.W.hideAll_none (Ag h H) hm;rw[z] at e;cases e
structure Mod(K:PySem.W.Frag)(mg:Str->Option Value)(base:Heap):Prop where
 AU:K.In base
 glob:base.Ns mainGlobals mg
 blt:∃mb,base.Ns builtinsNs mb/\∀x:Str,x≠"__name__"->mb x=bootBuiltins x
 nolimit:base.NoLimit
structure Cx where
 prog:Program
 w:World
 K:PySem.W.Frag
 mg:Str->Option Value
 base:Heap
 A:Around
 N:List Str
 fv:Shared
 bx:Hp
 env:Env
 outer:List Env
 stack:List Env
 ex:List Addr
 fn:Str->Bool
 calm:Bool
 pn:List (Addr×Obj)
 xe:Value->Shared->Prop
noncomputable def ki(l:List Env):List Addr:=l.filterMap (·.frame)
noncomputable abbrev Cx.fs(X:Cx):List Addr:=ki X.outer
def DM(sc:Scope)(x:Str):Prop:=sc.names.lookup x=some .local\/sc.names.lookup x=some .cell\/sc.names.lookup x=some .free
def Loc(sc:Scope)(x:Str):Prop:=sc.names.lookup x=some .local\/sc.names.lookup x=some .cell
def Look(env:Env)(h:Heap)(m:Str->Option Value)(x:Str)(u:Value):Prop:=
 (env.kindOf x=some .local/\m x=some u)\/((env.kindOf x=some .cell\/env.kindOf x=some .free)/\∃c,env.cells.lookup x=some c/\h.IsCell c (some u))
structure Cx.Ok(X:Cx):Prop where
 mod:Mod X.K X.mg X.base
 kind:X.env.scope.kind=.function
 glob:X.env.globals=mainGlobals
 blt:X.env.builtins=builtinsNs
 above:X.fv.heap.objs.size<=X.env.locals
 inj:∀x y c,X.env.cells.lookup x=some c->X.env.cells.lookup y=some c->x=y
 has:∀x,(X.env.kindOf x=some .cell\/X.env.kindOf x=some .free)->∃c,X.env.cells.lookup x=some c
 Iq:∀x c,X.fn x=true->X.env.cells.lookup x=some c->X.fv.heap.objs.size<=c
 hd:X.calm=true->X.A.handled=none
 frames:X.A.frames=some X.stack
 JF:X.stack=X.outer\/(X.stack=X.env::X.outer/\X.env.frame=some X.env.locals)
 Nu:∀b∈X.ex,b≠X.env.locals/\∀x c,X.env.cells.lookup x=some c->c≠b
 bs:∀b o,X.base.get? b=some o->X.fv.heap.get? b=some o/\X.bx b=none
 DN:X.base.objs.size<=X.fv.heap.objs.size
 Bj:∀b o,X.base.get? b=some o->b∉X.ex
 B0:∀b∈X.ex,b∉X.fs
 vq:X.fv.heap.FunFrames X.base X.outer
 Fu:∀b∈X.fs,X.bx b=none
structure bj(X:Cx)(ae:List (Addr×Obj))(σ:List (Option V))(H:Hp)(s:Shared):Prop where
 ok:X.Ok
 os:s.os=X.fv.os
 bare:AllBare s.gens
 base:Un X.fs X.ex X.bx H X.fv.heap s.heap
 loc:∃m,s.heap.Ns X.env.locals m/\∀(i:Nat)(x:Str)(v:V),X.N[i]?=some x->σ[i]?=some (some v)->DM X.env.scope x->∃u,cm v u/\Look X.env s.heap m x u
 cell:∀x c,X.env.cells.lookup x=some c->∃v,s.heap.IsCell c v
 free:H X.env.locals=none
 ko:∀x c,X.env.cells.lookup x=some c->H c=none
 pin:∀p∈X.pn++ae,s.heap.get? p.1=some p.2/\H p.1=none/\p.1≠X.env.locals/\p.1∉X.fs/\∀v,p.2.data≠.cell v
 fo:qg X.prog X.w H s.heap
 len:σ.length=X.N.length
section
variable{X:Cx}{ae:List (Addr×Obj)}{σ:List (Option V)}{H H':Hp}{s:Shared}{h':Heap}
theorem Cx.Ok.Rg(ok:X.Ok)(e:X.base.get? b=some o):b∉X.fs:=λhb=>by
 have:=(ok.vq.mem hb).1;rw[e] at this;cases this
theorem bj.bs(I:bj X ae σ H s):∀b o,X.base.get? b=some o->s.heap.get? b=some o/\H b=none:=λb o e=>
 ⟨I.base.keep b o (I.ok.bs b o e).1 (I.ok.bs b o e).2 (I.ok.Rg e) (I.ok.Bj b o e),I.base.free b o (I.ok.bs b o e).1 (I.ok.bs b o e).2 (I.ok.Bj b o e)⟩
theorem bj.bk(I:bj X ae σ H s):∀b o,X.base.get? b=some o->s.heap.get? b=some o:=λb o e=>(I.bs b o e).1
theorem bj.mod(I:bj X ae σ H s):Mod X.K X.mg X.base:=I.ok.mod
theorem bj.CU(I:bj X ae σ H s):X.K.In s.heap:=I.ok.mod.AU.keeps I.bk
theorem bj.lt(I:bj X ae σ H s):X.env.locals<s.heap.objs.size:=let⟨_,hn,_⟩:=I.loc;hn.lt
theorem bj.sz(I:bj X ae σ H s):X.fv.heap.objs.size<=s.heap.objs.size:=rm I.ok.above (DL I.lt)
theorem bj.JG(I:bj X ae σ H s)(h:s.heap.objs.size<=a):a∉X.fs:=λhb=>by
 obtain⟨_,o,ho,_⟩:=I.ok.vq.mem hb;exact absurd (AR (jv ho) (rm I.sz h)) (Aj _)
theorem bj.JH(I:bj X ae σ H s):∀x c,X.env.cells.lookup x=some c->c≠X.env.locals:=λx c e z=>by
 obtain⟨v,o,ho,hd⟩:=I.cell x c e;obtain⟨m,⟨o',es,ep,B1,Qr,_⟩,_⟩:=I.loc;rw[z,B1] at ho;cases ho;rw[Qr] at hd;cases hd
theorem bj.vq(I:bj X ae σ H s):s.heap.FunFrames X.base X.outer:=by
 have all:∀(l:List Env),(∀b∈ki l,b∈X.fs)->X.fv.heap.FunFrames X.base l->s.heap.FunFrames X.base l:=by
  intro l
  induction l with
  |nil=>intro _ _;trivial
  |cons env r ih=>
   intro hs hl;obtain⟨hk,⟨L,o,hf,hn,ho,hd⟩,hr⟩:=hl;have hL:L∈X.fs:=hs L (by unfold ki;rw[List.filterMap_cons,hf];exact wo);obtain⟨sl,e⟩:=I.base.slot L o ho (I.ok.Fu L hL) hL λz=>I.ok.B0 L z hL;exact⟨hk,⟨L,_,hf,hn,e,hd⟩,ih (λb hb=>hs b (by unfold ki;rw[List.filterMap_cons,hf];exact rk _ hb)) hr⟩
 exact all X.outer (λ_ hb=>hb) I.ok.vq
theorem bj.stack(I:bj X ae σ H s):s.heap.FunFrames X.base X.stack:=by
 rcases I.ok.JF with e|⟨e,hf⟩
 ·rw[e];exact I.vq
 ·rw[e]
  obtain⟨m,hn,_⟩:=I.loc;refine .cons (by rw[I.ok.kind];decide) hf hn ?_ I.vq;exact Heap.get?_none_of_le (rm I.ok.DN I.ok.above)
theorem bj.wu(I:bj X ae σ H s):∀b∈ki X.stack,b∈X.env.locals::X.fs:=λb hb=>by
 rcases I.ok.JF with e|⟨e,hf⟩
 ·rw[e] at hb;exact rk _ hb
 ·rw[e] at hb
  unfold ki at hb;rw[List.filterMap_cons,hf] at hb;exact hb
theorem bj.vt(I:bj X ae σ H s):∀b∈ki X.stack,H b=none:=λb hb=>by
 rcases List.mem_cons.mp (I.wu b hb) with e|hb
 ·rw[e];exact I.free
 ·obtain⟨_,o,ho,_⟩:=I.ok.vq.mem hb
  exact I.base.free b o ho (I.ok.Fu b hb) λz=>I.ok.B0 b z hb
theorem bj.step{g':Array GenState}{t':Nat}{d':Drawn}{ch:List Addr}(I:bj X ae σ H s)
  (E4:∀b∈ch,(b∈X.ex\/X.fv.heap.objs.size<=b)/\b≠X.env.locals/\(∀x c,X.env.cells.lookup x=some c->c≠b)/\∀p∈X.pn++ae,p.1≠b)
  (keep:∀b o,b≠X.env.locals->b∉X.fs->b∉ch->s.heap.get? b=some o->H b=none->h'.get? b=some o)
  (slot:∀b o,b≠X.env.locals->b∈X.fs->b∉ch->s.heap.get? b=some o->H b=none->∃sl,h'.get? b=some {o with slots:=sl}) (free:∀b o,b∉ch->s.heap.get? b=some o->H b=none->H' b=none)
  (there:∀b o,b∉ch->s.heap.get? b=some o->∃o',h'.get? b=some o')
  (vo:∀b xs,H b=some (.ar xs)->H' b=some (.ar xs)) (uv:∀b o u,H b=some (.bf o u)->H' b=some (.bf o u)) (vp:∀b ps,H b=some (.Io ps)->∃more,H' b=some (.Io (ps++more)))
  (ns:∀m,s.heap.Ns X.env.locals m->h'.Ns X.env.locals m) (fo:qg X.prog X.w H' h') (hg:AllBare g'):
  bj X ae σ H' {s with heap:=h',gens:=g',drawn:=d',toks:=t'}:=by
 have Qs:∀b o,X.fv.heap.get? b=some o->b≠X.env.locals:=λb o e=>Af (AR (jv e) I.ok.above);have Qt:∀b o,X.fv.heap.get? b=some o->b∉X.ex->b∉ch:=λb o e hx hb=>by
  rcases(E4 b hb).1 with z|z
  ·exact hx z
  ·exact absurd (AR (jv e) z) (Aj _)
 have cellK:∀x c,X.env.cells.lookup x=some c->∀v,s.heap.IsCell c v->h'.IsCell c v:=λx c e v ⟨o,ho,hd⟩=>by
  have Nv:c∉ch:=λz=>(E4 c z).2.2.1 x c e rfl;by_cases hc:c∈X.fs
  ·obtain⟨sl,q⟩:=slot c o (I.JH x c e) hc Nv ho (I.ko x c e)
   exact⟨_,q,hd⟩
  ·exact⟨o,keep c o (I.JH x c e) hc Nv ho (I.ko x c e),hd⟩
 refine⟨I.ok,I.os,hg,⟨λb o e n hb hx=>?_,λb o e n hb hx=>?_,λb o e n hx=>?_,λb o e hx=>?_,λb xs e=>vo b xs (I.base.vo b xs e),λb o xs e=>uv b o xs (I.base.uv b o xs e),λb ps e=>?_⟩,?_,λx c e=>?_,?_,λx c e=>?_,λp hp=>?_,fo,I.len⟩
 ·exact keep b o (Qs b o e) hb (Qt b o e hx) (I.base.keep b o e n hb hx) (I.base.free b o e n hx)
 ·obtain⟨sl,e1⟩:=I.base.slot b o e n hb hx
  obtain⟨Fs,e2⟩:=slot b _ (Qs b o e) hb (Qt b o e hx) e1 (I.base.free b o e n hx);exact⟨Fs,e2⟩
 ·obtain⟨o',e1⟩:=I.base.there b o e hx
  exact free b o' (Qt b o e hx) e1 (I.base.free b o e n hx)
 ·obtain⟨o',e1⟩:=I.base.there b o e hx
  exact there b o' (Qt b o e hx) e1
 ·obtain⟨m1,e1⟩:=I.base.vp b ps e
  obtain⟨m2,e2⟩:=vp b _ e1;exact⟨m1++m2,by rw[e2,Array.append_assoc]⟩
 ·obtain⟨m,hn,hl⟩:=I.loc
  refine⟨m,ns m hn,λi x v e1 e2 e3=>?_⟩;obtain⟨u,r,l⟩:=hl i x v e1 e2 e3;refine⟨u,r,?_⟩;rcases l with l|⟨k,c,e,z⟩
  ·exact .inl l
  ·exact .inr ⟨k,c,e,cellK x c e _ z⟩
 ·obtain⟨v,z⟩:=I.cell x c e
  exact⟨v,cellK x c e v z⟩
 ·obtain⟨m,⟨o,_,_,ho,_⟩,_⟩:=I.loc
  exact free _ o (λz=>(E4 _ z).2.1 rfl) ho I.free
 ·obtain⟨v,o,ho,hd⟩:=I.cell x c e
  exact free c o (λz=>(E4 c z).2.2.1 x c e rfl) ho (I.ko x c e)
 ·obtain⟨e,n,ne,nf,d⟩:=I.pin p hp
  have Nv:p.1∉ch:=λz=>(E4 p.1 z).2.2.2 p hp rfl;exact⟨keep p.1 p.2 ne nf Nv e n,free p.1 p.2 Nv e n,ne,nf,d⟩
theorem bj.un{t':Nat}(I:bj X ae σ H s)(u:Un X.fs [] H H' s.heap h')(fo:qg X.prog X.w H' h'):bj X ae σ H' {s with heap:=h',toks:=t'}:=by
 obtain⟨m,⟨o,es,ep,ho,r⟩,_⟩:=id I.loc;obtain⟨sl,hL⟩:=u.any ho I.free (by simp);exact I.step (g':=s.gens) (d':=s.drawn) (ch:=[]) (λ_ z=>nomatch z) (λb o _ hb _ e n=>u.keep b o e n hb (by simp)) (λb o _ hb _ e n=>u.slot b o e n hb (by simp)) (λb o _ e n=>u.free b o e n (by simp)) (λb o _ e=>u.there b o e (by simp)) u.vo u.uv u.vp (λm' hm=>by
  obtain⟨o',Rh,Ri,B1,r'⟩:=hm;rw[ho] at B1;cases B1;exact⟨_,Rh,Ri,hL,r'⟩) fo I.bare
theorem bj.call{g':Array GenState}{t':Nat}{d':Drawn}{ch:List Addr}(I:bj X ae σ H s)(u:Un (ki X.stack) ch H H' s.heap h')(fo:qg X.prog X.w H' h')(hg:AllBare g')
  (E4:∀b∈ch,(b∈X.ex\/X.fv.heap.objs.size<=b)/\b≠X.env.locals/\(∀x c,X.env.cells.lookup x=some c->c≠b)/\∀p∈X.pn++ae,p.1≠b):
  bj X ae σ H' {s with heap:=h',gens:=g',drawn:=d',toks:=t'}:=by
 obtain⟨m,⟨o,es,ep,ho,r⟩,_⟩:=id I.loc;obtain⟨sl,hL⟩:=u.any ho I.free λz=>(E4 _ z).2.1 rfl;exact I.step (ch:=ch) E4 (λb o hL hb hc e n=>u.keep b o e n (λz=>(List.mem_cons.mp (I.wu b z)).elim hL hb) hc) (λb o _ _ hc e n=>u.any e n hc) (λb o hc e n=>u.free b o e n hc) (λb o hc e=>u.there b o e hc) u.vo u.uv u.vp (λm' hm=>by
  obtain⟨o',Rh,Ri,B1,r'⟩:=hm;rw[ho] at B1;cases B1;exact⟨_,Rh,Ri,hL,r'⟩) fo hg
theorem bj.turned{t':Nat}{it:Addr}(I:bj X ae σ H s)(k:∀b o,b≠it->s.heap.get? b=some o->h'.get? b=some o)(hn:H it=none)(hL:it≠X.env.locals)
  (h1:it∈X.ex\/X.fv.heap.objs.size<=it) (h2:∀x c,X.env.cells.lookup x=some c->c≠it) (h3:∀p∈X.pn++ae,p.1≠it):bj X ae σ H {s with heap:=h',toks:=t'}:=by
 have Tc:∀b u,H b=some u->b≠it:=λb u e z=>by rw[z,hn] at e;cases e
 refine I.step (g':=s.gens) (d':=s.drawn) (ch:=[it]) (λb hb=>?_) (λb o _ _ hc e _=>k b o (λz=>hc (by simp[z])) e) (λb o _ _ hc e _=>⟨o.slots,k b o (λz=>hc (by simp[z])) e⟩) (λ_ _ _ _ n=>n)
  (λb o hc e=>⟨o,k b o (λz=>hc (by simp[z])) e⟩) (λ_ _ e=>e) (λ_ _ _ e=>e) (λb ps e=>⟨#[],by rw[e];simp⟩) (λm hm=>?_) (λb u e=>?_) I.bare
 ·have e:b=it:=by simpa using hb
  subst e;exact⟨h1,hL,h2,h3⟩
 ·obtain⟨o,es,ep,ho,r⟩:=hm
  exact⟨o,es,ep,k _ o (kg hL) ho,r⟩
 ·refine(I.fo b u e).BZ (λc v hc q=>k c v ?_ q) (λ_ q=>q) λ_ _ q=>q
  rcases hc with z|z
  ·rw[z];exact Tc b u e
  ·exact Tc c _ z
theorem bj.tok(I:bj X ae σ H s)(t:Nat):bj X ae σ H {s with toks:=t}:=I.un (h':=s.heap) (t':=t) Un.refl I.fo
theorem bj.kept{t':Nat}(I:bj X ae σ H s)(k:∀b u,s.heap.get? b=some u->h'.get? b=some u):bj X ae σ H {s with heap:=h',toks:=t'}:=I.un (Un.kept k) (I.fo.kept k)
theorem bj.laid{a:Addr}{o:HO}{t':Nat}(I:bj X ae σ H s)(k:∀b u,s.heap.get? b=some u->h'.get? b=some u)(hp:s.heap.objs.size<=a)(new:jd X.prog X.w (upd H a o) h' a o):
  bj X ae σ (upd H a o) {s with heap:=h',toks:=t'}:=I.un (Un.laid k hp (I.fo.fresh hp)) (I.fo.laid k hp new)
theorem bj.write{x e:Addr}{o:HO}{t':Nat}(I:bj X ae σ H s)(mu:Nr (H x))(he:e=x\/H e=some (.own x))(k:∀b u,b≠e->s.heap.get? b=some u->h'.get? b=some u)(Ip:∃u,h'.get? e=some u)
  (new:jd X.prog X.w (upd H x o) h' x o):bj X ae σ (upd H x o) {s with heap:=h',toks:=t'}:=I.un (Un.write mu he k Ip) (I.fo.write mu he k Ip new)
theorem bj.ym(I:bj X ae σ H s)(h:∀p∈Bk,s.heap.get? p.1=some p.2/\H p.1=none/\p.1≠X.env.locals/\p.1∉X.fs/\∀v,p.2.data≠.cell v):bj X Bk σ H s:=
 ⟨I.ok,I.os,I.bare,I.base,I.loc,I.cell,I.free,I.ko,λp hp=>(List.mem_append.mp hp).elim (λz=>I.pin p (List.mem_append_left _ z)) (h p),I.fo,I.len⟩
theorem nY{N:List Str}(hN:N.Nodup){i j:Nat}(a:N[i]?=some x)(b:N[j]?=some x):i=j:=by
 obtain⟨h1,e1⟩:=List.getElem?_eq_some_iff.mp a;obtain⟨h2,e2⟩:=List.getElem?_eq_some_iff.mp b;exact(List.getElem_inj hN).mp (e1.trans e2.symm)
theorem uH{M:Model}{A:Around}{E:Value->Shared->Prop}{i:Nat}{x:Str}{v:V}{u:Value}{Q:Unit->Shared->Prop}(I:bj X ae σ H s)(hN:X.N.Nodup)(hi:X.N[i]?=some x)(hx:Loc X.env.scope x)(r:cm v u)
  (h:∀s',bj X ae (σ.set i (some v)) H s'->(∃a,Heap.SameBut a s.heap s'.heap/\(a=X.env.locals\/X.env.cells.lookup x=some a))->Q () s') (hf:X.fn x=true\/X.env.scope.names.lookup x=some .local:=by first|exact .inl rfl|exact .inr rfl|assumption):wpAny M A (storeName X.env x u) Q E s:=by
 obtain⟨m,hn,hl⟩:=id I.loc;have Rj:(X.env.scope.kind== .class||(X.env.scope.kind== .module&&X.env.locals !=X.env.globals))=false:=by rw[I.ok.kind];rfl
 have Ny:i<σ.length:=by rw[I.len];exact(List.getElem?_eq_some_iff.mp hi).1
 have JH:=I.JH;have tracked:∀{a:Addr}{h':Heap},(∃o,s.heap.get? a=some o/\H a=none)->Heap.SameBut a s.heap h'->qg X.prog X.w H h':=λ{a h'} ha hs b ob e=>by
  obtain⟨_,_,Ir⟩:=ha;refine(I.fo b ob e).BZ (λc w' hc q=>(hs.2 c ?_).trans q) (λ_ q=>q) λ_ _ q=>q;rintro rfl;rcases hc with rfl|hc
  ·rw[Ir] at e;cases e
  ·rw[Ir] at hc;cases hc
 rcases hx with hk|hk
 ·refine wpAny_storeName_local hk hn (λh' UE hs=>?_) Rj
  obtain⟨oL,_,_,Qu,_⟩:=id hn;refine h _ ⟨I.ok,I.os,I.bare,⟨λb o e n hb hx=>?_,λb o e n hb hx=>?_,I.base.free,λb o e hx=>?_,I.base.vo,I.base.uv,I.base.vp⟩,⟨_,UE,λj y v' e1 e2 e3=>?_⟩,λy c e=>?_,I.free,I.ko,λp hp=>?_,tracked ⟨oL,Qu,I.free⟩ hs,by simpa using I.len⟩ ⟨_,hs,.inl rfl⟩
  ·exact(hs.2 b (Af (AR (jv e) I.ok.above))).trans (I.base.keep b o e n hb hx)
  ·obtain⟨sl,e1⟩:=I.base.slot b o e n hb hx
   exact⟨sl,(hs.2 b (Af (AR (jv e) I.ok.above))).trans e1⟩
  ·obtain⟨o',e1⟩:=I.base.there b o e hx
   exact⟨o',(hs.2 b (Af (AR (jv e) I.ok.above))).trans e1⟩
  ·by_cases hj:j=i
   ·subst hj
    rw[hi] at e1;cases e1;rw[BM Ny] at e2;cases e2;exact⟨u,r,.inl ⟨hk,by simp⟩⟩
   ·rw[x_ (kg hj)] at e2
    obtain⟨u',r',q⟩:=hl j y v' e1 e2 e3;refine⟨u',r',?_⟩;rcases q with⟨k,e⟩|⟨k,c,e,z⟩
    ·refine .inl ⟨k,?_⟩
     have:y≠x:=λe=>hj (nY hN e1 (e▸hi));simp[this,e]
    ·exact .inr ⟨k,c,e,z.sameBut hs (JH y c e)⟩
  ·obtain⟨w',z⟩:=I.cell y c e
   exact⟨w',z.sameBut hs (JH y c e)⟩
  ·obtain⟨e,n,ne,nf,d⟩:=I.pin p hp
   exact⟨(hs.2 p.1 ne).trans e,n,ne,nf,d⟩
 ·have Rk:X.fn x=true:=by
   rcases hf with z|z
   ·exact z
   ·rw[z] at hk;cases hk
  obtain⟨c,hc⟩:=I.ok.has x (.inl hk);obtain⟨w',z⟩:=I.cell x c hc;refine wpAny_storeName_cell I.ok.kind hk hc z (λh' JI hs=>?_);obtain⟨oc,Td,Rl⟩:=id z;refine h {s with heap:=h'} ⟨I.ok,I.os,I.bare,⟨λb o e n hb hx=>?_,λb o e n hb hx=>?_,I.base.free,λb o e hx=>?_,I.base.vo,I.base.uv,I.base.vp⟩,⟨m,hn.sameBut hs (kg (JH x c hc)),λj y v' e1 e2 e3=>?_⟩,λy c' e=>?_,I.free,I.ko,λp hp=>?_,tracked ⟨oc,Td,I.ko x c hc⟩ hs,by simpa using I.len⟩ ⟨c,hs,.inr hc⟩
  ·exact(hs.2 b (Af (AR (jv e) (I.ok.Iq x c Rk hc)))).trans (I.base.keep b o e n hb hx)
  ·obtain⟨sl,e1⟩:=I.base.slot b o e n hb hx
   exact⟨sl,(hs.2 b (Af (AR (jv e) (I.ok.Iq x c Rk hc)))).trans e1⟩
  ·obtain⟨o',e1⟩:=I.base.there b o e hx
   exact⟨o',(hs.2 b (Af (AR (jv e) (I.ok.Iq x c Rk hc)))).trans e1⟩
  ·by_cases hj:j=i
   ·subst hj
    rw[hi] at e1;cases e1;rw[BM Ny] at e2;cases e2;exact⟨u,r,.inr ⟨.inl hk,c,hc,JI⟩⟩
   ·rw[x_ (kg hj)] at e2
    obtain⟨u',r',q⟩:=hl j y v' e1 e2 e3;refine⟨u',r',?_⟩;rcases q with q|⟨k,c',e,z'⟩
    ·exact .inl q
    ·refine .inr ⟨k,c',e,z'.sameBut hs ?_⟩
     rintro rfl;exact hj (nY hN e1 (I.ok.inj _ _ _ e hc▸hi))
  ·by_cases Te:c'=c
   ·subst Te;exact⟨_,JI⟩
   ·obtain⟨w2,z2⟩:=I.cell y c' e
    exact⟨w2,z2.sameBut hs Te⟩
  ·obtain⟨e,n,ne,nf,d⟩:=I.pin p hp
   refine⟨(hs.2 p.1 ?_).trans e,n,ne,nf,d⟩;intro q;rw[q,Td] at e;have q':oc=p.2:=Aw e;exact d w' (by rw[←q'];exact Rl)
theorem nZ{M:Model}{A:Around}{E:Value->Shared->Prop}{i:Nat}{x:Str}{v:V}{u:Value}{Q:Unit->Shared->Prop}(I:bj X ae σ H s)(hN:X.N.Nodup)(hi:X.N[i]?=some x)(hx:Loc X.env.scope x)(r:cm v u)
  (h:∀s',bj X ae (σ.set i (some v)) H s'->Q () s') (hf:X.fn x=true\/X.env.scope.names.lookup x=some .local:=by first|exact .inl rfl|exact .inr rfl|assumption):wpAny M A (storeName X.env x u) Q E s:=
 uH I hN hi hx r (λs' I' _=>h s' I') hf
theorem bj.Bl(I:bj X ae σ H s)(ho:s'.os=s.os)(u:Un (ki X.stack) ch H H' s.heap s'.heap)(fo:qg X.prog X.w H' s'.heap)(hg:AllBare s'.gens)
  (E4:∀b∈ch,(b∈X.ex\/X.fv.heap.objs.size<=b)/\b≠X.env.locals/\(∀x c,X.env.cells.lookup x=some c->c≠b)/\∀p∈X.pn++ae,p.1≠b):bj X ae σ H' s':=by
 obtain⟨h',g',d',t',o'⟩:=s';have e:o'=s.os:=ho;subst e;exact I.call (g':=g') (t':=t') (d':=d') u fo hg E4
end
noncomputable abbrev XK:=Value->Option Addr->Hp->Prop
noncomputable abbrev St:=List (Option V)
noncomputable abbrev VK:=V->Hp->Prop
noncomputable abbrev TE:=St->Hp->VK->Prop
noncomputable abbrev TT:=St->Hp->(Bool->Hp->Prop)->Prop
noncomputable abbrev TA:=St->Hp->(List V->Hp->Prop)->Prop
structure Ends where
 nx:St->Hp->Prop
 rt:VK
 bk:St->Hp->Prop:=λ_ _=>False
 ct:St->Hp->Prop:=λ_ _=>False
noncomputable abbrev TS:=Ends->St->Hp->Prop
def EP(X:Cx)(ae:List (Addr×Obj))(σ:St)(Q:VK)(u:Value)(s':Shared):Prop:=∃v H',bj X ae σ H' s'/\cm v u/\Q v H'
def TP(X:Cx)(ae:List (Addr×Obj))(σ:St)(Q:Bool->Hp->Prop)(b:Bool)(s':Shared):Prop:=∃H',bj X ae σ H' s'/\Q b H'
def AP(X:Cx)(ae:List (Addr×Obj))(σ:St)(Q:List V->Hp->Prop)(us:List Value)(s':Shared):Prop:=∃vs H',bj X ae σ H' s'/\dj vs us/\Q vs H'
def SP(X:Cx)(ae:List (Addr×Obj))(D:Ends)(f:Flow)(s':Shared):Prop:=
 match f with
 |.next=>∃dk H',bj X ae dk H' s'/\D.nx dk H'
 |.brk=>∃dk H',bj X ae dk H' s'/\D.bk dk H'
 |.cont=>∃dk H',bj X ae dk H' s'/\D.ct dk H'
 |.ret u=>∃v dk H',bj X ae dk H' s'/\cm v u/\D.rt v H'
def PE(X:Cx)(e:Expr)(t:TE):Prop:=
 ∀(ae:List (Addr×Obj))(s:Shared)(σ:St)(H:Hp)(Q:VK),bj X ae σ H s->t σ H Q->wpAny (model X.prog X.w) X.A (eval e X.env) (EP X ae σ Q) X.xe s
def PT(X:Cx)(e:Expr)(t:TT):Prop:=
 ∀(ae:List (Addr×Obj))(s:Shared)(σ:St)(H:Hp)(Q:Bool->Hp->Prop),bj X ae σ H s->t σ H Q->wpAny (model X.prog X.w) X.A (isTrue e X.env (eval e X.env)) (TP X ae σ Q) X.xe s
def PW(X:Cx)(e:Expr)(t:TT):Prop:=
 ∀(whole:Sem Value)(ae:List (Addr×Obj))(s:Shared)(σ:St)(H:Hp)(Q:Bool->Hp->Prop),bj X ae σ H s->t σ H Q->wpAny (model X.prog X.w) X.A (isTrue e X.env whole) (TP X ae σ Q) X.xe s
theorem PW.pt(h:PW X e t):PT X e t:=h _
def PA(X:Cx)(es:List Expr)(t:TA):Prop:=
 ∀(pos:Pos)(ae:List (Addr×Obj))(s:Shared)(σ:St)(H:Hp)(Q:List V->Hp->Prop),bj X ae σ H s->t σ H Q->wpAny (model X.prog X.w) X.A (spliced (backTo pos (starEach es X.env))) (AP X ae σ Q) X.xe s
def PS(X:Cx)(st:Stmt)(t:TS):Prop:=
 ∀(ae:List (Addr×Obj))(s:Shared)(σ:St)(H:Hp)(D:Ends),bj X ae σ H s->t D σ H->wpAny (model X.prog X.w) X.A (exec st X.env) (SP X ae D) X.xe s
def BP(X:Cx)(st:List Stmt)(t:TS):Prop:=
 ∀(ae:List (Addr×Obj))(s:Shared)(σ:St)(H:Hp)(D:Ends),bj X ae σ H s->t D σ H->wpAny (model X.prog X.w) X.A (execs st X.env) (SP X ae D) X.xe s
theorem ij{α:Type}{t:Sem α}{Q Q':α->Shared->Prop}{M:Model}{A:Around}{E:Value->Shared->Prop}{s:Shared}(h:wpAny M A t Q E s)(hQ:∀a s,Q a s->Q' a s):wpAny M A t Q' E s:=ur h hQ λ_ _ x=>x
section
variable{X:Cx}
theorem bin(ha:PE X a ta)(hb:PE X b tb){R:V->V->Hp->Prop}(I:bj X ae σ H s)(h:ta σ H λx H1=>tb σ H1 λy H2=>R x y H2)
  {Q:α->Shared->Prop} {f:Value->Value->Sem α}
  (hf:∀v u s2 x y H2,bj X ae σ H2 s2->cm x v->cm y u->R x y H2->wpAny (model X.prog X.w) X.A (f v u) Q X.xe s2):
  wpAny (model X.prog X.w) X.A (eval a X.env) (λv fm=>wpAny (model X.prog X.w) X.A (eval b X.env) (λu oz=>wpAny (model X.prog X.w) X.A (f v u) Q X.xe oz) X.xe fm) X.xe s:=by
 refine ij (ha ae s σ H _ I h) λv s1 ⟨x,H1,I1,r1,q1⟩=>?_;refine ij (hb ae s1 σ H1 _ I1 q1) λu s2 ⟨y,H2,I2,r2,q2⟩=>?_;exact hf v u s2 x y H2 I2 r1 r2 q2
noncomputable def ik(i:Nat):TE:=λσ H Q=>∃v,σ[i]?=some (some v)/\Q v H
noncomputable def tC(v:V):TE:=λ_ H Q=>Q v H
theorem iV{i:Nat}{x:Str}{pos:Pos}(hN:X.N[i]?=some x)(hv:DM X.env.scope x)(hd:(x==("__debug__":Str))=false:=by decide)(uj:(x==("__classdict__":Str))=false:=by decide):PE X (.Name x pos) (ik i):=by
 intro ae s σ H Q I h;obtain⟨v,e,h⟩:=h;obtain⟨m,hn,hl⟩:=I.loc;obtain⟨u,r,l⟩:=hl i x v hN e hv;have fin:EP X ae σ Q u s:=⟨v,H,I,r,h⟩
 rcases l with⟨hk,hm⟩|⟨hk,c,hc,Iu⟩
 ·exact wpAny_Name (wpAny_loadName_local I.ok.kind hk hn hm fin) hd
 ·rcases hk with hk|hk
  ·exact wpAny_Name (wpAny_loadName_cell I.ok.kind hk hc Iu fin) hd
  ·exact wpAny_Name (wpAny_loadName_free I.ok.kind hk hc Iu fin uj) hd
theorem aU{i j pos}:PE X (.Constant (.int i) j pos) (tC (.int i)):=λ_ _ _ H _ I h=>wpAny_Constant_int ⟨.int i,H,I.tok _,⟨_,rfl⟩,h⟩
theorem Nz{b j pos}:PE X (.Constant (.bool b) j pos) (tC (.bl b)):=λ_ _ _ H _ I h=>Constant_bool ⟨.bl b,H,I,rfl,h⟩
theorem JJ{j pos}:PE X (.Constant .none j pos) (tC .de):=λ_ _ _ H _ I h=>Constant_none ⟨.de,H,I,rfl,h⟩
theorem JK{x j pos}:PE X (.Constant (.str x) j pos) (tC (.str x)):=λ_ _ _ H _ I h=>Calls.Constant_str ⟨.str x,H,I.tok _,⟨_,rfl⟩,h⟩
def Gl(X:Cx)(x:Str):Prop:=X.env.kindOf x=some .globalImplicit
theorem iC{E:Value->Shared->Prop}{ae:List (Addr×Obj)}{s:Shared}{σ:St}{H:Hp}{x:Str}{u:Value}{pos:Pos}{Q:Value->Shared->Prop}(I:bj X ae σ H s)(hg:Gl X x)(hm:X.mg x=some u)(h:Q u s)
  (hd:(x==("__debug__":Str))=false:=by decide):wpAny (model X.prog X.w) X.A (eval (.Name x pos) X.env) Q E s:=
 Calls.Name_function_global I.ok.kind hg (Calls.loadGlobal_global (by rw[I.ok.glob];exact I.mod.glob.keeps I.bk) hm h) hd
theorem iW{E:Value->Shared->Prop}{ae:List (Addr×Obj)}{s:Shared}{σ:St}{H:Hp}{x:Str}{u:Value}{pos:Pos}{Q:Value->Shared->Prop}(I:bj X ae σ H s)(hg:Gl X x)(hm:X.mg x=none)(hv:bootBuiltins x=some u)(h:Q u s)
  (hn:x≠"__name__":=by decide) (hd:(x==("__debug__":Str))=false:=by decide):wpAny (model X.prog X.w) X.A (eval (.Name x pos) X.env) Q E s:=by
 obtain⟨mb,h1,h2⟩:=I.mod.blt;exact Calls.Name_function_global I.ok.kind hg (Calls.loadGlobal_builtin (by rw[I.ok.glob];exact I.mod.glob.keeps I.bk) hm (by rw[I.ok.blt];exact h1.keeps I.bk) ((h2 x hn).trans hv) h) hd
theorem Fv{x:Str}{v:V}{u:Value}{pos:Pos}(hg:Gl X x)(hm:X.mg x=some u)(r:cm v u)(hd:(x==("__debug__":Str))=false:=by decide):PE X (.Name x pos) (tC v):=
 λ_ _ _ H _ I h=>iC I hg hm ⟨v,H,I,r,h⟩ hd
theorem Fw{x:Str}{v:V}{u:Value}{pos:Pos}(hg:Gl X x)(hm:X.mg x=none)(hv:bootBuiltins x=some u)(r:cm v u)(hn:x≠"__name__":=by decide)(hd:(x==("__debug__":Str))=false:=by decide):PE X (.Name x pos) (tC v):=
 λ_ _ _ H _ I h=>iW I hg hm hv ⟨v,H,I,r,h⟩ hn hd
noncomputable def UG(ta tb:TE)(k:Int->Int->Hp->Prop):St->Hp->Prop:=λσ H=>ta σ H λx H1=>tb σ H1 λy H2=>∃i j,x=.int i/\y=.int j/\k i j H2
variable{a b:Expr}{ta tb:TE}{pos:Pos}
def PC(X:Cx)(op:CmpOp)(a b:Expr)(t:TE):Prop:=
 ∀(ae:List (Addr×Obj))(s:Shared)(σ:St)(H:Hp)(Q:VK),bj X ae σ H s->t σ H Q->
  wpAny (model X.prog X.w) X.A (eval a X.env) (λv fm=>wpAny (model X.prog X.w) X.A (eval b X.env) (λu oz=>wpAny (model X.prog X.w) X.A (compareOp op v u) (EP X ae σ Q) X.xe oz) X.xe fm) X.xe s
theorem Bm(b:Expr)(h:op≠.In)(h2:op≠.NotIn):behindInMarks op b=false:=by
 have e1:(op==CmpOp.In)=false:=by cases op<;>first|rfl|exact absurd rfl h
 have e2:(op==CmpOp.NotIn)=false:=by cases op<;>first|rfl|exact absurd rfl h2
 cases b<;>simp[behindInMarks,e1,e2]
noncomputable def JL(p:Int->Int->Bool)(ta tb:TE):TE:=λσ H Q=>UG ta tb (λi j H2=>Q (.bl (p i j)) H2) σ H
noncomputable abbrev Tf:TE->TE->TE:=JL λi j=>decide (j<i)
noncomputable abbrev Fy:TE->TE->TE:=JL λi j=>decide (i=j)
theorem v7(ha:PE X a ta)(hb:PE X b tb)
  (rule:∀(i j:Int)(t u:Tok)(Q:Value->Shared->Prop)(s:Shared),Q (.bool (p i j)) s->wpAny (model X.prog X.w) X.A (compareOp op (.int i t) (.int j u)) Q X.xe s):PC X op a b (JL p ta tb):=by
 intro ae s σ H Q I h;refine bin ha hb I h λv u s2 x y H2 I2 rx ry q=>?_;obtain⟨i,j,rfl,rfl,q⟩:=q;obtain⟨t,rfl⟩:=rx;obtain⟨t',rfl⟩:=ry;exact rule i j t t' _ s2 ⟨.bl _,H2,I2,rfl,q⟩
theorem NA(ha:PE X a ta)(hb:PE X b tb):PC X .Gt a b (Tf ta tb):=v7 ha hb λ_ _ _ _ _ _ h=>gt_int h
theorem v8(ha:PE X a ta)(hb:PE X b tb):PC X .Eq a b (Fy ta tb):=v7 ha hb λ_ _ _ _ _ _ h=>eq_int (by rw[Bool.beq_eq_decide_eq];exact h)
noncomputable def Rm(ta:TE):TE:=λσ H Q=>ta σ H λx H1=>Q (.bl (decide (x=.de))) H1
noncomputable def NB(ta:TE):TE:=λσ H Q=>ta σ H λx H1=>Q (.bl (!decide (x=.de))) H1
theorem cm.Bo(r:cm x v):(v==Value.none)=decide (x=.de):=by
 cases x with
 |de=>cases r;rfl
 |bl _=>cases r;rfl
 |int _=>obtain⟨t,rfl⟩:=r;rfl
 |str _=>obtain⟨t,rfl⟩:=r;rfl
 |Cp _=>obtain⟨t,rfl⟩:=r;rfl
 |Qq _=>obtain⟨t,rfl⟩:=r;rfl
 |ref _=>cases r;rfl
 |ty _=>cases r;rfl
theorem JM{j pos'}(ha:PE X a ta):PC X .Is a (.Constant .none j pos') (Rm ta):=by
 intro ae s σ H Q I h;refine ij (ha ae s σ H _ I h) λv s1 ⟨x,H1,I1,r1,q1⟩=>?_;exact Constant_none (is_none_gen ⟨.bl _,H1,I1,by rw[r1.Bo];rfl,q1⟩)
theorem Fz{j pos'}(ha:PE X a ta):PC X .IsNot a (.Constant .none j pos') (NB ta):=by
 intro ae s σ H Q I h;refine ij (ha ae s σ H _ I h) λv s1 ⟨x,H1,I1,r1,q1⟩=>?_;exact Constant_none (isnot_none_gen ⟨.bl _,H1,I1,by rw[r1.Bo];rfl,q1⟩)
noncomputable def tB(t:TE):TT:=λσ H Q=>t σ H λx H1=>∃c,x=.bl c/\Q c H1
theorem JN(h:PC X op a b t)(h1:behindInMarks op b=false:=by first|exact Bm _ (by decide) (by decide)|rfl):PE X (.Compare a [op] [b] pos) t:=λae s σ H Q I hw=>wpAny_Compare1 (h ae s σ H Q I hw) h1
theorem mJ(h:PC X op a b t)(h1:behindInMarks op b=false:=by first|exact Bm _ (by decide) (by decide)|rfl):PT X (.Compare a [op] [b] pos) (tB t):=by
 intro ae s σ H Q I hw;refine wpAny_isTrue_Compare1 (ij (h ae s σ H _ I hw) λv s1 h1=>ij h1 λu s2 h2=>ij h2 λc s3 ⟨x,H1,I1,r1,q1⟩=>?_) h1;obtain⟨d,rfl,q⟩:=q1;cases r1;exact wpAny_truthy_bool ⟨H1,I1,q⟩
variable{tA Qv:TT}{rest:List Expr}
noncomputable def Rn(t u:TT):TT:=λσ H Q=>t σ H λc H1=>if c=true then u σ H1 Q else Q false H1
noncomputable def UH(t u:TT):TT:=λσ H Q=>t σ H λc H1=>if c=true then Q true H1 else u σ H1 Q
noncomputable def Ro(t:TT):TT:=λσ H Q=>t σ H λc H1=>Q (!c) H1
theorem FA(ha:PT X a tA):PW X (.BoolOp .And [a] pos) tA:=by
 intro wh ae s σ H Q I h;refine isTrue_and (ij (ha ae s σ H Q I h) λc s1 e=>?_)
 cases c with
 |true=>exact isTrue_and_nil e
 |false=>exact e
theorem JO(ha:PT X a tA):PW X (.BoolOp .Or [a] pos) tA:=by
 intro wh ae s σ H Q I h;refine isTrue_or (ij (ha ae s σ H Q I h) λc s1 e=>?_)
 cases c with
 |false=>exact isTrue_or_nil e
 |true=>exact e
theorem JP(ha:PT X a tA)(hb:PW X (.BoolOp .And (b::rest) pos) Qv):PW X (.BoolOp .And (a::b::rest) pos) (Rn tA Qv):=by
 intro wh ae s σ H Q I h;refine isTrue_and (ij (ha ae s σ H _ I h) λc s1 ⟨H1,I1,q1⟩=>?_)
 cases c with
 |true=>exact hb wh ae s1 σ H1 Q I1 q1
 |false=>exact⟨H1,I1,q1⟩
theorem NC(ha:PT X a tA)(hb:PW X (.BoolOp .Or (b::rest) pos) Qv):PW X (.BoolOp .Or (a::b::rest) pos) (UH tA Qv):=by
 intro wh ae s σ H Q I h;refine isTrue_or (ij (ha ae s σ H _ I h) λc s1 ⟨H1,I1,q1⟩=>?_)
 cases c with
 |true=>exact⟨H1,I1,q1⟩
 |false=>exact hb wh ae s1 σ H1 Q I1 q1
theorem JQ(ha:PT X a tA):PT X (.UnaryOp .Not a pos) (Ro tA):=by
 intro ae s σ H Q I h;exact isTrue_not (ha ae s σ H (λc H1=>Q (!c) H1) I h)
noncomputable def ND(ta tb:TE):TE:=λσ H Q=>ta σ H λx H1=>∃c,x=.bl c/\if c=true then tb σ H1 Q else Q (.bl false) H1
noncomputable def NF(ta:TE):TE:=λσ H Q=>ta σ H λx H1=>∃c,x=.bl c/\Q (.bl (!c)) H1
theorem JR{op}(h:PE X a t):PE X (.BoolOp op [a] pos) t:=λae s σ H Q I hw=>BoolOp_one (h ae s σ H Q I hw)
theorem JT(ha:PE X a ta)(hb:PE X (.BoolOp .And (b::rest) pos) tb):PE X (.BoolOp .And (a::b::rest) pos) (ND ta tb):=by
 intro ae s σ H Q I h;refine BoolOp_and (ij (ha ae s σ H _ I h) λv s1 ⟨x,H1,I1,r1,q1⟩=>?_);obtain⟨c,rfl,q1⟩:=q1;cases r1;refine wpAny_truthy_bool ?_
 cases c with
 |true=>exact hb ae s1 σ H1 Q I1 q1
 |false=>exact⟨.bl false,H1,I1,rfl,q1⟩
theorem JU(ha:PE X a ta):PE X (.UnaryOp .Not a pos) (NF ta):=by
 intro ae s σ H Q I h;refine UnaryOp_ (ij (ha ae s σ H _ I h) λv s1 ⟨x,H1,I1,r1,q1⟩=>?_);obtain⟨c,rfl,q1⟩:=q1;cases r1;exact not_of (wpAny_truthy_bool ⟨.bl (!c),H1,I1,rfl,q1⟩)
noncomputable def UI(t:TT)(ta tb:TE):TE:=λσ H Q=>t σ H λc H1=>if c=true then ta σ H1 Q else tb σ H1 Q
theorem v9(hc:PT X c tA)(ha:PE X a ta)(hb:PE X b tb):PE X (.IfExp c a b pos) (UI tA ta tb):=by
 intro ae s σ H Q I h;refine wpAny_IfExp (ij (hc ae s σ H _ I h) λd s1 ⟨H1,I1,q1⟩=>?_)
 cases d with
 |true=>exact ha ae s1 σ H1 Q I1 q1
 |false=>exact hb ae s1 σ H1 Q I1 q1
end
def lj(K:PySem.W.Frag)(H:Hp)(a:Addr)(xs:List V):Prop:=
 Rd H a (.ak xs)\/
  ∃(o:Obj)(its:Array Value)(n:Nat),K.lookup a=some o/\o.cls=.type "list"/\o.dict=none/\o.data=.seq its n/\its.size<=sizeLine/\dj xs its.toList
def nv(K:PySem.W.Frag)(H:Hp)(a:Addr)(xs:List V):Prop:=
 Rd H a (.ar xs)\/
  ∃(o:Obj)(its:Array Value)(n:Nat),K.lookup a=some o/\o.cls=.type "tuple"/\o.data=.seq its n/\its.size<=sizeLine/\dj xs its.toList
noncomputable def Rp:Value->Option V
 |.none=>some .de
 |.bool b=>some (.bl b)
 |.int i _=>some (.int i)
 |.str x _=>some (.str x)
 |.bytes b _=>some (.Cp b)
 |.float b _=>some (.Qq b)
 |.ref a=>some (.ref a)
 |.type n=>some (.ty n)
 |_=>none
theorem cm.abs(r:cm x u):Rp u=some x:=by
 cases x with
 |de=>cases r;rfl
 |bl _=>cases r;rfl
 |int _=>obtain⟨t,rfl⟩:=r;rfl
 |str _=>obtain⟨t,rfl⟩:=r;rfl
 |Cp _=>obtain⟨t,rfl⟩:=r;rfl
 |Qq _=>obtain⟨t,rfl⟩:=r;rfl
 |ref _=>cases r;rfl
 |ty _=>cases r;rfl
theorem cm.inj(r:cm x u)(q:cm y u):x=y:=Aw (r.abs.symm.trans q.abs)
theorem dj.inj:∀{xs ys:List V}{us:List Value},dj xs us->dj ys us->xs=ys
 |_,_,_,.nil,.nil=>rfl
 |_,_,_,.cons r t,.cons r' t'=>by rw[r.inj r',dj.inj t t']
section
variable{X:Cx}{ae:List (Addr×Obj)}{σ:St}{H:Hp}{s:Shared}{a:Addr}{xs ys:List V}
theorem lj.of{K:PySem.W.Frag}(h:H a=some (.ak xs)):lj K H a xs:=.inl (.inl h)
theorem nv.of{K:PySem.W.Frag}(h:H a=some (.ar xs)):nv K H a xs:=.inl (.inl h)
theorem bj.list(I:bj X ae σ H s)(h:lj X.K H a xs):∃its:List Value,dj xs its/\PlainL s.heap a its.toArray/\xs.length<=sizeLine:=by
 rcases h with h|⟨o,its,n,hk,hc,hd,hs,hz,r⟩
 ·obtain⟨z,its,n,r,e⟩:=h.ok I.fo
  exact⟨its,r,⟨_,n,e,rfl,rfl,rfl⟩,z⟩
 ·refine⟨its.toList,r,⟨o,n,I.CU a o hk,hc,hd,by simpa using hs⟩,?_⟩
  have e:=r.length;simp only[Array.length_toList] at e;omega
theorem bj.tuple(I:bj X ae σ H s)(h:nv X.K H a xs):∃its:List Value,dj xs its/\IsTup s.heap a its.toArray/\xs.length<=sizeLine:=by
 rcases h with h|⟨o,its,n,hk,hc,hs,hz,r⟩
 ·obtain⟨z,its,r,p⟩:=h.ok I.fo
  exact⟨its,r,p,z⟩
 ·refine⟨its.toList,r,⟨o,I.CU a o hk,hc,n,by simpa using hs⟩,?_⟩
  have e:=r.length;simp only[Array.length_toList] at e;omega
theorem bj.DO(I:bj X ae σ H s)(h:lj X.K H a xs)(h':lj X.K H a ys):xs=ys:=by
 obtain⟨its,r,⟨o,n,e,_,_,d⟩,_⟩:=I.list h;obtain⟨its',r',⟨o',n',e',_,_,d'⟩,_⟩:=I.list h';rw[e] at e';cases e';rw[d] at d'
 injection d' with d1 _
 have:its=its':=by simpa using congrArg Array.toList d1
 subst this;exact r.inj r'
theorem bj.wx(I:bj X ae σ H s)(h:nv X.K H a xs)(h':nv X.K H a ys):xs=ys:=by
 obtain⟨its,r,⟨o,e,_,n,d⟩,_⟩:=I.tuple h;obtain⟨its',r',⟨o',e',_,n',d'⟩,_⟩:=I.tuple h';rw[e] at e';cases e';rw[d] at d'
 injection d' with d1 _
 have:its=its':=by simpa using congrArg Array.toList d1
 subst this;exact r.inj r'
end
noncomputable abbrev Cx.Ak(X:Cx)(E:Value->Shared->Prop):Cx:={X with xe:=E}
noncomputable abbrev Cx.yn(X:Cx):Cx:=X.Ak λ_ _=>False
theorem Cx.Ok.Ak{X:Cx}(ok:X.Ok)(E:Value->Shared->Prop):(X.Ak E).Ok:=
 ⟨ok.mod,ok.kind,ok.glob,ok.blt,ok.above,ok.inj,ok.has,ok.Iq,ok.hd,ok.frames,ok.JF,ok.Nu,ok.bs,ok.DN,ok.Bj,ok.B0,ok.vq,ok.Fu⟩
theorem Cx.Ok.qw{X:Cx}(ok:(X.Ak E).Ok):X.Ok:=
 ⟨ok.mod,ok.kind,ok.glob,ok.blt,ok.above,ok.inj,ok.has,ok.Iq,ok.hd,ok.frames,ok.JF,ok.Nu,ok.bs,ok.DN,ok.Bj,ok.B0,ok.vq,ok.Fu⟩
section
variable{X:Cx}{ae:List (Addr×Obj)}{σ:St}{H:Hp}{s:Shared}{E:Value->Shared->Prop}
theorem bj.Ak(I:bj X ae σ H s)(E:Value->Shared->Prop):bj (X.Ak E) ae σ H s:=⟨I.ok.Ak E,I.os,I.bare,I.base,I.loc,I.cell,I.free,I.ko,I.pin,I.fo,I.len⟩
theorem bj.qw(I:bj (X.Ak E) ae σ H s):bj X ae σ H s:=⟨I.ok.qw,I.os,I.bare,I.base,I.loc,I.cell,I.free,I.ko,I.pin,I.fo,I.len⟩
theorem SP.qw(h:SP (X.Ak E) ae D f s'):SP X ae D f s':=by
 cases f with
 |next=>obtain⟨dk,H',I,q⟩:=h;exact⟨dk,H',I.qw,q⟩
 |brk=>obtain⟨dk,H',I,q⟩:=h;exact⟨dk,H',I.qw,q⟩
 |cont=>obtain⟨dk,H',I,q⟩:=h;exact⟨dk,H',I.qw,q⟩
 |ret u=>obtain⟨v,dk,H',I,r,q⟩:=h;exact⟨v,dk,H',I.qw,r,q⟩
end
section
variable{X:Cx}{st:Stmt}{rest:List Stmt}{t u:TS}{e:Expr}{te:TE}{pos:Pos}
noncomputable def Cq:TS:=λD σ H=>D.nx σ H
noncomputable def B2(t u:TS):TS:=λD σ H=>t {D with nx:=u D} σ H
theorem mK:BP X [] Cq:=λ_ _ σ H _ I h=>wpAny_execs_nil ⟨σ,H,I,h⟩
theorem bC(h1:PS X st t)(h2:BP X rest u):BP X (st::rest) (B2 t u):=by
 intro ae s σ H D I h;refine wpAny_execs_cons (ij (h1 ae s σ H {D with nx:=u D} I h) λf s1 q=>?_)
 cases f with
 |next=>
  obtain⟨dk,H',I',q⟩:=q;exact h2 ae s1 dk H' D I' q
 |ret v=>exact q
 |brk=>exact q
 |cont=>exact q
theorem bZ(h1:PS X st t):BP X [st] t:=by
 intro ae s σ H D I h;refine wpAny_execs_cons (ij (h1 ae s σ H D I h) λf s1 q=>?_)
 cases f with
 |next=>exact wpAny_execs_nil q
 |ret v=>exact q
 |brk=>exact q
 |cont=>exact q
theorem bj.quiet(I:bj X ae σ H s):interactive X.env=false:=by simp[interactive,I.ok.kind]
noncomputable def DP(te:TE):TS:=λD σ H=>te σ H λ_ H1=>D.nx σ H1
theorem sH(he:PE X e te)(hs:swapsWith e none pos.line X.env=pure false:=by rfl):PS X (.Expr e pos) (DP te):=by
 intro ae s σ H D I h;exact wpAny_Expr_any (ij (he ae s σ H _ I h) λv s1 ⟨x,H1,I1,r1,q1⟩=>⟨σ,H1,I1,q1⟩) I.quiet hs
noncomputable def NG(te:TE):TS:=λD σ H=>te σ H D.rt
theorem wA(he:PE X e te):PS X (.Return (some e) pos) (NG te):=by
 intro ae s σ H D I h;exact wpAny_Return_some (ij (he ae s σ H _ I h) λv s1 ⟨x,H1,I1,r1,q1⟩=>⟨x,σ,H1,I1,r1,q1⟩)
noncomputable def FC(c:TT)(t u:TS):TS:=λD σ H=>c σ H λb H1=>if b=true then t D σ H1 else u D σ H1
theorem wB(hc:PT X c tc)(ha:BP X a t)(hb:BP X b u):PS X (.If c a b pos) (FC tc t u):=by
 intro ae s σ H D I h;refine wpAny_If (ij (hc ae s σ H _ I h) λd s1 ⟨H1,I1,q1⟩=>?_)
 cases d with
 |true=>exact ha ae s1 σ H1 D I1 q1
 |false=>exact hb ae s1 σ H1 D I1 q1
end
noncomputable abbrev TG:=V->St->Hp->(St->Hp->Prop)->Prop
noncomputable abbrev MW:=List V->St->Hp->(St->Hp->Prop)->Prop
def PG(X:Cx)(target:Expr)(t:TG):Prop:=
 ∀(ae:List (Addr×Obj))(s:Shared)(σ:St)(H:Hp)(v:V)(u:Value)(Q:St->Hp->Prop),bj X ae σ H s->cm v u->t v σ H Q->
  wpAny (model X.prog X.w) X.A (assign target X.env u) (λ_ s'=>∃dk H',bj X ae dk H' s'/\Q dk H') X.xe s
def Qw(X:Cx)(ts:List Expr)(t:MW):Prop:=
 ∀(ae:List (Addr×Obj))(s:Shared)(σ:St)(H:Hp)(vs:List V)(us:List Value)(Q:St->Hp->Prop),bj X ae σ H s->dj vs us->t vs σ H Q->
  wpAny (model X.prog X.w) X.A (assignInOrder ((assignEach ts X.env).map (·.2)) us) (λ_ s'=>∃dk H',bj X ae dk H' s'/\Q dk H') X.xe s
noncomputable abbrev JV:=V->V->V->Hp->(Hp->Prop)->Prop
def FD(X:Cx)(t:JV):Prop:=
 ∀(ae:List (Addr×Obj))(s:Shared)(σ:St)(H:Hp)(o i v:V)(ov iv u:Value)(Q:Hp->Prop),bj X ae σ H s->cm o ov->cm i iv->cm v u->t o i v H Q->
  wpAny (model X.prog X.w) X.A (setItem ov iv u) (λ_ s'=>∃H',bj X ae σ H' s'/\Q H') X.xe s
section
variable{X:Cx}{pos:Pos}
noncomputable def fj(i:Nat):TG:=λv σ H Q=>Q (σ.set i (some v)) H
theorem eK(hN:X.N.Nodup)(hi:X.N[i]?=some x)(hx:Loc X.env.scope x)(hf:X.fn x=true\/X.env.scope.names.lookup x=some .local:=by first|exact .inl rfl|exact .inr rfl|assumption):PG X (.Name x pos) (fj i):=by
 intro ae s σ H v u Q I r h;exact wpAny_assign_Name (nZ I hN hi hx r (λs' I'=>⟨_,H,I',h⟩) hf)
noncomputable def FE:MW:=λvs σ H Q=>vs=[]/\Q σ H
noncomputable def zc(t:TG)(u:MW):MW:=λvs σ H Q=>∃v r,vs=v::r/\t v σ H λdk H'=>u r dk H' Q
theorem FG:Qw X [] FE:=by
 intro ae s σ H vs us Q I r h;obtain⟨e,h⟩:=h;subst e;cases r;exact assignInOrder_nil ⟨σ,H,I,h⟩
theorem n5(h1:PG X e t)(h2:Qw X es u)
  (hs:(assignEach (e::es) X.env).map (·.2)=assign e X.env::(assignEach es X.env).map (·.2):=by rfl):Qw X (e::es) (zc t u):=by
 intro ae s σ H vs us Q I r h;obtain⟨v,vr,e1,h⟩:=h;subst e1
 cases r with
 |cons r rr=>
  rw[hs];refine assignInOrder_cons (ij (h1 ae s σ H _ _ _ I r h) λ_ s1 ⟨FI,H1,I1,q1⟩=>?_);exact h2 ae s1 FI H1 _ _ Q I1 rr q1
noncomputable def FJ(K:PySem.W.Frag)(n:Nat)(t:MW):TG:=λv σ H Q=>∃a xs,v=.ref a/\nv K H a xs/\xs.length=n/\t xs σ H Q
theorem JW{es:List Expr}{k:Nat}{t:MW}{n:Nat}(hc:X.calm=true)(h:Qw X es t)
  (hn:(assignEach es X.env).length=n:=by rfl) (AV:(assignEach es X.env).findIdx? (·.1)=none:=by rfl):PG X (.Tuple es k pos) (FJ X.K n t):=by
 intro ae s σ H v u Q I r hw;obtain⟨a,xs,e1,hq,hl,hw⟩:=hw;subst e1;cases r;obtain⟨its,rv,ht,hz⟩:=I.tuple hq;refine assign_Tuple_tuple (I.ok.hd hc) ht (by simp[hn,←hl,rv.length]) AV λh' hx=>?_;have I1:bj X ae σ H {s with heap:=h'}:=I.kept (t':=s.toks) λb o e=>hx b o (Af (jv e)) e;exact h ae _ σ H xs _ Q I1 (by simpa using rv) hw
noncomputable def DQ(to ti:TE)(t:JV):TG:=λv σ H Q=>to σ H λo H1=>ti σ H1 λi H2=>t o i v H2 λH3=>Q σ H3
theorem wC(ho:PE X o to)(hi:PE X i ti)(hs:FD X t)
  (ha:∀v,assign (.Subscript o i pos) X.env v=(do
   let ov←holding [v] (eval o X.env)
   let iv←holding [v,ov] (eval i X.env)
   standAt pos
   holding [v,ov,iv] (setItem ov iv v)
   release [v,ov,iv] []):=by intro _;rfl):PG X (.Subscript o i pos) (DQ to ti t):=by
 intro ae s σ H v u Q I r h;rw[ha];refine dy (wpAny_holding (ij (ho ae s σ H _ I h) λov s1 ⟨x,H1,I1,r1,q1⟩=>?_));refine dy (wpAny_holding (ij (hi ae s1 σ H1 _ I1 q1) λiv s2 ⟨y,H2,I2,r2,q2⟩=>?_));refine dy (wpAny_standAt (dy (wpAny_holding (ij (hs ae s2 σ H2 x y v ov iv u _ I2 r1 r2 r q2) λ_ s3 ⟨H3,I3,q3⟩=>?_))));exact wpAny_release ⟨σ,H3,I3,q3⟩
noncomputable def qj(te:TE)(g:TG):TS:=λD σ H=>te σ H λx H1=>g x σ H1 D.nx
theorem p8(he:PE X e te)(hg:PG X tg g)(hs:swapsWithSole [tg] e pos.line X.env=pure false:=by rfl)(hw:swappedStores [tg] e X.env=pure none:=by rfl)
  (h1:(assignEach [tg] X.env).map (·.2)=[assign tg X.env]:=by rfl):PS X (.Assign [tg] e pos) (qj te g):=by
 intro ae s σ H D I h;refine wpAny_Assign_stores (ij (he ae s σ H _ I h) λv s1 ⟨x,H1,I1,r1,q1⟩=>?_) hs hw;rw[h1];exact ij (hg ae s1 σ H1 x v _ I1 r1 q1) λ_ s2 q=>q
theorem p9(hN:X.N.Nodup)(hi:X.N[i]?=some x)(hx:Loc X.env.scope x)(he:PE X e te)(hs:swapsWith e (some (.Name x pos')) pos.line X.env=pure false:=by rfl)(hf:X.fn x=true\/X.env.scope.names.lookup x=some .local:=by first|exact .inl rfl|exact .inr rfl|assumption):
  PS X (.Assign [.Name x pos'] e pos) (qj te (fj i)):=by
 intro ae s σ H D I h;refine wpAny_Assign_Name (ij (he ae s σ H _ I h) λv s1 ⟨y,H1,I1,r1,q1⟩=>?_) hs;exact nZ I1 hN hi hx r1 (λs2 I2=>⟨_,H1,I2,q1⟩) hf
end
section
variable{X:Cx}{pos:Pos}
noncomputable def B3(c:TT)(tb:TS):TS:=λD σ H=>∃W:Nat->St->Hp->Prop,(∃m,W m σ H)/\∀m σ H,W m σ H->
 c σ H λb H1=>if b=true then∃N:St->Hp->Prop,(∀dk H',N dk H'->∃m',m'<m/\W m' dk H')/\tb {D with nx:=N,ct:=N,bk:=D.nx} σ H1 else D.nx σ H1
theorem n6(hp:PassesOwn (model X.prog X.w) X.A X.env X.xe)(hc:PT X c tc)(hb:BP X body tb):PS X (.While c body [] pos) (B3 tc tb):=by
 intro ae s σ H D I h;obtain⟨W,⟨m0,w0⟩,turn⟩:=h;refine wpAny_While (codeAny_whileLoop (λn s'=>∃dk H',bj X ae dk H' s'/\W n dk H') ?_ m0 ⟨σ,H,I,w0⟩);rintro n s1 ⟨FI,H1,I1,w1⟩;refine wpAny_passesOwn hp (ij (hc ae s1 FI H1 _ I1 (turn n FI H1 w1)) λb s2 ⟨H2,I2,q2⟩=>?_)
 cases b with
 |true=>
  obtain⟨N,hN,q2⟩:=q2;rw[bg rfl];refine wpAny_passesOwn hp (ij (hb ae s2 FI H2 _ I2 q2) λf s3 q3=>?_)
  cases f with
  |next=>
   obtain⟨Bp,H3,I3,n3⟩:=q3;obtain⟨m',hm,w3⟩:=hN Bp H3 n3;exact⟨m',hm,Bp,H3,I3,w3⟩
  |cont=>
   obtain⟨Bp,H3,I3,n3⟩:=q3;obtain⟨m',hm,w3⟩:=hN Bp H3 n3;exact⟨m',hm,Bp,H3,I3,w3⟩
  |brk=>exact q3
  |ret v=>exact q3
 |false=>
  rw[bh kj];exact wpAny_execs_nil ⟨FI,H2,I2,q2⟩
end
structure It where
 go:Nat->Hp->Prop
 NH:Nat->Hp->V->Hp->Prop
 stop:Nat->Hp->Prop
def zd(X:Cx)(ae:List (Addr×Obj))(H:Hp)(b:Addr):Prop:=
 H b=none/\b≠X.env.locals/\b∉X.fs/\(b∈X.ex\/X.fv.heap.objs.size<=b)/\(∀x c,X.env.cells.lookup x=some c->c≠b)/\∀p∈X.pn++ae,p.1≠b
theorem bj.FK(I:bj X ae σ H s)(hb:s.heap.objs.size<=b)(hn:H' b=none):zd X ae H' b:=by
 refine⟨hn,Co (AR I.lt hb),I.JG hb,.inr (rm I.sz hb),λx c e z=>?_,λp hp z=>?_⟩
 ·obtain⟨v,q⟩:=I.cell x c e
  exact absurd (AR q.lt (by rw[z];exact hb)) (Aj _)
 ·exact absurd (AR (jv (I.pin p hp).1) (by rw[z];exact hb)) (Aj _)
structure Turn(P:Program)(w:World)(K:PySem.W.Frag)(tg:Expr)(J:It)(fp:List Addr)(it:Addr)(tn:Nat->Heap->Prop):Prop where
 mem:it∈fp
 obj:∀i h,tn i h->∀b∈fp,∃o,h.get? b=some o/\∀v,o.data≠.cell v
 keep:∀i h h',tn i h->(∀b∈fp,∀o,h.get? b=some o->h'.get? b=some o)->tn i h'
 item:∀(X:Cx),X.prog=P->X.w=w->X.K=K->X.calm=true->∀(i:Nat)(ae:List (Addr×Obj))(s:Shared)(σ:St)(H:Hp)(E:Value->Shared->Prop),bj X ae σ H s->(∀b∈fp,zd X ae H b)->tn i s.heap->J.go i H->
  wpAny (model P w) X.A (pyNext (.ref it)) (λr s1=>∃u,r=some u/\
   wpAny (model P w) X.A (letOwnedTupleGo tg (.ref it) u) (λ_ s2=>∃x H',bj X ae σ H' s2/\cm x u/\J.NH i H x H'/\tn (i+1) s2.heap/\∀b∈fp,H' b=none) E s1) E s
 done:∀(X:Cx),X.prog=P->X.w=w->X.K=K->X.calm=true->∀(i:Nat)(ae:List (Addr×Obj))(s:Shared)(σ:St)(H:Hp)(E:Value->Shared->Prop),bj X ae σ H s->(∀b∈fp,zd X ae H b)->tn i s.heap->J.stop i H->
  wpAny (model P w) X.A (pyNext (.ref it)) (λr s1=>r=none/\bj X ae σ H s1) E s
 self:∀(A:Around)(i:Nat)(s:Shared)(Q:Value->Shared->Prop)(E:Value->Shared->Prop),tn i s.heap->Q (.ref it) s->wpAny (model P w) A (pyIter (.ref it)) Q E s
noncomputable abbrev TI:=St->Hp->(It->Hp->Prop)->Prop
def Tg(X:Cx)(ae:List (Addr×Obj))(σ:St)(tg:Expr)(R:It->Hp->Prop)(NI:Value)(s2:Shared):Prop:=
 ∃(it:Addr)(fp:List Addr)(tn:Nat->Heap->Prop)(J:It)(H':Hp),NI=.ref it/\bj X ae σ H' s2/\Turn X.prog X.w X.K tg J fp it tn/\tn 0 s2.heap/\(∀b∈fp,zd X ae H' b)/\R J H'
def PI(X:Cx)(tg iter:Expr)(wi:TI):Prop:=
 ∀(ae:List (Addr×Obj))(s:Shared)(σ:St)(H:Hp)(R:It->Hp->Prop),bj X ae σ H s->wi σ H R->
  wpAny (model X.prog X.w) X.A (eval iter X.env) (λv s1=>wpAny (model X.prog X.w) X.A (pyIter v) (Tg X ae σ tg R) X.xe s1) X.xe s
theorem wD(ho:s.heap.get? it=some o)(hc:o.cls=.type n)(hd:o.data=.fields vs)
   (hn:["enumerate","zip","dict_itemiterator","dict_reverseitemiterator","odict_iterator","itertools.zip_longest","itertools.pairwise"].contains n=false) (hQ:Q () s):wpAny M A (letOwnedTupleGo tg (.ref it) u) Q E s:=by
 unfold letOwnedTupleGo;cases tg<;>first
   |exact mw hQ
   |(cases u<;>first
       |exact mw hQ
       | (refine dy (wpAny_load ho ?_)
          rw[hc,hd];show wpAny M A (if(["enumerate","zip","dict_itemiterator","dict_reverseitemiterator","odict_iterator","itertools.zip_longest","itertools.pairwise"].contains n&&vs[0]?==some (rawInt _))=true then _ else _) Q E s;rw[bh (by intro h;rw[hn,Bool.false_and] at h;cases h)];exact mw hQ))
noncomputable def Rq(K:PySem.W.Frag)(a:Addr):It:=
 ⟨λi H=>∃xs x,lj K H a xs/\xs[i]?=some x,λi H x H'=>H'=H/\∀xs,lj K H a xs->xs[i]?=some x,λi H=>∃xs,lj K H a xs/\xs.length<=i⟩
noncomputable def Rr(K:PySem.W.Frag)(a:Addr):It:=
 ⟨λi H=>∃xs x,nv K H a xs/\xs[i]?=some x,λi H x H'=>H'=H/\∀xs,nv K H a xs->xs[i]?=some x,λi H=>∃xs,nv K H a xs/\xs.length<=i⟩
noncomputable def JX(lo:Int)(n:Nat):It:=⟨λi _=>i<n,λi H x H'=>H'=H/\x=.int (lo+i),λi _=>n<=i⟩
theorem uI{P:Program}{w:World}{K:PySem.W.Frag}{tg:Expr}(a it:Addr):Turn P w K tg (Rq K a) [it] it (λi h=>h.IsListIter it a i) where
 mem:=by simp
 obj:=λi h st b hb=>by
  have e:b=it:=by simpa using hb
  subst e;obtain⟨o,e,c,d⟩:=st;exact⟨o,e,λv z=>by rw[d] at z;cases z⟩
 keep:=λi h h' st k=>st.at λo e=>k it (by simp) o e
 item:=by
  intro X hP hw hK hc i ae s σ H E I hf st hg;subst hP hw hK;obtain⟨xs,x,hq,hx⟩:=hg;obtain⟨its,rv,p,hz⟩:=I.list hq;obtain⟨u,hu,ru⟩:=rv.get hx;obtain⟨f0,f1,f2,f3,f4,f5⟩:=hf it (by simp);refine wpAny_pyNext_list_item st p.isList (x:=u) (by simpa using hu) λh' Dq sb=>?_;have I1:bj X ae σ H {s with heap:=h'}:=I.turned (t':=s.toks) (λb o hb e=>(sb.2 b hb).trans e) f0 f1 f3 f4 f5;obtain⟨o,e,c,d⟩:=id Dq;exact⟨u,rfl,wD (s:={s with heap:=h'}) e c d (by decide) ⟨x,H,I1,ru,⟨rfl,λys hy=>by rw[I.DO hy hq];exact hx⟩,Dq,λb hb=>(hf b hb).1⟩⟩
 done:=by
  intro X hP hw hK hc i ae s σ H E I hf st hg;subst hP hw hK;obtain⟨xs,hq,hx⟩:=hg;obtain⟨its,rv,p,hz⟩:=I.list hq;obtain⟨f0,f1,f2,f3,f4,f5⟩:=hf it (by simp);have hl:=rv.length;exact wpAny_pyNext_list_end (I.ok.hd hc) st p.isList (by simp;omega) λh' eb=>⟨rfl,I.turned (t':=s.toks) (λb o hb e=>eb b o hb e) f0 f1 f3 f4 f5⟩
 self:=λ_ _ _ _ _ st h=>wpAny_pyIter_listiter st h
theorem qC{P:Program}{w:World}{K:PySem.W.Frag}{tg:Expr}(a it:Addr):Turn P w K tg (Rr K a) [it] it (λi h=>h.IsTupleIter it a i) where
 mem:=by simp
 obj:=λi h st b hb=>by
  have e:b=it:=by simpa using hb
  subst e;obtain⟨o,e,c,d⟩:=st;exact⟨o,e,λv z=>by rw[d] at z;cases z⟩
 keep:=λi h h' st k=>st.at λo e=>k it (by simp) o e
 item:=by
  intro X hP hw hK hc i ae s σ H E I hf st hg;subst hP hw hK;obtain⟨xs,x,hq,hx⟩:=hg;obtain⟨its,rv,p,hz⟩:=I.tuple hq;obtain⟨u,hu,ru⟩:=rv.get hx;obtain⟨f0,f1,f2,f3,f4,f5⟩:=hf it (by simp);refine wpAny_pyNext_tuple_item st (show s.heap.IsTuple a its.toArray from p) (x:=u) (by simpa using hu) λh' Dq sb=>?_;have I1:bj X ae σ H {s with heap:=h'}:=I.turned (t':=s.toks) (λb o hb e=>(sb.2 b hb).trans e) f0 f1 f3 f4 f5;obtain⟨o,e,c,d⟩:=id Dq;exact⟨u,rfl,wD (s:={s with heap:=h'}) e c d (by decide) ⟨x,H,I1,ru,⟨rfl,λys hy=>by rw[I.wx hy hq];exact hx⟩,Dq,λb hb=>(hf b hb).1⟩⟩
 done:=by
  intro X hP hw hK hc i ae s σ H E I hf st hg;subst hP hw hK;obtain⟨xs,hq,hx⟩:=hg;obtain⟨its,rv,p,hz⟩:=I.tuple hq;obtain⟨f0,f1,f2,f3,f4,f5⟩:=hf it (by simp);have hl:=rv.length;exact wpAny_pyNext_tuple_end (I.ok.hd hc) st (show s.heap.IsTuple a its.toArray from p) (by simp;omega) λh' eb=>⟨rfl,I.turned (t':=s.toks) (λb o hb e=>eb b o hb e) f0 f1 f3 f4 f5⟩
 self:=λ_ _ _ _ _ st h=>wpAny_pyIter_tupleiter st h
theorem qD{P:Program}{w:World}{K:PySem.W.Frag}{tg:Expr}(it:Addr)(lo:Int)(n:Nat):Turn P w K tg (JX lo n) [it] it (λi h=>IsRangeIter h it (lo+(i:Nat)*1) ((n:Int)-(i:Nat)) 1) where
 mem:=by simp
 obj:=λi h st b hb=>by
  have e:b=it:=by simpa using hb
  subst e;exact⟨_,st,λv z=>by
   have z':Data.fields _=Data.cell v:=z;cases z'⟩
 keep:=λi h h' st k=>k it (by simp) _ st
 item:=by
  intro X hP hw hK hc i ae s σ H E I hf st hg;subst hP hw hK;obtain⟨f0,f1,f2,f3,f4,f5⟩:=hf it (by simp);have W:=Walks.range (prog:=X.prog) (w:=X.w) (I.ok.hd hc) it lo 1 n;refine W.item i s _ _ hg st λv h' tk hv Dq kk=>?_;obtain⟨t,rfl⟩:=hv;have I1:bj X ae σ H {s with heap:=h',toks:=tk}:=I.turned (λb o hb e=>kk b o (by simpa using hb) e) f0 f1 f3 f4 f5;refine⟨_,rfl,wD (s:={s with heap:=h',toks:=tk}) (n:="range_iterator") Dq rfl rfl (by decide) ⟨.int (lo+i),H,I1,⟨t,?_⟩,⟨rfl,rfl⟩,Dq,λb hb=>(hf b hb).1⟩⟩;rw[Int.mul_one]
 done:=by
  intro X hP hw hK hc i ae s σ H E I hf st hg;subst hP hw hK;obtain⟨f0,f1,f2,f3,f4,f5⟩:=hf it (by simp);exact wpAny_pyNext_range_end (I.ok.hd hc) st (by have:n<=i:=hg;omega) λh' eb=>⟨rfl,I.turned (t':=s.toks) (λb o hb e=>eb b o hb e) f0 f1 f3 f4 f5⟩
 self:=λ_ _ _ _ _ st h=>wpAny_pyIter_rangeiter st h
section
variable{X:Cx}{tg:Expr}
noncomputable def Cr(K:PySem.W.Frag)(tl:TE):TI:=λσ H R=>tl σ H λx H1=>∃a,x=.ref a/\(∃xs,lj K H1 a xs)/\R (Rq K a) H1
noncomputable def Rt(K:PySem.W.Frag)(tl:TE):TI:=λσ H R=>tl σ H λx H1=>∃a,x=.ref a/\(∃xs,nv K H1 a xs)/\R (Rr K a) H1
theorem sI(hl:PE X l tl):PI X tg l (Cr X.K tl):=by
 intro ae s σ H R I h;refine ij (hl ae s σ H _ I h) λv s1 ⟨x,H1,I1,r1,q1⟩=>?_;obtain⟨a,e,⟨xs,hq⟩,q⟩:=q1;subst e;cases r1;obtain⟨its,rv,p,hz⟩:=I1.list hq;refine wpAny_pyIter_list p.isList ?_;refine⟨s1.heap.objs.size,[s1.heap.objs.size],_,_,H1,rfl,I1.kept (t':=s1.toks) λb o e=>qm _ e,uI a _,⟨_,BU _ rfl,rfl,rfl⟩,λb hb=>?_,q⟩;have e:b=s1.heap.objs.size:=by simpa using hb
 subst e;exact I1.FK (ji _) (I1.fo.fresh (ji _))
theorem JY(hl:PE X l tl):PI X tg l (Rt X.K tl):=by
 intro ae s σ H R I h;refine ij (hl ae s σ H _ I h) λv s1 ⟨x,H1,I1,r1,q1⟩=>?_;obtain⟨a,e,⟨xs,hq⟩,q⟩:=q1;subst e;cases r1;obtain⟨its,rv,p,hz⟩:=I1.tuple hq;refine wpAny_pyIter_tuple (show s1.heap.IsTuple a its.toArray from p) ?_;refine⟨s1.heap.objs.size,[s1.heap.objs.size],_,_,H1,rfl,I1.kept (t':=s1.toks) λb o e=>qm _ e,qC a _,⟨_,BU _ rfl,rfl,rfl⟩,λb hb=>?_,q⟩;have e:b=s1.heap.objs.size:=by simpa using hb
 subst e;exact I1.FK (ji _) (I1.fo.fresh (ji _))
theorem wE{ae:List (Addr×Obj)}{σ:St}{H:Hp}{s:Shared}{R:It->Hp->Prop}{E:Value->Shared->Prop}{lo hi:Int}{t u v:Tok}{tk:Nat}(I:bj X ae σ H s)(h1: -(2^62)<=lo)(h2:lo<2^62)(h3: -(2^62)<=hi)(h4:hi<2^62)
  (q:R (JX lo (hi-lo).toNat) H):wpAny (model X.prog X.w) X.A (pyIter (.ref s.heap.objs.size)) (Tg X ae σ tg R) E {s with heap:=s.heap.push {cls:=.type "range",data:=.fields #[.int lo t,.int hi u,.int 1 v]},toks:=tk}:=by
 refine wpAny_pyIter_range (IsRange.new ..) (small_one h1 h2 h3 h4) ?_;have I1:bj X ae σ H {s with heap:=s.heap.push {cls:=.type "range",data:=.fields #[.int lo t,.int hi u,.int 1 v]},toks:=tk}:=I.kept λb o e=>qm _ e;refine⟨(s.heap.push {cls:=.type "range",data:=.fields #[.int lo t,.int hi u,.int 1 v]}).objs.size,[(s.heap.push {cls:=.type "range",data:=.fields #[.int lo t,.int hi u,.int 1 v]}).objs.size],_,_,H,rfl,
  I1.kept (t':=tk) λb o e=>qm _ e,qD _ lo (hi-lo).toNat,?_,λb hb=>?_,q⟩
 ·have e1:lo+((0:Nat):Int)*1=lo:=by simp
  have e2:(((hi-lo).toNat:Nat):Int)-((0:Nat):Int)=Builtin.Range.rangeSize lo hi 1:=by rw[rangeSize_one];split<;>omega
  show IsRangeIter _ _ (lo+((0:Nat):Int)*1) ((((hi-lo).toNat:Nat):Int)-((0:Nat):Int)) 1;rw[e1,e2];exact BU _ rfl
 ·have e:b=(s.heap.push {cls:=.type "range",data:=.fields #[.int lo t,.int hi u,.int 1 v]}).objs.size:=by simpa using hb
  subst e;exact I1.FK (ji _) (I1.fo.fresh (ji _))
noncomputable def Ct(ta:TA):TI:=λσ H R=>ta σ H λvs H1=>∃j:Int,vs=[.int j]/\-(2^62)<=j/\j<2^62/\R (JX 0 j.toNat) H1
theorem kR{a:Expr}{ta:TA}{p pos:Pos}(hg:Gl X "range")(hm:X.mg "range"=none)(ha:PA X [a] ta)(hs:starEach [a] X.env=[(false,eval a X.env)]:=by rfl):PI X tg (.Call (.Name "range" p) [a] [] pos) (Ct ta):=by
 intro ae s σ H R I h;refine Call_ (iW I hg hm boot_range (PyProof.Rows.callWith_type1 (ij (ha pos ae s σ H _ I h) λus s1 ⟨vs,H1,I1,r1,q1⟩=>?_) hs rfl));obtain⟨j,e,q1,q2,q⟩:=q1;subst e
 cases r1 with
 |cons r rr=>
  cases rr;obtain⟨t,rfl⟩:=r;exact call_range_1 (wE I1 (by omega) (by omega) q1 q2 (by simpa using q))
noncomputable def Bq(wi:TI)(g:TG)(tb:TS):TS:=λD σ H=>wi σ H λJ H1=>∃W:Nat->Nat->St->Hp->Prop,(∃m,W 0 m σ H1)/\∀i m σ H,W i m σ H->
 (J.stop i H/\D.nx σ H)\/(J.go i H/\∃N:St->Hp->Prop,(∀dk H',N dk H'->∃m',m'<m/\W (i+1) m' dk H')/\∀x H',J.NH i H x H'->g x σ H' λIv H2=>tb {D with nx:=N,ct:=N,bk:=D.nx} Iv H2)
noncomputable def wy(fp:List Addr)(h:Heap):List (Addr×Obj):=fp.filterMap λb=>(h.get? b).map λo=>(b,o)
theorem bG(hb:b∈fp)(e:h.get? b=some o):(b,o)∈wy fp h:=List.mem_filterMap.mpr ⟨b,hb,by rw[e];rfl⟩
theorem uJ(hp:p∈wy fp h):p.1∈fp/\h.get? p.1=some p.2:=by
 obtain⟨b,hb,e⟩:=List.mem_filterMap.mp hp
 cases q:h.get? b with
 |none=>rw[q] at e;cases e
 |some o=>
  rw[q] at e;have e':(b,o)=p:=Aw e;subst e';exact⟨hb,q⟩
theorem bj.pinned(I:bj X ae σ H s)(hf:∀b∈fp,zd X ae H b)(ho:∀b∈fp,∃o,s.heap.get? b=some o/\∀v,o.data≠.cell v):bj X (ae++wy fp s.heap) σ H s:=
 I.ym λp hp=>(List.mem_append.mp hp).elim (λz=>I.pin p (Av _ z)) λz=>by
  obtain⟨hb,e⟩:=uJ z;obtain⟨f0,f1,f2,_⟩:=hf p.1 hb;obtain⟨o,e',d⟩:=ho p.1 hb;rw[e] at e';cases e';exact⟨e,f0,f1,f2,d⟩
theorem bj.jm(I:bj X (ae++pl) σ H s):bj X ae σ H s:=I.ym λp hp=>I.pin p (Av _ (List.mem_append_left _ hp))
theorem wF{iter:Expr}{body:List Stmt}{wi:TI}{g:TG}{tb:TS}{pos:Pos}(hp:PassesOwn (model X.prog X.w) X.A X.env X.xe)(hc:X.calm=true)(hi:PI X tg iter wi)(hg:PG X tg g)(hb:BP X body tb)
  (hs:∀x,foldedSetIterable iter X.env x=pure x:=by intro _;rfl):PS X (.For tg iter body [] pos) (Bq wi g tb):=by
 intro ae s σ H D I h;refine wpAny_For (ij (hi ae s σ H _ I h) λv s1 h1=>ij h1 λNI s2 h2=>?_) hs;obtain⟨it,fp,tn,J,H2,e,I2,T,UJ,f2,W,⟨m0,w0⟩,turn⟩:=h2;subst e
 --what stays true of the JZ objects through the loop
 have stat:∀{H':Hp},(∀b∈fp,H' b=none)->∀b∈fp,zd X ae H' b:=λhn b hb=>⟨hn b hb,(f2 b hb).2⟩
 refine codeAny_forLoop_any (λn s'=>∃i dk H',bj X ae dk H' s'/\tn i s'.heap/\(∀b∈fp,H' b=none)/\W i n dk H') ?_ m0 ⟨0,σ,H2,I2,UJ,λb hb=>(f2 b hb).1,w0⟩;rintro n s3 ⟨i,Bp,H3,I3,NJ,Th,w3⟩;rcases turn i n Bp H3 w3 with⟨stop,qn⟩|⟨go,N,hN,step⟩
 ·refine wpAny_passesOwn hp (ij (T.done X rfl rfl rfl hc i ae s3 Bp H3 X.xe I3 (stat Th) NJ stop) λr s4 ⟨hr,I4⟩=>?_)
  subst hr;exact wpAny_execs_nil ⟨Bp,H3,I4,qn⟩
 ·refine wpAny_passesOwn hp (ij (T.item X rfl rfl rfl hc i ae s3 Bp H3 X.xe I3 (stat Th) NJ go) λr s4 ⟨u,hr,h4⟩=>?_)
  subst hr;refine wpAny_passesOwn hp (ij h4 λ_ s5 ⟨x,H5,I5,r5,y5,Ru,UK⟩=>?_);have UL:=I5.pinned (stat UK) (T.obj _ _ Ru);refine wpAny_passesOwn hp (ij (hg _ s5 Bp H5 x u _ UL r5 (step x H5 y5)) λ_ s6 ⟨Dr,H6,I6,q6⟩=>?_);refine wpAny_passesOwn hp (ij (hb _ s6 Dr H6 _ I6 q6) λf s7 q7=>?_);have again:∀{uw:St}{H7:Hp},bj X (ae++wy fp s5.heap) uw H7 s7->N uw H7->∃m,m<n/\∃i dk H',bj X ae dk H' s7/\tn i s7.heap/\(∀b∈fp,H' b=none)/\W i m dk H':=λ{uw H7} I7 n7=>by
   obtain⟨m',hm,w7⟩:=hN uw H7 n7;refine⟨m',hm,i+1,uw,H7,I7.jm,T.keep _ _ _ Ru λb hb o e=>(I7.pin (b,o) (Av _ (Av _ (bG hb e)))).1,λb hb=>?_,w7⟩;obtain⟨o,e,d⟩:=T.obj _ _ Ru b hb;exact(I7.pin (b,o) (Av _ (Av _ (bG hb e)))).2.1
  cases f with
  |next=>obtain⟨uw,H7,I7,n7⟩:=q7;exact again I7 n7
  |cont=>obtain⟨uw,H7,I7,n7⟩:=q7;exact again I7 n7
  |brk=>obtain⟨uw,H7,I7,q7⟩:=q7;exact⟨uw,H7,I7.jm,q7⟩
  |ret v=>obtain⟨x7,uw,H7,I7,r7,q7⟩:=q7;exact⟨x7,uw,H7,I7.jm,r7,q7⟩
end
noncomputable abbrev R2:=V->V->Hp->VK->Prop
def wz(X:Cx)(f:Value->Value->Sem Value)(r:R2):Prop:=
 ∀(ae:List (Addr×Obj))(s:Shared)(σ:St)(H:Hp)(x y:V)(v u:Value)(Q:VK),bj X ae σ H s->cm x v->cm y u->r x y H Q->
  wpAny (model X.prog X.w) X.A (f v u) (EP X ae σ Q) X.xe s
def Qx(X:Cx)(f:Value->Sem Value)(r:V->Hp->VK->Prop):Prop:=
 ∀(ae:List (Addr×Obj))(s:Shared)(σ:St)(H:Hp)(x:V)(v:Value)(Q:VK),bj X ae σ H s->cm x v->r x H Q->
  wpAny (model X.prog X.w) X.A (f v) (EP X ae σ Q) X.xe s
def qh(X:Cx)(f:Value)(r:List V->Hp->VK->Prop):Prop:=
 ∀(ae:List (Addr×Obj))(s:Shared)(σ:St)(H:Hp)(xs:List V)(us:List Value)(Q:VK),bj X ae σ H s->dj xs us->r xs H Q->
  wpAny (model X.prog X.w) X.A (call f us) (EP X ae σ Q) X.xe s
def Rv(X:Cx)(r:V->Hp->(Bool->Hp->Prop)->Prop):Prop:=
 ∀(ae:List (Addr×Obj))(s:Shared)(σ:St)(H:Hp)(x:V)(v:Value)(Q:Bool->Hp->Prop),bj X ae σ H s->cm x v->r x H Q->
  wpAny (model X.prog X.w) X.A (truthy v) (TP X ae σ Q) X.xe s
noncomputable def AW(r:R2)(ta tb:TE):TE:=λσ H Q=>ta σ H λx H1=>tb σ H1 λy H2=>r x y H2 Q
noncomputable def UM(r:V->Hp->VK->Prop)(ta:TE):TE:=λσ H Q=>ta σ H λx H1=>r x H1 Q
noncomputable def rI(C:Int->Int->Prop)(g:Int->Int->V):R2:=λx y H Q=>∃i j,x=.int i/\y=.int j/\C i j/\Q (g i j) H
noncomputable def DR(g:Int->Int->V):R2:=λx y H Q=>∃i j,x=.int i/\y=.int j/\Q (g i j) H
noncomputable def rU(g:Int->V):V->Hp->VK->Prop:=λx H Q=>∃i,x=.int i/\Q (g i) H
section
variable{X:Cx}{a b c:Expr}{ta tb tc:TE}{pos:Pos}
theorem J0(ha:PE X a ta)(hb:PE X b tb){R:V->V->Hp->Prop}(I:bj X ae σ H s)
  (h:ta σ H λx H1=>tb σ H1 λy H2=>R x y H2) {f:Value->Value->Sem Value}
  (hf:∀v u s2 x y H2,bj X ae σ H2 s2->cm x v->cm y u->R x y H2->wpAny (model X.prog X.w) X.A (f v u) Q X.xe s2):
  wpAny (model X.prog X.w) X.A (eval a X.env) (λv fm=>wpAny (model X.prog X.w) X.A (eval b X.env) (λu oz=>wpAny (model X.prog X.w) X.A (f v u) Q X.xe oz) X.xe fm) X.xe s:=by
 refine ij (ha ae s σ H _ I h) λv s1 ⟨x,H1,I1,r1,q1⟩=>?_;refine ij (hb ae s1 σ H1 _ I1 q1) λu s2 ⟨y,H2,I2,r2,q2⟩=>?_;exact hf v u s2 x y H2 I2 r1 r2 q2
theorem cR(ho:wz X (binaryOp op) r)(ha:PE X a ta)(hb:PE X b tb):PE X (.BinOp a op b pos) (AW r ta tb):=by
 intro ae s σ H Q I h;exact wpAny_BinOp (J0 ha hb I h λv u s2 x y H2 I2 rx ry q=>ho ae s2 σ H2 x y v u Q I2 rx ry q)
theorem NK(ho:Qx X (unaryOp op) r)(ha:PE X a ta):PE X (.UnaryOp op a pos) (UM r ta):=by
 intro ae s σ H Q I h;exact UnaryOp_ (ij (ha ae s σ H _ I h) λv s1 ⟨x,H1,I1,r1,q1⟩=>ho ae s1 σ H1 x v Q I1 r1 q1)
theorem Rx{f:Value->Value->Sem Value}{C:Int->Int->Prop}{g:Int->Int->Int}
  (rule:∀(i j:Int)(t u:Tok)(s:Shared)(Q:Value->Shared->Prop)(E:Value->Shared->Prop),C i j->Q (.int (g i j) s.toks) {s with toks:=s.toks+1}->wpAny (model X.prog X.w) X.A (f (.int i t) (.int j u)) Q E s):
  wz X f (rI C λi j=>.int (g i j)):=by
 intro ae s σ H x y v u Q I rx ry h;obtain⟨i,j,rfl,rfl,hc,q⟩:=h;obtain⟨t,rfl⟩:=rx;obtain⟨t',rfl⟩:=ry;exact rule i j t t' s _ _ hc ⟨.int (g i j),H,I.tok _,⟨_,rfl⟩,q⟩
theorem NL{f:Value->Value->Sem Value}{g:Int->Int->Int}
  (rule:∀(i j:Int)(t u:Tok)(s:Shared)(Q:Value->Shared->Prop)(E:Value->Shared->Prop),Q (.int (g i j) s.toks) {s with toks:=s.toks+1}->wpAny (model X.prog X.w) X.A (f (.int i t) (.int j u)) Q E s):
  wz X f (DR λi j=>.int (g i j)):=by
 intro ae s σ H x y v u Q I rx ry h;obtain⟨i,j,rfl,rfl,q⟩:=h;obtain⟨t,rfl⟩:=rx;obtain⟨t',rfl⟩:=ry;exact rule i j t t' s _ _ ⟨.int (g i j),H,I.tok _,⟨_,rfl⟩,q⟩
theorem J1{g:Int->Int->Bool}
  (rule:∀(i j:Int)(t u:Tok)(s:Shared)(Q:Value->Shared->Prop)(E:Value->Shared->Prop),Q (.bool (g i j)) s->wpAny (model X.prog X.w) X.A (f (.int i t) (.int j u)) Q E s):
  wz X f (DR λi j=>.bl (g i j)):=by
 intro ae s σ H x y v u Q I rx ry h;obtain⟨i,j,rfl,rfl,q⟩:=h;obtain⟨t,rfl⟩:=rx;obtain⟨t',rfl⟩:=ry;exact rule i j t t' s _ _ ⟨.bl (g i j),H,I,rfl,q⟩
def Ry(i j:Int):Prop:=0<j/\j<1073741824
def FL(i j:Int):Prop:=(-(2^64)<i/\i<2^64)\/(-(2^64)<j/\j<2^64)
theorem FL.ok(h:FL i j):IntMulOk i j:=by
 rcases h with⟨h1,h2⟩|⟨h1,h2⟩
 ·exact .of_left (intBits_le_64 h1 h2)
 ·exact .of_right (intBits_le_64 h1 h2)
theorem AX:wz X (binaryOp .Add) (DR λi j=>.int (i+j)):=NL λ_ _ _ _ _ _ _ q=>add_int q
theorem qE:wz X (binaryOp .Sub) (DR λi j=>.int (i-j)):=NL λ_ _ _ _ _ _ _ q=>sub_int q
theorem iX:wz X (binaryOp .Mult) (rI FL λi j=>.int (i*j)):=Rx λ_ _ _ _ _ _ _ hc q=>mul_int q hc.ok
theorem FN:wz X (binaryOp .FloorDiv) (rI Ry λi j=>.int (i/j)):=Rx λi j _ _ _ _ _ hc q=>by
 have h1:(0:Int)<j:=hc.1;have h2:j<1073741824:=hc.2;exact floordiv_int (by omega) (by rw[Int.fdiv_eq_ediv_of_nonneg i (by omega)];exact q) (.inl (PyProof.noPylong_small (by omega)))
theorem wG:wz X (binaryOp .Mod) (rI (λ_ j=>0<j) λi j=>.int (i%j)):=Rx λi j _ _ _ _ _ hc q=>by
 have h1:(0:Int)<j:=hc;exact mod_int' (by omega) (by rw[Int.fmod_eq_emod_of_nonneg i (by omega)];exact q)
theorem UN{f:Value->Sem Value}{g:Int->Int}
  (rule:∀(i:Int)(t:Tok)(s:Shared)(Q:Value->Shared->Prop)(E:Value->Shared->Prop),Q (.int (g i) s.toks) {s with toks:=s.toks+1}->wpAny (model X.prog X.w) X.A (f (.int i t)) Q E s):
  Qx X f (rU λi=>.int (g i)):=by
 intro ae s σ H x v Q I rx h;obtain⟨i,rfl,q⟩:=h;obtain⟨t,rfl⟩:=rx;exact rule i t s _ _ ⟨.int (g i),H,I.tok _,⟨_,rfl⟩,q⟩
theorem J2:Qx X (unaryOp .USub) (rU λi=>.int (-i)):=UN λ_ _ _ _ _ q=>neg_int q
end
noncomputable def NM:V->V->Bool
 |.de,.de=>true|.de,.int _=>true|.int _,.de=>true|.de,.bl _=>true|.bl _,.de=>true|.de,.str _=>true|.str _,.de=>true
 |.int _,.int _=>true|.bl _,.bl _=>true|.str _,.str _=>true|.Cp _,.Cp _=>true
 |.int _,.str _=>true|.str _,.int _=>true|.bl _,.str _=>true|.str _,.bl _=>true
 |_,_=>false
noncomputable def UO:R2:=λx y H Q=>NM x y=true/\Q (.bl (decide (x=y))) H
noncomputable def UP:R2:=λx y H Q=>NM x y=true/\Q (.bl (!decide (x=y))) H
theorem iD:decide (V.int i=V.int j)=(i==j):=by
 rw[Bool.eq_iff_iff];simp
theorem mL:decide (V.bl i=V.bl j)=(i==j):=by
 rw[Bool.eq_iff_iff];simp
theorem iE:decide (V.str i=V.str j)=(i==j):=by
 rw[Bool.eq_iff_iff];simp
theorem sJ:decide (V.Cp i=V.Cp j)=(i.toList==j.toList):=by
 rw[Bool.eq_iff_iff];cases i;cases j;simp
section
variable{X:Cx}{a b c:Expr}{ta tb tc:TE}{pos:Pos}
theorem aF(I:bj X ae σ H s)(q:Q (.bl k) H)(e:k=k'):EP X ae σ Q (.bool k') s:=by
 subst e;exact⟨.bl k,H,I,rfl,q⟩
theorem wH:wz X (compareOp .Eq) UO:=by
 intro ae s σ H x y v u Q I rx ry h;obtain⟨hs,q⟩:=h
 cases x with
 |de=>
  cases rx
  cases y with
  |de=>cases ry;exact PySem.EqNone.eq_none_none (aF I q (by simp))
  |bl j=>cases ry;exact PySem.EqNone.eq_none_bool (aF I q (by simp))
  |int j=>obtain⟨t',rfl⟩:=ry;exact PySem.EqNone.eq_none_int (aF I q (by simp))
  |str j=>obtain⟨t',rfl⟩:=ry;exact PySem.EqNone.eq_none_str (aF I q (by simp))
  |_=>exact absurd (show false=true from hs) kj
 |bl i=>
  cases rx
  cases y with
  |de=>cases ry;exact PySem.EqNone.eq_bool_none (aF I q (by simp))
  |bl j=>cases ry;exact eq_bool (aF I q mL)
  |str j=>obtain⟨t',rfl⟩:=ry;exact PySem.EqMixed.eq_bool_str (aF I q (by simp))
  |_=>exact absurd (show false=true from hs) kj
 |int i=>
  obtain⟨t,rfl⟩:=rx
  cases y with
  |de=>cases ry;exact PySem.EqNone.eq_int_none (aF I q (by simp))
  |int j=>obtain⟨t',rfl⟩:=ry;exact eq_int (aF I q iD)
  |str j=>obtain⟨t',rfl⟩:=ry;exact PySem.EqMixed.eq_int_str (aF I q (by simp))
  |_=>exact absurd (show false=true from hs) kj
 |str i=>
  obtain⟨t,rfl⟩:=rx
  cases y with
  |de=>cases ry;exact PySem.EqNone.eq_str_none (aF I q (by simp))
  |bl j=>cases ry;exact PySem.EqMixed.eq_str_bool (aF I q (by simp))
  |int j=>obtain⟨t',rfl⟩:=ry;exact PySem.EqMixed.eq_str_int (aF I q (by simp))
  |str j=>obtain⟨t',rfl⟩:=ry;exact eq_str (aF I q iE)
  |_=>exact absurd (show false=true from hs) kj
 |Cp i=>
  obtain⟨t,rfl⟩:=rx
  cases y with
  |Cp j=>obtain⟨t',rfl⟩:=ry;exact PySem.W.eq_bytes (aF I q sJ)
  |_=>exact absurd (show false=true from hs) kj
 |_=>cases y<;>exact absurd (show false=true from hs) kj
theorem wI:wz X (compareOp .NotEq) UP:=by
 intro ae s σ H x y v u Q I rx ry h;obtain⟨hs,q⟩:=h
 cases x with
 |de=>
  cases rx
  cases y with
  |de=>cases ry;exact PySem.EqNone.ne_none_none (aF I q (by simp))
  |bl j=>cases ry;exact PySem.EqNone.ne_none_bool (aF I q (by simp))
  |int j=>obtain⟨t',rfl⟩:=ry;exact PySem.EqNone.ne_none_int (aF I q (by simp))
  |str j=>obtain⟨t',rfl⟩:=ry;exact PySem.EqNone.ne_none_str (aF I q (by simp))
  |_=>exact absurd (show false=true from hs) kj
 |bl i=>
  cases rx
  cases y with
  |de=>cases ry;exact PySem.EqNone.ne_bool_none (aF I q (by simp))
  |bl j=>cases ry;exact ne_bool (aF I q (congrArg not mL))
  |str j=>obtain⟨t',rfl⟩:=ry;exact PySem.EqMixed.ne_bool_str (aF I q (by simp))
  |_=>exact absurd (show false=true from hs) kj
 |int i=>
  obtain⟨t,rfl⟩:=rx
  cases y with
  |de=>cases ry;exact PySem.EqNone.ne_int_none (aF I q (by simp))
  |int j=>obtain⟨t',rfl⟩:=ry;exact ne_int (aF I q (congrArg not iD))
  |str j=>obtain⟨t',rfl⟩:=ry;exact PySem.EqMixed.ne_int_str (aF I q (by simp))
  |_=>exact absurd (show false=true from hs) kj
 |str i=>
  obtain⟨t,rfl⟩:=rx
  cases y with
  |de=>cases ry;exact PySem.EqNone.ne_str_none (aF I q (by simp))
  |bl j=>cases ry;exact PySem.EqMixed.ne_str_bool (aF I q (by simp))
  |int j=>obtain⟨t',rfl⟩:=ry;exact PySem.EqMixed.ne_str_int (aF I q (by simp))
  |str j=>obtain⟨t',rfl⟩:=ry;exact ne_str (aF I q (congrArg not iE))
  |_=>exact absurd (show false=true from hs) kj
 |Cp i=>
  obtain⟨t,rfl⟩:=rx
  cases y with
  |Cp j=>obtain⟨t',rfl⟩:=ry;exact PySem.W.ne_bytes (aF I q (congrArg not sJ))
  |_=>exact absurd (show false=true from hs) kj
 |_=>cases y<;>exact absurd (show false=true from hs) kj
theorem NN:wz X (compareOp .Lt) (DR λi j=>.bl (decide (i<j))):=J1 λ_ _ _ _ _ _ _ q=>lt_int q
theorem NO:wz X (compareOp .Gt) (DR λi j=>.bl (decide (j<i))):=J1 λ_ _ _ _ _ _ _ q=>gt_int q
theorem NP:wz X (compareOp .GtE) (DR λi j=>.bl (decide (j<=i))):=J1 λ_ _ _ _ _ _ _ q=>ge_int q
theorem wz.or(h:wz X f r)(h':wz X f r'):wz X f (λx y H Q=>r x y H Q\/r' x y H Q):=by
 intro ae s σ H x y v u Q I rx ry q;rcases q with q|q
 ·exact h ae s σ H x y v u Q I rx ry q
 ·exact h' ae s σ H x y v u Q I rx ry q
def J3(K:PySem.W.Frag)(x:V)(H:Hp)(k:Bool):Prop:=
 match x with
 |.de=>k=false
 |.bl b=>k=b
 |.int i=>k=(i !=0)
 |.str y=>y.length<=sizeLine/\k=((y.length:Int) !=0)
 |.Cp y=>y.size<=sizeLine/\k=((y.size:Int) !=0)
 |.ref p=>(∃xs,lj K H p xs/\k=!xs.isEmpty)\/(∃xs,nv K H p xs/\k=!xs.isEmpty)\/∃kvs,H p=some (.dK kvs)/\k=!kvs.isEmpty
 |_=>False
theorem qG{κ:Type}{kvs:List (κ×V)}{vs:List (κ×Value)}(r:KV kvs vs):(!vs.isEmpty)=!kvs.isEmpty:=by
 cases r<;>rfl
theorem iY(r:dj xs its):(!its.toArray.isEmpty)=!xs.isEmpty:=by
 cases r<;>simp
theorem w_:(sizeLine:Nat)<2^63:=by rw[sizeLine_eq];decide
theorem J4:Rv X (λx H Q=>∃k,J3 X.K x H k/\Q k H):=by
 intro ae s σ H x v Q I rx h;obtain⟨k,e,q⟩:=h;have hl:=w_;have hs:sizeLine=16777216:=sizeLine_eq
 cases x with
 |de=>
  cases rx;have e':k=false:=e;subst e';exact truthy_none ⟨H,I,q⟩
 |bl b=>
  cases rx;have e':k=b:=e;subst e';exact wpAny_truthy_bool ⟨H,I,q⟩
 |int i=>
  obtain⟨t,rfl⟩:=rx;have e':k=(i !=0):=e;subst e';exact PySem.P.truthy_int ⟨H,I,q⟩
 |str y=>
  obtain⟨t,rfl⟩:=rx;obtain⟨hy,e'⟩:y.length<=sizeLine/\k=((y.length:Int) !=0):=e;subst e';exact PySem.P.truthy_str (by omega) ⟨H,I.tok _,q⟩
 |Cp y=>
  obtain⟨t,rfl⟩:=rx;obtain⟨hy,e'⟩:y.size<=sizeLine/\k=((y.size:Int) !=0):=e;subst e';exact PySem.W.truthy_bytes (by omega) ⟨H,I.tok _,q⟩
 |ref p=>
  cases rx;have e':(∃xs,lj X.K H p xs/\k=!xs.isEmpty)\/(∃xs,nv X.K H p xs/\k=!xs.isEmpty)\/∃kvs,H p=some (.dK kvs)/\k=!kvs.isEmpty:=e;rcases e' with⟨xs,hx,e'⟩|⟨xs,hx,e'⟩|⟨kvs,hx,e'⟩
  ·subst e'
   obtain⟨its,r,pl,hz⟩:=I.list hx;have di:=r.length;exact wpAny_truthy_list pl.isList (by simp only[uq];omega) ⟨H,I.tok _,by rw[iY r];exact q⟩
  ·subst e'
   obtain⟨its,r,pl,hz⟩:=I.tuple hx;have di:=r.length;exact truthy_tuple pl (by simp only[uq];omega) ⟨H,I.tok _,by rw[iY r];exact q⟩
  ·subst e'
   obtain⟨hz,hS,vs,r,m⟩:kvs.length<=sizeLine/\(p==sysModules)=false/\∃vs,KV kvs vs/\s.heap.DictOf (fu X.prog X.w) p vs:=I.fo p _ hx;have di:kvs.length=vs.length:=Paired.length r;exact wpAny_truthy_dict hS m (by omega) ⟨H,I.tok _,by rw[qG r];exact q⟩
 |_=>exact(show False from e).elim
theorem wJ(ha:PE X a ta)(he:∀whole,isTrue a X.env whole=(do let v←whole;standAt a.pos;holding [v] (truthy v))):
  PT X a (λσ H Q=>ta σ H λx H'=>∃k,J3 X.K x H' k/\Q k H'):=by
 intro ae s σ H Q I h;exact isTrue_plain (ij (ha ae s σ H _ I h) λv s1 ⟨x,H1,I1,r1,q1⟩=>J4 ae s1 σ H1 x v Q I1 r1 q1) (he _)
theorem vals1(r:dj [x] us):∃u,us=[u]/\cm x u:=by
 cases r with
 |cons r1 r2=>cases r2;exact⟨_,rfl,r1⟩
theorem vals2(r:dj [x,y] us):∃u w',us=[u,w']/\cm x u/\cm y w':=by
 cases r with
 |cons r1 r2=>
  cases r2 with
  |cons r3 r4=>cases r4;exact⟨_,_,rfl,r1,r3⟩
theorem uK(hc:X.calm=true):qh X (.builtin "max") (λxs H Q=>∃i j,xs=[.int i,.int j]/\Q (.int (if j>i then j else i)) H):=by
 intro ae s σ H xs us Q I r h;obtain⟨i,j,rfl,q⟩:=h;obtain⟨u,w',rfl,⟨t,rfl⟩,⟨t',rfl⟩⟩:=vals2 r;refine max_two_ints (I.ok.hd hc) λh' tk k=>⟨_,H,I.kept k,?_,q⟩
 by_cases hj:j>i
 ·rw[bg hj,bg hj];exact⟨_,rfl⟩
 ·rw[bh hj,bh hj];exact⟨_,rfl⟩
end
theorem yb.some_of(r:yb (some v) o):∃u,o=some u/\cm v u:=by
 cases o with
 |none=>exact(show False from r).elim
 |some u=>exact⟨u,rfl,r⟩
structure mf(k:Nat)(A:Around):Prop where
 hd:A.handled=none
 dp:A.depth+3*k+5<recursionLimit
 un:A.units+16*k+200<cLine
theorem mf.mono(r:mf k A)(h:j<=k):mf j A:=⟨r.hd,by have:=r.dp;omega,by have:=r.un;omega⟩
theorem mf.deeper(r:mf (k+1) A)(env:Env):mf k (A.deeper env):=
 ⟨r.hd,by have:=r.dp;show A.depth+1+3*k+5<_;omega,by have:=r.un;show A.units+3+16*k+200<_;omega⟩
theorem mf.depth(r:mf k A):A.depth<recursionLimit:=by have:=r.dp;omega
theorem mf.units(r:mf k A):A.units+64<cLine:=by have:=r.un;omega
noncomputable def vv:TA:=λ_ H Q=>Q [] H
noncomputable def ny(ta:TE)(tr:TA):TA:=λσ H Q=>ta σ H λx H1=>tr σ H1 λxs H2=>Q (x::xs) H2
section
variable{X:Cx}{e:Expr}{es:List Expr}{te:TE}{t:TA}{pos:Pos}
theorem mh:PA X [] vv:=λ_ _ _ _ H Q I h=>Calls.spliced_nil ⟨[],H,I,.nil,h⟩
theorem gz(ha:PE X e te)(hr:PA X es t)(hs:starEach (e::es) X.env=(false,eval e X.env)::starEach es X.env:=by rfl):PA X (e::es) (ny te t):=by
 intro pos ae s σ H Q I h;rw[hs];show wpAny _ _ (spliced ((false,eval e X.env)::backTo pos (starEach es X.env))) _ _ s;refine Calls.spliced_cons (ij (ha ae s σ H _ I h) λu s1 ⟨x,H1,I1,r1,q1⟩=>?_);exact ij (hr pos ae s1 σ H1 _ I1 q1) λus s2 ⟨xs,H2,I2,r2,q2⟩=>⟨x::xs,H2,I2,.cons r1 r2,q2⟩
noncomputable def Rz(t:TA):TE:=λσ H Q=>t σ H λxs H1=>xs.length<=sizeLine/\∀p,H1 p=none->Q (.ref p) (upd H1 p (.ar xs))
noncomputable def RA(t:TA):TE:=λσ H Q=>t σ H λxs H1=>xs.length<=sizeLine/\∀p,H1 p=none->Q (.ref p) (upd H1 p (.ak xs))
theorem J5{x1}(h:PA X es t):PE X (.Tuple es x1 pos) (Rz t):=by
 intro ae s σ H Q I hq;refine wpAny_Tuple_spliced (ij (h pos ae s σ H _ I hq) λus s1 ⟨xs,H1,I1,r,z,q⟩=>⟨by rw[←r.length];exact z,?_⟩);have hf:H1 s1.heap.objs.size=none:=I1.fo.fresh (ji _);refine⟨.ref s1.heap.objs.size,upd H1 s1.heap.objs.size (.ar xs),I1.laid (t':=s1.toks) (λb u e=>qm _ e) (ji _) ?_,rfl,q _ hf⟩;exact⟨z,us,r,⟨_,BU _ rfl,rfl,_,rfl⟩⟩
theorem J6(h:PA X es t):PE X (.List es pos) (RA t):=by
 intro ae s σ H Q I hq;refine wpAny_List_spliced (ij (h pos ae s σ H _ I hq) λus s1 ⟨xs,H1,I1,r,z,q⟩=>⟨by rw[←r.length];exact z,?_⟩);have hf:H1 s1.heap.objs.size=none:=I1.fo.fresh (ji _);refine⟨.ref s1.heap.objs.size,upd H1 s1.heap.objs.size (.ak xs),I1.laid (t':=s1.toks) (λb u e=>qm _ e) (ji _) ?_,rfl,q _ hf⟩;exact⟨z,us,0,r,BU _ rfl⟩
end
noncomputable abbrev Sp:=List V->Hp->VK->XK->Prop
noncomputable abbrev MX:=List Env->Hp->Shared->XK->Value->Shared->Prop
structure FO(P:Program)(w:World)(K:PySem.W.Frag)(mg:Str->Option Value)(base:Heap)(A:Around)(outer:List Env)(s:Shared)(H:Hp):Prop where
 frames:A.frames=some outer
 mod:Mod K mg base
 bs:∀b o,base.get? b=some o->s.heap.get? b=some o/\H b=none
 DN:base.objs.size<=s.heap.objs.size
 vq:s.heap.FunFrames base outer
 Fu:∀b∈ki outer,H b=none
 fo:qg P w H s.heap
 bare:AllBare s.gens
def CE(outer:List Env)(P:Program)(w:World)(H:Hp)(s:Shared)(Q:VK)(u:Value)(s':Shared):Prop:=
 ∃v H',s'.os=s.os/\AllBare s'.gens/\Un (ki outer) [] H H' s.heap s'.heap/\qg P w H' s'.heap/\cm v u/\Q v H'
def CR(CX:MX)(outer:List Env)(P:Program)(w:World)(H:Hp)(s:Shared)(Q:VK)(E:XK)(r:Result)(s':Shared):Prop:=
 match r with
 |.ok (.ret u)=>CE outer P w H s Q u s'
 |.ok _=>False
 |.error e=>CX outer H s E e s'
structure u_(P:Program)(w:World)(K:PySem.W.Frag)(mg:Str->Option Value)(base:Heap)(CX:MX)(k:Nat)(f:Addr)(fd:FuncData)(ps:List Str)(sp:Sp):Prop where
 len:∀vs H Q E,sp vs H Q E->vs.length=ps.length
 run:∀(A:Around)(outer:List Env)(s:Shared)(H:Hp)(args:Args)(us:List Value)(vs:List V)(Q:VK)(E:XK),mf k A->FO P w K mg base A outer s H->BindsTo s fd args (ps.zip us)->dj vs us->sp vs H Q E->
  codeAny (model P w) A (.call (.ref f) args) (CR CX outer P w H s Q E) s
section
variable{X:Cx}{ae:List (Addr×Obj)}{σ:St}{H:Hp}{s s':Shared}
theorem bj.RB(I:bj X ae σ H s):FO X.prog X.w X.K X.mg X.base X.A X.stack s H:=
 ⟨I.ok.frames,I.ok.mod,I.bs,rm I.ok.DN I.sz,I.stack,I.vt,I.fo,I.bare⟩
theorem bj.after(I:bj X ae σ H s)(h:CE X.stack X.prog X.w H s Q u s'):EP X ae σ Q u s':=by
 obtain⟨v,H',os,bare,un,fo,r,q⟩:=h;obtain⟨hh,g,d,t,UQ⟩:=s';obtain rfl:UQ=s.os:=os;exact⟨v,H',I.call (h':=hh) (g':=g) (d':=d) (t':=t) (ch:=[]) un fo bare (λb z=>absurd z (by simp)),r,q⟩
end
def Binds(K:PySem.W.Frag)(fd:FuncData)(ps:List Str)(ds:List Value):Prop:=
 ∀(s:Shared)(us:List Value),K.In s.heap->(us++ds).length=ps.length->BindsTo s fd ⟨us,[]⟩ (ps.zip (us++ds))
theorem Binds.all{K:PySem.W.Frag}(h:∀us:List Value,us.length=ps.length->bindArgs fd ⟨us,[]⟩=pure (ps.zip us)):Binds K fd ps []:=λs us _ hl=>by
 rw[A_] at hl⊢;exact .of_eq (h us hl)
structure vw(N P:List Str)(sc:Scope):Prop where
 kind:sc.kind=.function
 co:sc.isCoroutine=false
 gen:sc.isGenerator=false
 nd:N.Nodup
 pre:N.take P.length=P
 par:∀x∈P,sc.names.lookup x=some .local\/sc.names.lookup x=some .cell
 J7:∀y∈sc.names,y.2≠.free
theorem kS{kindOf:Str->Option NameKind}:∀{binds:List (Str×Value)}{m:Str->Option Value},(∀v,(x,v)∉binds)->bindL kindOf binds m x=m x
 |[],_,_=>rfl
 |(n,v)::r,m,h=>by
  unfold bindL;rw[kS λw hw=>h w (rk _ hw)];split
  ·have:x≠n:=by rintro rfl;exact h v wo
   simp[this]
  ·rfl
theorem kT{kindOf:Str->Option NameKind}:∀{binds:List (Str×Value)}{m:Str->Option Value},(∀v,(x,v)∉binds)->bindC kindOf binds m x=m x
 |[],_,_=>rfl
 |(n,v)::r,m,h=>by
  unfold bindC;rw[kT λw hw=>h w (rk _ hw)];split
  ·rfl
  ·have:x≠n:=by rintro rfl;exact h v wo
   simp[this]
theorem kU{kindOf:Str->Option NameKind}:∀{P:List Str}{vs:List Value}{i:Nat}{m:Str->Option Value},P.Nodup->P[i]?=some x->vs[i]?=some v->kindOf x=some .local->
  bindL kindOf (P.zip vs) m x=some v
 |[],_,_,_,_,h,_,_=>by simp at h
 |_::_,[],_,_,_,_,h,_=>by simp at h
 |p::P,w::vs,0,m,nd,h1,h2,hk=>by
  simp at h1 h2;subst h1;subst h2;show bindL kindOf ((p,w)::P.zip vs) m p=_;unfold bindL;rw[kS λv hv=>(List.nodup_cons.mp nd).1 (List.of_mem_zip hv).1,bg hk];simp
 |p::P,w::vs,i+1,m,nd,h1,h2,hk=>by
  show bindL kindOf ((p,w)::P.zip vs) m x=_;unfold bindL;exact kU (i:=i) (List.nodup_cons.mp nd).2 (by simpa using h1) (by simpa using h2) hk
theorem kW{kindOf:Str->Option NameKind}:∀{P:List Str}{vs:List Value}{i:Nat}{m:Str->Option Value},P.Nodup->P[i]?=some x->vs[i]?=some v->kindOf x≠some .local->
  bindC kindOf (P.zip vs) m x=some v
 |[],_,_,_,_,h,_,_=>by simp at h
 |_::_,[],_,_,_,_,h,_=>by simp at h
 |p::P,w::vs,0,m,nd,h1,h2,hk=>by
  simp at h1 h2;subst h1;subst h2;show bindC kindOf ((p,w)::P.zip vs) m p=_;unfold bindC;rw[kT λv hv=>(List.nodup_cons.mp nd).1 (List.of_mem_zip hv).1,bh hk];simp
 |p::P,w::vs,i+1,m,nd,h1,h2,hk=>by
  show bindC kindOf ((p,w)::P.zip vs) m x=_;unfold bindC;exact kW (i:=i) (List.nodup_cons.mp nd).2 (by simpa using h1) (by simpa using h2) hk
noncomputable def start(N:List Str)(vs:List V):St:=vs.map some++List.replicate (N.length-vs.length) none
noncomputable def yc(CX:MX)(P:Program)(w:World)(K:PySem.W.Frag)(mg:Str->Option Value)(base:Heap)(N:List Str)(qual:Str)(scope:Scope)(f:Addr)(cd:Value)(A:Around)(outer:List Env)(s:Shared)(H:Hp)(E:XK):Cx where
 prog:=P
 w:=w
 K:=K
 mg:=mg
 base:=base
 A:=A.deeper (envOfC qual scope s.heap.objs.size f cd)
 N:=N
 fv:=s
 bx:=H
 env:=envOfC qual scope s.heap.objs.size f cd
 outer:=outer
 stack:=envOfC qual scope s.heap.objs.size f cd::outer
 ex:=[]
 calm:=true
 fn:=λ_=>true
 pn:=[]
 xe:=λe s'=>wpAny (model P w) (A.deeper (envOfC qual scope s.heap.objs.size f cd)) (leaving (envOfC qual scope s.heap.objs.size f cd) e) (λ_ J8=>CX outer H s E e J8) (λe' J8=>CX outer H s E e' J8) s'
theorem n8{sc:Scope}(h:sc.names.lookup x=some .cell):∃c,(cellsFrom n sc.names []).lookup x=some c:=by
 have q:=PySem.W.cellsFrom_some sc.names n [] (.inl h);exact Option.isSome_iff_exists.mp q
theorem uL{K:PySem.W.Frag}
  (S:vw N ps scope) (hd:A.handled=none) (e0:FO P w K mg base A outer s H) (hl:vs.length=ps.length) (r:dj vs us)
  (x:InCallC s s.heap.objs.size (bindL (envOfC qual scope s.heap.objs.size f cd).kindOf (ps.zip us) λ_=>none) (cellsFrom (s.heap.objs.size+1) scope.names []) (bindC (envOfC qual scope s.heap.objs.size f cd).kindOf (ps.zip us) λ_=>none) s1):
  bj (yc CX P w K mg base N qual scope f cd A outer s H E) [] (start N vs) H s1:=by
 have Ah:ps.length<=N.length:=by have:=congrArg List.length S.pre;rw[Be] at this;omega
 obtain⟨h1,tk,rfl,hk⟩:=x.done;have NQ:∀b:Addr,b∉(yc CX P w K mg base N qual scope f cd A outer s H E).ex:=λb z=>absurd (show b∈([]:List Addr) from z) (by simp);refine⟨⟨e0.mod,S.kind,rfl,rfl,ji _,λy z c h1 h2=>?_,λy hy=>?_,λy c _ h=>?_,λ_=>hd,Around.frames_deeper e0.frames,.inr ⟨rfl,rfl⟩,λb z=>absurd z (NQ b),e0.bs,e0.DN,λb _ _=>NQ b,λb z=>absurd z (NQ b),e0.vq,e0.Fu⟩,
  rfl,e0.bare,Un.kept hk,⟨_,x.toInCall.ns,λi y v h1 h2 h3=>?_⟩,λy c h=>⟨_,x.cell y c h⟩,e0.fo.fresh (ji _),λy c h=>?_,λp hp=>absurd (show p∈([]:List (Addr×Obj)) from hp) (by simp),e0.fo.kept hk,?_⟩
 ·exact name_of_addr x.apart (Fd h1) (Fd h2)
 ·have hy:scope.names.lookup y=some .cell\/scope.names.lookup y=some .free:=hy
  rcases hy with hy|hy
  ·exact n8 hy
  ·exact absurd rfl (S.J7 _ (Fd hy))
 ·exact DL (x.above y c (Fd h))
 ·have hi:i<vs.length:=by
   unfold start at h2;by_cases hi:i<vs.length
   ·exact hi
   ·rw[DE (by simpa using hi)] at h2
    rw[Ig] at h2;split at h2<;>cases h2
  have ha:vs[i]?=some v:=by
   unfold start at h2;rw[DF (by simpa using hi),A9] at h2
   cases e:vs[i]? with
   |none=>rw[e] at h2;cases h2
   |some a=>rw[e] at h2;cases h2;rfl
  obtain⟨u,hu,rv⟩:=r.get ha;have hp:ps[i]?=some y:=by
   rw[←S.pre,List.getElem?_take_of_lt (by omega)];exact h1
  have Ti:ps.Nodup:=by rw[←S.pre];exact S.nd.sublist (List.take_sublist _ _)
  refine⟨u,rv,?_⟩;rcases S.par y (MS hp) with k|k
  ·exact .inl ⟨k,kU Ti hp hu k⟩
  ·obtain⟨c,e⟩:=n8 (n:=s.heap.objs.size+1) k
   refine .inr ⟨.inl k,c,e,?_⟩;have q:=x.cell y c e;rw[kW Ti hp hu (by show scope.names.lookup y≠_;rw[k];decide)] at q;exact q
 ·exact e0.fo.fresh (DL (x.above y c (Fd h)))
 ·unfold start
  show _=N.length;rw[vm,gh,Jq];omega
theorem Iw{K:PySem.W.Frag}{dV kV doc pm yd ct oc:Value}
  (lk:K.lookup f=some ⟨oc,od,.func (PySem.W.fnOf name qual params body scope dV kV doc pm an yd ct),J9⟩) (uj:PySem.W.codeIn K yd qual=true) (S:vw N ps scope)
  (len:∀vs H Q E,sp vs H Q E->vs.length=ps.length)
  (NR:∀(A:Around)(outer:List Env)(s:Shared)(H:Hp)(vs:List V)(Q:VK)(E:XK),mf k (A.deeper (envOfC qual scope s.heap.objs.size f yd))->sp vs H Q E->
   ∃t,BP (yc CX P w K mg base N qual scope f yd A outer s H E) body t/\t {nx:=λ_ H'=>Q .de H',rt:=Q} (start N vs) H):
  u_ P w K mg base CX (k+1) f (PySem.W.fnOf name qual params body scope dV kV doc pm an yd ct) ps sp:=by
 refine⟨len,λA outer s H args us vs Q E hr e0 hb r CV=>?_⟩;have hl:=len _ _ _ _ CV;have KX:K.In s.heap:=e0.mod.AU.keeps λb o e=>(e0.bs b o e).1;have lim:s.heap.NoLimit:=e0.mod.nolimit.keeps λb o e=>(e0.bs b o e).1;have NS:∀y∈ps.zip us,scope.names.lookup y.1=some .local\/(scope.names.lookup y.1=some .cell/\((cellsFrom (s.heap.objs.size+1) scope.names []).lookup y.1).isSome=true):=λ⟨n,v⟩ hy=>by
  rcases S.par n (List.of_mem_zip hy).1 with q|q
  ·exact .inl q
  ·exact .inr ⟨q,PySem.W.cellsFrom_some _ _ _ (.inl q)⟩
 refine codeAny_call_function hr.depth (KX _ _ lk) rfl S.co S.gen rfl (PySem.W.codeRec_of KX uj) (hb _ _ _ _ ?_);refine wpAny_newFunctionEnv_cells S.kind NS λenv he s1 x=>?_;subst he;refine⟨lim.keeps x.toInCall.keep,codeAny_func ?_⟩;obtain⟨t,ht,hq⟩:=NR A outer s H vs Q E (hr.deeper _) CV;have I:bj (yc CX P w K mg base N qual scope f yd A outer s H E) [] (start N vs) H s1:=uL S hr.hd e0 hl r x;refine ur (ht [] s1 (start N vs) H _ I hq) (λfl s' hs=>?_) λe s' hs=>hs;have fin:∀{dk:St}{H':Hp}{v:V}{u:Value},bj (yc CX P w K mg base N qual scope f yd A outer s H E) [] dk H' s'->cm v u->Q v H'->CE outer P w H s Q u s':=
  λ{dk H' v u} J rv q=>⟨v,H',J.os,J.bare,J.base,J.fo,rv,q⟩
 cases fl with
 |ret u=>
  obtain⟨v,dk,H',J,rv,q⟩:=hs;exact fin J rv q
 |next=>
  obtain⟨dk,H',J,q⟩:=hs;exact fin (v:=V.de) (u:=Value.none) J rfl q
 |brk=>
  obtain⟨_,_,_,q⟩:=hs;exact False.elim q
 |cont=>
  obtain⟨_,_,_,q⟩:=hs;exact False.elim q
section
variable{X:Cx}{x:Str}{p pos:Pos}{e:Expr}{es:List Expr}{t:TA}{id T:String}{r:List V->Hp->VK->Prop}
noncomputable def NT(r:List V->Hp->VK->Prop)(t:TA):TE:=λσ H Q=>t σ H λvs H1=>r vs H1 Q
theorem iZ(hc:qh X (.builtin id) r)(hg:Gl X x)(hm:X.mg x=none)(hv:bootBuiltins x=some (.builtin id))(ha:PA X (e::es) t)(hn:x≠"__name__":=by decide)(vx:(x==("__debug__":Str))=false:=by decide)
  (he:starEach (e::es) X.env=(false,eval e X.env)::starEach es X.env:=by rfl) (Ah:(backTo pos (starEach es X.env)).any (·.1)=false:=by rfl):PE X (.Call (.Name x p) (e::es) [] pos) (NT r t):=by
 intro ae s σ H Q I h;refine wpAny_Call_Name_kw (iW I hg hm hv ?_ hn vx);exact PyProof.Rows.callWith_builtin1 (ij (ha pos ae s σ H _ I h) λus s1 ⟨vs,H1,I1,r1,q1⟩=>hc ae s1 σ H1 vs us Q I1 r1 q1) he Ah
theorem kX(hc:qh X (.type T) r)(hg:Gl X x)(hm:X.mg x=none)(hv:bootBuiltins x=some (.type T))(ha:PA X (e::es) t)(hn:x≠"__name__":=by decide)(vx:(x==("__debug__":Str))=false:=by decide)
  (he:starEach (e::es) X.env=(false,eval e X.env)::starEach es X.env:=by rfl) (Ah:(backTo pos (starEach es X.env)).any (·.1)=false:=by rfl):PE X (.Call (.Name x p) (e::es) [] pos) (NT r t):=by
 intro ae s σ H Q I h;refine wpAny_Call_Name_kw (iW I hg hm hv ?_ hn vx);exact PyProof.Rows.callWith_type1 (ij (ha pos ae s σ H _ I h) λus s1 ⟨vs,H1,I1,r1,q1⟩=>hc ae s1 σ H1 vs us Q I1 r1 q1) he Ah
end
section
variable{κ:Type}[DecidableEq κ]
noncomputable def n_(kvs:List (κ×V))(k:κ):Option V:=(kvs.find? λkv=>decide (kv.1=k)).map (·.2)
noncomputable def putK(kvs:List (κ×V))(k:κ)(v:V):List (κ×V):=
 if(kvs.any λkv=>decide (kv.1=k))=true then kvs.map (λkv=>if kv.1=k then(kv.1,v) else kv) else kvs++[(k,v)]
theorem eM{k:κ}(e:p.1=k):n_ (p::r) k=some p.2:=by simp[n_,Il,e]
theorem eO{k:κ}(e:¬p.1=k):n_ (p::r) k=n_ r k:=by simp[n_,Il,e]
theorem n9(k:κ):∀kvs:List (κ×V),(kvs.any λkv=>decide (kv.1=k))=(n_ kvs k).isSome
 |[]=>rfl
 |p::r=>by
  rw[Fp];by_cases e:p.1=k
  ·simp only[eM e,ya e,Bool.true_or,Option.isSome_some]
  ·rw[eO e,wt e,Bool.false_or];exact n9 k r
theorem gP(kvs:List (κ×V))(k:κ)(v:V):(putK kvs k v).length<=kvs.length+1:=by
 unfold putK;split
 ·rw[gh];omega
 ·rw[vm,ja,ou];omega
theorem yb.og(r:yb o u):o.isSome=u.isSome:=by
 cases o with
 |none=>cases u with
  |none=>rfl
  |some _=>exact(show False from r).elim
 |some _=>cases u with
  |none=>exact(show False from r).elim
  |some _=>rfl
theorem yb.getD(r:yb o u)(rd:cm d d'):cm (o.getD d) (u.getD d'):=by
 cases o with
 |none=>cases u with
  |none=>exact rd
  |some _=>exact(show False from r).elim
 |some _=>cases u with
  |none=>exact(show False from r).elim
  |some _=>exact r
theorem KV.val(r:KV kvs vs)(k:κ):yb (n_ kvs k) (valueAt vs k):=by
 unfold KV at r
 induction r with
 |nil=>exact True.intro
 | @cons p q ps qs h t ih=>
  obtain⟨h1,h2⟩:=h;by_cases e:p.1=k
  ·have e':q.1=k:=h1.symm.trans e
   have b:valueAt (q::qs) k=some q.2:=by simp[valueAt,Il,e']
   rw[eM e,b];exact h2
  ·have e':¬q.1=k:=λz=>e (h1.trans z)
   have b:valueAt (q::qs) k=valueAt qs k:=by simp[valueAt,Il,e']
   rw[eO e,b];exact ih
theorem KV.any(r:KV kvs vs)(k:κ):(kvs.any λkv=>decide (kv.1=k))=vs.any λkv=>decide (kv.1=k):=by
 unfold KV at r
 induction r with
 |nil=>rfl
 |cons h t ih=>rw[Fp,Fp,ih,h.1]
theorem KV.J_(r:KV kvs vs)(k:κ)(ry:cm y u):
  KV (kvs.map λkv=>if kv.1=k then(kv.1,y) else kv) (vs.map λkv=>if kv.1=k then(kv.1,u) else kv):=by
 unfold KV at r⊢
 induction r with
 |nil=>exact .nil
 | @cons p q ps qs h t ih=>
  rw[j_,j_];refine .cons ?_ ih;obtain⟨h1,h2⟩:=h;by_cases e:p.1=k
  ·rw[bg e,bg (h1.symm.trans e)];exact⟨h1,ry⟩
  ·rw[bh e,bh (λz=>e (h1.trans z))];exact⟨h1,h2⟩
theorem KV.put(r:KV kvs vs)(k:κ)(ry:cm y u):KV (putK kvs k y) (stored vs k u):=by
 unfold putK stored;rw[r.any k];by_cases e:(vs.any λkv=>decide (kv.1=k))=true
 ·rw[bg e,bg e];exact r.J_ k ry
 ·rw[bh e,bh e];exact Paired.snoc r ⟨rfl,ry⟩
theorem KV.length{vs:List (κ×Value)}(r:KV kvs vs):kvs.length=vs.length:=Paired.length r
end
theorem kY(r:cm (kV k) u):(fu P w).is k u=true:=by
 cases k with
 |inl i=>obtain⟨t,e⟩:=(show∃t,u=Value.int i t from r);subst e;exact nW P w i t
 |inr x=>obtain⟨t,e⟩:=(show∃t,u=Value.str x t from r);subst e;exact nX P w x t
theorem kZ:∀{ks:List Key}{us:List Value},dj (ks.map kV) us->ItemsAre (fu P w) ks us
 |[],_,r=>by rw[A'] at r;cases r;exact .nil
 |k::ks,_,r=>by
  rw[j_] at r
  cases r with
  |cons h t=>exact .cons (kY h) (kZ t)
noncomputable abbrev KT(H:Hp):List (List Key×V)->List (List Key×Addr×Value)->Prop:=Paired λp q=>p.1=q.1/\H q.2.1=some (.ar (p.1.map kV))/\cm p.2 q.2.2
theorem KT.val(r:KT H kvs xs)(k:List Key):yb (n_ kvs k) ((atKey xs k).map (·.2)):=by
 induction r with
 |nil=>exact True.intro
 | @cons p q ps qs h t ih=>
  obtain⟨h1,_,h2⟩:=h;by_cases e:p.1=k
  ·have e':q.1=k:=h1.symm.trans e
   have b:atKey (q::qs) k=some q.2:=by simp[atKey,Il,e']
   rw[eM e,b];exact h2
  ·have e':¬q.1=k:=λz=>e (h1.trans z)
   have b:atKey (q::qs) k=atKey qs k:=by simp[atKey,Il,e']
   rw[eO e,b];exact ih
theorem KT.J_(r:KT H kvs xs)(k:List Key)(ry:cm y u):
  KT H (kvs.map λkv=>if kv.1=k then(kv.1,y) else kv) (xs.map (putAt k u)):=by
 induction r with
 |nil=>exact .nil
 | @cons p q ps qs h t ih=>
  rw[j_,j_];refine .cons ?_ ih;obtain⟨h1,h2,h3⟩:=h;unfold putAt;by_cases e:p.1=k
  ·rw[bg e,bg (h1.symm.trans e)];exact⟨h1,h2,ry⟩
  ·rw[bh e,bh (λz=>e (h1.trans z))];exact⟨h1,h2,h3⟩
theorem KT.put(r:KT H kvs xs)(k:List Key)(hb:H b=some (.ar (k.map kV)))(ry:cm y u):
  KT H (putK kvs k y) (storedH xs k b u):=by
 have e:(kvs.any λkv=>decide (kv.1=k))=(atKey xs k).isSome:=by
  rw[n9,(r.val k).og,Option.isSome_map]
 unfold putK storedH;rw[e];by_cases q:(atKey xs k).isSome=true
 ·rw[bg q,bg q];exact r.J_ k ry
 ·rw[bh q,bh q];exact Paired.snoc r ⟨rfl,hb,ry⟩
theorem KT.keeps(r:KT H kvs xs)(ht:∀b ys,H b=some (.ar ys)->H' b=some (.ar ys)):KT H' kvs xs:=
 Paired.JE r λ_ _ z=>⟨z.1,ht _ _ z.2.1,z.2.2⟩
section
variable{P:Program}{w:World}{H:Hp}{h:Heap}{a:Addr}
theorem Iy(ok:qg P w H h)(e:Rd H a u):jd P w H h a u:=e.ok ok
theorem gQ(ok:qg P w H h)(e:Rd H a (.dK kvs)):kvs.length<=sizeLine/\(a==sysModules)=false/\∃vs,KV kvs vs/\h.DictOf (fu P w) a vs:=
 show jd P w H h a (.dK kvs) from Iy ok e
theorem NU(ok:qg P w H h)(e:H a=some (.dK kvs)):kvs.length<=sizeLine/\(a==sysModules)=false/\∃vs,KV kvs vs/\h.DictOf (fu P w) a vs:=gQ ok (.inl e)
theorem fO(ok:qg P w H h)(e:H a=some (.ar (ks.map kV))):(tupleKind (fu P w)).is h ks a:=by
 obtain⟨_,its,r,o,h1,h2,n,h3⟩:=(show jd P w H h a (.ar (ks.map kV)) from ok a _ e)
 exact⟨o,its.toArray,n,h1,h2,h3,by simpa using kZ r⟩
theorem k7(ok:qg P w H h)(e:Rd H a (.dT kvs)):kvs.length<=sizeLine/\(a==sysModules)=false/\
  ∃xs,KT H kvs xs/\h.DictOfH (tupleKind (fu P w)) a xs:=by
 obtain⟨z,y,xs,r,o,es,ep,h1,h2,h3,h4,h5⟩:=(show jd P w H h a (.dT kvs) from Iy ok e)
 refine⟨z,y,xs,r,o,es,ep,h1,h2,h3,h4,λx hx=>?_,h5⟩;have all:∀{l:List (List Key×V)}{m:List (List Key×Addr×Value)},KT H l m->∀x∈m,(tupleKind (fu P w)).is h x.1 x.2.1:=by
  intro l m q
  induction q with
  |nil=>intro x hx;exact nomatch hx
  | @cons p q ps qs hq t ih=>
   intro x hx;rcases List.mem_cons.mp hx with e|hx
   ·subst e
    exact fO ok (by rw[←hq.1];exact hq.2.1)
   ·exact ih x hx
 exact all r x hx
theorem NV(ok:qg P w H h)(e:H a=some (.dT kvs)):kvs.length<=sizeLine/\(a==sysModules)=false/\
  ∃xs,KT H kvs xs/\h.DictOfH (tupleKind (fu P w)) a xs:=k7 ok (.inl e)
end
def va(H:Hp)(a:Addr)(y:V)(r:Option V):Prop:=
 (∃kvs k,Rd H a (.dK kvs)/\y=kV k/\r=n_ kvs k)\/∃kvs k b,Rd H a (.dT kvs)/\y=.ref b/\H b=some (.ar (k.map kV))/\r=n_ kvs k
def B4(H:Hp)(a:Addr)(y v:V)(H':Hp):Prop:=
 (∃kvs k,H a=some (.dK kvs)/\y=kV k/\kvs.length<sizeLine/\H'=upd H a (.dK (putK kvs k v)))\/
 ∃kvs k b,H a=some (.dT kvs)/\y=.ref b/\H b=some (.ar (k.map kV))/\kvs.length<sizeLine/\H'=upd H a (.dT (putK kvs k v))
theorem va.k{H:Hp}{a:Addr}{kvs:List (Key×V)}{k:Key}(e:H a=some (.dK kvs)):va H a (kV k) (n_ kvs k):=.inl ⟨kvs,k,.inl e,rfl,rfl⟩
theorem B4.k{H:Hp}{a:Addr}{kvs:List (Key×V)}{k:Key}{v:V}(e:H a=some (.dK kvs))(hl:kvs.length<sizeLine):B4 H a (kV k) v (upd H a (.dK (putK kvs k v))):=.inl ⟨kvs,k,e,rfl,hl,rfl⟩
section
variable{X:Cx}{ae:List (Addr×Obj)}{σ:St}{H:Hp}{s:Shared}{a:Addr}{y v:V}{u r:Value}{o:Option V}{A:Around}{E:Value->Shared->Prop}
theorem bj.big(I:bj X ae σ H s):sysModules<s.heap.objs.size:=by
 have h:mainGlobals<s.heap.objs.size:=(I.mod.glob.keeps I.bk).lt;exact CT (by decide) h
theorem uM(hu:A.units+1<cLine)(I:bj X ae σ H s)(g:va H a y (some v))(ry:cm y u)(h:∀w' s',bj X ae σ H s'->cm v w'->Q w' s'):
  wpAny (model X.prog X.w) A (getItem (.ref a) u) Q E s:=by
 rcases g with⟨kvs,k,e,ey,l⟩|⟨kvs,k,b,e,ey,eb,l⟩
 ·subst ey
  obtain⟨z,hd,vs,rel,dd⟩:=gQ I.fo e;obtain⟨w',hw,Ay⟩:=yb.some_of (v:=v) (o:=valueAt vs k) (by rw[l];exact rel.val k);exact wpAny_getItem_of (kY ry) dd.mapOf hw (h w' _ (I.tok _) Ay)
 ·subst ey
  cases (show u=Value.ref b from ry);obtain⟨z,hd,xs,rel,dd⟩:=k7 I.fo e;obtain⟨w',hw,Ay⟩:=yb.some_of (v:=v) (o:=(atKey xs k).map (·.2)) (by rw[l];exact rel.val k);obtain⟨p,hp,RC⟩:=Option.map_eq_some_iff.mp hw;refine wpAny_getItem_heap (tupleKind_room_in1 hu) (fO I.fo eb) dd hp ?_;rw[RC];exact h w' _ (I.tok _) Ay
theorem RD(hu:A.units+1<cLine)(I:bj X ae σ H s)(g:va H a y o)(ry:cm y u)(h:∀s',bj X ae σ H s'->Q (.bool o.isSome) s'):
  wpAny (model X.prog X.w) A (compareOp .In u (.ref a)) Q E s:=by
 rcases g with⟨kvs,k,e,ey,l⟩|⟨kvs,k,b,e,ey,eb,l⟩
 ·subst ey
  obtain⟨z,hd,vs,rel,dd⟩:=gQ I.fo e;refine wpAny_in_of (kY ry) hd dd.mapOf ?_;rw[←(rel.val k).og,←l];exact h _ (I.tok _)
 ·subst ey
  cases (show u=Value.ref b from ry);obtain⟨z,hd,xs,rel,dd⟩:=k7 I.fo e;refine wpAny_in_heap (tupleKind_room_in1 hu) (fO I.fo eb) hd dd ?_;have q:=(rel.val k).og;rw[Option.isSome_map] at q;rw[←q,←l];exact h _ (I.tok _)
theorem FP(hu:A.units+1<cLine)(I:bj X ae σ H s)(g:va H a y o)(ry:cm y u)(h:∀s',bj X ae σ H s'->Q (.bool (!o.isSome)) s'):
  wpAny (model X.prog X.w) A (compareOp .NotIn u (.ref a)) Q E s:=by
 rcases g with⟨kvs,k,e,ey,l⟩|⟨kvs,k,b,e,ey,eb,l⟩
 ·subst ey
  obtain⟨z,hd,vs,rel,dd⟩:=gQ I.fo e;refine wpAny_notIn_of (kY ry) hd dd.mapOf ?_;rw[←(rel.val k).og,←l];exact h _ (I.tok _)
 ·subst ey
  cases (show u=Value.ref b from ry);obtain⟨z,hd,xs,rel,dd⟩:=k7 I.fo e;refine wpAny_notIn_heap (tupleKind_room_in1 hu) (fO I.fo eb) hd dd ?_;have q:=(rel.val k).og;rw[Option.isSome_map] at q;rw[←q,←l];exact h _ (I.tok _)
theorem sK{h':Heap}{t':Nat}{ob:HO}(I:bj X ae σ H s)(mu:Nr (H a))(hs:Heap.SameBut a s.heap h')(he:∃q,h'.get? a=some q)(new:jd X.prog X.w (upd H a ob) h' a ob):
  bj X ae σ (upd H a ob) {s with heap:=h',toks:=t'}:=
 I.write (x:=a) (e:=a) mu (.inl rfl) (λb q hb z=>(hs.2 b hb).trans z) he new
theorem J'(z:kvs.length<=sizeLine)(hd:(a==sysModules)=false)(rel:KV kvs vs)(dd:h'.DictOf (fu P w) a vs):
  jd P w H' h' a (.dK kvs):=⟨z,hd,vs,rel,dd⟩
theorem k8(hu:A.units+1<cLine)(I:bj X ae σ H s)(g:B4 H a y v H')(ry:cm y u)(rv:cm v r)(h:∀s',bj X ae σ H' s'->Q () s'):
  wpAny (model X.prog X.w) A (setItem (.ref a) u r) Q E s:=by
 rcases g with⟨kvs,k,e,ey,l,eH⟩|⟨kvs,k,b,e,ey,eb,l,eH⟩
 ·subst ey eH
  obtain⟨z,hd,vs,rel,dd⟩:=NU I.fo e;have hz:vs.length<=sizeLine:=by rw[←rel.length];exact z
  have hl:(putK kvs k v).length<=sizeLine:=by have:=gP kvs k v;omega
  refine wpAny_setItem_pairs (hsz:=hz) (kY ry) dd λh' Qy hs=>h _ ?_;have he:∃q,h'.get? a=some q:=let⟨q,_,_,hq,_⟩:=Qy;⟨q,hq⟩;exact sK I (by rw[e];exact True.intro) hs he (J' hl hd (rel.put k rv) Qy)
 ·subst ey eH
  cases (show u=Value.ref b from ry);obtain⟨z,hd,xs,rel,dd⟩:=NV I.fo e;have hz:xs.length<=sizeLine:=by rw[←Paired.length rel];exact z
  have hl:(putK kvs k v).length<=sizeLine:=by have:=gP kvs k v;omega
  refine wpAny_setItem_heap (hsz:=hz) (tupleKind_room_in1 hu) (fO I.fo eb) dd λh' Qy hs=>h _ ?_;obtain⟨q,es,ep,hq,h2,h3,h4,_,h5⟩:=Qy;refine sK I (by rw[e];exact True.intro) hs ⟨q,hq⟩ ⟨hl,hd,_,(rel.put k eb rv).keeps λc ys ec=>?_,q,es,ep,hq,h2,h3,h4,h5⟩;rw[aB (Nq ec e (λz=>nomatch z))];exact ec
end
section
variable{X:Cx}{ae:List (Addr×Obj)}{σ:St}{H:Hp}{s:Shared}{a:Addr}{kvs:List (Key×V)}{k:Key}{u:Value}{A:Around}{E:Value->Shared->Prop}
theorem NW(I:bj X ae σ H s)(e:Rd H a (.dK kvs))(h:∀t s',bj X ae σ H s'->Q (.int kvs.length t) s'):wpAny (model X.prog X.w) A (call (.builtin "len") [.ref a]) Q E s:=by
 obtain⟨z,hd,vs,rel,dd⟩:=gQ I.fo e;refine call_len_dict hd dd (by rw[←rel.length];rw[sizeLine_eq] at z;omega) ?_;rw[←rel.length];exact h _ _ (I.tok _)
end
def FQ(i:Expr):Prop:=∀ov iv,subscripted i false ov iv=operate [ov,iv] (getItem ov iv)
theorem FR{T id:String}
  (hl:typeLookup (.type T) "__getitem__"=pure (some (.builtin id))) (hs:FQ slice)
  (h:wpAny (model prog w) A (eval value env) (λo fm=>wpAny (model prog w) A (eval slice env) (λi oz=>oz.TypeIs o T/\wpAny (model prog w) A (getItem o i) Q E oz) E fm) E s):
  wpAny (model prog w) A (eval (.Subscript value slice pos) env) Q E s:=by
 refine Subscript_ (ur h (λo fm jx=>ur jx (λi oz ze=>?_) λ_ _ x=>x) λ_ _ x=>x);obtain⟨hT,ze⟩:=ze;unfold subscriptTail;refine dy ?_;rw[getitemInPython_of_ne hT.not_modules];refine dy (wpAny_specialOf hT hl ?_);have fin:wpAny (model prog w) A (subscripted slice false o i) (λr vy=>wpAny (model prog w) A (letTemporaryGo value o r>>=λ_=>pure r) Q E vy) E oz:=by
  rw[hs o i];exact wpAny_operating (ur ze (λr vy ye=>dy (wpAny_letTemporaryGo (mw ye))) λ_ _ x=>x)
 first
  |exact mw (dy fin)
  |exact dy (mw (dy fin))
  |exact dy fin
theorem oA(I:bj X ae σ H s)(g:va H a y o):s.TypeIs (.ref a) "dict":=by
 rcases g with⟨kvs,k,e,_,_⟩|⟨kvs,k,b,e,_,_,_⟩
 ·obtain⟨_,_,vs,_,dd⟩:=gQ I.fo e
  exact dd.typeIs
 ·obtain⟨_,_,xs,_,dd⟩:=k7 I.fo e
  exact dd.typeIs
noncomputable def NX(td ty:TE):TE:=λσ H Q=>td σ H λx H1=>ty σ H1 λy H2=>∃a v,x=.ref a/\va H2 a y (some v)/\Q v H2
noncomputable def RE(ty td:TE):TE:=λσ H Q=>ty σ H λy H1=>td σ H1 λx H2=>∃a o,x=.ref a/\va H2 a y o/\Q (.bl o.isSome) H2
noncomputable def FU(ty td:TE):TE:=λσ H Q=>ty σ H λy H1=>td σ H1 λx H2=>∃a o,x=.ref a/\va H2 a y o/\Q (.bl (!o.isSome)) H2
noncomputable def NY(td ty tv:TE):TS:=λD σ H=>tv σ H λv H1=>td σ H1 λx H2=>ty σ H2 λy H3=>∃a H4,x=.ref a/\B4 H3 a y v H4/\D.nx σ H4
section
variable{X:Cx}{o i e value:Expr}{pos pos' FV:Pos}{td ty tv:TE}
theorem FW(hu:X.A.units+1<cLine)(ho:PE X o td)(hi:PE X i ty)(hs:FQ i):PE X (.Subscript o i pos) (NX td ty):=by
 intro ae s σ H Q I h;refine FR PySem.F.slot_dict_getitem.lookup hs (ij (ho ae s σ H _ I h) λu s1 ⟨x,H1,I1,rx,q1⟩=>ij (hi ae s1 σ H1 _ I1 q1) λiv s2 ⟨y,H2,I2,ry,a,v,ex,g,q2⟩=>?_);subst ex;obtain rfl:u=Value.ref a:=rx;exact⟨oA I2 g,uM hu I2 g ry λw' s3 I3 Ay=>⟨v,H2,I3,Ay,q2⟩⟩
theorem Ka(hu:X.A.units+1<cLine)(hi:PE X i ty)(ho:PE X o td):PC X .In i o (RE ty td):=by
 intro ae s σ H Q I h;refine ij (hi ae s σ H _ I h) λiv s1 ⟨y,H1,I1,ry,q1⟩=>ij (ho ae s1 σ H1 _ I1 q1) λu s2 ⟨x,H2,I2,rx,a,ov,ex,g,q2⟩=>?_;subst ex;obtain rfl:u=Value.ref a:=rx;exact RD hu I2 g ry λs3 I3=>⟨.bl ov.isSome,H2,I3,rfl,q2⟩
theorem uN(hu:X.A.units+1<cLine)(hi:PE X i ty)(ho:PE X o td):PC X .NotIn i o (FU ty td):=by
 intro ae s σ H Q I h;refine ij (hi ae s σ H _ I h) λiv s1 ⟨y,H1,I1,ry,q1⟩=>ij (ho ae s1 σ H1 _ I1 q1) λu s2 ⟨x,H2,I2,rx,a,ov,ex,g,q2⟩=>?_;subst ex;obtain rfl:u=Value.ref a:=rx;exact FP hu I2 g ry λs3 I3=>⟨.bl (!ov.isSome),H2,I3,rfl,q2⟩
theorem FY(hu:X.A.units+1<cLine)(ho:PE X o td)(hi:PE X i ty)(hv:PE X value tv)(hs:swapsWith value (some (.Subscript o i pos')) pos.line X.env=pure false):
  PS X (.Assign [.Subscript o i pos'] value pos) (NY td ty tv):=by
 intro ae s σ H D I h;refine wpAny_Assign_Subscript (ij (hv ae s σ H _ I h) λr s1 ⟨v,H1,I1,rv,q1⟩=>ij (ho ae s1 σ H1 _ I1 q1) λu s2 ⟨x,H2,I2,rx,q2⟩=>ij (hi ae s2 σ H2 _ I2 q2) λiv s3 ⟨y,H3,I3,ry,a,H4,ex,g,q3⟩=>?_) hs;subst ex;obtain rfl:u=Value.ref a:=rx;exact k8 hu I3 g ry rv λs4 I4=>⟨σ,H4,I4,q3⟩
end
theorem wK(h:Heap)(hb:sysModules<h.objs.size):jd P w H (h.push {cls:=.type "dict",data:=.dict #[]}) h.objs.size (.dK []):=
 ⟨E3 _,beq_eq_false_iff_ne.mpr (kg (Af hb)),[],.nil,Heap.DictOf.new h⟩
noncomputable def Kb:TE:=λ_ H Q=>∀p,H p=none->Q (.ref p) (upd H p (.dK []))
section
variable{X:Cx}{pos:Pos}
theorem wL:PE X (.Dict [] [] pos) Kb:=λae s σ H Q I h=>
 wpAny_Dict_empty ⟨.ref s.heap.objs.size,_,I.laid (a:=s.heap.objs.size) (o:=.dK []) (t':=s.toks) (λ_ _ q=>qm _ q) (ji _) (wK s.heap I.big),rfl,h _ (I.fo.fresh (ji _))⟩
end
section
variable{X:Cx}{ae:List (Addr×Obj)}{σ:St}{H:Hp}{s:Shared}{a:Addr}{y d:V}{u r:Value}{o:Option V}{A:Around}{E:Value->Shared->Prop}
theorem Kc(hu:A.units+1<cLine)(I:bj X ae σ H s)(g:va H a y o)(ry:cm y u)(rd:cm d r)(h:∀w' s',bj X ae σ H s'->cm (o.getD d) w'->Q w' s'):
  wpAny (model X.prog X.w) A (call (.builtin "dict.get") [.ref a,u,r]) Q E s:=by
 rcases g with⟨kvs,k,e,ey,l⟩|⟨kvs,k,b,e,ey,eb,l⟩
 ·subst ey
  obtain⟨z,hd,vs,rel,dd⟩:=gQ I.fo e;refine call_meetsIn PySem.F.slot_dict_get dd.typeIs PySem.F.entry_dict_get (PySem.F.args_dict_get_3 _ _ _) (meets_dict_get_default (fu X.prog X.w) a (kY ry) hd r) ⟨_,dd.mapOf,h _ _ (I.tok _) ?_⟩;rw[l];exact(rel.val k).getD rd
 ·subst ey
  cases (show u=Value.ref b from ry);obtain⟨z,hd,xs,rel,dd⟩:=k7 I.fo e;refine call_meetsIn PySem.F.slot_dict_get dd.typeIs PySem.F.entry_dict_get (PySem.F.args_dict_get_3 _ _ _) (meetsH_dict_get_default (tupleKind (fu X.prog X.w)) a b hd r) ⟨tupleKind_room_in1 hu,k,xs,fO I.fo eb,dd,h _ _ (I.tok _) ?_⟩;rw[l];exact(rel.val k).getD rd
end
end L2
namespace HT
open PySem PyProof.Rows
section
variable{prog:Program}{w:World}{A:Around}{E:Value->Shared->Prop}{s:Shared}
theorem FZ(ht:IsTup s.heap t vs.toArray)(hb:IsTup s.heap b ws.toArray)(hv:vs≠[])
  (h1:ws=[]->Q (.ref t) s) (h2:ws≠[]->Q (.ref s.heap.objs.size) {s with heap:=s.heap.push {cls:=.type "tuple",data:=.seq (vs++ws).toArray}})
  (hsz:vs.length+ws.length<=sizeLine):wpAny (model prog w) A (binaryOp .Add (.ref t) (.ref b)) Q E s:=by
 obtain⟨⟨cls,dd,data,sl⟩,ho,hc,n,hd⟩:=id ht;obtain⟨⟨RF,Qz,data2,QA⟩,Kd,Ds,n2,hd2⟩:=id hb;simp only at hc hd Ds hd2;subst hc hd Ds hd2;have e:vs.toArray++ws.toArray=(vs++ws).toArray:=by simp
 by_cases hw:ws=[]
 ·exact concat_meets ⟨_,ho,rfl⟩ ⟨_,Kd,rfl⟩ noFill_tuple_add seq_tuple_add PySem.F.slot_tuple_add PySem.F.entry_tuple_add (PySem.F.args_tuple_add_2 _ _)
   (tuple_addW1 t b vs.toArray ws.toArray n n2 dd Qz sl QA (by simpa using hv) (by simp[hw])) ⟨ho,Kd,h1 hw⟩
 ·refine concat_meets ⟨_,ho,rfl⟩ ⟨_,Kd,rfl⟩ noFill_tuple_add seq_tuple_add PySem.F.slot_tuple_add PySem.F.entry_tuple_add (PySem.F.args_tuple_add_2 _ _)
   (tuple_addW2 t b vs.toArray ws.toArray n n2 dd Qz sl QA (by simpa using hv) (by simpa using hw) (by rw[uq,uq];exact hsz)) ⟨ho,Kd,?_⟩
  rw[e];exact h2 hw
noncomputable def gj(n d:Nat):Option Int->Nat
 |none=>d
 |some v=>if v<0 then(v+(n:Int)).toNat else min v.toNat n
theorem DS(n d:Nat):gj n d none=d:=rfl
theorem F7(n d k:Nat):gj n d (some (k:Int))=min k n:=by
 show(if(k:Int)<0 then((k:Int)+(n:Int)).toNat else min (k:Int).toNat n)=min k n;rw[bh (by omega),BO]
theorem DT(n d:Nat)(hd:d<=n)(o:Option Int):gj n d o<=n:=by
 cases o with
 |none=>exact hd
 |some v=>
  show(if v<0 then(v+(n:Int)).toNat else min v.toNat n)<=n;by_cases hv:v<0
  ·rw[bg hv];omega
  ·rw[bh hv];exact Nat.min_le_right _ _
theorem sL(v:Int)(n d:Nat):(if v<0 then max (v+(n:Int)) 0 else min v (n:Int))=((gj n d (some v):Nat):Int):=by
 show(if v<0 then max (v+(n:Int)) 0 else min v (n:Int))=(((if v<0 then(v+(n:Int)).toNat else min v.toNat n):Nat):Int)
 by_cases hv:v<0
 ·simp only[bg hv];omega
 ·simp only[bh hv];omega
theorem qH(lo hi:Option Int)(n:Nat):Builtin.Slice.sliceAdjust lo hi 1 (n:Int)=(((gj n 0 lo:Nat):Int),((gj n n hi:Nat):Int)):=by
 have h1:¬((1:Int)<0):=by omega
 unfold Builtin.Slice.sliceAdjust;simp only[h1,dq];refine Prod.ext ?_ ?_
 ·cases lo with
  |none=>rfl
  |some v=>exact sL v n 0
 ·cases hi with
  |none=>rfl
  |some v=>exact sL v n n
theorem qI(i j:Nat):Builtin.Slice.slicePlaces (i:Int) (j:Int) 1=j-i:=by
 unfold Builtin.Slice.slicePlaces;have h1:(1:Int)>0:=by omega
 simp only[h1,cw,Int.ediv_one];split<;>omega
theorem i6(p:IsPart v o)(h:Q o s):wpAny (model prog w) A (Builtin.Slice.slicePartIndex v) Q E s:=by
 cases p with
 |none=>exact slicePart_none h
 |int i t=>exact slicePart_int h
theorem oh{lo hi:Option Int}{Q:Int×Int×Nat->Shared->Prop}(hs:s.heap.IsSliceOf sl vl vu .none)(pl:IsPart vl lo)(pu:IsPart vu hi)
  (h:Q (((gj n 0 lo:Nat):Int),1,gj n n hi-gj n 0 lo) s):wpAny (model prog w) A (Builtin.Slice.sliceApplied (.ref sl) (pure (n:Int))) Q E s:=by
 obtain⟨os,Ke,Iz,F8⟩:=id hs;unfold Builtin.Slice.sliceApplied Builtin.Slice.sliceFields;refine dy (dy (xl Ke F8 (x:=vl) rfl (dy (xl Ke F8 (x:=vu) rfl (dy (xl Ke F8 (x:=.none) rfl (mw ?_)))))));refine dy (slicePart_none ?_);show wpAny _ _ (if((1:Int)==0)=true then _ else _) _ _ s;rw[bh (by decide)];refine dy (i6 pl (dy (i6 pu (dy (mw ?_)))));show wpAny _ _ (match Builtin.Slice.sliceAdjust lo hi 1 (n:Int) with|(lo,hi)=>pure (lo,(1:Int),Builtin.Slice.slicePlaces lo hi 1)) _ _ s;rw[qH lo hi n];show wpAny _ _ (pure (((gj n 0 lo:Nat):Int),(1:Int),Builtin.Slice.slicePlaces ((gj n 0 lo:Nat):Int) ((gj n n hi:Nat):Int) 1)) _ _ s;rw[qI];exact mw h
theorem wM(xs:Array Value)(i k:Nat):((List.range k).filterMap λ(m:Nat)=>xs[((i:Int)+(m:Int)*1).toNat]?).toArray=((xs.toList.drop i).take k).toArray:=by
 have e:(λ(m:Nat)=>xs[((i:Int)+(m:Int)*1).toNat]?)=λm=>xs[i+m]?:=by
  funext m;have:((i:Int)+(m:Int)*1).toNat=i+m:=by omega
  rw[this]
 rw[e];have:=pick_run xs i k;rw[List.filterMap_map] at this;have e2:((λx=>xs[x]?)∘λx=>i+x)=λm=>xs[i+m]?:=rfl;rw[e2] at this;rw[this]
theorem vz{lo hi:Option Int}(ht:IsTup s.heap t items)(hs:s.heap.IsSliceOf sl vl vu .none)(pl:IsPart vl lo)(pu:IsPart vu hi)
  (hw:¬(gj items.size 0 lo=0/\gj items.size items.size hi=items.size))
  (h:Q (.ref s.heap.objs.size) {s with heap:=s.heap.push {cls:=.type "tuple",data:=.seq ((items.toList.drop (gj items.size 0 lo)).take (gj items.size items.size hi-gj items.size 0 lo)).toArray}})
  (hsz:items.size<=sizeLine):wpAny (model prog w) A (getItem (.ref t) (.ref sl)) Q E s:=by
 have Cu:sizeOk (.seq ((items.toList.drop (gj items.size 0 lo)).take (gj items.size items.size hi-gj items.size 0 lo)).toArray):=by
  show((items.toList.drop (gj items.size 0 lo)).take (gj items.size items.size hi-gj items.size 0 lo)).toArray.size<=sizeLine;rw[uq,Be,Ik,Array.length_toList];omega
 have hj:gj items.size items.size hi<=items.size:=DT _ _ (ji _) hi;obtain⟨os,Ke,Iz,F8⟩:=id hs;have RG:s.TypeIs (.ref sl) "slice":=⟨os,Ke,Iz⟩
 unfold getItem
 try with_reducible refine wpAny_holding ?_
 first|refine dy (mw ?_)|skip
 refine dy (wpAny_sequenceKey ht.typeIs (by decide) ?_);refine dy (MQ (name:=Str.ofString "__getitem__") ht.typeIs PyProof.Rows.slot_tuple_getitem
  (Jv PyProof.Rows.slot_tuple_getitem ht.typeIs entry_tuple_getitem ?_ (args_tuple_getitem _ _)))
 show wpAny _ _ (Builtin.Tuple.tupleItemsOf (.ref t)>>=_) _ _ s;refine dy (tupleItemsOf_ ht ?_);refine dy (wpAny_typeOf RG ?_);rw[bg (by decide)];refine dy (oh hs pl pu ?_);have RH:¬((((gj items.size 0 lo:Nat):Int)==0&&(1:Int)==1&&(gj items.size items.size hi-gj items.size 0 lo)==items.size)=true):=by
  intro q;rw[oy,oy] at q;have q1:((gj items.size 0 lo:Nat):Int)=0:=eq_of_beq q.1.1;have q2:gj items.size items.size hi-gj items.size 0 lo=items.size:=eq_of_beq q.2;exact hw ⟨by omega,by omega⟩
 show wpAny _ _ (if(((gj items.size 0 lo:Nat):Int)==0&&(1:Int)==1&&(gj items.size items.size hi-gj items.size 0 lo)==items.size)=true then _ else _) _ _ s;rw[bh RH,wM]
 first
  |exact dy (m:=Builtin.Tuple.tupleExact _) (EY (mw ⟨_,rfl,mw h⟩) Cu)
  |exact dy (m:=Builtin.Tuple.tupleExact _) (EY (dy (mw (mw ⟨_,rfl,mw h⟩))) Cu)
  |exact dy (dy (m:=Builtin.Tuple.tupleExact _) (EY (mw (mw ⟨_,rfl,mw h⟩)) Cu))
  |exact dy (dy (m:=Builtin.Tuple.tupleExact _) (EY (mw ⟨_,rfl,mw h⟩) Cu))
end
end HT
namespace L2
open PySem PySem.Spec PyProof.Rows
noncomputable abbrev TO:=St->Hp->(Option Int->Hp->Prop)->Prop
def PO(X:Cx)(e:Option Expr)(t:TO):Prop:=
 ∀(ae:List (Addr×Obj))(s:Shared)(σ:St)(H:Hp)(Q:Option Int->Hp->Prop),bj X ae σ H s->t σ H Q->
  wpAny (model X.prog X.w) X.A (evalPart e X.env) (λu s'=>∃o H',bj X ae σ H' s'/\IsPart u o/\Q o H') X.xe s
noncomputable def Cv:TO:=λ_ H Q=>Q none H
noncomputable def IA(t:TE):TO:=λσ H Q=>t σ H λx H1=>∃i,x=.int i/\Q (some i) H1
section
variable{X:Cx}{e:Expr}{te:TE}{lo hi:Option Expr}{tl th:TO}{pos p2:Pos}
theorem sM:PO X none Cv:=by
 intro ae s σ H Q I h;rw[evalPart_none];exact mw ⟨none,H,I,.none,h⟩
theorem sN(h:PE X e te):PO X (some e) (IA te):=by
 intro ae s σ H Q I hw;rw[evalPart_some];refine ij (h ae s σ H _ I hw) λu s1 ⟨x,H1,I1,r1,q1⟩=>?_;obtain⟨i,rfl,q⟩:=q1;obtain⟨t,rfl⟩:=r1;exact⟨some i,H1,I1,.int i t,q⟩
def F9(X:Cx)(r:V->Option Int->Option Int->Hp->VK->Prop):Prop:=
 ∀(ae:List (Addr×Obj))(s:Shared)(σ:St)(H:Hp)(x:V)(v vl vu:Value)(lo hi:Option Int)(sl:Addr)(Q:VK),bj X ae σ H s->cm x v->s.heap.IsSliceOf sl vl vu .none->IsPart vl lo->IsPart vu hi->r x lo hi H Q->
  ∃T id,typeLookup (.type T) "__getitem__"=pure (some (.builtin id))/\s.TypeIs v T/\wpAny (model X.prog X.w) X.A (getItem v (.ref sl)) (EP X ae σ Q) X.xe s
theorem F9.or(h:F9 X r)(h':F9 X r'):F9 X (λx lo hi H Q=>r x lo hi H Q\/r' x lo hi H Q):=by
 intro ae s σ H x v vl vu lo hi sl Q I rx hs pl pu q;rcases q with q|q
 ·exact h ae s σ H x v vl vu lo hi sl Q I rx hs pl pu q
 ·exact h' ae s σ H x v vl vu lo hi sl Q I rx hs pl pu q
noncomputable def Tj(r:V->Option Int->Option Int->Hp->VK->Prop)(te:TE)(tl th:TO):TE:=λσ H Q=>te σ H λx H1=>tl σ H1 λl H2=>th σ H2 λu H3=>r x l u H3 Q
theorem oB(hr:F9 X r)(he:PE X e te)(hl:PO X lo tl)(hu:PO X hi th):PE X (.Subscript e (.Slice lo hi none p2) pos) (Tj r te tl th):=by
 intro ae s σ H Q I h;refine Subscript_ (ij (he ae s σ H _ I h) λv s1 ⟨x,H1,I1,r1,q1⟩=>?_);refine wpAny_Slice (ij (hl ae s1 σ H1 _ I1 q1) λvl s2 ⟨l,H2,I2,pl,q2⟩=>ij (hu ae s2 σ H2 _ I2 q2) λvu s3 ⟨u,H3,I3,pu,q3⟩=>?_);rw[evalPart_none];refine mw ?_;have I4:bj X ae σ H3 {s3 with heap:=s3.heap.push {cls:=.type "slice",data:=.fields #[vl,vu,.none]}}:=I3.kept (t':=s3.toks) λb ob q=>qm _ q;obtain⟨T,id,hT,ht,hg⟩:=hr ae {s3 with heap:=s3.heap.push {cls:=.type "slice",data:=.fields #[vl,vu,.none]}} σ H3 x v vl vu l u s3.heap.objs.size Q I4 r1 (Heap.IsSliceOf.new ..) pl pu q3;show wpAny (model X.prog X.w) X.A (subscriptTail e (.Slice lo hi none p2) v (.ref s3.heap.objs.size)) (EP X ae σ Q) X.xe {s3 with heap:=s3.heap.push {cls:=.type "slice",data:=.fields #[vl,vu,.none]}};exact tail_any (ops:=[.ref s3.heap.objs.size,v]) ht hT hg (by with_unfolding_all rfl)
noncomputable def zf(xs:List V)(lo hi:Option Int):List V:=(xs.drop (HT.gj xs.length 0 lo)).take (HT.gj xs.length xs.length hi-HT.gj xs.length 0 lo)
theorem gR(xs:List V)(lo hi:Option Int):(zf xs lo hi).length<=xs.length:=by
 unfold zf;rw[Be,Ik];omega
noncomputable def NZ(K:PySem.W.Frag):V->Option Int->Option Int->Hp->VK->Prop:=λx lo hi H Q=>∃a xs,x=.ref a/\nv K H a xs/\
 ¬(HT.gj xs.length 0 lo=0/\HT.gj xs.length xs.length hi=xs.length)/\∀p,H p=none->Q (.ref p) (upd H p (.ar (zf xs lo hi)))
theorem Kf:F9 X (NZ X.K):=by
 intro ae s σ H x v vl vu lo hi sl Q I rx hs pl pu h;obtain⟨a,xs,rfl,hx,hw,q⟩:=h;cases rx;obtain⟨its,r,ht,hz⟩:=I.tuple hx;have di:its.toArray.size=xs.length:=by rw[uq];exact r.length.symm
 refine⟨"tuple",_,PyProof.Rows.slot_tuple_getitem.lookup,ht.typeIs,?_⟩;refine HT.vz ht hs pl pu (by rw[di];exact hw) ?_ (by rw[di];exact hz);rw[di];refine⟨.ref s.heap.objs.size,_,I.laid (t':=s.toks) (o:=.ar (zf xs lo hi)) (λb ob q=>qm _ q) (ji _) ?_,rfl,q _ (I.fo.fresh (ji _))⟩;exact⟨rm (gR xs lo hi) hz,_,(r.drop (HT.gj xs.length 0 lo)).take (HT.gj xs.length xs.length hi-HT.gj xs.length 0 lo),IsTup.new _ _⟩
noncomputable def N0(K:PySem.W.Frag):R2:=λx y H Q=>∃a b xs ys,x=.ref a/\y=.ref b/\nv K H a xs/\nv K H b ys/\xs≠[]/\xs.length+ys.length<=sizeLine/\
 (ys=[]->Q (.ref a) H)/\(ys≠[]->∀p,H p=none->Q (.ref p) (upd H p (.ar (xs++ys))))
theorem dj.yo(r:dj xs us):us=[]↔xs=[]:=by
 cases r with
 |nil=>simp
 |cons _ _=>simp
theorem F_:wz X (binaryOp .Add) (N0 X.K):=by
 intro ae s σ H x y v u Q I rx ry h;obtain⟨a,b,xs,ys,rfl,rfl,ha,hb,hx,hz,q1,q2⟩:=h;cases rx;cases ry;obtain⟨its,r1,p1,_⟩:=I.tuple ha;obtain⟨yf,r2,p2,_⟩:=I.tuple hb;refine HT.FZ p1 p2 (λz=>hx (r1.yo.mp z)) (λz=>⟨.ref a,H,I,rfl,q1 (r2.yo.mp z)⟩) (λz=>?_) (by rw[←r1.length,←r2.length];exact hz);refine⟨.ref s.heap.objs.size,_,I.laid (t':=s.toks) (o:=.ar (xs++ys)) (λb ob q=>qm _ q) (ji _) ?_,rfl,q2 (λw=>z (r2.yo.mpr w)) _ (I.fo.fresh (ji _))⟩;exact⟨by rw[vm];exact hz,_,r1.append r2,IsTup.new _ _⟩
end
noncomputable def Dt(n:Nat)(i:Int):Option Nat:=if 0<=i then(if i<n then some i.toNat else none) else if-(n:Int)<=i then some (i+n).toNat else none
noncomputable def IB{α:Type}(xs:List α)(i:Int):Option α:=(Dt xs.length i).bind λj=>xs[j]?
theorem sO(h:Dt n i=some j):seqIndex? i n=some j/\j<n/\-(n:Int)<=i/\i<n:=by
 unfold Dt at h;by_cases h0:0<=i
 ·rw[bg h0] at h
  by_cases h1:i<n
  ·rw[bg h1] at h
   have e:i.toNat=j:=Aw h;exact⟨by rw[seqIndex_of h0 h1,e],by omega,by omega,h1⟩
  ·rw[bh h1] at h;cases h
 ·rw[bh h0] at h
  by_cases h1: -(n:Int)<=i
  ·rw[bg h1] at h
   have e:(i+n).toNat=j:=Aw h;exact⟨by rw[seqIndex_neg (by omega) h1,e],by omega,h1,by omega⟩
  ·rw[bh h1] at h;cases h
theorem sP{α:Type}{xs:List α}{i:Int}{v:α}(h:IB xs i=some v):∃j,seqIndex? i xs.length=some j/\xs[j]?=some v/\j<xs.length/\-(xs.length:Int)<=i/\i<xs.length:=by
 unfold IB at h
 cases e:Dt xs.length i with
 |none=>rw[e] at h;cases h
 |some j=>
  rw[e] at h;obtain⟨h1,h2,h3,h4⟩:=sO e;exact⟨j,h1,h,h2,h3,h4⟩
def yq(b:Expr):Prop:=∀o i,subscripted b false o i=operate [o,i] (getItem o i)
def ID(X:Cx)(r:R2):Prop:=
 ∀(value slice:Expr)(ae:List (Addr×Obj))(s:Shared)(σ:St)(H:Hp)(x y:V)(v u:Value)(Q:VK),bj X ae σ H s->cm x v->cm y u->r x y H Q->
  subscripted slice false v u=operate [v,u] (getItem v u)->wpAny (model X.prog X.w) X.A (subscriptTail value slice v u) (EP X ae σ Q) X.xe s
def Kg(X:Cx)(id:String)(r:V->List V->Hp->VK->Prop):Prop:=
 ∀(ae:List (Addr×Obj))(s:Shared)(σ:St)(H:Hp)(x:V)(xs:List V)(v:Value)(us:List Value)(Q:VK),bj X ae σ H s->cm x v->dj xs us->r x xs H Q->
  wpAny (model X.prog X.w) X.A (call (.builtin id) (v::us)) (EP X ae σ Q) X.xe s
section
variable{X:Cx}{a b:Expr}{ta tb:TE}{pos:Pos}
theorem ID.or(h:ID X r)(h':ID X r'):ID X (λx y H Q=>r x y H Q\/r' x y H Q):=by
 intro value slice ae s σ H x y v u Q I rx ry q hs;rcases q with q|q
 ·exact h value slice ae s σ H x y v u Q I rx ry q hs
 ·exact h' value slice ae s σ H x y v u Q I rx ry q hs
theorem IE(hr:ID X r)(ha:PE X a ta)(hb:PE X b tb)(hs:yq b):PE X (.Subscript a b pos) (AW r ta tb):=by
 intro ae s σ H Q I h;exact Subscript_ (J0 ha hb I h λv u s2 x y H2 I2 rx ry q=>hr a b ae s2 σ H2 x y v u Q I2 rx ry q (hs _ _))
noncomputable def xa(K:PySem.W.Frag):R2:=λx y H Q=>∃p xs i v,x=.ref p/\y=.int i/\lj K H p xs/\IB xs i=some v/\Q v H
noncomputable def N1(K:PySem.W.Frag):R2:=λx y H Q=>∃p xs i v,x=.ref p/\y=.int i/\nv K H p xs/\IB xs i=some v/\Q v H
theorem Cw:ID X (xa X.K):=by
 intro value slice ae s σ H x y v u Q I rx ry h hs;obtain⟨p,xs,i,z,rfl,rfl,hq,he,q⟩:=h;cases rx;obtain⟨t,rfl⟩:=ry;obtain⟨its,r,pl,hz⟩:=I.list hq;obtain⟨j,h1,h2,h3,h4,h5⟩:=sP he;obtain⟨w,ew,Ay⟩:=r.get h2;have hl:=r.length;have hn:=w_;have fin:EP X ae σ Q w s:=⟨z,H,I,Ay,q⟩
 by_cases h0:0<=i
 ·have hj:i.toNat=j:=by
   rw[seqIndex_of h0 h5] at h1;exact Aw h1
  exact item_listR pl.isList h0 (by omega) (by rw[hj];simpa using ew) fin hs
 ·have hj:(i+(its.toArray.size:Int)).toNat=j:=by
   rw[seqIndex_neg (by omega) h4] at h1;rw[uq,←hl];exact Aw h1
  exact subscriptTail_builtinR (x:=w) pl.isList.typeIs slot_list_getitem.lookup
   (wpAny_getItem_list_neg (Q:=λr s'=>r=w/\EP X ae σ Q r s') pl.isList (by omega) (by rw[uq]<;>omega) (by omega) (by rw[hj];simpa using ew) ⟨rfl,fin⟩) hs
theorem Kh:ID X (N1 X.K):=by
 intro value slice ae s σ H x y v u Q I rx ry h hs;obtain⟨p,xs,i,z,rfl,rfl,hq,he,q⟩:=h;cases rx;obtain⟨t,rfl⟩:=ry;obtain⟨its,r,pl,hz⟩:=I.tuple hq;obtain⟨j,h1,h2,h3,h4,h5⟩:=sP he;obtain⟨w,ew,Ay⟩:=r.get h2;have hl:=r.length;have hn:=w_;have fin:EP X ae σ Q w s:=⟨z,H,I,Ay,q⟩
 exact subscriptTail_builtinR (x:=w) pl.typeIs slot_tuple_getitem.lookup
  (getItem_tuple (j:=j) (Q:=λr s'=>r=w/\EP X ae σ Q r s') pl (by omega) (by omega) (by rw[uq,←hl];exact h1) (by simpa using ew) ⟨rfl,fin⟩) hs
theorem qJ(its:List Value)(n j:Nat)(u:Value):Obj.mapSeq (·.setIfInBounds j u) {cls:=.type "list",data:=.seq its.toArray n}={cls:=.type "list",data:=.seq (its.set j u).toArray n}:=by
 simp[Obj.mapSeq]
theorem bj.ak(I:bj X ae σ H s)(h:H p=some (.ak xs)):
  ∃(its:List Value)(n:Nat),dj xs its/\s.heap.get? p=some {cls:=.type "list",data:=.seq its.toArray n}/\xs.length<=sizeLine:=by
 obtain⟨z,its,n,r,e⟩:=I.fo p _ h;exact⟨its,n,r,e,z⟩
theorem bj.Ki{ae:List (Addr×Obj)}{σ:St}{H:Hp}{s:Shared}{p:Addr}{xs ys:List V}{its its':List Value}{n n':Nat}{f:Obj->Obj}(I:bj X ae σ H s)(h:H p=some (.ak xs))
  (ho:s.heap.get? p=some {cls:=.type "list",data:=.seq its.toArray n}) (hf:f {cls:=.type "list",data:=.seq its.toArray n}={cls:=.type "list",data:=.seq its'.toArray n'}) (r:dj ys its') (hz:ys.length<=sizeLine) (t:Nat):
  bj X ae σ (upd H p (.ak ys)) {s with heap:=s.heap.update p f,toks:=t}:=by
 have e:(s.heap.update p f).get? p=some {cls:=.type "list",data:=.seq its'.toArray n'}:=by
  rw[CS f ho (by rw[hf]<;>rfl),hf]
 refine I.write (x:=p) (e:=p) (by rw[h];trivial) (.inl rfl) (λb u hb q=>(BN _ _ (kg hb)).trans q) ⟨_,e⟩ ?_;exact⟨hz,its',n',r,e⟩
noncomputable def DU:V->V->V->Hp->(Hp->Prop)->Prop:=λo i v H Q=>∃p xs k j,o=.ref p/\i=.int k/\H p=some (.ak xs)/\Dt xs.length k=some j/\Q (upd H p (.ak (xs.set j v)))
theorem oD:FD X DU:=by
 intro ae s σ H o i v ov iv u Q I ro ri rv h;obtain⟨p,xs,k,j,rfl,rfl,hp,hj,q⟩:=h;cases ro;obtain⟨t,rfl⟩:=ri;obtain⟨its,n,r,ho,hz⟩:=I.ak hp;obtain⟨h1,h2,h3,h4⟩:=sO hj;have hl:=r.length;have hn:=w_;have I':bj X ae σ (upd H p (.ak (xs.set j v))) {s with heap:=s.heap.update p (Obj.mapSeq (·.setIfInBounds j u))}:=
  I.Ki hp ho (qJ its n j u) (r.set rv j) (by rw[Cn];exact hz) s.toks
 by_cases h0:0<=k
 ·have hk:k.toNat=j:=by
   rw[seqIndex_of h0 h4] at h1;exact Aw h1
  exact PySem.W.ki_setAt ho h0 (by omega) (by rw[uq,←hl];exact h4) (by rw[hk];exact⟨_,I',q⟩)
 ·have hk:(k+(its.toArray.size:Int)).toNat=j:=by
   rw[seqIndex_neg (by omega) h3] at h1;rw[uq,←hl];exact Aw h1
  exact PySem.W.ki_setBack ho (by omega) (by rw[uq,←hl];exact h3) (by omega) (by rw[hk];exact⟨_,I',q⟩)
theorem mM(lo hi:Option Int)(n:Nat):(sliceBounds lo hi none n).1=((HT.gj n 0 lo:Nat):Int)/\(sliceBounds lo hi none n).2.1=((HT.gj n n hi:Nat):Int)/\(sliceBounds lo hi none n).2.2=1:=by
 refine⟨?_,?_,rfl⟩
 ·cases lo with
  |none=>simp[sliceBounds,HT.gj]
  |some i=>
   simp only[sliceBounds,HT.gj,Option.getD_none,show(1:Int)>0 by decide,cw];by_cases h:i<0
   ·simp only[h,cw]<;>omega
   ·simp only[h,dq]<;>omega
 ·cases hi with
  |none=>simp[sliceBounds,HT.gj]
  |some i=>
   simp only[sliceBounds,HT.gj,Option.getD_none,show(1:Int)>0 by decide,cw];by_cases h:i<0
   ·simp only[h,cw]<;>omega
   ·simp only[h,dq]<;>omega
theorem kL(its:List Value)(lo hi:Option Int):slicePick its.toArray lo hi none=((its.drop (HT.gj its.length 0 lo)).take (HT.gj its.length its.length hi-HT.gj its.length 0 lo)).toArray:=by
 obtain⟨h1,h2,h3⟩:=mM lo hi its.toArray.size;unfold slicePick;rw[h1,h2,h3];simp only[sliceRange_one,pick_run,uq]<;>rfl
noncomputable def Kj(K:PySem.W.Frag):V->Option Int->Option Int->Hp->VK->Prop:=λx lo hi H Q=>∃a xs,x=.ref a/\lj K H a xs/\∀p,H p=none->Q (.ref p) (upd H p (.ak (zf xs lo hi)))
theorem Cy:F9 X (Kj X.K):=by
 intro ae s σ H x v vl vu lo hi sl Q I rx hs pl pu h;obtain⟨a,xs,rfl,hx,q⟩:=h;cases rx;obtain⟨its,r,ht,hz⟩:=I.list hx;have di:=r.length;refine⟨"list",_,slot_list_getitem.lookup,ht.isList.typeIs,?_⟩;refine wpAny_getItem_list_slice ht.isList hs pl pu .none (by simp) ?_ (by rw[uq]<;>omega);rw[kL,←di];refine⟨.ref s.heap.objs.size,_,I.laid (t':=s.toks) (o:=.ak (zf xs lo hi)) (λb ob q=>qm _ q) (ji _) ?_,rfl,q _ (I.fo.fresh (ji _))⟩;exact⟨rm (gR xs lo hi) hz,_,0,(r.drop (HT.gj xs.length 0 lo)).take (HT.gj xs.length xs.length hi-HT.gj xs.length 0 lo),BU _ rfl⟩
noncomputable def mi:V->Bool
 |.de=>true
 |.bl _=>true
 |.int _=>true
 |.str _=>true
 |_=>false
noncomputable def lp:V->V->Bool
 |.de,.de=>true
 |.bl a,.bl b=>a==b
 |.bl a,.int b=>(if a then 1 else 0)==b
 |.int a,.bl b=>a==(if b then 1 else 0)
 |.int a,.int b=>a==b
 |.str a,.str b=>a==b
 |_,_=>false
theorem aV(ry:cm y u)(rx:cm x v)(fy:mi y=true)(fx:mi x=true):SeqAt.EqAt A s u v (lp y x):=by
 cases y with
 |de=>
  cases ry
  cases x with
  |de=>cases rx;exact SeqAt.EqAt.same _
  |bl b=>cases rx;exact SeqAt.EqAt.none_bool b
  |int b=>obtain⟨t,rfl⟩:=rx;exact SeqAt.EqAt.none_int b t
  |str b=>obtain⟨t,rfl⟩:=rx;exact SeqAt.EqAt.none_str b t
  |_=>exact absurd (show false=true from fx) kj
 |bl a=>
  cases ry
  cases x with
  |de=>cases rx;exact SeqAt.EqAt.bool_none a
  |bl b=>cases rx;exact SeqAt.EqAt.bool_bool a b
  |int b=>obtain⟨t,rfl⟩:=rx;exact SeqAt.EqAt.bool_int a b t
  |str b=>obtain⟨t,rfl⟩:=rx;exact SeqAt.EqAt.bool_str a b t
  |_=>exact absurd (show false=true from fx) kj
 |int a=>
  obtain⟨t',rfl⟩:=ry
  cases x with
  |de=>cases rx;exact SeqAt.EqAt.int_none a t'
  |bl b=>cases rx;exact SeqAt.EqAt.int_bool a t' b
  |int b=>obtain⟨t,rfl⟩:=rx;exact SeqAt.EqAt.int_int a t' b t
  |str b=>obtain⟨t,rfl⟩:=rx;exact SeqAt.EqAt.int_str a t' b t
  |_=>exact absurd (show false=true from fx) kj
 |str a=>
  obtain⟨t',rfl⟩:=ry
  cases x with
  |de=>cases rx;exact SeqAt.EqAt.str_none a t'
  |bl b=>cases rx;exact SeqAt.EqAt.str_bool a t' b
  |int b=>obtain⟨t,rfl⟩:=rx;exact SeqAt.EqAt.str_int a t' b t
  |str b=>obtain⟨t,rfl⟩:=rx;exact SeqAt.EqAt.str_str a t' b t
  |_=>exact absurd (show false=true from fx) kj
 |_=>exact absurd (show false=true from fy) kj
noncomputable def CW(x:V)(u:Value):Bool:=match u with
 |.none=>lp .de x
 |.bool b=>lp (.bl b) x
 |.int i _=>lp (.int i) x
 |.str z _=>lp (.str z) x
 |_=>false
theorem mO(r:cm y u)(f:mi y=true):CW x u=lp y x:=by
 cases y with
 |de=>cases r;rfl
 |bl b=>cases r;rfl
 |int i=>obtain⟨t,rfl⟩:=r;rfl
 |str z=>obtain⟨t,rfl⟩:=r;rfl
 |_=>exact absurd (show false=true from f) kj
theorem mP:∀{xs:List V}{us:List Value},dj xs us->xs.all mi=true->us.any (CW x)=xs.any λy=>lp y x
 |_,_,.nil,_=>rfl
 |y::xs,u::us,.cons r t,f=>by
  rw[Fq,oy] at f;rw[Fp,Fp,mO r f.1,mP t f.2]
theorem cS(rx:cm x v)(fx:mi x=true):∀{xs:List V}{us:List Value},dj xs us->xs.all mi=true->∀u∈us,SeqAt.EqAt A s u v (CW x u)
 |_,_,.nil,_=>λu hu=>by cases hu
 |y::xs,u::us,.cons r t,f=>λu' hu=>by
  rw[Fq,oy] at f;rcases List.mem_cons.mp hu with rfl|hu
  ·rw[mO r f.1];exact aV r rx f.1 fx
  ·exact cS rx fx t f.2 u' hu
noncomputable def QB(x:V)(xs:List V):Bool:=xs.any λy=>lp y x
noncomputable def To(K:PySem.W.Frag)(neg:Bool):R2:=λx y H Q=>∃p xs,y=.ref p/\(lj K H p xs\/nv K H p xs)/\mi x=true/\xs.all mi=true/\Q (.bl (if neg then !QB x xs else QB x xs)) H
theorem mQ:wz X (compareOp .NotIn) (To X.K true):=by
 intro ae s σ H x y v u Q I rx ry h;obtain⟨p,xs,rfl,hq,fx,fs,q⟩:=h;cases ry;rcases hq with hq|hq
 ·obtain⟨its,r,pl,hz⟩:=I.list hq
  refine SeqAt.notIn_listAt (CW x) pl.isList (λw hw=>cS rx fx r fs w (by simpa using hw)) ⟨.bl _,H,I,rfl,?_⟩;rw[show its.toArray.any (CW x)=its.any (CW x) by simp,mP r fs];exact q
 ·obtain⟨its,r,pl,hz⟩:=I.tuple hq
  refine SeqAt.notIn_tupleAt (CW x) pl (λw hw=>cS rx fx r fs w (by simpa using hw)) ⟨.bl _,H,I,rfl,?_⟩;rw[show its.toArray.any (CW x)=its.any (CW x) by simp,mP r fs];exact q
theorem eP:qh X (.builtin "len") (λxs H Q=>∃p ys,xs=[.ref p]/\(lj X.K H p ys\/nv X.K H p ys)/\Q (.int ys.length) H):=by
 intro ae s σ H xs us Q I r h;obtain⟨p,ys,rfl,hq,q⟩:=h;obtain⟨u,rfl,rx⟩:=vals1 r;cases rx;have hn:=w_;rcases hq with hq|hq
 ·obtain⟨its,r',pl,hz⟩:=I.list hq
  have di:=r'.length;exact Calls.call_len_list pl.isList (by simp only[uq]<;>omega) ⟨.int ys.length,H,I.tok _,⟨s.toks+1,by rw[uq,di]⟩,q⟩
 ·obtain⟨its,r',pl,hz⟩:=I.tuple hq
  have di:=r'.length;exact len_tuple pl (by simp only[uq]<;>omega) ⟨.int ys.length,H,I.tok _,⟨s.toks+1,by rw[uq,di]⟩,q⟩
theorem eQ:qh X (.type "list") (λxs H Q=>∃p ys,xs=[.ref p]/\(lj X.K H p ys\/nv X.K H p ys)/\∀l,H l=none->Q (.ref l) (upd H l (.ak ys))):=by
 intro ae s σ H xs us Q I r h;obtain⟨p,ys,rfl,hq,q⟩:=h;obtain⟨u,rfl,rx⟩:=vals1 r;cases rx;have fin:∀(its:List Value),dj ys its->ys.length<=sizeLine->∀(h':Heap)(c':Nat),(∀b o',s.heap.get? b=some o'->h'.get? b=some o')->
   h'.get? s.heap.objs.size=some {cls:=.type "list",dict:=none,data:=.seq its.toArray c',slots:= #[]}->EP X ae σ Q (.ref s.heap.objs.size) {s with heap:=h'}:=λits r' hz h' c' kp e=>
  ⟨.ref s.heap.objs.size,_,I.laid (t':=s.toks) kp (ji _) (show jd X.prog X.w _ h' _ (.ak ys) from⟨hz,its,c',r',e⟩),rfl,q _ (I.fo.fresh (ji _))⟩
 rcases hq with hq|hq
 ·obtain⟨its,r',pl,hz⟩:=I.list hq
  have di:=r'.length;obtain⟨o,ho,hc,n,hd⟩:=pl.isList;exact call_list_seq p (.inl rfl) ho hc hd (λh' c' kp e=>fin its r' hz h' c' kp e) (by simp only[uq]<;>omega)
 ·obtain⟨its,r',pl,hz⟩:=I.tuple hq
  have di:=r'.length;obtain⟨o,ho,hc,n,hd⟩:=pl;exact call_list_seq p (.inr rfl) ho hc hd (λh' c' kp e=>fin its r' hz h' c' kp e) (by simp only[uq]<;>omega)
theorem kM:qh X (.type "tuple") (λxs H Q=>∃p ys,xs=[.ref p]/\((lj X.K H p ys/\∀l,H l=none->Q (.ref l) (upd H l (.ar ys)))\/(nv X.K H p ys/\Q (.ref p) H))):=by
 intro ae s σ H xs us Q I r h;obtain⟨p,ys,rfl,h⟩:=h;obtain⟨u,rfl,rx⟩:=vals1 r;cases rx;rcases h with⟨hq,q⟩|⟨hq,q⟩
 ·obtain⟨its,r',pl,hz⟩:=I.list hq
  have di:=r'.length;refine call_tuple_list pl.isList (λh' kp=>?_) (by simp only[uq]<;>omega);have I1:bj X ae σ H {s with heap:=h'}:=I.kept (t':=s.toks) kp;have I2:bj X ae σ (upd H h'.objs.size (.ar ys)) {s with heap:=h'.push {cls:=.type "tuple",data:=.seq its.toArray}}:=
   I1.laid (t':=s.toks) (λb o e=>qm _ e) (ji _) (show jd X.prog X.w _ _ _ (.ar ys) from⟨hz,its,r',IsTup.new _ _⟩)
  exact⟨.ref h'.objs.size,_,I2,rfl,q _ (I1.fo.fresh (ji _))⟩
 ·obtain⟨its,r',pl,hz⟩:=I.tuple hq
  exact call_tuple_same pl ⟨.ref p,H,I,rfl,q⟩
def Tq(K:PySem.W.Frag)(T:String)(x:V)(H:Hp):Prop:=match x with
 |.str _=>T="str"
 |.int _=>T="int"
 | .ref p=>(T="list"/\∃xs,lj K H p xs)\/(T="tuple"/\∃o,K.lookup p=some o/\o.cls=.type "tuple"/\o.dict=none)\/
   (T="dict"/\((∃kvs,H p=some (.dK kvs))\/∃kvs,H p=some (.dT kvs)))\/(T="set"/\∃S n,H p=some (.set S n))
 |_=>False
theorem Kk(I:bj X ae σ H s)(r:cm x v)(ty:Tq X.K T x H):
  s.TypeIs v T/\∀a,v=.ref a->∃ob,s.heap.get? a=some ob/\ob.dict=none:=by
 cases x with
 |str z=>
  obtain⟨t,rfl⟩:=r;cases (show T="str" from ty);exact⟨typeIs_str s z t,λ_ e=>nomatch e⟩
 |int i=>
  obtain⟨t,rfl⟩:=r;cases (show T="int" from ty);exact⟨typeIs_int s i t,λ_ e=>nomatch e⟩
 |ref p=>
  cases r;rcases ty with⟨rfl,xs,hq⟩|⟨rfl,o,hk,hc,hd⟩|⟨rfl,hk⟩|⟨rfl,S,n,hk⟩
  ·obtain⟨its,_,pl,_⟩:=I.list hq
   refine⟨pl.isList.typeIs,λa e=>?_⟩;cases e;obtain⟨o,n,e,c,hd,_⟩:=pl;exact⟨o,e,hd⟩
  ·refine⟨⟨o,I.CU p o hk,hc⟩,λa e=>?_⟩
   cases e;exact⟨o,I.CU _ o hk,hd⟩
  ·have z:∃o,s.heap.get? p=some o/\o.ExactDict:=by
    rcases hk with⟨kvs,hk⟩|⟨kvs,hk⟩
    ·obtain⟨_,_,_,_,o,_,_,e,ex,_⟩:=I.fo p _ hk
     exact⟨o,e,ex⟩
    ·obtain⟨_,_,_,_,o,_,_,e,ex,_⟩:=I.fo p _ hk
     exact⟨o,e,ex⟩
   obtain⟨o,e,ex⟩:=z;refine⟨⟨o,e,ex.1⟩,λa e2=>?_⟩;cases e2;exact⟨o,e,ex.2.1⟩
  ·obtain⟨o,_,_,_,e,ex,_⟩:=I.fo p _ hk
   refine⟨⟨o,e,ex.1⟩,λa e2=>?_⟩;cases e2;exact⟨o,e,ex.2.1⟩
 |_=>exact False.elim ty
noncomputable def UR(K:PySem.W.Frag)(T:String)(r:V->List V->Hp->VK->Prop)(to:TE)(t:TA):TE:=λσ H Q=>to σ H λx H1=>Tq K T x H1/\t σ H1 λxs H2=>r x xs H2 Q
variable{o e:Expr}{es:List Expr}{to:TE}{t:TA}{name:Str}{apos gr:Pos}{T id:String}{r:V->List V->Hp->VK->Prop}
theorem IF(pa:PlainAttrs T)(slot:Slot T name id)(N3:typeOf (.builtin id)=pure (.type "method_descriptor"))(hm:Kg X id r)(ho:PE X o to)(ha:PA X (e::es) t)
  (mj:attributeBase o name X.env (eval o X.env)=eval o X.env:=by rfl)
  (DV:((backTo gr (starEach (e::es) X.env)).all (λx=>!x.1)&&(backToKw gr (keywordEach [] X.env)).all (λx=>x.1.isSome)
   &&decide ((e::es).length+([]:List Keyword).length+(if([]:List Keyword).isEmpty then 0 else 1)<30))=true:=by rfl)
  (mq:(apos.endLine==gr.line)=true:=by rfl) (hs:starEach (e::es) X.env=(false,eval e X.env)::starEach es X.env:=by rfl) (zg:(backTo gr (starEach es X.env)).any (·.1)=false:=by rfl):
  PE X (.Call (.Attribute o name apos) (e::es) [] gr) (UR X.K T r to t):=by
 intro ae s σ H Q I h;refine wpAny_Call_method_late mj DV mq rfl (ij (ho ae s σ H _ I h) λv s1 ⟨x,H1,I1,r1,ty,q1⟩=>?_);obtain⟨h1,h2⟩:=Kk I1 r1 ty;refine⟨T,id,pa,slot,N3,h1,h2,?_⟩;have hA:=ha gr ae s1 σ H1 _ I1 q1;rw[hs] at hA⊢;refine Calls.callWith_builtin (by show(false||(backTo gr (starEach es X.env)).any (·.1))=false;rw[zg]<;>rfl) (Calls.evalArgs_plain ?_);exact ij hA λus s2 ⟨vs,H2,I2,r2,q2⟩=>hm ae s2 σ H2 x vs v us Q I2 r1 r2 q2
/-xs.append(e),list.index on a module's tuple .. are Kg facts of 06m-/
end
def US(X:Cx)(id:String)(r:V->List V->Hp->VK->Prop):Prop:=
 ∀(ae:List (Addr×Obj))(s:Shared)(σ:St)(H:Hp)(x:V)(xs:List V)(v:Value)(us:List Value)(Q:VK),bj X ae σ H s->cm x v->dj xs us->r x xs H Q->
  wpAny (model X.prog X.w) X.A (call (.builtin id) (v::us)) (EP X ae σ Q) X.xe s
theorem dj.one:∀{x:V}{us:List Value},dj [x] us->∃u,us=[u]/\cm x u
 |_,_,.cons r .nil=>⟨_,rfl,r⟩
section
variable{X:Cx}{ae:List (Addr×Obj)}{σ:St}{H:Hp}{s:Shared}{l b:Addr}{xs ys zs:List V}
theorem bj.RI{its its':List Value}{n:Nat}{f:Array Value->Array Value}{t':Nat}(I:bj X ae σ H s)(hH:H l=some (.ak xs))
  (e:s.heap.get? l=some {cls:=.type "list",data:=.seq its.toArray n}) (hf:f its.toArray=its'.toArray) (hv:dj ys its') (hz:ys.length<=sizeLine):
  bj X ae σ (upd H l (.ak ys)) {s with heap:=s.heap.update l (Obj.mapSeq f),toks:=t'}:=by
 have q:=PySem.IsL.update e f;rw[hf] at q;refine I.write (x:=l) (e:=l) (by rw[hH];exact trivial) (.inl rfl) (λb' u hb hu=>(BN s.heap (Obj.mapSeq f) (kg hb)).trans hu) ⟨_,q⟩ ?_;exact⟨hz,its',_,hv,q⟩
theorem bj.Ga{its:List Value}{t':Nat}(I:bj X ae σ H s)(hv:dj ys its)(hz:ys.length<=sizeLine):
  bj X ae σ (upd H s.heap.objs.size (.ak ys)) {s with heap:=s.heap.push {cls:=.type "list",data:=.seq its.toArray},toks:=t'}:=
 I.laid (λ_ _ q=>qm _ q) (ji _) ⟨hz,its,0,hv,BU _ rfl⟩
theorem bj.fresh(I:bj X ae σ H s):H s.heap.objs.size=none:=I.fo.fresh (ji _)
theorem bj.DW(I:bj X ae σ H s)(hH:H l=some (.ak xs)):xs.length<=sizeLine/\∃(its:List Value)(n:Nat),dj xs its/\xs.length=its.length/\s.heap.get? l=some {cls:=.type "list",data:=.seq its.toArray n}:=by
 obtain⟨z,its,n,r,e⟩:=I.fo l _ hH;exact⟨z,its,n,r,r.length,e⟩
end
section
variable{X:Cx}
noncomputable def Gb:V->List V->Hp->VK->Prop:=λx vs H Q=>∃l xs y,x=.ref l/\vs=[y]/\H l=some (.ak xs)/\xs.length<sizeLine/\Q .de (upd H l (.ak (xs++[y])))
theorem fP:US X "list.append" Gb:=by
 intro ae s σ H x vs v us Q I rx rv h;obtain⟨l,xs,y,rfl,rfl,hH,hz,q⟩:=h;cases rx;obtain⟨u,rfl,ru⟩:=rv.one;obtain⟨z,its,n,r,hl,e⟩:=I.DW hH;refine call_meets F.slot_list_append ⟨_,e,rfl⟩ F.entry_list_append (F.args_list_append_2 _ _) (PySem.list_append l its.toArray n u (by rw[uq];omega)) ⟨e,?_⟩;refine⟨.de,_,I.RI (its':=its++[u]) hH e (by simp) (r.append (.cons ru .nil)) ?_,rfl,q⟩;rw[vm,List.length_singleton];omega
noncomputable def N4:R2:=λx y H Q=>∃l b xs zs,x=.ref l/\y=.ref b/\H l=some (.ak xs)/\H b=some (.ak zs)/\xs.length+zs.length<=sizeLine/\∀p,H p=none->Q (.ref p) (upd H p (.ak (xs++zs)))
theorem Kl:wz X (binaryOp .Add) N4:=by
 intro ae s σ H x y v u Q I rx ry h;obtain⟨l,b,xs,zs,rfl,rfl,hH,hB,hz,q⟩:=h;cases rx;cases ry;obtain⟨z,its,n,r,hl,e⟩:=I.DW hH;obtain⟨z2,yf,n2,r2,MY,e2⟩:=I.DW hB;refine PySem.P.add_list e e2 ?_ (by rw[uq,uq];omega);have ea:its.toArray++yf.toArray=(its++yf).toArray:=by simp
 rw[ea];exact⟨.ref _,_,I.Ga (t':=s.toks) (r.append r2) (by rw[vm];omega),rfl,q _ I.fresh⟩
end
end L2
namespace Att
open PySem PySem.W PySem.Calls PyProof.Rows
theorem hU:∀(ns:List Int)(vs:List Value),WellAll P h vs (ns.map WData.int)->IntsAre vs ns:=by
 intro ns
 induction ns with
 |nil=>
  intro vs w;rw[A'] at w;cases w;exact .nil
 |cons n ns ih=>
  intro vs w;rw[j_] at w
  cases w with
  |cons a b=>
   cases a;exact .cons _ _ (ih _ b)
theorem uO{l:OpenLaw}(hn:l.most=some n)
  (Gd:l.row.toRowW.claim.pre args=true) (RJ:WellAll P h vals args):
  ∃a vs ns,vals=[Value.ref a]/\args=[WData.list (ns.map WData.int)]/\h.get? a=some {cls:=.type "list",data:=.seq vs.toArray}/\IntsAre vs ns/\ns.length<=n:=by
 have UT:WShape.hasAll [] args [.list .int]=true:=(pre_splitW Gd).1;have hc:l.pre.holds [] {args:=args}=true:=(pre_splitW Gd).2;obtain⟨d,r,rfl,h1,h2⟩:=hasAllW_cons UT;obtain rfl:=hasAllW_nil h2;obtain⟨xs,rfl,h3⟩:=hasW_list h1;obtain⟨ns,rfl⟩:=items_int h3;have di:ns.length<=n:=by
  unfold OpenLaw.pre at hc;have h4:(WTm.not (.lt (.lit (.int (n:Int))) (.len (.arg 0)))).holds [] {args:=[.list (ns.map .int)]}=true:=by
   have h4:=(holds_andW hc).1;rw[hn] at h4;exact h4
  have h5:=condW_of h4 (w_not (w_lt w_lit (w_len_list (w_arg rfl))));rw[gh] at h5;refine Nat.le_of_not_lt λq=>?_;have q':(n:Int)<((ns.length:Nat):Int):=by omega
  first
   |(rw[ya q'] at h5;exact absurd h5 (by decide))
   |(simp at h5;omega)
 cases RJ with
 |cons w1 w2=>
  cases w2
  cases w1 with
  |list ho v_=>exact⟨_,_,ns,rfl,rfl,ho,hU ns _ v_,di⟩
theorem uP(l:OpenLaw)(args:List WData):l.row.toRowW.claim.post args (.bool true) args=true:=
 postW_of (r:=l.row.toRowW) (X:=(true==true))
  (show WShape.has [] (.bool true) .bool=true by first|rfl|decide|simp[WShape.has,WShape.arms,WShape.armsAll])
  (show(WTm.eq .res (.lit (.bool true))).value [] {args:=args,res:=some (.bool true),after:=args}=some (.bool (true==true)) from w_eq_bool (w_res rfl) w_lit) rfl
theorem Br{l:OpenLaw}
  (hn:l.most=some n) (RK:d.params.defaults=[])
  (call:∀(w:World)(fv fm:Shared)(mg mb:Str->Option Value)(fa:Addr)(o:Obj)(pm cd doc:Value)(a:Addr)(vs:List Value)(ns:List Int),
   Ground q loose [] XP w fv mg mb fm.heap->YP w fm.heap->
   fm.heap.get? fa=some o->o.data=.func (docDef d.name d.params d.body d.scope pm cd doc)->fm.heap.CodeRec cd d.name->mg d.name=some (.ref fa)->
   fm.heap.get? a=some {cls:=.type "list",data:=.seq vs.toArray}->IntsAre vs ns->ns.length<=n->fm.gens= #[]->
   codeAny (model l.prog w) callerA (.call (.ref fa) ⟨[.ref a],[]⟩) (λr s'=>r=.ok (.ret (.bool true))/\OldK fm.heap s'.heap/\s'.os=fm.os/\AllBare s'.gens) fm):
  WalkO q loose XP YP l.row.toRowW d [] (λf vs=>PySem.call f vs):=by
 intro w fv fm mg mb G Y fa o pm cd doc dV kV ho hd uj hD hmg hg args vals as Gd UU Wz RJ WA;obtain rfl:dV=.none:=Dflts.none hD RK;obtain rfl:kV=.none:=Dflts.noKw hD;obtain⟨a,vs,ns,rfl,rfl,Km,hints,di⟩:=uO hn Gd RJ;refine enter_call (codeAny_mono (call w fv fm mg mb fa o pm cd doc a vs ns G Y ho (fd_plain hd) uj hmg Km hints di hg) λr s' hq=>?_);obtain⟨rfl,h2,h3,h4⟩:=hq;exact⟨.inl ⟨.bool true,.bool true,[],rfl,λ_=>rfl,.bool true,uP l _,λ_=>⟨List.Pairwise.nil,λ_ hm=>(nomatch hm)⟩⟩,h2,h3,h4⟩
end Att
namespace L2
open PySem PySem.Spec PyProof.Rows
theorem oi:∀{vs:List Value}{ns:List Int},IntsAre vs ns->dj (ns.map V.int) vs
 |_,_,.nil=>.nil
 |_,_,.cons n t h=>.cons ⟨t,rfl⟩ (oi h)
def Kn(H:Hp):Prop:=∀b,H b=none\/∃o xs,H b=some (.bf o (.ak xs))
end L2
/-THE UW QC (shape;WB,My.*are Tr):
  My.WC:a structure of the addresses that UX Ts names (classes,MZ);My.Txt K t:a structure (Prop) of the equations over K;
  My.RL:{K} {implicit addresses ..} (e1:nsIn K mainGlobals "law"=some (some (.ref f))) (e2:K.lookup f=some ⟨oc,od,.func (fnOf "law" "law" params body scope dV kV doc pm an yd ct),sl⟩) (e3:codeIn K yd "law"=true) .. :∃t,My.Txt K t
(the tactic k_is has no namespace:write k_is)-/
namespace L2
open PySem PySem.Spec PyProof.Rows
structure Ge(K:PySem.W.Frag)(x qual:Str)(st:Stmt)(f:Addr)(fd:FuncData):Prop where
 ex:∃(oc:Value)(od:Option Addr)(kV doc pm:Value)(an:Option Addr)(yd ct:Value)(J9:Array (Option Value)),
  fd=PySem.W.fnOf x qual (rn st) (ng st) (d_ st) .none kV doc pm an yd ct/\K.lookup f=some ⟨oc,od,.func fd,J9⟩/\PySem.W.codeIn K yd qual=true
 kp:PySem.W.keepIn K (.ref f)=true
section
variable{P:Program}{w:World}{K:PySem.W.Frag}{mg:Str->Option Value}{base:Heap}
theorem Ge.binds{x qual:Str}{st:Stmt}{f:Addr}{fd:FuncData}{ps:List Str}(F:Ge K x qual st f fd)
  (h:∀(kV doc pm:Value)(an:Option Addr)(yd ct:Value)(us:List Value),us.length=ps.length->bindArgs (PySem.W.fnOf x qual (rn st) (ng st) (d_ st) .none kV doc pm an yd ct) ⟨us,[]⟩=pure (ps.zip us)):Binds K fd ps []:=by
 obtain⟨oc,od,kV,doc,pm,an,yd,ct,J9,rfl,lk,uj⟩:=F.ex;exact .all (h kV doc pm an yd ct)
theorem Ko{st:Stmt}{kV doc pm yd ct:Value}(l:K.lookup f=some ⟨oc,od,.func (PySem.W.fnOf x qual (rn st) (ng st) (d_ st) .none kV doc pm an yd ct),J9⟩)
  (c:PySem.W.codeIn K yd qual=true) (k:PySem.W.keepIn K (.ref f)=true):Ge K x qual st f (PySem.W.fnOf x qual (rn st) (ng st) (d_ st) .none kV doc pm an yd ct):=⟨⟨oc,od,kV,doc,pm,an,yd,ct,J9,rfl,l,c⟩,k⟩
end
def jn(H H':Hp):Prop:=∀b o,H b=some o->H' b=some o
theorem jn.refl(H:Hp):jn H H:=λ_ _ h=>h
theorem jn.trans(a:jn H H1)(b:jn H1 H2):jn H H2:=λc o h=>b c o (a c o h)
theorem jn.free(e:jn H H')(h:H' l=Option.none):H l=Option.none:=by
 cases q:H l with
 |none=>rfl
 |some o=>
  rw[e l o q] at h;cases h
theorem wN{α:Type}(xs:List α)(i:Nat):∀k,((List.range k).map λm=>i+m).filterMap (λm=>xs[m]?)=(xs.drop i).take k
 |0=>by simp
 |k+1=>by
  rw[DI,wj,List.filterMap_append,wN xs i k,List.take_add_one,List.getElem?_drop]
  congr 1
theorem oE(v:Int)(n d:Nat):max 0 (min (if v<0 then v+(n:Int) else v) (n:Int))=((HT.gj n d (some v):Nat):Int):=by
 show _=(((if v<0 then(v+(n:Int)).toNat else min v.toNat n):Nat):Int)
 by_cases hv:v<0
 ·simp only[bg hv];omega
 ·simp only[bh hv];omega
theorem Kr(lo hi:Option Int)(n:Nat):Builtin.Str.strSliceIndices lo hi 1 n=(List.range (HT.gj n n hi-HT.gj n 0 lo)).map λm=>HT.gj n 0 lo+m:=by
 have e:Builtin.Str.strSliceIndices lo hi 1 n=sliceRange ((HT.gj n 0 lo:Nat):Int) ((HT.gj n n hi:Nat):Int) 1:=by
  unfold Builtin.Str.strSliceIndices;have h1:(1:Int)>0:=by omega
  simp only[h1,cw]
  congr 1
  ·cases lo with
   |none=>rfl
   |some v=>exact oE v n 0
  ·cases hi with
   |none=>rfl
   |some v=>exact oE v n n
 rw[e];generalize HT.gj n 0 lo=i;generalize HT.gj n n hi=j;unfold sliceRange;have h1:(1:Int)>0:=by omega
 simp only[h1,cw,Int.ediv_one];have e2:(if(i:Int)<(j:Int) then(j:Int)-i+1-1 else 0).toNat=j-i:=by split<;>omega
 rw[e2];refine Ae λm _=>?_;omega
theorem uQ(x:Str)(lo hi:Option Int):Txt.slice x lo hi=⟨((x.cps.toList.drop (HT.gj x.length 0 lo)).take (HT.gj x.length x.length hi-HT.gj x.length 0 lo)).toArray⟩:=by
 unfold Txt.slice;rw[Kr];have hn:x.length=x.cps.toList.length:=by show x.cps.size=_;simp
 split
 ·next h=>
  have h2:HT.gj x.length x.length hi-HT.gj x.length 0 lo=x.length:=by simpa using h
  have hj:HT.gj x.length x.length hi<=x.length:=HT.DT _ _ (ji _) hi;rw[h2];by_cases h0:x.length=0
  ·have:x.cps.toList=[]:=List.eq_nil_of_length_eq_zero (by omega)
   rw[this];have:x.cps= #[]:=by rw[←Array.toList_inj];exact this
   cases x;simp at this;subst this;simp
  ·have:HT.gj x.length 0 lo=0:=by omega
   rw[this,DJ,hn,BV]
 ·congr 2
  have:=wN x.cps.toList (HT.gj x.length 0 lo) (HT.gj x.length x.length hi-HT.gj x.length 0 lo);rw[←this]
  congr 1
  funext m;simp
variable{X:Cx}
noncomputable def N5:V->Option Int->Option Int->Hp->VK->Prop:=λx lo hi H Q=>∃z,x=.str z/\z.length<=sizeLine/\Q (.str (Txt.slice z lo hi)) H
theorem Ks:F9 X N5:=by
 intro ae s σ H x v vl vu lo hi sl Q I rx hs pl pu h;obtain⟨z,rfl,hz,q⟩:=h;obtain⟨t,rfl⟩:=rx;obtain⟨l,rfl,rfl⟩:∃l:Option (Int×Tok),vl=partValue l/\l.map (·.1)=lo:=by
  cases pl with
  |none=>exact⟨none,rfl,rfl⟩
  |int i t=>exact⟨some (i,t),rfl,rfl⟩
 obtain⟨u,rfl,rfl⟩:∃l:Option (Int×Tok),vu=partValue l/\l.map (·.1)=hi:=by
  cases pu with
  |none=>exact⟨none,rfl,rfl⟩
  |int i t=>exact⟨some (i,t),rfl,rfl⟩
 refine⟨"str",_,F.slot_str_getitem.lookup,typeIs_str _ _ _,wpAny_getItem_str_slice (l:=l) (u:=u) (st:=none) hs rfl (post_val_or_str ⟨rm (Txt.slice_le z _ _) hz,λt' k=>?_⟩)⟩;exact⟨.str (Txt.slice z _ _),H,I.tok _,⟨t',rfl⟩,q⟩
end L2
namespace L2
open PySem PySem.Spec PyProof.Rows
theorem eS(I:Nat->Shared->Prop)
  (turn:∀n s,I n s->wpAny (model prog w) A (pyNext it) (λr fm=>match r with
   |none=>R (.ok .next) fm
   | some v=>wpAny (model prog w) A (letOwnedTupleGo target it v) (λ_ fv=>wpAny (model prog w) A (assign target env v) (λ_ oz=>
     wpAny (model prog w) A (forIn ifs true λc r=>if r=true then do let ok←isTrue c env (eval c env);pure (ForInStep.yield ok) else pure (ForInStep.yield r)) (λok vy=>
      if ok=true then wpAny (model prog w) A (eval elt env) (λx CY=>
       wpAny (model prog w) A (call (.builtin "list.append") [acc,x]) (λ_ N6=>∃m,m<n/\I m N6) (notedBy (model prog w) A env λe s'=>R (.error e) s') CY) (notedBy (model prog w) A env λe s'=>R (.error e) s') vy
      else∃m,m<n/\I m vy) (notedBy (model prog w) A env λe s'=>R (.error e) s') oz) (notedBy (model prog w) A env λe s'=>R (.error e) s') fv) (notedBy (model prog w) A env λe s'=>R (.error e) s') fm) (notedBy (model prog w) A env λe s'=>R (.error e) s') s)
  (n:Nat) (h:I n s):
  codeAny (model prog w) A (.compLoop (.ListComp elt [⟨target,iter,ifs,0⟩] scope pos) 0 it acc env) R s:=by
 refine codeAny_loop rfl I (λn s hI=>?_) n h;show wpAny _ A ((compTurn (.ListComp elt [⟨target,iter,ifs,0⟩] scope pos) 0 it acc env).onRaise (λx=>do noteFrame x env;theTreesLotGoes x)) _ _ s;refine wpAny_noted ?_;rw[compTurn_list];refine dy (wpAny_standAt (dy (ur (turn n s hI) (λr fm jx=>?_) λ_ _ h'=>h')))
 cases r with
 |none=>exact mw jx
 |some v=>
  refine dy (ur jx (λ_ fv h₀=>?_) λ_ _ h'=>h');refine dy (ur h₀ (λ_ oz ze=>dy (ur ze (λok vy ye=>?_) λ_ _ h'=>h')) λ_ _ h'=>h')
  cases ok with
  |false=>exact mw ⟨rfl,ye⟩
  |true=>
   exact dy (dy (ur ye (λx CY Bs=>dy (ur Bs (λ_ N6 CZ=>mw (mw ⟨rfl,CZ⟩)) λ_ _ h'=>h')) λ_ _ h'=>h'))
noncomputable def qk(σ:St)(caps:List Nat)(ntg:Nat):St:=List.replicate ntg none++caps.map λj=>(σ[j]?).getD none
noncomputable def cu(X:Cx)(N':List Str)(scope:Scope)(cl:List (Str×Addr))(C:Addr)(s:Shared)(H:Hp)(fp:List Addr)(E:Value->Shared->Prop):Cx where
 prog:=X.prog
 w:=X.w
 K:=X.K
 mg:=X.mg
 base:=X.base
 A:=X.A
 N:=N'
 fv:=s
 bx:=H
 env:=compEnvC scope cl C X.env
 outer:=X.stack
 stack:=X.stack
 ex:=fp
 fn:=λ_=>false
 calm:=X.calm
 pn:=[]
 xe:=E
structure jy(X:Cx)(N':List Str)(caps:List Nat)(ntg:Nat)(scope:Scope):Prop where
 kind:scope.kind=.function
 DX:∀y∈scope.names,y.2≠.cell
 loc:∀y∈scope.names,y.2=.local->scope.names.lookup y.1=some .local
 Tt:∀y∈scope.names,y.2=.free->X.env.kindOf y.1=some .cell\/X.env.kindOf y.1=some .free
 len:N'.length=ntg+caps.length
 UY:∀(i j:Nat)(x:Str),caps[i]?=some j->N'[ntg+i]?=some x->X.N[j]?=some x/\scope.names.lookup x=some .free
theorem bS{env:Env}:∀{names:List (Str×NameKind)}{x:Str}{k:NameKind},
  (names.map λ(n,k)=>if(k==NameKind.free&&env.scope.kind== .function&&env.kindOf n==some .cell) then(n,NameKind.cell) else(n,k)).lookup x=some k->
  ∃k',names.lookup x=some k'/\(k=k'\/(k'=.free/\k=.cell))
 |[],_,_,h=>by simp at h
 |(n,k0)::r,x,k,h=>by
  have ih:= @bS env r x k;have h':List.lookup x ((if(k0==NameKind.free&&env.scope.kind== .function&&env.kindOf n==some .cell)=true then(n,NameKind.cell) else(n,k0))::(r.map λ(n,k)=>if(k==NameKind.free&&env.scope.kind== .function&&env.kindOf n==some .cell) then(n,NameKind.cell) else(n,k)))=some k:=h
  cases hx:x==n with
  |true=>
   refine⟨k0,by simp only[Bf,hx],?_⟩;by_cases hc:(k0==NameKind.free&&env.scope.kind== .function&&env.kindOf n==some .cell)=true
   ·rw[bg hc] at h'
    simp only[Bf,hx] at h';cases h';refine .inr ⟨?_,rfl⟩;simp only[oy,beq_iff_eq] at hc;exact hc.1.1
   ·rw[bh hc] at h'
    simp only[Bf,hx] at h';cases h';exact .inl rfl
  |false=>
   have e:List.lookup x (r.map λ(n,k)=>if(k==NameKind.free&&env.scope.kind== .function&&env.kindOf n==some .cell) then(n,NameKind.cell) else(n,k))=some k:=by
    by_cases hc:(k0==NameKind.free&&env.scope.kind== .function&&env.kindOf n==some .cell)=true
    ·rw[bg hc] at h';simpa only[Bf,hx] using h'
    ·rw[bh hc] at h';simpa only[Bf,hx] using h'
   obtain⟨k',e1,e2⟩:=ih e;exact⟨k',by simp only[Bf,hx];exact e1,e2⟩
theorem bO{env:Env}:∀{names:List (Str×NameKind)}{x:Str},names.lookup x=some .free->
  (names.map λ(n,k)=>if(k==NameKind.free&&env.scope.kind== .function&&env.kindOf n==some .cell) then(n,NameKind.cell) else(n,k)).lookup x=some .cell\/
  (names.map λ(n,k)=>if(k==NameKind.free&&env.scope.kind== .function&&env.kindOf n==some .cell) then(n,NameKind.cell) else(n,k)).lookup x=some .free
 |[],_,h=>by simp at h
 |(n,k0)::r,x,h=>by
  have ih:= @bO env r x;show List.lookup x ((if(k0==NameKind.free&&env.scope.kind== .function&&env.kindOf n==some .cell)=true then(n,NameKind.cell) else(n,k0))::_)=_\/List.lookup x ((if(k0==NameKind.free&&env.scope.kind== .function&&env.kindOf n==some .cell)=true then(n,NameKind.cell) else(n,k0))::_)=_
  cases hx:x==n with
  |true=>
   simp only[Bf,hx] at h;cases h;by_cases hc:(NameKind.free==NameKind.free&&env.scope.kind== .function&&env.kindOf n==some .cell)=true
   ·rw[bg hc];exact .inl (by simp only[Bf,hx])
   ·rw[bh hc];exact .inr (by simp only[Bf,hx])
  |false=>
   simp only[Bf,hx] at h;by_cases hc:(k0==NameKind.free&&env.scope.kind== .function&&env.kindOf n==some .cell)=true
   ·rw[bg hc];simp only[Bf,hx];exact ih h
   ·rw[bh hc];simp only[Bf,hx];exact ih h
theorem dP:∀(names:List (Str×NameKind))(cs:List (Str×Addr)),(∀y∈names,y.2=.free->∃c,env.cells.lookup y.1=some c)->
  ∃ cl,(forIn names cs λ(x:Str×NameKind)(r:List (Str×Addr))=>(do
    if(x.2==NameKind.free)=true then(do let a←cellOf env x.1;pure (ForInStep.yield ((x.1,a)::r))) else pure (ForInStep.yield r):Sem (ForInStep (List (Str×Addr)))))=pure cl/\
   (∀x c,cl.lookup x=some c->cs.lookup x=some c\/env.cells.lookup x=some c)/\(∀x,(x,NameKind.free)∈names->∃c,cl.lookup x=some c)/\(∀x c,cs.lookup x=some c->∃c',cl.lookup x=some c')
 |[],cs,_=>⟨cs,rfl,λx c h=>.inl h,λx h=>by simp at h,λx c h=>⟨c,h⟩⟩
 |(n,k)::r,cs,h=>by
  rw[List.forIn_cons];by_cases hk:k=.free
  ·subst hk
   obtain⟨a,ha⟩:=h (n,.free) wo rfl;obtain⟨cl,e,p1,p2,p3⟩:=dP r ((n,a)::cs) λy hy=>h y (rk _ hy);refine⟨cl,?_,λx c hc=>?_,λx hx=>?_,λx c hc=>?_⟩
   ·have e1:cellOf env n=pure a:=by unfold cellOf;rw[ha]
    simp only[beq_self_eq_true,cw,e1,pure_bind];exact e
   ·rcases p1 x c hc with q|q
    ·by_cases hx:x==n
     ·simp only[Bf,hx] at q
      cases q;have:x=n:=by simpa using hx
      subst this;exact .inr ha
     ·simp only[Bf,hx] at q
      exact .inl q
    ·exact .inr q
   ·rcases List.mem_cons.mp hx with q|q
    ·cases q
     exact p3 n a (by simp[Bf])
    ·exact p2 x q
   ·by_cases hx:x==n
    ·exact p3 x a (by simp only[Bf,hx])
    ·exact p3 x c (by simp only[Bf,hx];exact hc)
  ·obtain⟨cl,e,p1,p2,p3⟩:=dP r cs λy hy=>h y (rk _ hy)
   refine⟨cl,?_,p1,λx hx=>?_,p3⟩
   ·have hb:(k==NameKind.free)=false:=by simpa using hk
    simp only[hb,gV,dq,pure_bind];exact e
   ·rcases List.mem_cons.mp hx with q|q
    ·cases q;exact absurd rfl hk
    ·exact p2 x q
theorem dQ(ok:X.Ok)(Sc:jy X N' caps ntg scope):
  ∃cl,closureFor scope X.env=pure cl/\(∀x c,cl.lookup x=some c->X.env.cells.lookup x=some c)/\∀x,(x,NameKind.free)∈scope.names->∃c,cl.lookup x=some c:=by
 obtain⟨cl,e,p1,p2,_⟩:=dP (env:=X.env) scope.names [] λy hy hf=>ok.has y.1 (Sc.Tt y hy hf);refine⟨cl,?_,λx c hc=>(p1 x c hc).resolve_left (by simp),p2⟩;exact Eq.trans (congrArg (· >>=λcs=>pure cs) e) rfl
def IG(X:Cx)(ifs:List Expr)(t:TT):Prop:=
 ∀(ae:List (Addr×Obj))(s:Shared)(σ:St)(H:Hp)(Q:Bool->Hp->Prop),bj X ae σ H s->t σ H Q->
  wpAny (model X.prog X.w) X.A (forIn ifs true λc r=>if r=true then do let ok←isTrue c X.env (eval c X.env);pure (ForInStep.yield ok) else pure (ForInStep.yield r)) (TP X ae σ Q) X.xe s
theorem sQ:IG X [] (λσ H Q=>Q true H):=λ_ _ _ H _ I h=>wpAny_tests_nil ⟨H,I,h⟩
theorem Gf(h:PT X c t):IG X [c] t:=λae s σ H Q I q=>wpAny_tests_one (h ae s σ H Q I q)
def B5(J:It)(g:TG)(tc:TT)(te:TE)(Q:Hp->Prop)(UZ:St)(p:Addr)(H0:Hp):Prop:=
 ∃W:Nat->Nat->St->Hp->Prop,(∃m,W 0 m UZ H0)/\∀i m σ H,W i m σ H->
  (J.stop i H/\Q H)\/(J.go i H/\∀x H',J.NH i H x H'->g x σ H' λIv H2=>tc Iv H2 λb H3=>
   if b=true then te Iv H3 λv H4=>∃ys m',H4 p=some (.ak ys)/\ys.length<sizeLine/\m'<m/\W (i+1) m' Iv (upd H4 p (.ak (ys++[v])))
   else∃m',m'<m/\W (i+1) m' Iv H3)
noncomputable def xm(wi:TI)(g:TG)(tc:TT)(te:TE)(caps:List Nat)(ntg:Nat):TE:=λσ H Q=>
 wi σ H λJ H1=>∀p,H1 p=none->B5 J g tc te (λH'=>Q (.ref p) H') (qk σ caps ntg) p (upd H1 p (.ak []))
section
variable{X:Cx}{N':List Str}{caps:List Nat}{ntg:Nat}{scope:Scope}{ae:List (Addr×Obj)}{σ:St}{H2:Hp}{s2:Shared}
theorem wO(h:(qk σ caps ntg)[i]?=some (some v)):∃k j,i=ntg+k/\caps[k]?=some j/\σ[j]?=some (some v):=by
 unfold qk at h;by_cases hi:i<ntg
 ·rw[DF (by simpa using hi),Ig,bg hi] at h
  cases h
 ·rw[DE (by simpa using hi),Jq,A9] at h
  cases e:caps[i-ntg]? with
  |none=>rw[e] at h;cases h
  |some j=>
   rw[e] at h;refine⟨i-ntg,j,by omega,e,?_⟩;have h':(σ[j]?).getD none=some v:=by simpa using h
   cases q:σ[j]? with
   |none=>rw[q] at h';cases h'
   |some o=>rw[q] at h';simp at h';rw[h']
theorem i7{it:Addr}{fp:List Addr}{cl:List (Str×Addr)}{p:Addr}{s3:Shared}{h1:Heap}{tk:Nat}{tn:Nat->Heap->Prop}{tg:Expr}{J:It}{E:Value->Shared->Prop}
  (I2:bj X ae σ H2 s2) (Sc:jy X N' caps ntg scope)
  (wa:∀x c,cl.lookup x=some c->X.env.cells.lookup x=some c) (v_:∀x,(x,NameKind.free)∈scope.names->∃c,cl.lookup x=some c)
  (T:Turn X.prog X.w X.K tg J fp it tn) (t2:tn 0 s2.heap) (f2:∀b∈fp,zd X ae H2 b)
  (hp:p=s2.heap.objs.size) (B6:s3={s2 with heap:=s2.heap.push {cls:=.type "list",dict:=none,data:=.seq ([]:List Value).toArray}})
  (k1:∀b o,s3.heap.get? b=some o->h1.get? b=some o) {m:Str->Option Value} (Kt:h1.Ns s3.heap.objs.size m):
  bj (cu X N' scope cl s3.heap.objs.size s3 (upd H2 p (.ak [])) fp E) [] (qk σ caps ntg) (upd H2 p (.ak [])) {s3 with heap:=h1,toks:=tk}:=by
 have I3:bj X ae σ (upd H2 p (.ak [])) s3:=by
  subst hp B6;exact I2.Ga (ys:=[]) (its:=[]) (t':=s2.toks) .nil (E3 _)
 have sz:s3.heap.objs.size=s2.heap.objs.size+1:=by subst B6;exact Heap.size_push ..
 have Ku:upd H2 p (.ak []) s3.heap.objs.size=none:=I3.fo.fresh (ji _);have U0:∀b o,s3.heap.get? b=some o->b≠s3.heap.objs.size:=λb o e=>Af (jv e);have k0:∀b o,s2.heap.get? b=some o->s3.heap.get? b=some o:=λb o e=>by subst B6;exact qm _ e
 have Tu:∀b∈fp,∃o,s2.heap.get? b=some o/\∀v,o.data≠.cell v:=T.obj _ _ t2;have WD:∀b∈fp,b≠p:=λb hb=>by
  obtain⟨o,e,_⟩:=Tu b hb;subst hp;exact Af (jv e)
 refine⟨⟨I3.ok.mod,Sc.kind,I3.ok.glob,I3.ok.blt,ji _,λx y c e1 e2=>I3.ok.inj x y c (wa _ _ e1) (wa _ _ e2),λx hx=>?_,λx c e _=>absurd e kj,I3.ok.hd,I3.ok.frames,.inl rfl,λb hb=>⟨?_,λx c e=>?_⟩,
  I3.bs,rm I3.ok.DN I3.sz,λb o e hb=>?_,λb hb hf=>?_,I3.stack,I3.vt⟩,rfl,I3.bare,Un.kept k1,⟨m,Kt,λi x v e1 e2 e3=>?_⟩,λx c e=>?_,Ku,λx c e=>?_,λq hq=>absurd (show q∈([]:List (Addr×Obj)) from hq) (by simp),I3.fo.kept k1,?_⟩
 ·--Tv name of the block that is a cell or free has its cell
  have C4:(relabel scope X.env).names.lookup x=some .cell\/(relabel scope X.env).names.lookup x=some .free:=hx;have key:scope.names.lookup x=some .free:=by
   rcases C4 with q|q
   ·obtain⟨k',e1,e2⟩:=bS (env:=X.env) (names:=scope.names) q
    rcases e2 with e2|⟨e2,_⟩
    ·subst e2
     exact absurd rfl (Sc.DX _ (Fd e1))
    ·rw[e2] at e1;exact e1
   ·obtain⟨k',e1,e2⟩:=bS (env:=X.env) (names:=scope.names) q
    rcases e2 with e2|⟨e2,e3⟩
    ·subst e2;exact e1
    ·cases e3
  exact v_ x (Fd key)
 ·obtain⟨o,e,_⟩:=Tu b hb
  exact U0 b o (k0 b o e)
 ·exact(f2 b hb).2.2.2.2.1 x c (wa x c e)
 ·obtain⟨_,_,_,h4,_⟩:=f2 b hb
  rcases h4 with h4|h4
  ·exact I2.ok.Bj b o e h4
  ·exact absurd (AR (jv e) (rm I2.ok.DN h4)) (Aj _)
 ·obtain⟨_,h2,h3,_⟩:=f2 b hb
  rcases List.mem_cons.mp (I3.wu b hf) with z|z
  ·exact h2 z
  ·exact h3 z
 ·obtain⟨k,j,rfl,ej,ev⟩:=wO e2
  obtain⟨n1,n2⟩:=Sc.UY k j x ej e1;have xb:X.env.kindOf x=some .cell\/X.env.kindOf x=some .free:=Sc.Tt _ (Fd n2) rfl;obtain⟨m0,WE,U1⟩:=I3.loc;obtain⟨u,ru,lk⟩:=U1 j x v n1 ev (.inr xb);refine⟨u,ru,.inr ⟨bO n2,?_⟩⟩;obtain⟨c,ec⟩:=v_ x (Fd n2);refine⟨c,ec,?_⟩;rcases lk with⟨kl,_⟩|⟨_,c',N7,q⟩
  ·rcases xb with z|z<;>(rw[kl] at z;cases z)
  ·have:c'=c:=Aw (N7.symm.trans (wa x c ec))
   subst this;obtain⟨o,ho,hd⟩:=q;exact⟨o,k1 _ o ho,hd⟩
 ·obtain⟨v,o,ho,hd⟩:=I3.cell x c (wa x c e)
  exact⟨v,o,k1 _ o ho,hd⟩
 ·exact I3.ko x c (wa x c e)
 ·unfold qk
  show _=N'.length;rw[vm,Jq,gh,Sc.len]
theorem sR{Q:Addr->Hp->Prop}{RR:Value->Addr->Result->Shared->Prop}
  (hc:X.calm=true) (I2:bj X ae σ H2 s2) (Sc:jy X N' caps ntg scope)
  (wa:∀x c,cl.lookup x=some c->X.env.cells.lookup x=some c) (v_:∀x,(x,NameKind.free)∈scope.names->∃c,cl.lookup x=some c)
  (T:Turn X.prog X.w X.K tg J fp it tn) (t2:tn 0 s2.heap) (f2:∀b∈fp,zd X ae H2 b)
  (hg:∀C s H,PG (cu X N' scope cl C s H fp λ_ _=>False) tg g) (ht:∀C s H,IG (cu X N' scope cl C s H fp λ_ _=>False) ifs tc) (he:∀C s H,PE (cu X N' scope cl C s H fp λ_ _=>False) elt te)
  (q:∀p,H2 p=none->B5 J g tc te (Q p) (qk σ caps ntg) p (upd H2 p (.ak [])))
  (hR:∀p C s' H' m,bj X ae σ H' s'->H2 p=none->s'.heap.Ns C m->H' C=none->s2.heap.objs.size<C->Q p H'->RR (.ref p) C (.ok .next) s'):
  wpAny (model X.prog X.w) X.A (newList []) (λacc vy=>wpAny (model X.prog X.w) X.A (newFunctionEnv scope X.env.globals cl [] X.env.qual none .none (some X.env)) (λC5 CY=>
   codeAny (model X.prog X.w) X.A (.compStart (.ListComp elt [⟨tg,iter,ifs,0⟩] scope pos) 0 (.ref it) acc {C5 with scope:=relabel scope X.env}) (RR acc C5.locals) CY) X.xe vy) X.xe s2:=by
 refine EY (wpAny_newFunctionEnv Sc.DX (by intro y hy;simp at hy) (λjx vb vc=>?_) Sc.kind);dsimp only at vb vc⊢;generalize B6:({s2 with heap:=s2.heap.push {cls:=.type "list",dict:=none,data:=.seq ([]:List Value).toArray}}:Shared)=s3;have e3:s2.heap.push {cls:=.type "list",dict:=none,data:=.seq ([]:List Value).toArray}=s3.heap:=by rw[←B6]
 rw[e3] at vb vc⊢;have k1:∀b o,s3.heap.get? b=some o->jx.get? b=some o:=λb o e=>vc.extBut b o (Af (jv e)) (qm _ e);have k0:∀b o,s2.heap.get? b=some o->s3.heap.get? b=some o:=λb o e=>by rw[←e3];exact qm _ e
 have sz:s3.heap.objs.size=s2.heap.objs.size+1:=by rw[←e3];exact Heap.size_push ..
 have QD:s3.os=s2.os:=by rw[←B6]
 have Kv:H2 s2.heap.objs.size=none:=I2.fo.fresh (ji _);have IC:=i7 (E:=λ_ _=>False) (tk:=s2.toks+([]:List (Str×Value)).length) (h1:=jx) I2 Sc wa v_ T t2 f2 rfl B6.symm k1 vb;have RM:({s2 with heap:=jx,toks:=s2.toks+([]:List (Str×Value)).length}:Shared)={s3 with heap:=jx,toks:=s2.toks+([]:List (Str×Value)).length}:=by rw[←B6]
 rw[RM];have T1:tn 0 jx:=T.keep _ _ _ t2 λb _ o e=>k1 b o (k0 b o e);obtain⟨W,⟨m0,w0⟩,turn⟩:=q _ Kv;have I3:bj X ae σ (upd H2 s2.heap.objs.size (.ak [])) s3:=by
  rw[←B6];exact I2.Ga (ys:=[]) (its:=[]) (t':=s2.toks) .nil (E3 _)
 have RN:∀b∈fp,upd H2 s2.heap.objs.size (.ak []) b=none:=λb hb=>by
  obtain⟨o,e,_⟩:=T.obj _ _ t2 b hb;rw[aB (Af (jv e))];exact(f2 b hb).1
 have RO:∀b∈fp,b≠s3.heap.objs.size:=λb hb=>by
  obtain⟨o,e,_⟩:=T.obj _ _ t2 b hb;exact Af (jv (k0 b o e))
 have stat:∀{H':Hp},(∀b∈fp,H' b=none)->∀b∈fp,zd (cu X N' scope cl s3.heap.objs.size s3 (upd H2 s2.heap.objs.size (.ak [])) fp λ_ _=>False) [] H' b:=λhn b hb=>
  ⟨hn b hb,RO b hb,λz=>by
   rcases List.mem_cons.mp (I3.wu b z) with y|y
   ·exact(f2 b hb).2.1 y
   ·exact(f2 b hb).2.2.1 y,.inl hb,λx c e=>(f2 b hb).2.2.2.2.1 x c (wa x c e),λp hp=>absurd (show p∈([]:List (Addr×Obj)) from hp) (by simp)⟩
 have loop:codeAny (model X.prog X.w) X.A (.compLoop (.ListComp elt [⟨tg,iter,ifs,0⟩] scope pos) 0 (.ref it) (.ref s2.heap.objs.size) (compEnvC scope cl s3.heap.objs.size X.env)) (RR (.ref s2.heap.objs.size) s3.heap.objs.size)
   {s3 with heap:=jx,toks:=s2.toks+([]:List (Str×Value)).length}:=by
  refine eS (λn s'=>∃i dk H',bj (cu X N' scope cl s3.heap.objs.size s3 (upd H2 s2.heap.objs.size (.ak [])) fp λ_ _=>False) [] dk H' s'/\tn i s'.heap/\(∀b∈fp,H' b=none)/\W i n dk H') ?_ m0 ⟨0,_,_,IC,T1,RN,w0⟩;rintro n s4 ⟨i,Gg,H4,I4,N8,N9,w4⟩;rcases turn i n Gg H4 w4 with⟨stop,qn⟩|⟨go,step⟩
  ·refine ur (T.done (cu X N' scope cl s3.heap.objs.size s3 (upd H2 s2.heap.objs.size (.ak [])) fp λ_ _=>False) rfl rfl rfl hc i [] s4 Gg H4 (λ_ _=>False) I4 (stat N9) N8 stop) (λr s5 qQ=>?_) λ_ _ z=>False.elim z
   obtain⟨hr,I5⟩:=qQ;subst hr;obtain⟨mm,hm,_⟩:=I5.loc;have u1:Un (ki X.stack) fp H2 (upd H2 s2.heap.objs.size (.ak [])) s2.heap s3.heap:=by
    rw[←e3];exact Un.laid (λb u e=>qm _ e) (ji _) Kv
   have u2:Un (ki X.stack) fp H2 H4 s2.heap s5.heap:=u1.trans I5.base;have I6:bj X ae σ H4 s5:=I2.Bl (ch:=fp) (I5.os.trans QD) u2 I5.fo I5.bare λb hb=>⟨(f2 b hb).2.2.2.1,(f2 b hb).2.1,(f2 b hb).2.2.2.2.1,(f2 b hb).2.2.2.2.2⟩
   exact hR _ _ s5 H4 mm I6 Kv hm I5.free (by rw[sz];exact EZ _) qn
  ·refine ur (T.item (cu X N' scope cl s3.heap.objs.size s3 (upd H2 s2.heap.objs.size (.ak [])) fp λ_ _=>False) rfl rfl rfl hc i [] s4 Gg H4 (λ_ _=>False) I4 (stat N9) N8 go) (λr s5 qQ=>?_) λ_ _ z=>False.elim z
   obtain⟨u,hr,h5⟩:=qQ;subst hr;refine ur h5 (λ_ s6 qQ=>?_) λ_ _ z=>False.elim z;obtain⟨x,H6,I6,r6,y6,Kw,RP⟩:=qQ;have RQ:=I6.pinned (stat RP) (T.obj _ _ Kw);have o_:∀{uw:St}{H7:Hp}{s7:Shared},bj (cu X N' scope cl s3.heap.objs.size s3 (upd H2 s2.heap.objs.size (.ak [])) fp λ_ _=>False) ([]++wy fp s6.heap) uw H7 s7->tn (i+1) s7.heap/\∀b∈fp,H7 b=none:=λ{uw H7 s7} I7=>
    ⟨T.keep _ _ _ Kw λb hb o e=>(I7.pin (b,o) (Av _ (Av _ (bG hb e)))).1,λb hb=>by
     obtain⟨o,e,d⟩:=T.obj _ _ Kw b hb;exact(I7.pin (b,o) (Av _ (Av _ (bG hb e)))).2.1⟩
   refine ur (hg _ _ _ _ s6 Gg H6 x u _ RQ r6 (step x H6 y6)) (λ_ s7 qQ=>?_) λ_ _ z=>False.elim z;obtain⟨uw,H7,I7,q7⟩:=qQ;refine ur (ht _ _ _ _ s7 uw H7 _ I7 q7) (λb s8 qQ=>?_) λ_ _ z=>False.elim z;obtain⟨H8,I8,q8⟩:=qQ
   cases b with
   |true=>
    rw[bg rfl] at q8⊢;refine ur (he _ _ _ _ s8 uw H8 _ I8 q8) (λv s9 qQ=>?_) λ_ _ z=>False.elim z;obtain⟨y,H9,I9,r9,ys,m',hl,hz,hm,w9⟩:=qQ;refine ur (fP (X:=(cu X N' scope cl s3.heap.objs.size s3 (upd H2 s2.heap.objs.size (.ak [])) fp λ_ _=>False)) _ s9 uw H9 (.ref s2.heap.objs.size) [y] (.ref s2.heap.objs.size) [v] (λ_ H=>W (i+1) m' uw H) I9 rfl (.cons r9 .nil) ⟨_,ys,y,rfl,rfl,hl,hz,w9⟩) (λ_ U2 qQ=>?_) λ_ _ z=>False.elim z;obtain⟨_,RS,Kx,_,RT⟩:=qQ;exact⟨m',hm,i+1,uw,RS,Kx.jm,(o_ Kx).1,(o_ Kx).2,RT⟩
   |false=>
    rw[bh kj] at q8⊢;obtain⟨m',hm,w8⟩:=q8;exact⟨m',hm,i+1,uw,H8,I8.jm,(o_ I8).1,(o_ I8).2,w8⟩
 exact codeAny_compStart_list loop (T.self _ _ _ _ _ T1 loop)
theorem Gh(hc:X.calm=true)(hi:PI X tg iter wi)(Sc:jy X N' caps ntg scope)
  (hg:∀cl C s H fp,PG (cu X N' scope cl C s H fp λ_ _=>False) tg g) (ht:∀cl C s H fp,IG (cu X N' scope cl C s H fp λ_ _=>False) ifs tc) (he:∀cl C s H fp,PE (cu X N' scope cl C s H fp λ_ _=>False) elt te)
  (hs:∀x,foldedSetIterable iter X.env x=pure x):PE X (.ListComp elt [⟨tg,iter,ifs,0⟩] scope pos) (xm wi g tc te caps ntg):=by
 intro ae s σ H Q I h;rw[eval_ListComp];obtain⟨cl,N_,wa,v_⟩:=dQ I.ok Sc;refine wpAny_comprehension_free (use:=none) rfl hs N_ Sc.kind Sc.loc (ij (hi ae s σ H _ I h) λv s1 h1=>ij h1 λNI s2 h2=>?_);obtain⟨it,fp,tn,J,H2,rfl,I2,T,t2,f2,q2⟩:=h2;refine sR (RR:=λacc C=>compPost (model X.prog X.w) X.A X.xe none (EP X ae σ Q) acc C) (Q:=λp H'=>Q (.ref p) H') hc I2 Sc wa v_ T t2 f2 (λC s H=>hg cl C s H fp) (λC s H=>ht cl C s H fp) (λC s H=>he cl C s H fp) q2 ?_;intro p C s' H' m I' hp hm hC lq hq;refine⟨m,hm,λh' sb=>⟨.ref p,H',?_,rfl,hq⟩⟩;refine I'.turned (t':=s'.toks) (it:=C) (λb o hb e=>sb.extBut b o hb e) hC (Co (CT I2.lt lq)) (.inr (DL (Dm I2.sz lq))) (λx c e z=>?_) λq hq z=>?_
 ·obtain⟨v,w⟩:=I2.cell x c e
  exact absurd (CT w.lt (by rw[z];exact lq)) (Aj _)
 ·exact absurd (CT (jv (I2.pin q hq).1) (by rw[z];exact lq)) (Aj _)
theorem gS(hN:X.N.Nodup)(hy:X.N[i]?=some y)(hx:Loc X.env.scope y)
  (hf:X.fn y=true\/X.env.scope.names.lookup y=some .local)
  (AY:swapsWith (.ListComp elt [⟨tg,iter,ifs,0⟩] scope pos) (some (.Name y py)) wb.line X.env=pure true)
  (hc:X.calm=true) (hi:PI X tg iter wi) (Sc:jy X N' caps ntg scope)
  (hg:∀cl C s H fp,PG (cu X N' scope cl C s H fp λ_ _=>False) tg g) (ht:∀cl C s H fp,IG (cu X N' scope cl C s H fp λ_ _=>False) ifs tc) (he:∀cl C s H fp,PE (cu X N' scope cl C s H fp λ_ _=>False) elt te)
  (hs:∀x,foldedSetIterable iter X.env x=pure x):PS X (.Assign [.Name y py] (.ListComp elt [⟨tg,iter,ifs,0⟩] scope pos) wb) (qj (xm wi g tc te caps ntg) (fj i)):=by
 intro ae s σ H D I h;rw[exec_Assign_Name_used _ _ _ _ AY];refine dy (wpAny_standAt (dy ?_));show wpAny _ X.A (do let _←comprehension (.ListComp elt [⟨tg,iter,ifs,0⟩] scope pos) scope X.env _ (newList []) false (eval iter X.env) (some (assign (.Name y py) X.env))) _ _ s;obtain⟨cl,N_,wa,v_⟩:=dQ I.ok Sc;refine dy (ur (wpAny_comprehension_free (use:=some (assign (.Name y py) X.env)) (Q:=λ_ s'=>SP X ae D .next s') rfl hs N_ Sc.kind Sc.loc
  (ij (hi ae s σ H _ I h) λv s1 h1=>ij h1 λNI s2 h2=>?_)) (λ_ s' hq=>mw (mw hq)) λ_ _ e=>e)
 obtain⟨it,fp,tn,J,H2,rfl,I2,T,t2,f2,q2⟩:=h2;refine sR (RR:=λacc C=>compPost (model X.prog X.w) X.A X.xe (some (assign (.Name y py) X.env)) (λ_ s'=>SP X ae D .next s') acc C) (Q:=λp H'=>D.nx (σ.set i (some (.ref p))) H') hc I2 Sc wa v_ T t2 f2
  (λC s H=>hg cl C s H fp) (λC s H=>ht cl C s H fp) (λC s H=>he cl C s H fp) q2 ?_
 intro p C s' H' m I' hp hm hC lq hq;have Oa:C≠X.env.locals:=Co (CT I2.lt lq);have Ob:∀x c,X.env.cells.lookup x=some c->c≠C:=λx c e z=>by
  obtain⟨v,w⟩:=I2.cell x c e;exact absurd (CT w.lt (by rw[z];exact lq)) (Aj _)
 have Oc:∀q∈X.pn++ae,q.1≠C:=λq hq z=>absurd (CT (jv (I2.pin q hq).1) (by rw[z];exact lq)) (Aj _);have Od:X.fv.heap.objs.size<=C:=DL (Dm I2.sz lq);obtain⟨oC,es,ep,ho,hd,r⟩:=id hm;have RU:bj X (ae++[(C,oC)]) σ H' s':=I'.ym λq hq=>by
  rcases List.mem_append.mp hq with z|z
  ·exact I'.pin q (Av _ z)
  ·have:q=(C,oC):=by simpa using z
   subst this;exact⟨ho,hC,Oa,I2.JG (DL lq),λv z=>by rw[hd] at z;cases z⟩
 show wpAny _ X.A (assign (.Name y py) X.env (.ref p)) _ _ s';refine ij (eK hN hy hx hf (ae++[(C,oC)]) s' σ H' (.ref p) (.ref p) _ RU rfl hq) λ_ s8 qQ=>?_;obtain⟨RV,H8,I8,q8⟩:=qQ;have Oe:=(I8.pin (C,oC) (Av _ (Av _ (by simp))))
 refine⟨m,⟨oC,es,ep,Oe.1,hd,r⟩,λh' sb=>⟨RV,H8,?_,q8⟩⟩;exact(I8.jm).turned (t':=s8.toks) (it:=C) (λb o hb e=>sb.extBut b o hb e) Oe.2.1 Oa (.inr Od) Ob Oc
end
end L2
namespace PySem
open Sem (wp)
open AutoSeq1 (wpAny_loadPart')
theorem dM(l:Addr)(items:Array Value)(n:Nat)(RW:Option Addr)(sl:Array (Option Value)):
  Meets (Builtin.«enumerate.__new__» ⟨[.type "enumerate",.ref l],[]⟩) (λ_ R s=>s.heap.get? l=some {cls:=.type "tuple",dict:=RW,data:=.seq items n,slots:=sl}/\
   R (.ok (.ret (.ref (s.heap.push {cls:=.type "tuple_iterator",data:=.fields #[.ref l,.int 0 0]}).objs.size)))
    {s with heap:=(s.heap.push {cls:=.type "tuple_iterator",data:=.fields #[.ref l,.int 0 0]}).push {cls:=.type "enumerate",data:=.fields #[.none,.bool false,.ref s.heap.objs.size,rawInt 0,.none,.none]}}):=
 .of_wp λprog w A R s h=>by
  obtain⟨hp,g,d,tk,os⟩:=s;obtain⟨hl,h⟩:=h;have U3:=sub_enumerate;have hT:Heap.IsTuple (Shared.heap ⟨hp,g,d,tk,os⟩) l items:=⟨_,hl,rfl,n,rfl⟩
  wp_walk using wpAny_loadPart' hl
  refine wpAny_stack_any λst=>mw ?_;split
  ·rename_i c _ _ _ _ _
   cases (c==Value.type "enumerate")
   ·wp_walk using wpAny_loadPart' hl,wpAny_pyIter_tuple hT
    exact⟨_,rfl,h⟩
   ·wp_walk using wpAny_loadPart' hl,wpAny_pyIter_tuple hT
    exact⟨_,rfl,h⟩
  ·wp_walk using wpAny_loadPart' hl,wpAny_pyIter_tuple hT
   exact⟨_,rfl,h⟩
section
variable{prog:Program}{w:World}{A:Around}{E:Value->Shared->Prop}{s:Shared}
theorem dR(hL:s.heap.IsTuple l items)
  (h:∀h',IsEnum h' (s.heap.objs.size+1) s.heap.objs.size 0 .none->h'.IsTupleIter s.heap.objs.size l 0->h'.objs.size=s.heap.objs.size+2->
   (∀b o,s.heap.get? b=some o->h'.get? b=some o)->Q (.ref (s.heap.objs.size+1)) {s with heap:=h'}):
  wpAny (model prog w) A (call (.type "enumerate") [.ref l]) Q E s:=by
 obtain⟨⟨c,RW,dt,sl⟩,hl,hc,n,hd⟩:=hL;replace hc:c=.type "tuple":=hc;replace hd:dt=.seq items n:=hd;subst hc hd;refine callType_new F.called_enumerate (by decide) (F.typeCall_enumerate_1 _) (F.newCall_enumerate_1 _) (λobj=>F.args_object_init_2 obj _) F.entry_enumerate_new
  (dM l items n RW sl) ⟨hl,?_⟩
 have hz:(s.heap.push {cls:=.type "tuple_iterator",data:=.fields #[.ref l,.int 0 0]}).objs.size=s.heap.objs.size+1:=Heap.size_push ..;show _/\_;rw[hz];have he:IsEnum ((s.heap.push {cls:=.type "tuple_iterator",data:=.fields #[.ref l,.int 0 0]}).push
   {cls:=.type "enumerate",data:=.fields #[.none,.bool false,.ref s.heap.objs.size,rawInt 0,.none,.none]}) (s.heap.objs.size+1) s.heap.objs.size 0 .none:=by
  have:=BU (s.heap.push {cls:=.type "tuple_iterator",data:=.fields #[.ref l,.int 0 0]})
   (o:={cls:=.type "enumerate",data:=.fields #[.none,.bool false,.ref s.heap.objs.size,rawInt 0,.none,.none]}) rfl
  rw[hz] at this;exact this
 refine⟨⟨_,he,rfl⟩,h _ he ⟨_,qm _ (BU _ rfl),rfl,rfl⟩ (by rw[Heap.size_push,hz]) λb o x=>qm _ (qm _ x)⟩
theorem iA{items}(hit:s.heap.IsTupleIter it t i)
  (ht:s.heap.IsTuple t items) (hx:items[i]?=some x)
  (hQ:∀h',h'.IsTupleIter it t (i+1)->Heap.SameBut it s.heap h'->Q x {s with heap:=h'}):
  wpAny (model prog w) A (Builtin.SmallTypes.nextOf (.ref it)) Q E s:=by
 obtain⟨o,ho,hc,hd⟩:=id hit;obtain⟨ol,RX,_,nl,DY⟩:=ht;unfold Builtin.SmallTypes.nextOf;refine dy (MQ (name:=Str.ofString "__next__") hit.typeIs F.slot_tuple_iterator_next
  (Jv F.slot_tuple_iterator_next hit.typeIs F.entry_tuple_iterator_next ?_ (F.args_tuple_iterator_next_1 _)))
 show wpAny _ _ (field (.ref it) 0>>=_) _ _ s;refine dy (xl ho hd (x:=.ref t) rfl ?_);show wpAny _ _ (if(Value.ref t==Value.none)=true then _ else _) _ _ s;rw[bh (show¬((Value.ref t==Value.none)=true) from kj)];show wpAny _ _ (field (.ref it) 1>>=_) _ _ s;refine dy (xl ho hd (x:=.int i 0) rfl ?_);show wpAny _ _ (seqItems? (.ref t)>>=_) _ _ s;refine dy (wpAny_seqItems RX DY ?_);simp only[BO,hx];refine dy (E2 ho hd (by simp) (mw ⟨x,rfl,mw (hQ _ ?_ (Heap.SameBut.update ..))⟩));exact⟨_,CS _ ho (Dl (Ck hd _)),(Obj.cls_mapFields ..).trans hc,by
  rw[Ck hd];simp[rawInt]⟩
theorem i8{it t:Addr}{i:Nat}{items}{Q:Value->Shared->Prop}(hh:A.handled=none)
  (hit:s.heap.IsTupleIter it t i) (ht:s.heap.IsTuple t items) (hx:items[i]?=none)
  (hE:∀h' e,Heap.ExtBut it s.heap h'->(∃o,h'.get? e=some o/\o.cls=.type "StopIteration")->E (.ref e) {s with heap:=h'}):
  wpAny (model prog w) A (Builtin.SmallTypes.nextOf (.ref it)) Q E s:=by
 obtain⟨o,ho,hc,hd⟩:=id hit;obtain⟨ol,RX,_,nl,DY⟩:=ht;unfold Builtin.SmallTypes.nextOf;refine dy (MQ (name:=Str.ofString "__next__") hit.typeIs F.slot_tuple_iterator_next
  (Jv F.slot_tuple_iterator_next hit.typeIs F.entry_tuple_iterator_next ?_ (F.args_tuple_iterator_next_1 _)))
 show wpAny _ _ (field (.ref it) 0>>=_) _ _ s;refine dy (xl ho hd (x:=.ref t) rfl ?_);show wpAny _ _ (if(Value.ref t==Value.none)=true then _ else _) _ _ s;rw[bh (show¬((Value.ref t==Value.none)=true) from kj)];show wpAny _ _ (field (.ref it) 1>>=_) _ _ s;refine dy (xl ho hd (x:=.int i 0) rfl ?_);show wpAny _ _ (seqItems? (.ref t)>>=_) _ _ s;refine dy (wpAny_seqItems RX DY ?_);simp only[BO,hx];refine dy (wpAny_rule (dy (E2 ho hd (by simp) ?_)));show wpAny _ _ (newExc (.type "StopIteration") []>>=_) _ _ _;refine dy ?_;simp only[newExc,newTuple];refine dy (EY ?_ (by size_fits));refine dy (m:=firstArgMember _ _) (wpAny_of_eq (a:=Value.none) (by first|rfl|(simp only[firstArgMember];rfl)) ?_);refine EY ?_ (by size_fits);simp only[raiseNew];refine dy (wpAny_handled ?_)
 first|rw[show A.in1.handled=none from hh]|rw[hh]
 refine dy (mw (wpAny_throw ?_));exact hE _ _ (((Heap.SameBut.update ..).extBut.push _).push _) ⟨_,BU _ rfl,rfl⟩
theorem kN{i:Nat}{Q:Value->Shared->Prop}
  (he:IsEnum s.heap e it i old) (hit:s.heap.IsTupleIter it l i) (hl:s.heap.IsTuple l items) (hx:items[i]?=some x) (vd:e≠it)
  (hQ:∀h',IsEnumOut h' e it ((i:Int)+1) x s.heap.objs.size->h'.IsTupleIter it l (i+1)->
   h'.get? s.heap.objs.size=some {cls:=.type "tuple",data:=.seq #[.int i s.toks,x]}->h'.objs.size=s.heap.objs.size+1->
   (∀b o,b≠e->b≠it->s.heap.get? b=some o->h'.get? b=some o)->Q (.ref s.heap.objs.size) {s with heap:=h',toks:=s.toks+1}):
  wpAny (model prog w) A (Builtin.«enumerate.__next__» ⟨[.ref e],[]⟩) (λfin s'=>∃v,fin=.done (.ret v)/\Q v s') E s:=by
 obtain⟨hp,g,d,tk,os⟩:=s;show wpAny _ _ (field (.ref e) 2>>=_) _ _ _;refine dy (xl he rfl (x:=.ref it) rfl ?_);refine dy (iA hit hl hx λjx DZ Az=>?_);replace Az:Heap.SameBut it hp jx:=Az;have Cz:IsEnum jx e it i old:=(Az.2 e vd).trans he;show wpAny _ _ (field (.ref e) 3>>=_) _ _ ⟨jx,g,d,tk,os⟩;refine dy (xl Cz rfl (x:=rawInt i) rfl ?_);show wpAny _ _ (field (.ref e) 4>>=_) _ _ ⟨jx,g,d,tk,os⟩;refine dy (xl Cz rfl (x:=.none) rfl ?_);show wpAny _ _ (mkInt i>>=_) _ _ ⟨jx,g,d,tk,os⟩;refine dy (wpAny_mkInt ?_);show wpAny _ _ (setField (.ref e) 3 (rawInt ((i:Int)+1))>>=_) _ _ ⟨jx,g,d,tk+1,os⟩;refine dy (wpAny_setField_rec Cz (by simp) λze CA AA=>?_);replace AA:Heap.SameBut e jx ze:=AA;replace CA:IsEnum ze e it ((i:Int)+1) old:=CA;show wpAny _ _ (setField (.ref e) 4 .none>>=_) _ _ ⟨ze,g,d,tk+1,os⟩;refine dy (wpAny_setField_rec CA (by simp) λye CB AB=>?_);replace AB:Heap.SameBut e ze ye:=AB;replace CB:IsEnum ye e it ((i:Int)+1) old:=CB;show wpAny _ _ (newTuple [.int i tk,x]>>=_) _ _ ⟨ye,g,d,tk+1,os⟩;refine dy (wpAny_newTuple ?_);have CC:IsEnum (ye.push {cls:=.type "tuple",data:=.seq #[.int i tk,x]}) e it ((i:Int)+1) old:=qm _ CB;generalize Bt:ye.push {cls:=.type "tuple",data:=.seq #[.int i tk,x]}=Bs at CC;have hsz:ye.objs.size=hp.objs.size:=by rw[AB.1,AA.1,Az.1]
 have RZ:e<hp.objs.size:=jv he;have Of:Bs.get? hp.objs.size=some {cls:=.type "tuple",data:=.seq #[.int i tk,x]}:=by rw[←Bt,←hsz];exact BU _ rfl
 have Og:Bs.objs.size=hp.objs.size+1:=by rw[←Bt,Heap.size_push,hsz]
 have Oh:∀b o,b≠e->b≠it->hp.get? b=some o->Bs.get? b=some o:=λb o vn R0 hb=>by
  rw[←Bt];exact qm _ (AB.extBut b o vn (AA.extBut b o vn (Az.extBut b o R0 hb)))
 have Ky:Bs.IsTupleIter it l (i+1):=by
  rw[←Bt];obtain⟨o,ho,r⟩:=(DZ.extBut AA.extBut (kg vd)).extBut AB.extBut (kg vd);exact⟨o,qm _ ho,r⟩
 show wpAny _ _ (Builtin.SmallTypes.ownedTupleIsFree (.ref e)>>=_) _ _ ⟨Bs,g,d,tk+1,os⟩;rw[hsz];clear Bt CB AB CA AA Cz Az DZ hsz ye ze jx;refine dy ?_
 ·unfold Builtin.SmallTypes.ownedTupleIsFree
  refine dy (xl CC rfl (x:=.none) rfl (mw ?_));simp only[cw];refine dy (wpAny_rule ?_);refine dy (xl CC rfl (x:=old) rfl ?_);refine dy (wpAny_setField_rec CC (by simp) λCZ D0 AD=>?_);replace AD:Heap.SameBut e Bs CZ:=AD;replace D0:IsEnum CZ e it ((i:Int)+1) x:=D0;show wpAny _ _ (Builtin.SmallTypes.ownedTupleHandOut (.ref e) (.ref hp.objs.size)>>=_) _ _ ⟨CZ,g,d,tk+1,os⟩;refine dy ?_
  ·unfold Builtin.SmallTypes.ownedTupleHandOut
   refine dy (wpAny_setField_rec D0 (by simp) λKz D3 AE=>?_);replace AE:Heap.SameBut e CZ Kz:=AE;replace D3:IsEnumOut Kz e it ((i:Int)+1) x hp.objs.size:=D3;refine wpAny_setField_rec D3 (by simp) λKA D4 AF=>?_;replace AF:Heap.SameBut e Kz KA:=AF;replace D4:IsEnumOut KA e it ((i:Int)+1) x hp.objs.size:=D4;refine dy (wpAny_letGo (mw ⟨_,rfl,hQ KA D4 ?_ ?_ ?_ ?_⟩))
   ·exact((Ky.extBut AD.extBut (kg vd)).extBut AE.extBut (kg vd)).extBut AF.extBut (kg vd)
   ·exact AF.extBut _ _ (Co RZ) (AE.extBut _ _ (Co RZ) (AD.extBut _ _ (Co RZ) Of))
   ·rw[AF.1,AE.1,AD.1,Og]
   ·exact λb o vn R0 hb=>AF.extBut b o vn (AE.extBut b o vn (AD.extBut b o vn (Oh b o vn R0 hb)))
theorem iB{e it l:Addr}{i:Nat}{items:Array Value}{x old:Value}{Q:Option Value->Shared->Prop}
  (he:IsEnum s.heap e it i old) (hit:s.heap.IsTupleIter it l i) (hl:s.heap.IsTuple l items) (hx:items[i]?=some x) (vd:e≠it)
  (hQ:∀h',IsEnumOut h' e it ((i:Int)+1) x s.heap.objs.size->h'.IsTupleIter it l (i+1)->
   h'.get? s.heap.objs.size=some {cls:=.type "tuple",data:=.seq #[.int i s.toks,x]}->h'.objs.size=s.heap.objs.size+1->
   (∀b o,b≠e->b≠it->s.heap.get? b=some o->h'.get? b=some o)->Q (some (.ref s.heap.objs.size)) {s with heap:=h',toks:=s.toks+1}):
  wpAny (model prog w) A (pyNext (.ref e)) Q E s:=by
 have hT:s.TypeIs (.ref e) "enumerate":=⟨_,he,rfl⟩
 unfold pyNext;exact dy (wpAny_attempt (MQ (name:=Str.ofString "__next__") hT F.slot_enumerate_next
  (Jv F.slot_enumerate_next hT F.entry_enumerate_next
   (kN he hit hl hx vd λh' a b c d k=>mw (hQ h' a b c d k)) (F.args_enumerate_next_1 _))))
theorem dN{i:Nat}(hh:A.handled=none)
  (he:IsEnum s.heap e it i old) (hit:s.heap.IsTupleIter it l i) (hl:s.heap.IsTuple l items) (hx:items[i]?=none)
  (hQ:∀h',Heap.ExtBut it s.heap h'->Q none {s with heap:=h'}):wpAny (model prog w) A (pyNext (.ref e)) Q E s:=by
 have hT:s.TypeIs (.ref e) "enumerate":=⟨_,he,rfl⟩
 unfold pyNext;refine dy (wpAny_attempt (MQ (name:=Str.ofString "__next__") hT F.slot_enumerate_next
  (Jv F.slot_enumerate_next hT F.entry_enumerate_next ?_ (F.args_enumerate_next_1 _))))
 show wpAny _ _ (field (.ref e) 2>>=_) _ _ _;refine dy (xl he rfl (x:=.ref it) rfl ?_);refine dy (i8 hh hit hl hx λh' x U4 C4=>?_);obtain⟨o,ho,hc⟩:=C4;refine dy (wpAny_isInstance (T:="StopIteration") (b:=true) ⟨o,ho,hc⟩ isSubtype_stop ?_);exact mw (hQ _ U4)
end
end PySem
namespace L2
open PySem PySem.Spec PyProof.Rows
noncomputable def R1(K:PySem.W.Frag)(a:Addr):It:=
 ⟨λi H=>∃xs x,nv K H a xs/\xs[i]?=some x,λi H v H'=>∃t x,H t=none/\v=.ref t/\H'=upd H t (.ar [.int i,x])/\∀xs,nv K H a xs->xs[i]?=some x,λi H=>∃xs,nv K H a xs/\xs.length<=i⟩
theorem uR{P:Program}{w:World}{K:PySem.W.Frag}{elts:List Expr}{k:Nat}{pos:Pos}(a e it:Addr)(vd:e≠it):
  Turn P w K (.Tuple elts k pos) (R1 K a) [e,it] e (λi h=>(∃old,IsEnum h e it (i:Int) old)/\h.IsTupleIter it a i) where
 mem:=by simp
 obj:=λi h st b hb=>by
  obtain⟨⟨old,he⟩,o,ho,c,d⟩:=st;rcases List.mem_cons.mp hb with z|z
  ·subst z
   exact⟨_,he,λv z=>by cases (show Data.fields _=Data.cell v from z)⟩
  ·have z:b=it:=by simpa using z
   subst z;exact⟨o,ho,λv z=>by rw[d] at z;cases z⟩
 keep:=λi h h' st kp=>by
  obtain⟨⟨old,he⟩,o,ho,c,d⟩:=st;exact⟨⟨old,kp e (by simp) _ he⟩,o,kp it (by simp) o ho,c,d⟩
 item:=by
  intro X hP hw hK hc i ae s σ H E I hf st hg;subst hP hw hK;obtain⟨⟨old,he⟩,hit⟩:=st;obtain⟨xs,x,hq,hx⟩:=hg;obtain⟨its,rv,p,hz⟩:=I.tuple hq;obtain⟨u,hu,ru⟩:=rv.get hx;obtain⟨e0,e1,e2,e3,e4,e5⟩:=hf e (by simp);obtain⟨i0,i1,i2,i3,i4,i5⟩:=hf it (by simp);refine iB he hit (show s.heap.IsTuple a its.toArray from p) (x:=u) (by simpa using hu) vd λh' Ip R4 KC hsz kk=>?_;refine⟨_,rfl,?_⟩;refine wpAny_letOwnedTupleGo_enum (s:={s with heap:=h',toks:=s.toks+1}) Ip λh2 U5 sb=>?_;have Oi:h2.get? s.heap.objs.size=some {cls:=.type "tuple",data:=.seq #[.int i s.toks,u]}:=sb.extBut _ _ (Co (jv he)) KC;have xb:H s.heap.objs.size=none:=I.fo.fresh (ji _);have U6:∀b o,b≠e->b≠it->s.heap.get? b=some o->h2.get? b=some o:=λb o h1 h2 h3=>sb.extBut b o h1 (kk b o h1 h2 h3);have R5:h2.IsTupleIter it a (i+1):=R4.extBut sb.extBut (kg vd);have ch:∀b∈[e,it],(b∈X.ex\/X.fv.heap.objs.size<=b)/\b≠X.env.locals/\(∀x c,X.env.cells.lookup x=some c->c≠b)/\∀p∈X.pn++ae,p.1≠b:=λb hb=>⟨(hf b hb).2.2.2.1,(hf b hb).2.1,(hf b hb).2.2.2.2.1,(hf b hb).2.2.2.2.2⟩
  have nb:∀b o,b∉[e,it]->s.heap.get? b=some o->h2.get? b=some o:=λb o hb q=>U6 b o (λz=>hb (by simp[z])) (λz=>hb (by simp[z])) q;have D5:∀b u,H b=some u->b≠s.heap.objs.size:=λb u z=>by intro y;rw[y,xb] at z;cases z
  have u1:Un (ki X.stack) [e,it] H (upd H s.heap.objs.size (.ar [.int i,x])) s.heap h2:=by
   refine⟨λb o q n _ hb=>nb b o hb q,λb o q n _ hb=>⟨o.slots,nb b o hb q⟩,λb o q n hb=>?_,λb o q hb=>⟨o,nb b o hb q⟩,λb ys q=>?_,λb o u q=>?_,λb ps q=>⟨#[],?_⟩⟩
   ·rw[aB (Af (jv q))];exact n
   ·rw[aB (D5 b _ q)];exact q
   ·rw[aB (D5 b _ q)];exact q
   ·rw[aB (D5 b _ q),q];simp
  have Tw:∀b u,H b=some u->b∉[e,it]:=λb u q hb=>by
   rcases List.mem_cons.mp hb with z|z
   ·rw[z,e0] at q;cases q
   ·have z:b=it:=by simpa using z
    rw[z,i0] at q;cases q
  have fo:qg X.prog X.w (upd H s.heap.objs.size (.ar [.int i,x])) h2:=by
   intro b u q;by_cases hb:b=s.heap.objs.size
   ·subst hb
    rw[aC] at q;cases q;exact⟨by show 2<=sizeLine;decide,[.int i s.toks,u],.cons ⟨_,rfl⟩ (.cons ru .nil),_,Oi,rfl,_,rfl⟩
   ·rw[aB hb] at q
    refine(I.fo b u q).BZ (λc v hc r=>nb c v ?_ r) (λc r=>by rw[aB (D5 c _ r)];exact r) λc ys r=>by rw[aB (D5 c _ r)];exact r
    rcases hc with z|z
    ·rw[z];exact Tw b u q
    ·exact Tw c _ z
  have I2:bj X ae σ (upd H s.heap.objs.size (.ar [.int i,x])) {s with heap:=h2,toks:=s.toks+1}:=I.call (g':=s.gens) (d':=s.drawn) (t':=s.toks+1) (ch:=[e,it]) u1 fo I.bare ch;refine⟨.ref s.heap.objs.size,_,I2,rfl,⟨_,x,xb,rfl,rfl,λys hy=>by rw[I.wx hy hq];exact hx⟩,⟨⟨u,?_⟩,R5⟩,λb hb=>?_⟩
  ·have:=U5
   rw[show((i:Int)+1)=((i+1:Nat):Int) by omega] at this;exact this
  ·have lq:b<s.heap.objs.size:=by
    rcases List.mem_cons.mp hb with z|z
    ·rw[z];exact jv he
    ·have z:b=it:=by simpa using z
     rw[z];obtain⟨o,ho,_⟩:=hit;exact jv ho
   rw[aB (Af lq)];exact(hf b hb).1
 done:=by
  intro X hP hw hK hc i ae s σ H E I hf st hg;subst hP hw hK;obtain⟨⟨old,he⟩,hit⟩:=st;obtain⟨xs,hq,hx⟩:=hg;obtain⟨its,rv,p,hz⟩:=I.tuple hq;obtain⟨i0,i1,i2,i3,i4,i5⟩:=hf it (by simp);have hl:=rv.length;exact dN (I.ok.hd hc) he hit (show s.heap.IsTuple a its.toArray from p) (by simp;omega) λh' eb=>⟨rfl,I.turned (t':=s.toks) (λb o hb e=>eb b o hb e) i0 i1 i3 i4 i5⟩
 self:=λ_ _ _ _ _ st h=>by
  obtain⟨⟨old,he⟩,_⟩:=st;exact wpAny_pyIter_enum he h
theorem uS:bootBuiltins "enumerate"=some (.type "enumerate"):=by first|exact PySem.boot_enumerate|rfl|decide+kernel
noncomputable def Oj(K:PySem.W.Frag)(ta:TA):TI:=λσ H R=>ta σ H λvs H1=>∃a,vs=[.ref a]/\(∃xs,nv K H1 a xs)/\R (R1 K a) H1
theorem Gi(hg:Gl X "enumerate")(hm:X.mg "enumerate"=none)(ha:PA X [l] ta)(hs:starEach [l] X.env=[(false,eval l X.env)]):
  PI X (.Tuple elts k FV) (.Call (.Name "enumerate" p) [l] [] pos) (Oj X.K ta):=by
 intro ae s σ H R I h;refine Call_ (iW I hg hm uS (PyProof.Rows.callWith_type1 (ij (ha pos ae s σ H _ I h) λus s1 qQ=>?_) hs rfl));obtain⟨vs,H1,I1,r1,q1⟩:=qQ;obtain⟨a,e,⟨xs,hq⟩,q⟩:=q1;subst e
 cases r1 with
 |cons r rr=>
  cases rr;cases r;obtain⟨its,rv,pt,hz⟩:=I1.tuple hq;refine dR (show s1.heap.IsTuple a its.toArray from pt) λh' he hit hsz kk=>?_;refine wpAny_pyIter_enum (s:={s1 with heap:=h'}) he ?_;have I2:bj X ae σ H1 {s1 with heap:=h'}:=I1.kept (t':=s1.toks) kk;refine⟨s1.heap.objs.size+1,[s1.heap.objs.size+1,s1.heap.objs.size],_,_,H1,rfl,I2,uR a _ _ (Co (EZ _)),⟨⟨_,he⟩,hit⟩,λb hb=>?_,q⟩;have hle:s1.heap.objs.size<=b:=by
   rcases List.mem_cons.mp hb with z|z
   ·rw[z];exact Nat.le_succ _
   ·have z:b=s1.heap.objs.size:=by simpa using z
    rw[z];exact ji _
  exact I1.FK hle (I1.fo.fresh hle)
theorem wP{ws:List Value}(ht:IsTup s.heap t ([]:List Value).toArray)(hb:IsTup s.heap b ws.toArray)
  (h:Q (.ref b) s):wpAny (model prog w) A (binaryOp .Add (.ref t) (.ref b)) Q E s:=by
 obtain⟨⟨cls,dd,data,sl⟩,ho,hc,n,hd⟩:=id ht;obtain⟨⟨RF,Qz,data2,QA⟩,Kd,Ds,n2,hd2⟩:=id hb;simp only at hc hd Ds hd2;subst hc hd Ds hd2;exact concat_meets ⟨_,ho,rfl⟩ ⟨_,Kd,rfl⟩ noFill_tuple_add seq_tuple_add PySem.F.slot_tuple_add PySem.F.entry_tuple_add (PySem.F.args_tuple_add_2 _ _)
   (tuple_addW0 t b ([]:List Value).toArray ws.toArray n n2 dd Qz sl QA (by simp)) ⟨ho,Kd,h⟩
noncomputable def D6(K:PySem.W.Frag):R2:=λx y H Q=>∃a b xs ys,x=.ref a/\y=.ref b/\nv K H a xs/\nv K H b ys/\xs.length+ys.length<=sizeLine/\
 (xs=[]->Q (.ref b) H)/\(xs≠[]->ys=[]->Q (.ref a) H)/\(xs≠[]->ys≠[]->∀p,H p=none->Q (.ref p) (upd H p (.ar (xs++ys))))
theorem wQ:wz X (binaryOp .Add) (D6 X.K):=by
 intro ae s σ H x y v u Q I rx ry h;obtain⟨a,b,xs,ys,rfl,rfl,ha,hb,hz,q0,q1,q2⟩:=h;by_cases hx:xs=[]
 ·cases rx
  cases ry;obtain⟨its,r1,p1,_⟩:=I.tuple ha;obtain⟨yf,r2,p2,_⟩:=I.tuple hb;have e:its=[]:=r1.yo.mpr hx;subst e;exact wP p1 p2 ⟨.ref b,H,I,rfl,q0 hx⟩
 ·exact F_ ae s σ H (.ref a) (.ref b) v u Q I rx ry ⟨a,b,xs,ys,rfl,rfl,ha,hb,hx,hz,q1 hx,q2 hx⟩
theorem eT{lo hi:Option Int}
  (ht:IsTup s.heap t items) (hs:s.heap.IsSliceOf sl vl vu .none) (pl:IsPart vl lo) (pu:IsPart vu hi)
  (hw:HT.gj items.size 0 lo=0/\HT.gj items.size items.size hi=items.size) (h:Q (.ref t) s):wpAny (model prog w) A (getItem (.ref t) (.ref sl)) Q E s:=by
 obtain⟨os,Ke,Iz,F8⟩:=id hs;have RG:s.TypeIs (.ref sl) "slice":=⟨os,Ke,Iz⟩
 unfold getItem
 try with_reducible refine wpAny_holding ?_
 first|refine dy (mw ?_)|skip
 refine dy (wpAny_sequenceKey ht.typeIs (by decide) ?_);refine dy (MQ (name:=Str.ofString "__getitem__") ht.typeIs PyProof.Rows.slot_tuple_getitem
  (Jv PyProof.Rows.slot_tuple_getitem ht.typeIs PyProof.Rows.entry_tuple_getitem ?_ (PyProof.Rows.args_tuple_getitem _ _)))
 show wpAny _ _ (Builtin.Tuple.tupleItemsOf (.ref t)>>=_) _ _ s;refine dy (PyProof.Rows.tupleItemsOf_ ht ?_);refine dy (wpAny_typeOf RG ?_);rw[bg (by decide)];refine dy (HT.oh hs pl pu ?_);have R6:(((HT.gj items.size 0 lo:Nat):Int)==0&&(1:Int)==1&&(HT.gj items.size items.size hi-HT.gj items.size 0 lo)==items.size)=true:=by
  rw[hw.1,hw.2];simp
 show wpAny _ _ (if(((HT.gj items.size 0 lo:Nat):Int)==0&&(1:Int)==1&&(HT.gj items.size items.size hi-HT.gj items.size 0 lo)==items.size)=true then _ else _) _ _ s;rw[bg R6];obtain⟨o,ho,hc,n,hd⟩:=ht;have hT:s.TypeIs (.ref t) "tuple":=⟨o,ho,hc⟩
 unfold Builtin.Tuple.tupleIsExact;refine dy (dy (wpAny_typeOf hT (mw ?_)));rw[bg (by simp)];exact dy (wpAny_rule (mw ⟨_,rfl,mw h⟩))
noncomputable def IH(K:PySem.W.Frag):V->Option Int->Option Int->Hp->VK->Prop:=λx lo hi H Q=>∃a xs,x=.ref a/\nv K H a xs/\
 (HT.gj xs.length 0 lo=0/\HT.gj xs.length xs.length hi=xs.length)/\Q (.ref a) H
theorem Gj:F9 X (IH X.K):=by
 intro ae s σ H x v vl vu lo hi sl Q I rx hs pl pu h;obtain⟨a,xs,rfl,hx,hw,q⟩:=h;cases rx;obtain⟨its,r,ht,hz⟩:=I.tuple hx;have di:its.toArray.size=xs.length:=by rw[uq];exact r.length.symm
 refine⟨"tuple",_,PyProof.Rows.slot_tuple_getitem.lookup,ht.typeIs,?_⟩;exact eT ht hs pl pu (by rw[di];exact hw) ⟨.ref a,H,I,rfl,q⟩
theorem dj.getElem(r:dj xs us)(h:i<us.length):∃x,xs[i]?=some x/\cm x us[i]:=by
 have h':i<xs.length:=by rw[r.length];exact h
 obtain⟨u,hu,ru⟩:=r.get (i:=i) (x:=xs[i]) (by simp[h']);have:us[i]=u:=by simpa[h] using hu
 exact⟨xs[i],by simp[h'],by rw[this];exact ru⟩
theorem k9:∀{xs:List V}{us:List Value},dj xs us->xs.all mi=true->us.countP (CW x)=xs.countP λy=>lp y x
 |_,_,.nil,_=>rfl
 |y::xs,u::us,.cons r t,f=>by
  rw[Fq,oy] at f;rw[List.countP_cons,List.countP_cons,mO r f.1,k9 t f.2]
noncomputable def D7:V->List V->Hp->VK->Prop:=λx vs H Q=>∃(l:Addr)(xs:List V)(y:V)(j:Nat)(z:V),x=.ref l/\vs=[y]/\H l=some (.ak xs)/\mi y=true/\xs.all mi=true/\xs[j]?=some z/\lp z y=true/\(∀(k:Nat) z',k<j->xs[k]?=some z'->lp z' y=false)/\Q (.int j) H
theorem wR:Kg X "list.index" D7:=by
 intro ae s σ H x vs v us Q I rx rv h;obtain⟨l,xs,y,j,z,rfl,rfl,hH,fy,fs,hj,ez,RH,q⟩:=h;cases rx;obtain⟨u,rfl,ru⟩:=rv.one;obtain⟨zz,its,n,r,hl,e⟩:=I.DW hH;have QE:j<its.length:=by
  rw[←hl];by_cases hc:j<xs.length
  ·exact hc
  ·rw[Ih (by omega)] at hj;cases hj
 have hn:=w_;have at':∀k (hk:k<its.toArray.size),∃w,xs[k]?=some w/\CW y its.toArray[k]=lp w y:=λk hk=>by
  have D8:k<its.length:=by simpa using hk
  obtain⟨w,hw,Ay⟩:=r.getElem D8;refine⟨w,hw,?_⟩;have hm:w∈xs:=MS hw;have:=mO (x:=y) Ay (List.all_eq_true.mp fs w hm);simpa using this
 refine call_meets F.slot_list_index ⟨_,e,rfl⟩ F.entry_list_index (F.args_list_index_2 _ _) (SeqAt.list_indexAt l its.toArray n none #[] u (CW y) j (by simpa using QE) (by omega) ?_ ?_) ⟨e,?_,?_⟩
 ·obtain⟨w,hw,ew⟩:=at' j (by simpa using QE)
  rw[hj] at hw;cases hw;rw[ew];exact ez
 ·intro k hk U7
  obtain⟨w,hw,ew⟩:=at' k hk;rw[ew];exact RH k w U7 hw
 ·intro w hw
  exact cS ru fy r fs w (by simpa using hw)
 ·exact⟨.int j,H,I.tok _,⟨_,rfl⟩,q⟩
noncomputable def D9:V->List V->Hp->VK->Prop:=λx vs H Q=>∃l xs y,x=.ref l/\vs=[y]/\H l=some (.ak xs)/\mi y=true/\xs.all mi=true/\Q (.int (xs.countP λz=>lp z y:Nat)) H
theorem wS:Kg X "list.count" D9:=by
 intro ae s σ H x vs v us Q I rx rv h;obtain⟨l,xs,y,rfl,rfl,hH,fy,fs,q⟩:=h;cases rx;obtain⟨u,rfl,ru⟩:=rv.one;obtain⟨zz,its,n,r,hl,e⟩:=I.DW hH;refine call_meets F.slot_list_count ⟨_,e,rfl⟩ F.entry_list_count (F.args_list_count_2 _ _) (SeqAt.list_countAt l its.toArray n none #[] u (CW y)) ⟨e,?_,?_⟩
 ·intro w hw
  exact cS ru fy r fs w (by simpa using hw)
 ·refine⟨.int (xs.countP λz=>lp z y:Nat),H,I.tok _,⟨s.toks,?_⟩,q⟩
  rw[←k9 r fs]
def Ba(Nw:Addr->Prop)(h:Heap)(H:Hp)(e:Addr)(cls:Value):Prop:=
 Nw e/\H e=none/\∃oe vs,h.get? e=some oe/\(oe.cls=cls/\oe.dict=none)/\oe.data=.fields vs/\
  (vs[1]?=some .none\/∃T oT ts,vs[1]?=some (.ref T)/\Nw T/\H T=none/\T≠e/\h.get? T=some oT/\oT.data=.fields ts/\ts[3]?=some .none)
theorem Ba.mono(F:Ba N h H e cls)(s:∀b,N b->N' b):Ba N' h H e cls:=by
 obtain⟨n,he,oe,vs,h1,h2,h3,h4⟩:=F;refine⟨s _ n,he,oe,vs,h1,h2,h3,h4.imp id ?_⟩;rintro⟨T,oT,ts,a,b,r⟩;exact⟨T,oT,ts,a,s _ b,r⟩
theorem oF(f:Array Value->Array Value)(o:Obj):(Obj.mapFields f o).dict=o.dict:=by obtain⟨c,d,dt,sl⟩:=o;cases dt<;>rfl
section
variable{M:Model}{A:Around}{E:Value->Shared->Prop}{s:Shared}
theorem fQ{bs:Heap}{env:Env}{outer:List Env}{L e:Addr}{oe:Obj}{vs:Array Value}{head:Value}{hn:Bool}{Q:Unit->Shared->Prop}(xb:A.frames=some (env::outer))(hl:s.heap.FunFrames bs (env::outer))(hf:env.frame=some L)
  (he:s.heap.get? e=some oe) (hd:oe.data=.fields vs) (hsz:1<vs.size)
  (k:∀h' T yt AZ oT ts,s.heap.get? T=none->(∀b o,s.heap.get? b=some o->b∉ki (env::outer)->b≠e->h'.get? b=some o)->(∀b o,s.heap.get? b=some o->b∈ki (env::outer)->∃sl,h'.get? b=some {o with slots:=sl})->
   h'.get? e=some yt->(yt.cls=oe.cls/\yt.dict=oe.dict)->yt.data=.fields AZ->AZ[1]?=some (.ref T)->T≠e->h'.get? T=some oT->oT.data=.fields ts->ts[3]?=some .none->Q () {s with heap:=h'}):
  wpAny M A (do let a←frameOf env;let pl←entryPlaceOf L hn;let b←EntryCells.newEntry head a .none (rawInt L) .none pl;setField (.ref e) 1 b) (λ_ s'=>wpAny M A (setFlight (.ref e) none) Q E s') E s:=by
 have ne:e∉ki (env::outer):=λhm=>by
  obtain⟨_,o,ho,nf⟩:=hl.mem hm;rw[he] at ho;cases ho;exact nf vs hd
 refine dy (wpAny_frameOf_fun xb hl hf λh1 s1=>?_);refine dy (wpAny_entryPlaceOf λpl Ah=>?_);unfold EntryCells.newEntry newFields;refine dy (EY ?_ (Ah.sizeOk5 _ _ _ _ _));have e1:h1.get? e=some oe:=(s1.2.1 e ne).trans he;generalize D_:([head,.ref L,.none,rawInt L,.none]++(if pl.isEmpty then List.replicate 6 Value.none else pl)).toArray=ts;have Tz:3<ts.size:=by rw[←D_];simp only[uq,vm,ja,ou];omega
 have fresh:s.heap.get? h1.objs.size=none:=by
  cases q:s.heap.get? h1.objs.size with
  |none=>rfl
  |some o=>have:=jv q;rw[s1.1] at this;exact absurd this (Aj _)
 have e2:=qm (h:=h1) {cls:=.type "traceback",dict:=none,data:=.fields ts} e1;refine E2 e2 hd hsz ?_;have nT:h1.objs.size≠e:=Co (jv e1);have d3:=Ck hd (·.setIfInBounds 1 (Value.ref h1.objs.size));have e3:=CS (Obj.mapFields (·.setIfInBounds 1 (Value.ref h1.objs.size))) e2 (Dl d3);have t3:=(BN (h1.push {cls:=.type "traceback",dict:=none,data:=.fields ts}) (Obj.mapFields (·.setIfInBounds 1 (Value.ref h1.objs.size))) (kg nT)).trans (BU h1 rfl);unfold setFlight;refine dy (xl e3 d3 (x:=.ref h1.objs.size) (by simp[hsz]) ?_);rw[bg (show(Value.ref h1.objs.size !=Value.none)=true from by simp)];refine E2 t3 rfl Tz (k _ h1.objs.size _ _ _ _ fresh (λb o hb nb R7=>?_) (λb o hb mb=>?_) ?_ ⟨Obj.cls_mapFields _ _,oF _ _⟩ d3 (by simp[hsz]) nT (CS _ t3 (Dl (Ck rfl _))) (Ck rfl _) (by simp[Tz]))
 ·have Du:h1.get? b=some o:=(s1.2.1 b nb).trans hb
  rw[BN _ _ (Co (jv Du)),BN _ _ (kg R7)];exact qm _ Du
 ·obtain⟨sl,Du⟩:=s1.2.2 b o hb
  refine⟨sl,?_⟩;rw[BN _ _ (Co (jv Du)),BN _ _ (λz=>ne (by rw[z];exact mb))];exact qm _ Du
 ·rw[BN _ _ nT];exact e3
structure zh(fs ch:List Addr)(h h':Heap):Prop where
 keep:∀b o,h.get? b=some o->b∉fs->b∉ch->h'.get? b=some o
 slot:∀b o,h.get? b=some o->b∈fs->∃sl,h'.get? b=some {o with slots:=sl}
 there:∀b o,h.get? b=some o->∃o',h'.get? b=some o'
def Recs(Nw:Addr->Prop)(h:Heap)(H:Hp)(ch:List Addr):Prop:=∀b∈ch,Nw b/\H b=none/\∃o ws,h.get? b=some o/\o.data=.fields ws
theorem oG(xb:A.frames=some (env::outer))(hl:s.heap.FunFrames bs (env::outer))(hf:env.frame=some L)
  (F:Ba Nw s.heap H e cls) (hN:∀b,s.heap.get? b=none->Nw b) (hH:∀b,s.heap.get? b=none->H b=none)
  (k:∀h' ch,Recs Nw s.heap H ch->Ba Nw h' H e cls->zh (ki (env::outer)) ch s.heap h'->Q () {s with heap:=h'}):
  wpAny M A (noteFrame (.ref e) env) (λ_ s'=>wpAny M A (setFlight (.ref e) none) Q E s') E s:=by
 obtain⟨n,Bb,oe,vs,he,⟨hc,KG⟩,hd,tr⟩:=F;subst hc;unfold noteFrame;simp only[hf];rcases tr with h1|⟨T,oT,ts,h1,nT,Dv,BQ,hT,ve,h3⟩
 ·refine dy (xl he hd h1 ?_)
  rw[bh (by decide)];refine fQ xb hl hf he hd (Array.getElem?_eq_some_iff.mp h1).1 λh' T yt AZ oT ts nT kp sl a1 a2 a3 a4 a5 a6 a7 a8=>?_;refine k h' [e] (λb hb=>by rw[List.mem_singleton.mp hb];exact⟨n,Bb,oe,vs,he,hd⟩) ⟨n,Bb,yt,AZ,a1,⟨a2.1,a2.2.trans KG⟩,a3,.inr ⟨T,oT,ts,a4,hN T nT,hH T nT,a5,a6,a7,a8⟩⟩ ⟨λb o hb nb c=>kp b o hb nb λz=>c (by simp[z]),sl,λb o hb=>?_⟩;by_cases hm:b∈ki (env::outer)
  ·obtain⟨_,q⟩:=sl b o hb hm;exact⟨_,q⟩
  ·by_cases vn:b=e
   ·exact⟨yt,by rw[vn];exact a1⟩
   ·exact⟨o,kp b o hb hm vn⟩
 ·refine dy (xl he hd h1 ?_)
  rw[bg (show(Value.ref T !=Value.none)=true from by simp)];refine dy (xl hT ve h3 ?_);rw[bh (show¬((Value.none==rawInt L)=true) from by simp[rawInt])];refine dy (E2 hT ve (Array.getElem?_eq_some_iff.mp h3).1 ?_);have other:∀b,b≠T->(s.heap.update T (Obj.mapFields (·.setIfInBounds 3 Value.none))).get? b=s.heap.get? b:=λb hb=>BN _ _ (kg hb);have Bu:∀b o,s.heap.get? b=some o->(∀ws,o.data≠.fields ws)->b≠T:=λb o hb nf q=>by
   rw[q,hT] at hb;cases hb;exact nf ts ve
  have back:∀b,(s.heap.update T (Obj.mapFields (·.setIfInBounds 3 Value.none))).get? b=none->s.heap.get? b=none:=λb hb=>by
   by_cases q:b=T
   ·subst q
    rw[CS _ hT (Dl (Ck ve _))] at hb;cases hb
   ·rw[other b q] at hb;exact hb
  refine fQ xb (hl.of_keeps λb o hb nf=>⟨o,(other b (Bu b o hb nf)).trans hb,rfl⟩) hf ((other e (kg BQ)).trans he) hd (Array.getElem?_eq_some_iff.mp h1).1 λh' T' yt AZ Ol Om II kp sl a1 a2 a3 a4 a5 a6 a7 a8=>?_;have IJ:T∉ki (env::outer):=λhm=>by
   obtain⟨_,o,ho,nf⟩:=hl.mem hm;rw[hT] at ho;cases ho;exact nf ts ve
  refine k h' [e,T] (λb hb=>?_) ⟨n,Bb,yt,AZ,a1,⟨a2.1,a2.2.trans KG⟩,a3,.inr ⟨T',Ol,Om,a4,hN T' (back _ II),hH T' (back _ II),a5,a6,a7,a8⟩⟩ ⟨λb o hb nb c=>?_,λb o hb mb=>?_,λb o hb=>?_⟩
  ·rcases List.mem_cons.mp hb with z|z
   ·rw[z];exact⟨n,Bb,oe,vs,he,hd⟩
   ·rw[List.mem_singleton.mp z];exact⟨nT,Dv,oT,ts,hT,ve⟩
  ·exact kp b o ((other b λz=>c (by simp[z])).trans hb) nb λz=>c (by simp[z])
  ·exact sl b o ((other b (by rintro rfl;exact IJ mb)).trans hb) mb
  ·by_cases Bv:b=T
   ·subst Bv
    have q:=CS (Obj.mapFields (·.setIfInBounds 3 Value.none)) hT (Dl (Ck ve _));exact⟨_,kp b _ q IJ BQ⟩
   ·by_cases hm:b∈ki (env::outer)
    ·obtain⟨_,q⟩:=sl b o ((other b Bv).trans hb) hm;exact⟨_,q⟩
    ·by_cases vn:b=e
     ·exact⟨yt,by rw[vn];exact a1⟩
     ·exact⟨o,kp b o ((other b Bv).trans hb) hm vn⟩
theorem wT(F:Ba Nw s.heap H e cls)
  (k:∀h' ch,Recs Nw s.heap H ch->Ba Nw h' H e cls->zh [] ch s.heap h'->Q () {s with heap:=h'}):wpAny M A (setFlight (.ref e) none) Q E s:=by
 obtain⟨n,Bb,oe,vs,he,hc,hd,tr⟩:=F;unfold setFlight;rcases tr with h1|⟨T,oT,ts,h1,nT,Dv,BQ,hT,ve,h3⟩
 ·refine dy (xl he hd h1 ?_)
  rw[bh (by decide)];exact mw (k s.heap [] (λb hb=>nomatch hb) ⟨n,Bb,oe,vs,he,hc,hd,.inl h1⟩ ⟨λb o hb _ _=>hb,λb o hb z=>(nomatch z),λb o hb=>⟨o,hb⟩⟩)
 ·refine dy (xl he hd h1 ?_)
  rw[bg (show(Value.ref T !=Value.none)=true from by simp)];have sz:=(Array.getElem?_eq_some_iff.mp h3).1;have d3:=Ck ve (·.setIfInBounds 3 Value.none);have self:=CS (Obj.mapFields (·.setIfInBounds 3 Value.none)) hT (Dl d3);have other:∀b,b≠T->(s.heap.update T (Obj.mapFields (·.setIfInBounds 3 Value.none))).get? b=s.heap.get? b:=λb hb=>BN _ _ (kg hb);refine E2 hT ve sz (k _ [T] (λb hb=>by rw[List.mem_singleton.mp hb];exact⟨nT,Dv,oT,ts,hT,ve⟩) ⟨n,Bb,oe,vs,(other e (kg BQ)).trans he,hc,hd,.inr ⟨T,_,_,h1,nT,Dv,BQ,self,d3,by simp[sz]⟩⟩ ⟨λb o hb _ c=>(other b λz=>c (by simp[z])).trans hb,λb o hb z=>(nomatch z),λb o hb=>?_⟩);by_cases Bv:b=T
  ·subst Bv;exact⟨_,self⟩
  ·exact⟨o,(other b Bv).trans hb⟩
end
noncomputable def yu(P:Program)(w:World):MX:=λouter H s E e s'=>∃a C H',e=.ref a/\s'.os=s.os/\AllBare s'.gens/\Un (ki outer) [] H H' s.heap s'.heap/\qg P w H' s'.heap/\
 Ba (λb=>s.heap.get? b=none) s'.heap H' a (.ref C)/\E (.ref C) none H'
theorem qg.xq(x:qg P w H h)(n:zh fs ch h h')(ff:∀b∈fs,H b=none)(fc:∀b∈ch,H b=none):qg P w H h':=λa o e=>by
 refine(x a o e).BZ (λb u hb q=>?_) (λ_ q=>q) λ_ _ q=>q;have tb:H b≠none:=by
  rcases hb with rfl|hb
  ·rw[e];exact MU _
  ·rw[hb];exact MU _
 exact n.keep b u q (λz=>tb (ff b z)) λz=>tb (fc b z)
theorem qg.obj(x:qg P w H h)(q:H b=some o):∃o',h.get? b=some o':=by
 have z:=x b o q
 cases o with
 |ak xs=>obtain⟨_,_,_,_,e⟩:=z;exact⟨_,e⟩
 |ar xs=>obtain⟨_,_,_,_,e,_⟩:=z;exact⟨_,e⟩
 |dK kvs=>obtain⟨_,_,_,_,o,_,_,e,_⟩:=z;exact⟨_,e⟩
 |dT kvs=>obtain⟨_,_,_,_,o,_,_,e,_⟩:=z;exact⟨_,e⟩
 |set S n=>obtain⟨o,_,_,_,e,_⟩:=z;exact⟨_,e⟩
 |ins C dx fs=>obtain⟨_,_,_,e,_⟩:=z;exact⟨_,e⟩
 |own y=>obtain⟨_,e⟩:=z;exact⟨_,e⟩
 |xd fs=>obtain⟨_,⟨_,_,_,e,_⟩,_⟩:=z;exact⟨_,e⟩
 |js lo hi=>obtain⟨_,_,_,e⟩:=z;exact⟨_,e⟩
 |bf ob u=>obtain⟨e,_⟩:=z;exact⟨_,e⟩
 |Io ps=>exact⟨_,z⟩
 |met f y=>exact⟨_,z⟩
 |ext φ=>obtain⟨_,⟨_,e⟩,_⟩:=z;exact⟨_,e⟩
theorem qg.new(x:qg P w H h)(hb:h.get? b=none):H b=none:=by
 cases q:H b with
 |none=>rfl
 |some o=>
  obtain⟨o',z⟩:=x.obj q;rw[z] at hb;cases hb
noncomputable def D'(X:Cx):Addr->Prop:=λb=>X.fv.heap.get? b=none/\∀p∈X.pn,p.1≠b
def KH(X:Cx)(cl:Nat->Addr)(XE:Nat->St->Hp->Prop):Prop:=
 ∀(ae:List (Addr×Obj))(σ:St)(H:Hp)(s:Shared)(a:Addr)(c:Nat),bj X ae σ H s->Ba (D' X) s.heap H a (.ref (cl c))->XE c σ H->X.xe (.ref a) s
section
variable{P:Program}{w:World}{K:PySem.W.Frag}{mg:Str->Option Value}{base:Heap}{N:List Str}{qual:Str}{scope:Scope}{f:Addr}{cd:Value}{A:Around}{outer:List Env}{s:Shared}{H:Hp}{E:XK}{cl:Nat->Addr}
theorem sS:KH (yc (yu P w) P w K mg base N qual scope f cd A outer s H E) cl (λc _ H'=>E (.ref (cl c)) none H'):=by
 intro ae σ H1 s1 a c I F hE;show wpAny _ _ (leaving _ _) _ _ s1;unfold leaving;have F':Ba (λb=>s.heap.get? b=none) s1.heap H1 a (.ref (cl c)):=F.mono λb z=>z.1;have back:∀b,s1.heap.get? b=none->s.heap.get? b=none:=λb hb=>by
  cases q:s.heap.get? b with
  |none=>rfl
  |some o=>
   obtain⟨o',z⟩:=I.base.there b o q (λz=>nomatch z);rw[z] at hb;cases hb
 refine dy (oG (outer:=outer) I.ok.frames I.stack rfl F' back (λb hb=>I.fo.new hb) λh' ch rc F2 n=>?_);have KI:∀b o,s.heap.get? b=some o->b∉ki outer->b∉ki ((yc (yu P w) P w K mg base N qual scope f cd A outer s H E).env::outer):=λb o hb nb hm=>by
  have M0:b∈s.heap.objs.size::ki outer:=hm;rcases List.mem_cons.mp M0 with z|z
  ·subst z;exact absurd (jv hb) (Aj _)
  ·exact nb z
 have sub:∀b,b∈ki outer->b∈ki ((yc (yu P w) P w K mg base N qual scope f cd A outer s H E).env::outer):=λb hb=>show b∈s.heap.objs.size::ki outer from rk _ hb;have B:Un (ki outer) [] H H1 s.heap s1.heap:=I.base;refine⟨a,cl c,H1,rfl,I.os,I.bare,⟨λb o q n1 nb nx=>?_,λb o q n1 mb nx=>?_,B.free,λb o q nx=>?_,B.vo,B.uv,B.vp⟩,I.fo.xq n (λb hb=>I.vt b hb) λb hb=>(rc b hb).2.1,F2,hE⟩
 ·exact n.keep b o (B.keep b o q n1 nb nx) (KI b o q nb) λz=>by have y:s.heap.get? b=none:=(rc b z).1;rw[q] at y;cases y
 ·obtain⟨sl,z⟩:=B.slot b o q n1 mb nx
  obtain⟨Fs,z'⟩:=n.slot b _ z (sub b mb);exact⟨Fs,z'⟩
 ·obtain⟨o',z⟩:=B.there b o q nx
  exact n.there b o' z
end
section
variable{X:Cx}{cl:Nat->Addr}{XE:Nat->St->Hp->Prop}{ae:List (Addr×Obj)}{σ:St}{H:Hp}{s:Shared}
theorem bj.Ea(I:bj X ae σ H s)(hx:X.ex=[])(hb:s.heap.get? b=none):D' X b:=by
 refine⟨?_,λp hp z=>?_⟩
 ·cases q:X.fv.heap.get? b with
  |none=>rfl
  |some o=>
   obtain⟨o',z⟩:=I.base.there b o q (by rw[hx];exact λz=>nomatch z);rw[z] at hb;cases hb
 ·have:=(I.pin p (List.mem_append_left _ hp)).1
  rw[z,hb] at this;cases this
theorem Gk(hx:X.ex=[])(t:KH X cl XE)(σ:St)(ae:List (Addr×Obj))(H:Hp)(s:Shared)(e:Value)(s':Shared)(I:bj X ae σ H s)
  (z:yu X.prog X.w X.stack H s (λk _ H'=>∃c,k=.ref (cl c)/\XE c σ H') e s'):X.xe e s':=by
 obtain⟨a,C,H',rfl,os,bare,un,fo,F,c,ec,xe⟩:=z;have N7:C=cl c:=by simpa using ec
 subst N7;exact t ae σ H' s' a c (I.Bl os un fo bare λb z=>nomatch z) (F.mono λb hb=>I.Ea hx hb) xe
noncomputable def Eb(XE:Nat->St->Hp->Prop)(c:Nat):TS:=λ_ σ H=>XE c σ H
theorem wU(hc:X.calm=true)(hx:X.ex=[])(t:KH X cl XE)(hg:Gl X x)(vx:(x==("__debug__":Str))=false)
  (O:OwnCls x (cl c) bm newId X.mg X.base) (Fn:ExcBaseFacts Bn newId TB TC) (R8:bm.contains (.type Bn)=true) (FB:ExcBaseFacts B QF Ec bm):
  PS X (.Raise (some (.Call (.Name x np) [.Constant (.str tx) j p] [] gr)) none pos) (Eb XE c):=by
 intro ae s σ H D I h;obtain⟨tl,N,nm,q,bs,hdct,sn,sub,ab,col,dd,k0,k1,k2,k3,k5,mN,hC,hN,M1,T⟩:=O.obj;refine wpAny_Raise_call_subU (C:=cl c) (nm:=nm) (q:=q) (N:=N) (bs:=bs) (bm:=tl) (hdct:=hdct) (sn:=sn) (sub:=sub) (ab:=ab) (col:=col) (dd:=dd) (k0:=k0) (k1:=k1) (k2:=k2) (k3:=k3) (k5:=k5) Fn R8 FB (mN:=mN) (T.hasType FB.hasBase) (I.ok.hd hc) rfl M1 (iC I hg O.bound ⟨rfl,?_⟩ vx);refine Calls.evalArgs_plain (ur ((gz JK mh:PA X [.Constant (.str tx) j p] _) gr ae s σ H (λvs H1=>H1=H/\vs.length=1) I ⟨rfl,rfl⟩) (λus s2 h2=>?_) λ_ _ z=>z);obtain⟨vs,H1,I2,r,rfl,hv⟩:=h2;have hl:us.length=1:=by rw[←r.length];exact hv
 refine⟨rfl,by show us.length<=_;rw[hl];decide,I2.bk _ _ hC,hN.keeps I2.bk,T.keeps I2.bk,λh' e m=>?_⟩;obtain⟨tt,ht,_,_⟩:=m.there;have I3:bj X ae σ H1 {s2 with heap:=h'}:=I2.kept (t':=s2.toks) m.keeps;exact t ae σ H1 _ e c I3 ⟨I2.Ea hx m.new,I2.fo.new m.new,_,_,ht,⟨rfl,rfl⟩,rfl,.inl rfl⟩ h
theorem bj.xq(I:bj X ae σ H s)(TF:∀b∈fs,b∈ki X.stack)(n:zh fs ch s.heap h')(rc:Recs (λb=>X.fv.heap.get? b=none/\∀p∈X.pn++ae,p.1≠b) s.heap H ch):bj X ae σ H {s with heap:=h'}:=by
 have Bu:∀b o,s.heap.get? b=some o->(∀ws,o.data≠.fields ws)->b∉ch:=λb o hb nf z=>by
  obtain⟨_,_,o',ws,e,d⟩:=rc b z;rw[hb] at e;cases e;exact nf ws d
 have any:∀b o,s.heap.get? b=some o->b∉ch->∃sl,h'.get? b=some {o with slots:=sl}:=λb o hb nc=>by
  by_cases hm:b∈fs
  ·exact n.slot b o hb hm
  ·exact⟨o.slots,n.keep b o hb hm nc⟩
 have old:∀b o,X.fv.heap.get? b=some o->b∉ch:=λb o hb z=>by
  have:=(rc b z).1.1;rw[hb] at this;cases this
 have TH:∀b,b≠X.env.locals->b∉X.fs->b∉fs:=λb h1 h2 z=>(List.mem_cons.mp (I.wu b (TF b z))).elim h1 h2;have Qs:∀b o,X.fv.heap.get? b=some o->b≠X.env.locals:=λb o e=>Af (AR (jv e) I.ok.above);have cellK:∀x c,X.env.cells.lookup x=some c->∀v,s.heap.IsCell c v->h'.IsCell c v:=λx c e v ⟨o,ho,hd⟩=>by
  obtain⟨sl,q⟩:=any c o ho (Bu c o ho λws z=>by rw[hd] at z;cases z);exact⟨_,q,hd⟩
 obtain⟨m,⟨oL,es,ep,Qu,TJ,rL⟩,hl⟩:=id I.loc;obtain⟨WG,qL⟩:=any _ oL Qu (Bu _ oL Qu λws z=>by rw[TJ] at z;cases z);refine⟨I.ok,I.os,I.bare,⟨λb o e nn hb hx=>?_,λb o e nn hb hx=>?_,I.base.free,λb o e hx=>?_,I.base.vo,I.base.uv,I.base.vp⟩,⟨m,⟨_,es,ep,qL,TJ,rL⟩,λi x v e1 e2 e3=>?_⟩,λx c e=>?_,I.free,I.ko,λp hp=>?_,I.fo.xq n (λb hb=>I.vt b (TF b hb)) λb hb=>(rc b hb).2.1,I.len⟩
 ·exact n.keep b o (I.base.keep b o e nn hb hx) (TH b (Qs b o e) hb) (old b o e)
 ·obtain⟨sl,q⟩:=I.base.slot b o e nn hb hx
  obtain⟨Fs,q'⟩:=any b _ q (old b o e);exact⟨Fs,q'⟩
 ·obtain⟨o',q⟩:=I.base.there b o e hx
  exact n.there b o' q
 ·obtain⟨u,r,l⟩:=hl i x v e1 e2 e3
  refine⟨u,r,?_⟩;rcases l with l|⟨k,c,e,z⟩
  ·exact .inl l
  ·exact .inr ⟨k,c,e,cellK x c e _ z⟩
 ·obtain⟨v,z⟩:=I.cell x c e
  exact⟨v,cellK x c e v z⟩
 ·obtain⟨e,nn,ne,nf,d⟩:=I.pin p hp
  exact⟨n.keep p.1 p.2 e (TH _ ne nf) λz=>(rc p.1 z).1.2 p hp rfl,nn,ne,nf,d⟩
end
noncomputable def xt(X:Cx)(cl:Nat->Addr)(ae:List (Addr×Obj))(XH:Nat->St->Hp->Prop):Cx:={X with
 pn:=X.pn++ae
 xe:=λv s'=>∃a c σ H,v=.ref a/\bj X ae σ H s'/\Ba (λb=>X.fv.heap.get? b=none/\∀p∈X.pn++ae,p.1≠b) s'.heap H a (.ref (cl c))/\XH c σ H}
noncomputable def Ed(X:Cx)(a:Addr):Cx:={X with A:=X.A.mark (some (.ref a)),calm:=false,xe:=λ_ _=>False}
section
variable{X:Cx}{cl:Nat->Addr}{XH:Nat->St->Hp->Prop}{ae Bk:List (Addr×Obj)}{σ:St}{H:Hp}{s:Shared}{a:Addr}
theorem Cx.Ok.same{Y:Cx}(ok:X.Ok)(h:Y={X with pn:=Y.pn,xe:=Y.xe}):Y.Ok:=by
 rw[h];exact⟨ok.mod,ok.kind,ok.glob,ok.blt,ok.above,ok.inj,ok.has,ok.Iq,ok.hd,ok.frames,ok.JF,ok.Nu,ok.bs,ok.DN,ok.Bj,ok.B0,ok.vq,ok.Fu⟩
theorem bj.Oo(I:bj X ae σ H s):bj (xt X cl ae XH) [] σ H s:=
 ⟨I.ok.same rfl,I.os,I.bare,I.base,I.loc,I.cell,I.free,I.ko,λp hp=>I.pin p (by rw[A_] at hp;exact hp),I.fo,I.len⟩
theorem bj.zj(I:bj (xt X cl ae XH) Bk σ H s):bj X ae σ H s:=
 ⟨I.ok.same (X:=xt X cl ae XH) (Y:=X) rfl,I.os,I.bare,I.base,I.loc,I.cell,I.free,I.ko,λp hp=>I.pin p (List.mem_append_left _ hp),I.fo,I.len⟩
theorem sU:KH (xt X cl ae XH) cl XH:=λBk σ H s a c I F h=>⟨a,c,σ,H,rfl,I.zj,F,h⟩
theorem bj.R9(I:bj X ae σ H s):bj (Ed X a) ae σ H s:=
 ⟨⟨I.ok.mod,I.ok.kind,I.ok.glob,I.ok.blt,I.ok.above,I.ok.inj,I.ok.has,I.ok.Iq,λz=>Bool.noConfusion z,I.ok.frames,I.ok.JF,I.ok.Nu,I.ok.bs,I.ok.DN,I.ok.Bj,I.ok.B0,I.ok.vq,I.ok.Fu⟩,
  I.os,I.bare,I.base,I.loc,I.cell,I.free,I.ko,I.pin,I.fo,I.len⟩
theorem bj.Gm(ok:X.Ok)(I:bj (Ed X a) ae σ H s):bj X ae σ H s:=⟨ok,I.os,I.bare,I.base,I.loc,I.cell,I.free,I.ko,I.pin,I.fo,I.len⟩
theorem SP.zj(h:SP (xt X cl ae XH) Bk D f s):SP X ae D f s:=by
 cases f with
 |next=>obtain⟨dk,H',I,q⟩:=h;exact⟨dk,H',I.zj,q⟩
 |brk=>obtain⟨dk,H',I,q⟩:=h;exact⟨dk,H',I.zj,q⟩
 |cont=>obtain⟨dk,H',I,q⟩:=h;exact⟨dk,H',I.zj,q⟩
 |ret u=>obtain⟨v,dk,H',I,r,q⟩:=h;exact⟨v,dk,H',I.zj,r,q⟩
noncomputable def TK(X:Cx)(cl:Nat->Addr)(CE:Addr)(th:TS)(D:Ends):Nat->St->Hp->Prop:=λc σ H=>PySem.W.exmOne X.K (.ref (cl c)) (.ref CE)=some true/\th D σ H
theorem KJ{CE:Addr}(hx:X.ex=[])(AV:X.stack=X.env::X.outer)(Ee:X.env.frame=some X.env.locals)(hg:Gl X cn)(hm:X.mg cn=some (.ref CE))(vx:(cn==("__debug__":Str))=false)
  (I:bj X ae σ H s) (F:Ba (λb=>X.fv.heap.get? b=none/\∀p∈X.pn++ae,p.1≠b) s.heap H a (.ref (cl c))) (hk:PySem.W.exmOne X.K (.ref (cl c)) (.ref CE)=some true)
  (k:∀s2,bj X ae σ H s2->Ba (λb=>X.fv.heap.get? b=none/\∀p∈X.pn++ae,p.1≠b) s2.heap H a (.ref (cl c))->
   codeAny (model X.prog X.w) (X.A.mark (some (.ref a))) (.handlers (.ref a) [.ExceptHandler none nm (b0::xu) C6] X.env) (λr oz=>match r with
     |.ok f=>(match nm with
      |none=>Q f oz
      |some n=>wpAny (model X.prog X.w) X.A (do bindName X.env n .none;unbindBehindTheSuite X.env n C6) (λ_ vy=>Q f vy) X.xe oz)
     |.error x=>cameBackBy (model X.prog X.w) X.A X.env X.xe x oz) s2):
  wpAny (model X.prog X.w) X.A (noteFrame (.ref a) X.env) (λ_ oz=>wpAny (model X.prog X.w) X.A (setFlight (.ref a) none) (λ_ vy=>wpAny (model X.prog X.w) X.A (handleBy (.ref a) X.env [.ExceptHandler (some (.Name cn np)) nm (b0::xu) C6]) Q X.xe vy) X.xe oz) X.xe s:=by
 have fresh:∀b,s.heap.get? b=none->X.fv.heap.get? b=none/\∀p∈X.pn++ae,p.1≠b:=λb hb=>⟨(I.Ea hx hb).1,λp hp z=>by
  have:=(I.pin p hp).1;rw[z,hb] at this;cases this⟩
 have hl:=I.stack;rw[AV] at hl;refine oG (outer:=X.outer) (by rw[I.ok.frames,AV]) hl Ee F fresh (λb hb=>I.fo.new hb) λh' ch rc F2 n=>?_;have I2:bj X ae σ H {s with heap:=h'}:=I.xq (λb hb=>by rw[AV];exact hb) n rc;refine wpAny_handleBy_cons (codeAny_handlers_test (iC (X:={X with A:=X.A.mark (some (.ref a)),calm:=false}) (σ:=σ) (H:=H) (ae:=ae) ?_ hg hm ?_ vx)) (by intro q;cases q)
 ·exact⟨⟨I2.ok.mod,I2.ok.kind,I2.ok.glob,I2.ok.blt,I2.ok.above,I2.ok.inj,I2.ok.has,I2.ok.Iq,λz=>Bool.noConfusion z,I2.ok.frames,I2.ok.JF,I2.ok.Nu,I2.ok.bs,I2.ok.DN,I2.ok.Bj,I2.ok.B0,I2.ok.vq,I2.ok.Fu⟩,
   I2.os,I2.bare,I2.base,I2.loc,I2.cell,I2.free,I2.ko,I2.pin,I2.fo,I2.len⟩
 ·obtain⟨_,_,oe,vs,he,⟨hc,_⟩,_⟩:=id F2
  have LT:PySem.W.Looks (model X.prog X.w) h' (typeOf (.ref a)) (.ref (cl c)):=by
   have q:PySem.W.Looks (model X.prog X.w) h' (typeOf (.ref a)) oe.cls:=(PySem.W.Looks.ld he).andThen .now;rw[hc] at q;exact q
  exact(PySem.W.exm_one I2.CU LT hk).here (k _ I2 F2)
theorem KL{CE:Addr}(hx:X.ex=[])(AV:X.stack=X.env::X.outer)(Ee:X.env.frame=some X.env.locals)(hg:Gl X cn)(hm:X.mg cn=some (.ref CE))(vx:(cn==("__debug__":Str))=false)
  (hh:∀a,BP (Ed X a) (b0::xu) th):PS X (.Try body [.ExceptHandler (some (.Name cn np)) none (b0::xu) C6] [] [] pos) (λD σ H=>∀ae,∃tb,BP (xt X cl ae (TK X cl CE th D)) body tb/\tb D σ H):=by
 intro ae s σ H D I h;obtain⟨tb,hb,q⟩:=h ae;refine wpAny_Try_except (ur (hb [] s σ H D I.Oo q) (λf s1 hf=>?_) λv s1 hf=>?_)
 ·have QG:=SP.zj hf
  cases f with
  |next=>exact wpAny_execs_nil QG
  |brk=>exact QG
  |cont=>exact QG
  |ret u=>exact QG
 ·obtain⟨a,c,FI,H1,rfl,I1,F1,hk,q1⟩:=hf
  refine KJ hx AV Ee hg hm vx I1 F1 hk λs2 I2 F2=>codeAny_handlers_suite (wT F2 λh' ch rc F3 n=>?_);have I3:bj X ae FI H1 {s2 with heap:=h'}:=I2.xq (fs:=[]) (λb hb=>absurd hb (by simp)) n rc;refine ur (hh a ae _ FI H1 D I3.R9 q1) (λf s4 hf=>?_) λ_ _ z=>z.elim
  cases f with
  |next=>obtain⟨dk,H',I',z⟩:=hf;exact⟨dk,H',I'.Gm I3.ok,z⟩
  |brk=>obtain⟨dk,H',I',z⟩:=hf;exact⟨dk,H',I'.Gm I3.ok,z⟩
  |cont=>obtain⟨dk,H',I',z⟩:=hf;exact⟨dk,H',I'.Gm I3.ok,z⟩
  |ret u=>obtain⟨v,dk,H',I',r,z⟩:=hf;exact⟨v,dk,H',I'.Gm I3.ok,r,z⟩
end
end L2
namespace L2
open PySem PySem.Spec PyProof.Rows PySem.W
structure B7(K:Frag)(C:Addr):Prop where
 ga:findIn K (.ref C) "__getattribute__"=some (some (.builtin "BaseException.__getattribute__"))
 gt:findIn K (.ref C) "__getattr__"=some none
 cl:findIn K (.ref C) "__class__"=some (some (.builtin "object.__class__"))
 gs:specialIn K (.builtin "object.__class__") "__get__"=some (some (.builtin "getset_descriptor.__get__"))
 tk:takesIn K (.builtin "object.__class__")=some true
 ob:mroIn K C (.type "object")=some true
 be:mroIn K C (.type "BaseException")=some true
 is:∃cd,clsIn K C=some cd
end L2
namespace PySem
theorem qK{prog:Program}{w:World}{A:Around}(hh:A.handled=none){I l:Addr}(vd:I≠l)(items:Array Value):
  WalksS prog w A I [I,l] [I] (λa b=>a=b) items.size (λi v=>items[i]?=some v) (λi s=>s.heap.IsListIter I l i/\s.heap.IsList l items) where
 sub:=λb hb=>by simp at hb;simp[hb]
 grefl:=λ_=>rfl
 gtrans:=λ_ _ _ h1 h2=>h1.trans h2
 frame:=λi s h' tk st _ k=>by
  obtain⟨⟨o,e,c,d⟩,⟨o',e',c',n,d'⟩⟩:=st;exact⟨⟨o,k I (by simp) o e,c,d⟩,⟨o',k l (by simp) o' e',c',n,d'⟩⟩
 item:=λi s Q E hi st h=>by
  have hx:items[i]?=some items[i]:=by simp[hi]
  refine wpAny_pyNext_list_item st.1 st.2 hx λh' Dq sb=>h _ _ hx ⟨Dq,?_⟩ ⟨λb o hb e=>?_,rfl,rfl,rfl,ji _⟩
  ·obtain⟨o,e,r⟩:=st.2
   exact⟨o,(sb.2 l (λz=>vd z.symm)).trans e,r⟩
  ·have hb:b≠I:=by simpa using hb
   exact(sb.2 b hb).trans e
 done:=λs Q E st h=>by
  refine wpAny_pyNext_list_end hh st.1 st.2 (by simp) λh' eb=>h _ ⟨λb o hb e=>?_,rfl,rfl,rfl,ji _⟩;have hb:b≠I:=by simpa using hb
  exact eb b o hb e
 self:=λi s Q E st h=>wpAny_pyIter_listiter st.1 h
theorem cT(ys:List Int):∀j,j<=ys.length->preSum (λi=>ys.getD i 0) j=(ys.take j).sum
 |0,_=>rfl
 |j+1,h=>by
  have hj:j<ys.length:=by omega
  rw[show preSum (λi=>ys.getD i 0) (j+1)=preSum (λi=>ys.getD i 0) j+ys.getD j 0 from rfl,cT ys j (by omega),DD hj,List.sum_append];simp[hj]
end PySem
namespace L2
open PySem PyProof.Rows
theorem lA:∀(ys:List Int),(∀y∈ys,-1000000<=y/\y<=1000000)->-(1000000*(ys.length:Int))<=ys.sum/\ys.sum<=1000000*(ys.length:Int)
 |[],_=>by simp
 |y::r,h=>by
  have h1:=h y (by simp);have h2:=lA r λz hz=>h z (by simp[hz]);simp only[List.sum_cons,ja]
  push_cast
  omega
theorem oH:∀{ys:List Int}{its:List Value},dj (ys.map V.int) its->∀(i:Nat)(v:Value),its[i]?=some v->∃t,v=.int (ys.getD i 0) t:=by
 intro ys its r i v hv;have hl:=r.length;have hi:i<its.length:=(List.getElem?_eq_some_iff.mp hv).1;have hy:i<ys.length:=by simp at hl;omega
 obtain⟨u,hu,ru⟩:=r.get (i:=i) (x:=.int ys[i]) (by simp[hy]);rw[hu] at hv;cases hv;obtain⟨t,e⟩:=ru;exact⟨t,by rw[e];simp[hy]⟩
variable{X:Cx}
theorem kO(hc:X.calm=true):qh X (.builtin "sum") (λxs H Q=>∃(p:Addr)(ys:List Int),xs=[.ref p]/\lj X.K H p (ys.map V.int)/\ys.length<=1000/\(∀y∈ys,-1000000<=y/\y<=1000000)/\Q (.int ys.sum) H):=by
 intro ae s σ H xs us Q I r h;obtain⟨p,ys,rfl,hq,hl,hs,q⟩:=h;obtain⟨u,rfl,rx⟩:=vals1 r;cases rx;obtain⟨its,r',pl,hz⟩:=I.list hq;have di:its.length=ys.length:=by have:=r'.length;simpa using this.symm
 refine call_sum_walkS (wpAny_pyIter_list pl.isList ?_);have lq:p<s.heap.objs.size:=by
  obtain⟨o,e,_⟩:=pl.isList;exact jv e
 have vd:s.heap.objs.size≠p:=by
  intro e;rw[e] at lq;exact Aj _ lq
 have hh:X.A.in1.handled=none:=I.ok.hd hc;refine⟨s.heap.objs.size,[s.heap.objs.size,p],[s.heap.objs.size],λa b=>a=b,its.toArray.size,λi v=>its.toArray[i]?=some v,λi z=>z.heap.IsListIter s.heap.objs.size p i/\z.heap.IsList p its.toArray,λi=>ys.getD i 0,rfl,qK hh vd its.toArray,⟨⟨_,BU _ rfl,rfl,rfl⟩,?_⟩,?_,λi v hv=>oH r' i v (by simpa using hv),?_,?_⟩
 ·obtain⟨o,e,rest⟩:=pl.isList
  exact⟨o,qm _ e,rest⟩
 ·intro b hb
  have hz:(s.heap.push {cls:=Value.type "list_iterator",data:=Data.fields #[Value.ref p,Value.int 0 0]}).objs.size=s.heap.objs.size+1:=by simp[Heap.push]
  have hb:b=s.heap.objs.size\/b=p:=by simpa using hb
  show b<(s.heap.push {cls:=Value.type "list_iterator",data:=Data.fields #[Value.ref p,Value.int 0 0]}).objs.size;rw[hz];rcases hb with rfl|rfl
  ·exact EZ _
  ·exact Nat.lt_succ_of_lt lq
 ·intro j hj
  have TL:j<ys.length:=by simpa[di] using hj
  have b1:=hs (ys.getD j 0) (by simp[TL]);have b2:=lA (ys.take (j+1)) λy hy=>hs y (List.mem_of_mem_take hy);have b3:((ys.take (j+1)).length:Int)<=1000:=by simp;omega
  rw[cT ys (j+1) TL];have c1:InLong (ys.getD j 0):=by constructor<;>omega
  have c2:InLong (ys.take (j+1)).sum:=by constructor<;>omega
  exact⟨c1,c2⟩
 ·intro s' t' mv
  have e:preSum (λi=>ys.getD i 0) its.toArray.size=ys.sum:=by
   rw[show its.toArray.size=ys.length by simpa using di,cT ys ys.length (ji _),BV]
  rw[e];refine⟨.int ys.sum,H,?_,⟨t',rfl⟩,q⟩;have es:s'={s with heap:=s'.heap,toks:=s'.toks}:=by
   obtain⟨h',g',d',k',o'⟩:=s';have h1:=mv.gens;have h2:=mv.drawn;have h3:=mv.os;simp only at h1 h2 h3;subst h1 h2 h3;rfl
  rw[es];refine I.kept λb o e=>mv.heap b o ?_ (qm _ e);have hb:b<s.heap.objs.size:=jv e;intro z;have z:b=s.heap.objs.size:=by simpa using z
  rw[z] at hb;exact Aj _ hb
end L2
namespace L2
open PySem PyProof.Rows
variable{X:Cx}
end L2
namespace L2
open PySem PySem.Spec PyProof.Rows
variable{X:Cx}
end L2
namespace L2
open PySem PySem.Spec PyProof.Rows
def Al(Nw:Addr->Prop)(h:Heap)(H:Hp)(e:Addr)(cls:Value):Prop:=
 Nw e/\H e=none/\∃oe vs,h.get? e=some oe/\(oe.cls=cls/\oe.dict=none)/\oe.data=.fields vs/\∃T oT ts v,vs[1]?=some (.ref T)/\Nw T/\H T=none/\T≠e/\h.get? T=some oT/\oT.data=.fields ts/\ts[3]?=some v
section
variable{M:Model}{A:Around}{E:Value->Shared->Prop}{s:Shared}
theorem oI{bs:Heap}{env:Env}{outer:List Env}{L e:Addr}{oe:Obj}{vs:Array Value}{head:Value}{hn:Bool}{Q:Unit->Shared->Prop}(xb:A.frames=some (env::outer))(hl:s.heap.FunFrames bs (env::outer))(hf:env.frame=some L)
  (he:s.heap.get? e=some oe) (hd:oe.data=.fields vs) (hsz:1<vs.size)
  (k:∀h' T yt AZ oT ts v,s.heap.get? T=none->(∀b o,s.heap.get? b=some o->b∉ki (env::outer)->b≠e->h'.get? b=some o)->(∀b o,s.heap.get? b=some o->b∈ki (env::outer)->∃sl,h'.get? b=some {o with slots:=sl})->
   h'.get? e=some yt->(yt.cls=oe.cls/\yt.dict=oe.dict)->yt.data=.fields AZ->AZ[1]?=some (.ref T)->T≠e->h'.get? T=some oT->oT.data=.fields ts->ts[3]?=some v->Q () {s with heap:=h'}):
  wpAny M A (do let a←frameOf env;let pl←entryPlaceOf L hn;let b←EntryCells.newEntry head a .none (rawInt L) .none pl;setField (.ref e) 1 b) Q E s:=by
 have ne:e∉ki (env::outer):=λhm=>by
  obtain⟨_,o,ho,nf⟩:=hl.mem hm;rw[he] at ho;cases ho;exact nf vs hd
 refine dy (wpAny_frameOf_fun xb hl hf λh1 s1=>?_);refine dy (wpAny_entryPlaceOf λpl Ah=>?_);unfold EntryCells.newEntry newFields;refine dy (EY ?_ (Ah.sizeOk5 _ _ _ _ _));have e1:h1.get? e=some oe:=(s1.2.1 e ne).trans he;generalize D_:([head,.ref L,.none,rawInt L,.none]++(if pl.isEmpty then List.replicate 6 Value.none else pl)).toArray=ts;have t3:ts[3]?=some (rawInt L):=by rw[←D_];simp
 have fresh:s.heap.get? h1.objs.size=none:=by
  cases q:s.heap.get? h1.objs.size with
  |none=>rfl
  |some o=>have:=jv q;rw[s1.1] at this;exact absurd this (Aj _)
 have e2:=qm (h:=h1) {cls:=.type "traceback",dict:=none,data:=.fields ts} e1;have nT:h1.objs.size≠e:=Co (jv e1);have d3:=Ck hd (·.setIfInBounds 1 (Value.ref h1.objs.size));have e3:=CS (Obj.mapFields (·.setIfInBounds 1 (Value.ref h1.objs.size))) e2 (Dl d3);have q3:=(BN (h1.push {cls:=.type "traceback",dict:=none,data:=.fields ts}) (Obj.mapFields (·.setIfInBounds 1 (Value.ref h1.objs.size))) (kg nT)).trans (BU h1 rfl);refine E2 e2 hd hsz (k _ h1.objs.size _ _ _ _ _ fresh (λb o hb nb R7=>?_) (λb o hb mb=>?_) e3 ⟨Obj.cls_mapFields _ _,oF _ _⟩ d3 (by simp[hsz]) nT q3 rfl t3)
 ·have Du:h1.get? b=some o:=(s1.2.1 b nb).trans hb
  rw[BN _ _ (kg R7)];exact qm _ Du
 ·obtain⟨sl,Du⟩:=s1.2.2 b o hb
  refine⟨sl,?_⟩;rw[BN _ _ (λz=>ne (by rw[z];exact mb))];exact qm _ Du
theorem Gn(xb:A.frames=some (env::outer))(hl:s.heap.FunFrames bs (env::outer))(hf:env.frame=some L)
  (F:Ba Nw s.heap H e cls) (hN:∀b,s.heap.get? b=none->Nw b) (hH:∀b,s.heap.get? b=none->H b=none)
  (k:∀h' ch,Recs Nw s.heap H ch->Al Nw h' H e cls->zh (ki (env::outer)) ch s.heap h'->Q () {s with heap:=h'}):
  wpAny M A (noteFrame (.ref e) env) Q E s:=by
 obtain⟨n,Bb,oe,vs,he,⟨hc,KG⟩,hd,tr⟩:=F;subst hc;unfold noteFrame;simp only[hf];rcases tr with h1|⟨T,oT,ts,h1,nT,Dv,BQ,hT,ve,h3⟩
 ·refine dy (xl he hd h1 ?_)
  rw[bh (by decide)];refine oI xb hl hf he hd (Array.getElem?_eq_some_iff.mp h1).1 λh' T yt AZ oT ts v nT kp sl a1 a2 a3 a4 a5 a6 a7 a8=>?_;refine k h' [e] (λb hb=>by rw[List.mem_singleton.mp hb];exact⟨n,Bb,oe,vs,he,hd⟩) ⟨n,Bb,yt,AZ,a1,⟨a2.1,a2.2.trans KG⟩,a3,T,oT,ts,v,a4,hN T nT,hH T nT,a5,a6,a7,a8⟩ ⟨λb o hb nb c=>kp b o hb nb λz=>c (by simp[z]),sl,λb o hb=>?_⟩;by_cases hm:b∈ki (env::outer)
  ·obtain⟨_,q⟩:=sl b o hb hm;exact⟨_,q⟩
  ·by_cases vn:b=e
   ·exact⟨yt,by rw[vn];exact a1⟩
   ·exact⟨o,kp b o hb hm vn⟩
 ·refine dy (xl he hd h1 ?_)
  rw[bg (show(Value.ref T !=Value.none)=true from by simp)];refine dy (xl hT ve h3 ?_);rw[bh (show¬((Value.none==rawInt L)=true) from by simp[rawInt])];refine dy (E2 hT ve (Array.getElem?_eq_some_iff.mp h3).1 ?_);have other:∀b,b≠T->(s.heap.update T (Obj.mapFields (·.setIfInBounds 3 Value.none))).get? b=s.heap.get? b:=λb hb=>BN _ _ (kg hb);have Bu:∀b o,s.heap.get? b=some o->(∀ws,o.data≠.fields ws)->b≠T:=λb o hb nf q=>by
   rw[q,hT] at hb;cases hb;exact nf ts ve
  have back:∀b,(s.heap.update T (Obj.mapFields (·.setIfInBounds 3 Value.none))).get? b=none->s.heap.get? b=none:=λb hb=>by
   by_cases q:b=T
   ·subst q
    rw[CS _ hT (Dl (Ck ve _))] at hb;cases hb
   ·rw[other b q] at hb;exact hb
  refine oI xb (hl.of_keeps λb o hb nf=>⟨o,(other b (Bu b o hb nf)).trans hb,rfl⟩) hf ((other e (kg BQ)).trans he) hd (Array.getElem?_eq_some_iff.mp h1).1 λh' T' yt AZ Ol Om v' II kp sl a1 a2 a3 a4 a5 a6 a7 a8=>?_;have IJ:T∉ki (env::outer):=λhm=>by
   obtain⟨_,o,ho,nf⟩:=hl.mem hm;rw[hT] at ho;cases ho;exact nf ts ve
  refine k h' [e,T] (λb hb=>?_) ⟨n,Bb,yt,AZ,a1,⟨a2.1,a2.2.trans KG⟩,a3,T',Ol,Om,v',a4,hN T' (back _ II),hH T' (back _ II),a5,a6,a7,a8⟩ ⟨λb o hb nb c=>?_,λb o hb mb=>?_,λb o hb=>?_⟩
  ·rcases List.mem_cons.mp hb with z|z
   ·rw[z];exact⟨n,Bb,oe,vs,he,hd⟩
   ·rw[List.mem_singleton.mp z];exact⟨nT,Dv,oT,ts,hT,ve⟩
  ·exact kp b o ((other b λz=>c (by simp[z])).trans hb) nb λz=>c (by simp[z])
  ·exact sl b o ((other b (by rintro rfl;exact IJ mb)).trans hb) mb
  ·by_cases Bv:b=T
   ·subst Bv
    have q:=CS (Obj.mapFields (·.setIfInBounds 3 Value.none)) hT (Dl (Ck ve _));exact⟨_,kp b _ q IJ BQ⟩
   ·by_cases hm:b∈ki (env::outer)
    ·obtain⟨_,q⟩:=sl b o ((other b Bv).trans hb) hm;exact⟨_,q⟩
    ·by_cases vn:b=e
     ·exact⟨yt,by rw[vn];exact a1⟩
     ·exact⟨o,kp b o ((other b Bv).trans hb) hm vn⟩
theorem sV(F:Al Nw s.heap H e cls)
  (k:∀h' ch,Recs Nw s.heap H ch->Al Nw h' H e cls->(fr=none->Ba Nw h' H e cls)->zh [] ch s.heap h'->Q () {s with heap:=h'}):wpAny M A (setFlight (.ref e) fr) Q E s:=by
 obtain⟨n,Bb,oe,vs,he,hc,hd,T,oT,ts,v,h1,nT,Dv,BQ,hT,ve,h3⟩:=F;unfold setFlight;refine dy (xl he hd h1 ?_);rw[bg (show(Value.ref T !=Value.none)=true from by simp)];have sz:=(Array.getElem?_eq_some_iff.mp h3).1;generalize hv:(fr.elim Value.none λf=>rawInt f)=x;have d3:=Ck ve (·.setIfInBounds 3 x);have self:=CS (Obj.mapFields (·.setIfInBounds 3 x)) hT (Dl d3);have other:∀b,b≠T->(s.heap.update T (Obj.mapFields (·.setIfInBounds 3 x))).get? b=s.heap.get? b:=λb hb=>BN _ _ (kg hb);refine E2 hT ve sz (k _ [T] (λb hb=>by rw[List.mem_singleton.mp hb];exact⟨nT,Dv,oT,ts,hT,ve⟩) ⟨n,Bb,oe,vs,(other e (kg BQ)).trans he,hc,hd,T,_,_,x,h1,nT,Dv,BQ,self,d3,by simp[sz]⟩ (λz=>?_) ⟨λb o hb _ c=>(other b λz=>c (by simp[z])).trans hb,λb o hb z=>(nomatch z),λb o hb=>?_⟩)
 ·subst z
  have:x=Value.none:=hv.symm;subst this;exact⟨n,Bb,oe,vs,(other e (kg BQ)).trans he,hc,hd,.inr ⟨T,_,_,h1,nT,Dv,BQ,self,d3,by simp[sz]⟩⟩
 ·by_cases Bv:b=T
  ·subst Bv;exact⟨_,self⟩
  ·exact⟨o,(other b Bv).trans hb⟩
theorem uT(xb:A.frames=some (env::outer))(hl:s.heap.FunFrames bs (env::outer))(hf:env.frame=some L)
  (F:Al Nw s.heap H e cls) (hN:∀b,s.heap.get? b=none->Nw b) (hH:∀b,s.heap.get? b=none->H b=none)
  (k:∀h' ch,Recs Nw s.heap H ch->Ba Nw h' H e cls->zh (ki (env::outer)) ch s.heap h'->Q () {s with heap:=h'}):
  wpAny M A (noteFrame (.ref e) env) (λ_ s'=>wpAny M A (setFlight (.ref e) none) Q E s') E s:=by
 obtain⟨n,Bb,oe,vs,he,⟨hc,KG⟩,hd,T,oT,ts,v,h1,nT,Dv,BQ,hT,ve,h3⟩:=id F;subst hc;unfold noteFrame;simp only[hf];have IJ:T∉ki (env::outer):=λhm=>by
  obtain⟨_,o,ho,nf⟩:=hl.mem hm;rw[hT] at ho;cases ho;exact nf ts ve
 refine dy (xl he hd h1 ?_);rw[bg (show(Value.ref T !=Value.none)=true from by simp)];refine dy (xl hT ve h3 ?_);by_cases hv:(v==rawInt L)=true
 ·rw[bg hv]
  refine mw (sV F λh' ch rc _ F2 nt=>k h' ch rc (F2 rfl) ⟨λb o hb _ c=>nt.keep b o hb (λz=>nomatch z) c,λb o hb mb=>?_,nt.there⟩);refine⟨o.slots,nt.keep b o hb (λz=>nomatch z) λz=>?_⟩;obtain⟨_,_,o',ws,e',d'⟩:=rc b z;obtain⟨_,o2,ho,nf⟩:=hl.mem mb;rw[e'] at ho;cases ho;exact nf ws d'
 ·rw[bh hv]
  refine dy (E2 hT ve (Array.getElem?_eq_some_iff.mp h3).1 ?_);have other:∀b,b≠T->(s.heap.update T (Obj.mapFields (·.setIfInBounds 3 Value.none))).get? b=s.heap.get? b:=λb hb=>BN _ _ (kg hb);have Bu:∀b o,s.heap.get? b=some o->(∀ws,o.data≠.fields ws)->b≠T:=λb o hb nf q=>by
   rw[q,hT] at hb;cases hb;exact nf ts ve
  have back:∀b,(s.heap.update T (Obj.mapFields (·.setIfInBounds 3 Value.none))).get? b=none->s.heap.get? b=none:=λb hb=>by
   by_cases q:b=T
   ·subst q
    rw[CS _ hT (Dl (Ck ve _))] at hb;cases hb
   ·rw[other b q] at hb;exact hb
  refine fQ xb (hl.of_keeps λb o hb nf=>⟨o,(other b (Bu b o hb nf)).trans hb,rfl⟩) hf ((other e (kg BQ)).trans he) hd (Array.getElem?_eq_some_iff.mp h1).1 λh' T' yt AZ Ol Om II kp sl a1 a2 a3 a4 a5 a6 a7 a8=>?_;refine k h' [e,T] (λb hb=>?_) ⟨n,Bb,yt,AZ,a1,⟨a2.1,a2.2.trans KG⟩,a3,.inr ⟨T',Ol,Om,a4,hN T' (back _ II),hH T' (back _ II),a5,a6,a7,a8⟩⟩ ⟨λb o hb nb c=>?_,λb o hb mb=>?_,λb o hb=>?_⟩
  ·rcases List.mem_cons.mp hb with z|z
   ·rw[z];exact⟨n,Bb,oe,vs,he,hd⟩
   ·rw[List.mem_singleton.mp z];exact⟨nT,Dv,oT,ts,hT,ve⟩
  ·exact kp b o ((other b λz=>c (by simp[z])).trans hb) nb λz=>c (by simp[z])
  ·exact sl b o ((other b (by rintro rfl;exact IJ mb)).trans hb) mb
  ·by_cases Bv:b=T
   ·subst Bv
    have q:=CS (Obj.mapFields (·.setIfInBounds 3 Value.none)) hT (Dl (Ck ve _));exact⟨_,kp b _ q IJ BQ⟩
   ·by_cases hm:b∈ki (env::outer)
    ·obtain⟨_,q⟩:=sl b o ((other b Bv).trans hb) hm;exact⟨_,q⟩
    ·by_cases vn:b=e
     ·exact⟨yt,by rw[vn];exact a1⟩
     ·exact⟨o,kp b o ((other b Bv).trans hb) hm vn⟩
end
theorem Al.mono(F:Al N h H e cls)(s:∀b,N b->N' b):Al N' h H e cls:=by
 obtain⟨n,he,oe,vs,h1,h2,h3,T,oT,ts,v,a,b,r⟩:=F;exact⟨s _ n,he,oe,vs,h1,h2,h3,T,oT,ts,v,a,s _ b,r⟩
def QH(X:Cx)(cl:Nat->Addr)(XE:Nat->St->Hp->Prop):Prop:=
 ∀(ae:List (Addr×Obj))(σ:St)(H:Hp)(s:Shared)(a:Addr)(c:Nat),bj X ae σ H s->Al (D' X) s.heap H a (.ref (cl c))->XE c σ H->X.xe (.ref a) s
section
variable{P:Program}{w:World}{K:PySem.W.Frag}{mg:Str->Option Value}{base:Heap}{N:List Str}{qual:Str}{scope:Scope}{f:Addr}{cd:Value}{A:Around}{outer:List Env}{s:Shared}{H:Hp}{E:XK}{cl:Nat->Addr}
theorem Gp:QH (yc (yu P w) P w K mg base N qual scope f cd A outer s H E) cl (λc _ H'=>E (.ref (cl c)) none H'):=by
 intro ae σ H1 s1 a c I F hE;show wpAny _ _ (leaving _ _) _ _ s1;unfold leaving;have F':Al (λb=>s.heap.get? b=none) s1.heap H1 a (.ref (cl c)):=F.mono λb z=>z.1;have back:∀b,s1.heap.get? b=none->s.heap.get? b=none:=λb hb=>by
  cases q:s.heap.get? b with
  |none=>rfl
  |some o=>
   obtain⟨o',z⟩:=I.base.there b o q (λz=>nomatch z);rw[z] at hb;cases hb
 refine dy (uT (outer:=outer) I.ok.frames I.stack rfl F' back (λb hb=>I.fo.new hb) λh' ch rc F2 n=>?_);have KI:∀b o,s.heap.get? b=some o->b∉ki outer->b∉ki ((yc (yu P w) P w K mg base N qual scope f cd A outer s H E).env::outer):=λb o hb nb hm=>by
  have M0:b∈s.heap.objs.size::ki outer:=hm;rcases List.mem_cons.mp M0 with z|z
  ·subst z;exact absurd (jv hb) (Aj _)
  ·exact nb z
 have sub:∀b,b∈ki outer->b∈ki ((yc (yu P w) P w K mg base N qual scope f cd A outer s H E).env::outer):=λb hb=>show b∈s.heap.objs.size::ki outer from rk _ hb;have B:Un (ki outer) [] H H1 s.heap s1.heap:=I.base;refine⟨a,cl c,H1,rfl,I.os,I.bare,⟨λb o q n1 nb nx=>?_,λb o q n1 mb nx=>?_,B.free,λb o q nx=>?_,B.vo,B.uv,B.vp⟩,I.fo.xq n (λb hb=>I.vt b hb) λb hb=>(rc b hb).2.1,F2,hE⟩
 ·exact n.keep b o (B.keep b o q n1 nb nx) (KI b o q nb) λz=>by have y:s.heap.get? b=none:=(rc b z).1;rw[q] at y;cases y
 ·obtain⟨sl,z⟩:=B.slot b o q n1 mb nx
  obtain⟨Fs,z'⟩:=n.slot b _ z (sub b mb);exact⟨Fs,z'⟩
 ·obtain⟨o',z⟩:=B.there b o q nx
  exact n.there b o' z
end
def Bw(X:Cx)(cl:Nat->Addr)(XO:Nat->Hp->Prop):Prop:=∀(ae:List (Addr×Obj))(σ:St)(H:Hp)(s:Shared)(e:Value)(s':Shared),bj X ae σ H s->yu X.prog X.w X.stack H s (λk _ H'=>∃c,k=.ref (cl c)/\XO c H') e s'->X.xe e s'
section
variable{X:Cx}{N':List Str}{caps:List Nat}{ntg:Nat}{scope:Scope}{ae:List (Addr×Obj)}{σ:St}{clx:Nat->Addr}{XE:Nat->St->Hp->Prop}
theorem wV
  (AV:X.stack=X.env::X.outer) (hf:X.env.frame=some L) (tX:QH X clx XE)
  (I:bj X ae σ H' s') (hm:s'.heap.Ns C m) (hC:H' C=none) (U8:C≠X.env.locals) (Od:X.fv.heap.objs.size<=C) (Ob:∀x c,X.env.cells.lookup x=some c->c≠C) (Oc:∀q∈X.pn++ae,q.1≠C)
  (hN:∀b,s'.heap.get? b=none->X.fv.heap.get? b=none/\∀q∈X.pn++ae,q.1≠b)
  (F:Ba (λb=>X.fv.heap.get? b=none/\∀q∈X.pn++ae,q.1≠b) s'.heap H' a (.ref (clx c))) (xe:XE c σ H'):
  notedBy (model X.prog X.w) X.A (compEnvC scope cls C X.env) (λe J8=>compPost (model X.prog X.w) X.A X.xe use Q acc C (.error e) J8) (.ref a) s':=by
 show wpAny _ X.A (noteFrame (.ref a) X.env) _ _ s';have xb:X.A.frames=some (X.env::X.outer):=by rw[←AV];exact I.ok.frames
 have hl:=I.stack;rw[AV] at hl;refine Gn xb hl hf F hN (λb hb=>I.fo.new hb) λh1 ch rc F1 n=>?_;have I1:bj X ae σ H' {s' with heap:=h1}:=I.xq (fs:=ki (X.env::X.outer)) (λb hb=>by rw[AV];exact hb) n rc;obtain⟨oC,es,ep,ho,hd,r⟩:=id hm;have R_:C∉ch:=λz=>by
  obtain⟨_,_,o',ws,e',d'⟩:=rc C z;rw[ho] at e';cases e';rw[hd] at d';cases d'
 obtain⟨U9,B1,Qr⟩:∃o',h1.get? C=some o'/\o'.data=oC.data:=by
  by_cases C7:C∈ki (X.env::X.outer)
  ·obtain⟨sl,z⟩:=n.slot C oC ho C7;exact⟨_,z,rfl⟩
  ·exact⟨oC,n.keep C oC ho C7 R_,rfl⟩
 refine⟨m,⟨U9,es,ep,B1,Qr.trans hd,r⟩,λh2 sb C5 hc=>?_⟩;have I2:bj X ae σ H' {s' with heap:=h2}:=bj.turned (s:={s' with heap:=h1}) (t':=s'.toks) (it:=C) I1 (λb o hb e=>sb.extBut b o hb e) hC U8 (.inr Od) Ob Oc;obtain⟨f1,f2,oe,vs,f3,f4,f5,T,oT,ts,v,f6,f7,f8,f9,TM,TN,U_⟩:=F1;have nf:∀b o ws,h1.get? b=some o->o.data=.fields ws->b≠C:=λb o ws e d z=>by
  subst z;rw[B1] at e;cases e;rw[Qr,hd] at d;cases d
 have TQ:h2.get? a=some oe:=(sb.2 a (nf a oe vs f3 f5)).trans f3;have F2:Al (λb=>X.fv.heap.get? b=none/\∀q∈X.pn++ae,q.1≠b) h2 H' a (.ref (clx c)):=⟨f1,f2,oe,vs,TQ,f4,f5,T,oT,ts,v,f6,f7,f8,f9,(sb.2 T (nf T oT ts TM TN)).trans TM,TN,U_⟩
 unfold PySem.passOn;refine dy (xl (s:={s' with heap:=h2}) TQ f5 f6 ?_);rw[bh (show¬((Value.ref T==Value.none)=true) from by simp)];refine dy (sV (s:={s' with heap:=h2}) F2 λh3 WH U' F3 _ n3=>wpAny_throw ?_);have I3:=I2.xq (fs:=[]) (λb hb=>nomatch hb) n3 U';exact tX ae σ H' _ a c I3 (F3.mono λb z=>⟨z.1,λq hq=>z.2 q (List.mem_append_left _ hq)⟩) xe
theorem wW{Q:Addr->Hp->Prop}{RR:Value->Addr->Result->Shared->Prop}
  (hc:X.calm=true) (I2:bj X ae σ H2 s2) (Sc:jy X N' caps ntg scope)
  (wa:∀x c,cl.lookup x=some c->X.env.cells.lookup x=some c) (v_:∀x,(x,NameKind.free)∈scope.names->∃c,cl.lookup x=some c)
  (T:Turn X.prog X.w X.K tg J fp it tn) (t2:tn 0 s2.heap) (f2:∀b∈fp,zd X ae H2 b)
  (hx:X.ex=[]) (hg:∀C s H E,PG (cu X N' scope cl C s H fp E) tg g) (ht:∀C s H E,IG (cu X N' scope cl C s H fp E) [] tc) (he:∀C s H E,Bw (cu X N' scope cl C s H fp E) clx XO->PE (cu X N' scope cl C s H fp E) elt te)
  (q:∀p,H2 p=none->B5 J g tc te (Q p) (qk σ caps ntg) p (upd H2 p (.ak [])))
  (hR:∀p C s' H' m,bj X ae σ H' s'->H2 p=none->s'.heap.Ns C m->H' C=none->s2.heap.objs.size<C->Q p H'->RR (.ref p) C (.ok .next) s')
  (hX:∀p C s' H' m a c,bj X ae σ H' s'->s'.heap.Ns C m->H' C=none->s2.heap.objs.size<C->(∀b,s'.heap.get? b=none->X.fv.heap.get? b=none/\∀q∈X.pn++ae,q.1≠b)->Ba (λb=>X.fv.heap.get? b=none/\∀q∈X.pn++ae,q.1≠b) s'.heap H' a (.ref (clx c))->XO c H'->notedBy (model X.prog X.w) X.A (compEnvC scope cl C X.env) (λe J8=>RR (.ref p) C (.error e) J8) (.ref a) s'):
  wpAny (model X.prog X.w) X.A (newList []) (λacc vy=>wpAny (model X.prog X.w) X.A (newFunctionEnv scope X.env.globals cl [] X.env.qual none .none (some X.env)) (λC5 CY=>
   codeAny (model X.prog X.w) X.A (.compStart (.ListComp elt [⟨tg,iter,[],0⟩] scope pos) 0 (.ref it) acc {C5 with scope:=relabel scope X.env}) (RR acc C5.locals) CY) X.xe vy) X.xe s2:=by
 refine EY (wpAny_newFunctionEnv Sc.DX (by intro y hy;simp at hy) (λjx vb vc=>?_) Sc.kind);dsimp only at vb vc⊢;generalize B6:({s2 with heap:=s2.heap.push {cls:=.type "list",dict:=none,data:=.seq ([]:List Value).toArray}}:Shared)=s3;have e3:s2.heap.push {cls:=.type "list",dict:=none,data:=.seq ([]:List Value).toArray}=s3.heap:=by rw[←B6]
 rw[e3] at vb vc⊢;have k1:∀b o,s3.heap.get? b=some o->jx.get? b=some o:=λb o e=>vc.extBut b o (Af (jv e)) (qm _ e);have k0:∀b o,s2.heap.get? b=some o->s3.heap.get? b=some o:=λb o e=>by rw[←e3];exact qm _ e
 have sz:s3.heap.objs.size=s2.heap.objs.size+1:=by rw[←e3];exact Heap.size_push ..
 have QD:s3.os=s2.os:=by rw[←B6]
 have Kv:H2 s2.heap.objs.size=none:=I2.fo.fresh (ji _)
 let EE:Value->Shared->Prop:=notedBy (model X.prog X.w) X.A (compEnvC scope cl s3.heap.objs.size X.env) (λe s'=>RR (.ref s2.heap.objs.size) s3.heap.objs.size (.error e) s')
 have IC:=i7 (E:=EE) (tk:=s2.toks+([]:List (Str×Value)).length) (h1:=jx) I2 Sc wa v_ T t2 f2 rfl B6.symm k1 vb;have RM:({s2 with heap:=jx,toks:=s2.toks+([]:List (Str×Value)).length}:Shared)={s3 with heap:=jx,toks:=s2.toks+([]:List (Str×Value)).length}:=by rw[←B6]
 rw[RM];have T1:tn 0 jx:=T.keep _ _ _ t2 λb _ o e=>k1 b o (k0 b o e);obtain⟨W,⟨m0,w0⟩,turn⟩:=q _ Kv;have I3:bj X ae σ (upd H2 s2.heap.objs.size (.ak [])) s3:=by
  rw[←B6];exact I2.Ga (ys:=[]) (its:=[]) (t':=s2.toks) .nil (E3 _)
 have RN:∀b∈fp,upd H2 s2.heap.objs.size (.ak []) b=none:=λb hb=>by
  obtain⟨o,e,_⟩:=T.obj _ _ t2 b hb;rw[aB (Af (jv e))];exact(f2 b hb).1
 have RO:∀b∈fp,b≠s3.heap.objs.size:=λb hb=>by
  obtain⟨o,e,_⟩:=T.obj _ _ t2 b hb;exact Af (jv (k0 b o e))
 have stat:∀{H':Hp},(∀b∈fp,H' b=none)->∀b∈fp,zd (cu X N' scope cl s3.heap.objs.size s3 (upd H2 s2.heap.objs.size (.ak [])) fp EE) [] H' b:=λhn b hb=>
  ⟨hn b hb,RO b hb,λz=>by
   rcases List.mem_cons.mp (I3.wu b z) with y|y
   ·exact(f2 b hb).2.1 y
   ·exact(f2 b hb).2.2.1 y,.inl hb,λx c e=>(f2 b hb).2.2.2.2.1 x c (wa x c e),λp hp=>absurd (show p∈([]:List (Addr×Obj)) from hp) (by simp)⟩
 have u1:Un (ki X.stack) fp H2 (upd H2 s2.heap.objs.size (.ak [])) s2.heap s3.heap:=by
  rw[←e3];exact Un.laid (λb u e=>qm _ e) (ji _) Kv
 have R':∀b o,X.fv.heap.get? b=some o->b∉fp:=λb o e hb=>by
  rcases(f2 b hb).2.2.2.1 with z|z
  ·rw[hx] at z;exact nomatch z
  ·exact absurd (jv e) (Nat.not_lt.mpr z)
 have pass:Bw (cu X N' scope cl s3.heap.objs.size s3 (upd H2 s2.heap.objs.size (.ak [])) fp EE) clx XO:=by
  rintro TR WI HC sC e sD TU ⟨a,Cc,HD,rfl,os,bare,un,fo,F,c,ec,xo⟩;have N7:Cc=clx c:=by simpa using ec
  subst N7;have I5:=TU.Bl os un fo bare λb z=>nomatch z;obtain⟨mm,hm,_⟩:=I5.loc;have u2:Un (ki X.stack) fp H2 HD s2.heap sD.heap:=u1.trans I5.base;have I6:bj X ae σ HD sD:=I2.Bl (ch:=fp) (I5.os.trans QD) u2 I5.fo I5.bare λb hb=>⟨(f2 b hb).2.2.2.1,(f2 b hb).2.1,(f2 b hb).2.2.2.2.1,(f2 b hb).2.2.2.2.2⟩
  have nw:∀(hh:Heap),(∀b o,s3.heap.get? b=some o->b∉fp->∃o',hh.get? b=some o')->∀b,hh.get? b=none->X.fv.heap.get? b=none/\∀q∈X.pn++ae,q.1≠b:=λhh th b hb=>by
   refine⟨?_,λq hq z=>?_⟩
   ·cases qo:X.fv.heap.get? b with
    |none=>rfl
    |some o=>
     obtain⟨o1,z1⟩:=I2.base.there b o qo (by rw[hx];exact λz=>nomatch z);obtain⟨o2,z2⟩:=th b o1 (k0 b o1 z1) (R' b o qo);rw[z2] at hb;cases hb
   ·have p1:=(I2.pin q hq).1
    obtain⟨o2,z2⟩:=th q.1 q.2 (k0 _ _ p1) λIK=>(f2 q.1 IK).2.2.2.2.2 q hq rfl;rw[z,hb] at z2;cases z2
  have Va:∀b o,s3.heap.get? b=some o->b∉fp->∃o',sC.heap.get? b=some o':=λb o e nb=>TU.base.there b o e nb;have Vb:∀b o,s3.heap.get? b=some o->b∉fp->∃o',sD.heap.get? b=some o':=λb o e nb=>I5.base.there b o e nb;exact hX _ _ sD HD mm a c I6 hm I5.free (by rw[sz];exact EZ _) (nw _ Vb) (F.mono (nw _ Va)) xo
 have loop:codeAny (model X.prog X.w) X.A (.compLoop (.ListComp elt [⟨tg,iter,[],0⟩] scope pos) 0 (.ref it) (.ref s2.heap.objs.size) (compEnvC scope cl s3.heap.objs.size X.env)) (RR (.ref s2.heap.objs.size) s3.heap.objs.size)
   {s3 with heap:=jx,toks:=s2.toks+([]:List (Str×Value)).length}:=by
  refine eS (λn s'=>∃i dk H',bj (cu X N' scope cl s3.heap.objs.size s3 (upd H2 s2.heap.objs.size (.ak [])) fp EE) [] dk H' s'/\tn i s'.heap/\(∀b∈fp,H' b=none)/\W i n dk H') ?_ m0 ⟨0,_,_,IC,T1,RN,w0⟩;rintro n s4 ⟨i,Gg,H4,I4,N8,N9,w4⟩;rcases turn i n Gg H4 w4 with⟨stop,qn⟩|⟨go,step⟩
  ·refine ur (T.done (cu X N' scope cl s3.heap.objs.size s3 (upd H2 s2.heap.objs.size (.ak [])) fp EE) rfl rfl rfl hc i [] s4 Gg H4 EE I4 (stat N9) N8 stop) (λr s5 qQ=>?_) λ_ _ z=>z
   obtain⟨hr,I5⟩:=qQ;subst hr;obtain⟨mm,hm,_⟩:=I5.loc;have u2:Un (ki X.stack) fp H2 H4 s2.heap s5.heap:=u1.trans I5.base;have I6:bj X ae σ H4 s5:=I2.Bl (ch:=fp) (I5.os.trans QD) u2 I5.fo I5.bare λb hb=>⟨(f2 b hb).2.2.2.1,(f2 b hb).2.1,(f2 b hb).2.2.2.2.1,(f2 b hb).2.2.2.2.2⟩
   exact hR _ _ s5 H4 mm I6 Kv hm I5.free (by rw[sz];exact EZ _) qn
  ·refine ur (T.item (cu X N' scope cl s3.heap.objs.size s3 (upd H2 s2.heap.objs.size (.ak [])) fp EE) rfl rfl rfl hc i [] s4 Gg H4 EE I4 (stat N9) N8 go) (λr s5 qQ=>?_) λ_ _ z=>z
   obtain⟨u,hr,h5⟩:=qQ;subst hr;refine ur h5 (λ_ s6 qQ=>?_) λ_ _ z=>z;obtain⟨x,H6,I6,r6,y6,Kw,RP⟩:=qQ;have RQ:=I6.pinned (stat RP) (T.obj _ _ Kw);have o_:∀{uw:St}{H7:Hp}{s7:Shared},bj (cu X N' scope cl s3.heap.objs.size s3 (upd H2 s2.heap.objs.size (.ak [])) fp EE) ([]++wy fp s6.heap) uw H7 s7->tn (i+1) s7.heap/\∀b∈fp,H7 b=none:=λ{uw H7 s7} I7=>
    ⟨T.keep _ _ _ Kw λb hb o e=>(I7.pin (b,o) (Av _ (Av _ (bG hb e)))).1,λb hb=>by
     obtain⟨o,e,d⟩:=T.obj _ _ Kw b hb;exact(I7.pin (b,o) (Av _ (Av _ (bG hb e)))).2.1⟩
   refine ur (hg _ _ _ EE _ s6 Gg H6 x u _ RQ r6 (step x H6 y6)) (λ_ s7 qQ=>?_) λ_ _ z=>z;obtain⟨uw,H7,I7,q7⟩:=qQ;refine ur (ht _ _ _ EE _ s7 uw H7 _ I7 q7) (λb s8 qQ=>?_) λ_ _ z=>z;obtain⟨H8,I8,q8⟩:=qQ
   cases b with
   |true=>
    rw[bg rfl] at q8⊢;refine ur (he _ _ _ EE pass _ s8 uw H8 _ I8 q8) (λv s9 qQ=>?_) λ_ _ z=>z;obtain⟨y,H9,I9,r9,ys,m',hl,hz,hm,w9⟩:=qQ;refine ur (fP (X:=(cu X N' scope cl s3.heap.objs.size s3 (upd H2 s2.heap.objs.size (.ak [])) fp EE)) _ s9 uw H9 (.ref s2.heap.objs.size) [y] (.ref s2.heap.objs.size) [v] (λ_ H=>W (i+1) m' uw H) I9 rfl (.cons r9 .nil) ⟨_,ys,y,rfl,rfl,hl,hz,w9⟩) (λ_ U2 qQ=>?_) λ_ _ z=>z;obtain⟨_,RS,Kx,_,RT⟩:=qQ;exact⟨m',hm,i+1,uw,RS,Kx.jm,(o_ Kx).1,(o_ Kx).2,RT⟩
   |false=>
    rw[bh kj] at q8⊢;obtain⟨m',hm,w8⟩:=q8;exact⟨m',hm,i+1,uw,H8,I8.jm,(o_ I8).1,(o_ I8).2,w8⟩
 exact codeAny_compStart_list loop (T.self _ _ _ _ _ T1 loop)
theorem mR(hN:X.N.Nodup)(hy:X.N[i]?=some y)(zk:Loc X.env.scope y)
  (hf:X.fn y=true\/X.env.scope.names.lookup y=some .local)
  (AY:swapsWith (.ListComp elt [⟨tg,iter,[],0⟩] scope pos) (some (.Name y py)) wb.line X.env=pure true)
  (hc:X.calm=true) (hi:PI X tg iter wi) (Sc:jy X N' caps ntg scope)
  (hx:X.ex=[]) (AV:X.stack=X.env::X.outer) (Ee:X.env.frame=some L) (tX:QH X clx XE)
  (hg:∀cl C s H fp E,PG (cu X N' scope cl C s H fp E) tg g) (ht:∀cl C s H fp E,IG (cu X N' scope cl C s H fp E) [] tc) (he:∀σ cl C s H fp E,Bw (cu X N' scope cl C s H fp E) clx (λc H'=>XE c σ H')->PE (cu X N' scope cl C s H fp E) elt te)
  (hs:∀x,foldedSetIterable iter X.env x=pure x):PS X (.Assign [.Name y py] (.ListComp elt [⟨tg,iter,[],0⟩] scope pos) wb) (qj (xm wi g tc te caps ntg) (fj i)):=by
 intro ae s σ H D I h;rw[exec_Assign_Name_used _ _ _ _ AY];refine dy (wpAny_standAt (dy ?_));show wpAny _ X.A (do let _←comprehension (.ListComp elt [⟨tg,iter,[],0⟩] scope pos) scope X.env _ (newList []) false (eval iter X.env) (some (assign (.Name y py) X.env))) _ _ s;obtain⟨cl,N_,wa,v_⟩:=dQ I.ok Sc;refine dy (ur (wpAny_comprehension_free (use:=some (assign (.Name y py) X.env)) (Q:=λ_ s'=>SP X ae D .next s') rfl hs N_ Sc.kind Sc.loc
  (ij (hi ae s σ H _ I h) λv s1 h1=>ij h1 λNI s2 h2=>?_)) (λ_ s' hq=>mw (mw hq)) λ_ _ e=>e)
 obtain⟨it,fp,tn,J,H2,rfl,I2,T,t2,f2,q2⟩:=h2;refine wW (clx:=clx) (XO:=λc H'=>XE c σ H') (RR:=λacc C=>compPost (model X.prog X.w) X.A X.xe (some (assign (.Name y py) X.env)) (λ_ s'=>SP X ae D .next s') acc C) (Q:=λp H'=>D.nx (σ.set i (some (.ref p))) H') hc I2 Sc wa v_ T t2 f2 hx (λC s H E=>hg cl C s H fp E) (λC s H E=>ht cl C s H fp E) (λC s H E z=>he σ cl C s H fp E z) q2 ?_ ?_
 ·intro p C s' H' m I' hp hm hC lq hq
  have Oa:C≠X.env.locals:=Co (CT I2.lt lq);have Ob:∀x c,X.env.cells.lookup x=some c->c≠C:=λx c e z=>by
   obtain⟨v,w⟩:=I2.cell x c e;exact absurd (CT w.lt (by rw[z];exact lq)) (Aj _)
  have Oc:∀q∈X.pn++ae,q.1≠C:=λq hq z=>absurd (CT (jv (I2.pin q hq).1) (by rw[z];exact lq)) (Aj _);have Od:X.fv.heap.objs.size<=C:=DL (Dm I2.sz lq);obtain⟨oC,es,ep,ho,hd,r⟩:=id hm;have RU:bj X (ae++[(C,oC)]) σ H' s':=I'.ym λq hq=>by
   rcases List.mem_append.mp hq with z|z
   ·exact I'.pin q (Av _ z)
   ·have:q=(C,oC):=by simpa using z
    subst this;exact⟨ho,hC,Oa,I2.JG (DL lq),λv z=>by rw[hd] at z;cases z⟩
  show wpAny _ X.A (assign (.Name y py) X.env (.ref p)) _ _ s';refine ij (eK hN hy zk hf (ae++[(C,oC)]) s' σ H' (.ref p) (.ref p) _ RU rfl hq) λ_ s8 qQ=>?_;obtain⟨RV,H8,I8,q8⟩:=qQ;have Oe:=(I8.pin (C,oC) (Av _ (Av _ (by simp))))
  refine⟨m,⟨oC,es,ep,Oe.1,hd,r⟩,λh' sb=>⟨RV,H8,?_,q8⟩⟩;exact(I8.jm).turned (t':=s8.toks) (it:=C) (λb o hb e=>sb.extBut b o hb e) Oe.2.1 Oa (.inr Od) Ob Oc
 ·intro p C s' H' m a c I' hm hC lq hN F xo
  exact wV (cls:=cl) AV Ee tX I' hm hC (Co (CT I2.lt lq)) (DL (Dm I2.sz lq)) (λx c e z=>by
   obtain⟨v,w⟩:=I2.cell x c e;exact absurd (CT w.lt (by rw[z];exact lq)) (Aj _)) (λq hq z=>absurd (CT (jv (I2.pin q hq).1) (by rw[z];exact lq)) (Aj _)) hN F xo
end
end L2
namespace Py
noncomputable def sb(a b x:Int):Int:=if x=b then a else x
noncomputable def yg(a b:Int)(p:Int×Int):Int×Int:=(sb a b p.1,sb a b p.2)
noncomputable def Dw:Nat->List (Int×Int)->Nat
 |n+1,(a,b)::r=>(if a=b then 1 else 0)+Dw n (r.map (yg a b))
 |_,_=>0
noncomputable def ah(l:List (Int×Int)):Nat:=Dw l.length l
noncomputable def k_{κ:Type}[DecidableEq κ]:List (κ×Int)->κ->Int->List (κ×Int)
 |[],k,n=>[(k,n)]
 |(a,m)::r,k,n=>if a=k then(a,m+n)::r else(a,m)::k_ r k n
noncomputable def ins(x:Int):List Int->List Int
 |[]=>[x]
 |y::r=>if x<y then x::y::r else y::ins x r
noncomputable def sortI(l:List Int):List Int:=l.foldr ins []
noncomputable def uk(_:List Int):Bool:=false
noncomputable def qx(s:Int):List Int->Int->List (Int×Int)->List (Int×Int)
 |[],_,t=>t
 |x::xs,q,t=>qx s xs (q-4) (k_ t q (x*s))
noncomputable abbrev Sx:=List (List Int)×Int
noncomputable abbrev Sk:=Sx×Int
noncomputable instance WJ:DecidableEq Sk:=λa b=>Classical.propDecidable (a=b)
inductive D where
 |de|bl (b:Bool)|int (i:Int)|str (x:List Nat)
 |ar (xs:List D)|ak (xs:List D)|jt (ks:List Int) (vs:List D)|yv (c:Nat)|ig (ns:List Int)
inductive R(α:Type) where
 |ok (a:α)|exc (c:Nat)|bad
noncomputable def R.bind{α β:Type}(r:R α)(f:α->R β):R β:=match r with
 |.ok a=>f a|.exc c=>.exc c|.bad=>.bad
@[simp] theorem R.g_ {α β : Type} (a : α) (f : α -> R β) : (R.ok a).bind f = f a := rfl
@[simp] theorem R.zl {α β : Type} (c : Nat) (f : α -> R β) : (R.exc c : R α).bind f = .exc c := rfl
noncomputable def R.quiet{α:Type}:R α->R α
 |.exc _=>.bad
 |r=>r
@[simp] theorem R.zm {α : Type} (a : α) : (R.ok a).quiet = .ok a := rfl
@[simp] theorem R.Oq {α β : Type} (f : α -> R β) : (R.bad : R α).bind f = .bad := rfl
noncomputable abbrev jj:Nat:=100000
mutual
noncomputable def f_:D->D->Bool
 |.de,.de=>true
 |.bl a,.bl b=>a==b
 |.int a,.int b=>a==b
 |.bl a,.int b=>(if a then 1 else 0)==b
 |.int a,.bl b=>a==(if b then 1 else 0)
 |.str a,.str b=>a==b
 |.ar a,.ar b=>ju a b
 |.ak a,.ak b=>ju a b
 |_,_=>false
noncomputable def ju:List D->List D->Bool
 |[],[]=>true
 |a::as,b::bs=>f_ a b&&ju as bs
 |_,_=>false
end
mutual
noncomputable def dr(n:Nat):D->Bool
 |.ar a=>decide (0<n)&&lg (n-1) a
 |.ak a=>decide (0<n)&&lg (n-1) a
 |.jt _ _=>false
 |.yv _=>false
 |.ig _=>false
 |_=>true
noncomputable def lg(n:Nat):List D->Bool
 |[]=>true
 |a::as=>dr n a&&lg n as
end
noncomputable def flat:D->Bool
 |.de=>true|.bl _=>true|.int _=>true|.str _=>true
 |_=>false
noncomputable def B8(n:Nat)(i:Int):Option Nat:=if 0<=i then(if i<n then some i.toNat else none) else if-(n:Int)<=i then some (i+n).toNat else none
noncomputable def my{α:Type}(xs:List α)(i:Int):Option α:=(B8 xs.length i).bind λj=>xs[j]?
noncomputable def gj(n d:Nat):Option Int->Nat
 |none=>d
 |some i=>if i<0 then(i+(n:Int)).toNat else min i.toNat n
noncomputable def cut{α:Type}(xs:List α)(lo hi:Option Int):List α:=(xs.drop (gj xs.length 0 lo)).take (gj xs.length xs.length hi-gj xs.length 0 lo)
inductive TV where
 |not|neg|len|list|tuple|isNone|isNotNone|isInt|isBool|isTup|sum|all|sorted
inductive TX where
 |add|sub|mul|mod|fdiv|eq|ne|lt|le|gt|ge|isIn|kr|at|index|count|max
noncomputable def truth:D->R Bool
 |.de=>.ok false
 |.bl b=>.ok b
 |.int i=>.ok (decide (i≠0))
 |.str _=>.bad
 |.ar xs=>.ok (!xs.isEmpty)
 |.ak xs=>.ok (!xs.isEmpty)
 |.jt _ _=>.bad
 |.yv _=>.bad
 |.ig _=>.bad
noncomputable def wm:Option D->R D
 |some d=>.ok d
 |none=>.bad
noncomputable def nh:List Int->List D->Int->Option D
 |k::ks,v::vs,i=>if k=i then some v else nh ks vs i
 |_,_,_=>none
noncomputable def Bx:List D->Option Int
 |[]=>some 0
 |.int i::r=>(Bx r).map (i+·)
 |_=>none
noncomputable def Sa:D->Bool
 |.bl _=>true
 |_=>false
noncomputable def xf:D->Bool
 |.int i=>decide (-1000000<=i/\i<=1000000)
 |_=>false
noncomputable def allB:List D->Option Bool
 |[]=>some true
 |.bl b::r=>if b then allB r else some false
 |_=>none
noncomputable def intsOf:List D->Option (List Int)
 |[]=>some []
 |.int i::r=>(intsOf r).map (i::·)
 |_=>none
noncomputable def b_:TV->D->R D
 |.not,d=>(truth d).bind λb=>.ok (.bl (!b))
 |.neg,.int i=>.ok (.int (-i))
 |.len,.ak xs=>.ok (.int xs.length)
 |.len,.ar xs=>.ok (.int xs.length)
 |.len,.ig xs=>.ok (.int xs.length)
 |.list,.ak xs=>.ok (.ak xs)
 |.list,.ar xs=>.ok (.ak xs)
 |.tuple,.ak xs=>.ok (.ar xs)
 |.tuple,.ar xs=>.ok (.ar xs)
 |.isNone,.de=>.ok (.bl true)
 |.isNone,d=>if dr 1000 d then .ok (.bl false) else .bad
 |.isNotNone,.de=>.ok (.bl false)
 |.isNotNone,d=>if dr 1000 d then .ok (.bl true) else .bad
 |.isInt,.int _=>.ok (.bl true)
 |.isInt,.bl _=>.ok (.bl true)
 |.isInt,d=>if dr 1000 d then .ok (.bl false) else .bad
 |.isBool,.bl _=>.ok (.bl true)
 |.isBool,d=>if dr 1000 d then .ok (.bl false) else .bad
 |.isTup,d=>if dr 1000 d then .ok (.bl (match d with|.ar _=>true|_=>false)) else .bad
 |.sum,.ak xs=>if xs.length<=1000/\xs.all xf=true then wm ((Bx xs).map .int) else .bad
 |.all,.ak xs=>if xs.all Sa=true then wm ((allB xs).map .bl) else .bad
 |.sorted,.jt ks _=>if ks.length<64\/uk ks=true then .ok (.ak ((sortI ks).map .int)) else .bad
 |_,_=>.bad
noncomputable def inD(x:D)(xs:List D):Bool:=xs.any λy=>f_ y x
noncomputable def zo(x:D):List D->Option Nat
 |[]=>none
 |y::r=>if f_ y x then some 0 else(zo x r).map (· +1)
noncomputable def isin(x:D):D->R Bool
 |.ak xs=>if flat x&&xs.all flat then .ok (inD x xs) else .bad
 |.ar xs=>if flat x&&xs.all flat then .ok (inD x xs) else .bad
 |_=>.bad
noncomputable def AU:D->D->Bool
 |.ar _,.ar _=>true
 |.ak _,.ak _=>true
 |.int _,.int _=>true
 |.bl _,.bl _=>true
 |.str _,.str _=>true
 |_,_=>false
noncomputable def ag:TX->D->D->R D
 |.add,.int i,.int j=>.ok (.int (i+j))
 |.add,.ak a,.ak b=>if a.length+b.length<=jj then .ok (.ak (a++b)) else .bad
 |.add,.ar a,.ar b=>if a.length+b.length<=jj then .ok (.ar (a++b)) else .bad
 |.sub,.int i,.int j=>.ok (.int (i-j))
 |.mul,.int i,.int j=>if(-(2^64)<i/\i<2^64)\/(-(2^64)<j/\j<2^64) then .ok (.int (i*j)) else .bad
 |.mod,.int i,.int j=>if 0<j then .ok (.int (i%j)) else .bad
 |.fdiv,.int i,.int j=>if 0<j/\j<1073741824 then .ok (.int (i/j)) else .bad
 |.eq,a,b=>if dr 9 a&&dr 9 b&&AU a b then .ok (.bl (f_ a b)) else .bad
 |.ne,a,b=>if dr 9 a&&dr 9 b&&AU a b then .ok (.bl (!f_ a b)) else .bad
 |.lt,.int i,.int j=>.ok (.bl (decide (i<j)))
 |.le,.int i,.int j=>.ok (.bl (decide (i<=j)))
 |.gt,.int i,.int j=>.ok (.bl (decide (j<i)))
 |.ge,.int i,.int j=>.ok (.bl (decide (j<=i)))
 |.isIn,x,y=>(isin x y).bind λb=>.ok (.bl b)
 |.kr,x,y=>(isin x y).bind λb=>.ok (.bl (!b))
 |.at,.ak xs,.int i=>wm (my xs i)
 |.at,.ar xs,.int i=>wm (my xs i)
 |.at,.ig xs,.int i=>wm ((my xs i).map .int)
 |.index,.ak xs,x=>if flat x&&xs.all flat then wm ((zo x xs).map λn=>.int n) else .bad
 |.count,.ak xs,x=>if flat x&&xs.all flat then .ok (.int (xs.countP λy=>f_ y x)) else .bad
 |.max,.int i,.int j=>.ok (.int (if j>i then j else i))
 |_,_,_=>.bad
noncomputable def rq(x:D)(l h:Option Int):R D:=match x with
 |.ak xs=>.ok (.ak (cut xs l h))
 |.ar xs=>.ok (.ar (cut xs l h))
 |.str x=>if x.length<=jj then .ok (.str (cut x l h)) else .bad
 |_=>.bad
noncomputable def KN:D->R (Option Int)
 |.int i=>.ok (some i)
 |_=>.bad
inductive AG where
 |seq|js|enum
mutual
inductive Ex where
 |aa (i:Nat)
 |ao (d:D)
 |glob (g:Nat)
 |b_ (o:TV) (a:Ex)
 |ag (o:TX) (a b:Ex)
 |not (a:Ex)
 |and (a b:Ex)
 |or (a b:Ex)
 |ite (c:Tx) (a b:Ex)
 |ar (es:List Ex)
 |ak (es:List Ex)
 |rq (a:Ex) (lo hi:Option Ex)
 |call (f:Nat) (es:List Ex)
 |Am (it:Ex) (caps:List Nat) (f:Nat) (es:List Ex)
 |comp (k:AG) (its:List Ex) (caps:List Nat) (ntg:Nat) (cond:Option Tx) (elt:Ex)
 |get (a b c:Ex)
 |sf (a b:Ex)
 |Ef (neg:Bool) (x a:Ex)
 |yh (a:Ex)
inductive Tx where
 |a_ (e:Ex)
 |not (a:Tx)
 |and (a b:Tx)
 |or (a b:Tx)
end
noncomputable abbrev Slot:=Option (Bool×D)
noncomputable abbrev iy:=List Slot
noncomputable abbrev zs(d:D):Slot:=some (false,d)
noncomputable abbrev zi(n:Int):Slot:=some (false,.int n)
noncomputable def cg(δ:iy)(i:Nat):R D:=match δ[i]? with
 |some (some (false,d))=>.ok d
 |_=>.bad
noncomputable def cj(δ:iy)(i:Nat):R D:=match δ[i]? with
 |some (some (_,d))=>.ok d
 |_=>.bad
noncomputable def dg(lo:Int)(n:Nat):List D:=(List.range n).map λ(k:Nat)=>D.int (lo+k)
noncomputable def iz(n:Nat):List D->List D
 |[]=>[]
 |x::r=>.ar [.int n,x]::iz (n+1) r
noncomputable def zq:AG->List D->R (List D)
 |.seq,[.ak xs]=>.ok xs
 |.seq,[.ar xs]=>.ok xs
 |.js,[.int n]=>if-jj<=n/\n<=jj then .ok (dg 0 n.toNat) else .bad
 |.enum,[.ar xs]=>.ok (iz 0 xs)
 |_,_=>.bad
noncomputable def bo(k:AG)(ss:List D):R (List D):=(zq k ss).bind λxs=>if xs.length<=jj then .ok xs else .bad
noncomputable def br:Nat->D->Option (List D)
 |1,d=>some [d]
 |n+2,.ar xs=>if xs.length=n+2 then some xs else none
 |_,_=>none
noncomputable def eh(δ:iy)(caps:List Nat):iy:=caps.map λi=>(δ[i]?).getD none
noncomputable def h_(f:D->R (Option D)):List D->R (List D)
 |[]=>.ok []
 |x::r=>(f x).bind λo=>(h_ f r).bind λys=>.ok (match o with|some y=>y::ys|none=>ys)
noncomputable def Eg:D->R Bool
 |.bl b=>.ok b
 |_=>.bad
section
variable(Φ:Nat->List D->R D)(G:List D)
mutual
noncomputable def ev(m:Bool):Ex->iy->R D
 |.aa i,δ=>if m then cj δ i else cg δ i
 |.ao d,_=>.ok d
 |.glob g,_=>wm G[g]?
 |.b_ o a,δ=>(ev true a δ).bind λx=>b_ o x
 |.ag o a b,δ=>(ev true a δ).bind λx=>(ev true b δ).bind λy=>ag o x y
 |.not a,δ=>(ev true a δ).bind λx=>(Eg x).bind λt=>.ok (.bl (!t))
 |.and a b,δ=>(ev true a δ).bind λx=>(Eg x).bind λt=>if t then ev false b δ else .ok (.bl false)
 |.or a b,δ=>(ev true a δ).bind λx=>(Eg x).bind λt=>if t then .ok (.bl true) else ev false b δ
 |.ite c a b,δ=>(du c δ).bind λt=>if t then ev false a δ else ev false b δ
 |.ar es,δ=>(ck false es δ).bind λxs=>.ok (.ar xs)
 |.ak es,δ=>(ck false es δ).bind λxs=>.ok (.ak xs)
 |.rq a lo hi,δ=>(ev true a δ).bind λx=>(CD lo δ).bind λl=>(CD hi δ).bind λh=>rq x l h
 |.call f es,δ=>(ck false es δ).bind λxs=>Φ f xs
 | .Am it caps f es,δ=>(ev true it δ).bind λs=>(bo .seq [s]).bind λxs=>
   (h_ (λx=>(ck false es (some (false,x)::eh δ caps)).bind λas=>(Φ f as).bind λy=>.ok (some y)) xs).bind λys=>.ok (.ak ys)
 | .comp k its caps ntg cond elt,δ=>(ck true its δ).bind λss=>(bo k ss).bind λxs=>
   (h_ (λx=>match br ntg x with
    |none=>.bad
    |some ts=>
     (Bc cond (ts.map (λt=>some (false,t))++eh δ caps)).bind λb=>
      if b then(ev false elt (ts.map (λt=>some (false,t))++eh δ caps)).bind λy=>.ok (some y) else .ok none) xs).quiet.bind λys=>.ok (.ak ys)
 | .get a b c,δ=>(ev true a δ).bind λx=>(ev true b δ).bind λy=>(ev false c δ).bind λz=>match x,y with
   |.jt ks vs,.int i=>.ok ((nh ks vs i).getD z)
   |_,_=>.bad
 | .sf a b,δ=>(ev true a δ).bind λx=>(ev true b δ).bind λy=>match x,y with
   |.jt ks vs,.int i=>wm (nh ks vs i)
   |_,_=>.bad
 | .Ef neg b a,δ=>(ev true b δ).bind λy=>(ev true a δ).bind λx=>match x,y with
   |.jt ks _,.int i=>.ok (.bl (if neg then !decide (i∈ks) else decide (i∈ks)))
   |_,_=>.bad
 | .yh a,δ=>(ev true a δ).bind λx=>match x with
   |.jt ks _=>.ok (.int ks.length)
   |_=>.bad
noncomputable def ck(m:Bool):List Ex->iy->R (List D)
 |[],_=>.ok []
 |e::es,δ=>(ev m e δ).bind λx=>(ck m es δ).bind λxs=>.ok (x::xs)
noncomputable def CD:Option Ex->iy->R (Option Int)
 |none,_=>.ok none
 |some e,δ=>(ev true e δ).bind λx=>KN x
noncomputable def Bc:Option Tx->iy->R Bool
 |none,_=>.ok true
 |some c,δ=>du c δ
noncomputable def du:Tx->iy->R Bool
 |.a_ e,δ=>(ev true e δ).bind λx=>truth x
 |.not a,δ=>(du a δ).bind λt=>.ok (!t)
 |.and a b,δ=>(du a δ).bind λt=>if t then du b δ else .ok false
 |.or a b,δ=>(du a δ).bind λt=>if t then .ok true else du b δ
end
end
mutual
noncomputable def ai(m:Bool):Ex->List Nat
 |.aa i=>if m then[] else[i]
 |.b_ _ a=>ai true a
 |.ag _ a b=>ai true a++ai true b
 |.not a=>ai true a
 |.and a b=>ai true a++ai false b
 |.or a b=>ai true a++ai false b
 |.ite c a b=>au c++ai false a++ai false b
 |.ar es=>aq false es
 |.ak es=>aq false es
 |.rq a l h=>ai true a++pf l++pf h
 |.call _ es=>aq false es
 |.Am it caps _ es=>ai true it++((aq false es).filterMap λi=>if i<1 then none else caps[i-1]?)
 |.comp _ its caps n cond elt=>aq true its++((xg cond++ai false elt).filterMap λi=>if i<n then none else caps[i-n]?)
 |.get a b c=>ai true a++ai true b++ai false c
 |.sf a b=>ai true a++ai true b
 |.Ef _ a b=>ai true a++ai true b
 |.yh a=>ai true a
 |_=>[]
noncomputable def aq(m:Bool):List Ex->List Nat
 |[]=>[]
 |e::es=>ai m e++aq m es
noncomputable def pf:Option Ex->List Nat
 |none=>[]
 |some e=>ai true e
noncomputable def xg:Option Tx->List Nat
 |none=>[]
 |some c=>au c
noncomputable def au:Tx->List Nat
 |.a_ e=>ai true e
 |.not a=>au a
 |.and a b=>au a++au b
 |.or a b=>au a++au b
end
noncomputable def cf(δ:iy)(i:Nat):iy:=match δ[i]? with
 |some (some (true,.ak xs))=>δ.set i (some (false,.ak xs))
 |some (some (true,.jt ks vs))=>δ.set i (some (false,.jt ks vs))
 |_=>δ
noncomputable def bf:List Nat->iy->iy
 |[],δ=>δ
 |i::is,δ=>bf is (cf δ i)
noncomputable def bq:Ex->Bool
 |.ak _=>true
 |.comp .. =>true
 |.Am .. =>true
 |.b_ .list _=>true
 |.ag .add _ _=>true
 |.rq .. =>true
 |_=>false
noncomputable def ba:D->Bool
 |.ak _=>true
 |_=>false
inductive Sm where
 |new (i:Nat)
 |bz (i:Nat) (e:Ex)
 |put (i:Nat) (ix e:Ex)
 |dput (i:Nat) (ix e:Ex)
 |app (i:Nat) (e:Ex)
 |ret (e:Ex)
 |ite (c:Tx) (a b:List Sm)
 |loop (k:AG) (its:List Ex) (tg:List Nat) (body:List Sm)
 |Dx (c:Tx) (body:List Sm)
 |yi (c:Nat)
 |Gq (body:List Sm) (cs:List Nat) (as:Option Nat) (h:List Sm)
 |pass
 |Eh (i f:Nat) (p r:Ex)
 |Dw
inductive Out where
 |nx (δ:iy)|bk (δ:iy)|ct (δ:iy)|rt (d:D)|xc (c:Nat) (δ:iy)|bad
noncomputable def Out.of{α:Type}(r:R α)(δ:iy)(f:α->Out):Out:=match r with
 |.ok a=>f a|.exc c=>.xc c δ|.bad=>.bad
@[simp] theorem Out.of_ok {α : Type} (a : α) (δ : iy) (f : α -> Out) : Out.of (.ok a) δ f = f a := rfl
@[simp] theorem Out.KO {α : Type} (c : Nat) (δ : iy) (f : α -> Out) : Out.of (.exc c : R α) δ f = .xc c δ := rfl
@[simp] theorem Out.Sb {α : Type} (δ : iy) (f : α -> Out) : Out.of (.bad : R α) δ f = .bad := rfl
noncomputable def sets(δ:iy):List Nat->List D->iy
 |i::is,d::ds=>sets (δ.set i (some (false,d))) is ds
 |_,_=>δ
noncomputable def forM(f:D->iy->Out):List D->iy->Out
 |[],δ=>.nx δ
 |x::r,δ=>match f x δ with
  |.nx δ'=>forM f r δ'
  |.ct δ'=>forM f r δ'
  |.bk δ'=>.nx δ'
  |.rt d=>.rt d
  |_=>.bad
noncomputable def A0(c:iy->R Bool)(fz:iy->iy)(b:iy->Out):Nat->iy->Out
 |0,_=>.bad
 |n+1,δ=>match c (fz δ) with
  |.ok true=>(match b (fz δ) with
   |.nx δ'=>A0 c fz b n δ'
   |.ct δ'=>A0 c fz b n δ'
   |.bk δ'=>.nx δ'
   |.rt d=>.rt d
   |_=>.bad)
  |.ok false=>.nx (fz δ)
  |_=>.bad
noncomputable def putD(δ:iy)(i:Nat)(k v:D):Out:=match δ[i]?,k with
 |some (some (true,.ak xs)),.int j=>match B8 xs.length j with
  |some n=>.nx (δ.set i (some (true,.ak (xs.set n v))))
  |none=>.bad
 |_,_=>.bad
noncomputable def Ei:List Int->List D->Int->D->List D
 |k::ks,v::vs,j,x=>(if k=j then x else v)::Ei ks vs j x
 |_,_,_,_=>[]
noncomputable def CF(δ:iy)(i:Nat)(k v:D):Out:=match δ[i]?,k with
 |some (some (true,.jt ks vs)),.int j=>if ks.length<jj then(if j∈ks then .nx (δ.set i (some (true,.jt ks (Ei ks vs j v)))) else .nx (δ.set i (some (true,.jt (ks++[j]) (vs++[v]))))) else .bad
 |_,_=>.bad
noncomputable def yj(δ:iy)(i:Nat):Bool:=match δ[i]? with
 |some (some (true,.ak _))=>true
 |_=>false
noncomputable def Gr(δ:iy)(i:Nat):Bool:=match δ[i]? with
 |some (some (true,.jt _ _))=>true
 |_=>false
noncomputable def Ej(δ:iy)(i:Nat)(v:D):Out:=match δ[i]? with
 |some (some (true,.ak xs))=>if xs.length<jj then .nx (δ.set i (some (true,.ak (xs++[v])))) else .bad
 |_=>.bad
noncomputable def xh(r:List Int):D:=.ak (r.map .int)
noncomputable def vf(old new:Int)(r:List Int):List Int:=r.map λx=>if x=old then new else x
noncomputable def ku:List D->Option (List Int)
 |[]=>some []
 |.int i::r=>(ku r).map (i::·)
 |_=>none
noncomputable def kh:List D->Option (List (List Int))
 |[]=>some []
 |.ar xs::r=>(ku xs).bind λq=>(kh r).map (q::·)
 |_=>none
noncomputable def qy:R D->Option (List (List Int))
 |.ok (.ak xs)=>kh xs
 |_=>none
noncomputable def unset(δ:iy)(i:Nat):Bool:=match δ[i]? with
 |some none=>true
 |_=>false
noncomputable def pj(t:List (Int×Int)):D:=.jt (t.map (·.1)) (t.map λx=>.int x.2)
noncomputable def tabOf(ks:List Int)(vs:List D):Option (List (Int×Int)):=(intsOf vs).bind λxs=>if ks.length=xs.length then some (ks.zip xs) else none
noncomputable def vg(r:List Int):D:=.ar (r.map .int)
noncomputable def xv(Φ:Nat->List D->R D)(f:Nat)(t:List (Int×Int))(p r:Int):Option (List (Int×Int)):=match Φ f [.int r] with
 |.ok (.ak row)=>(intsOf row).bind λrow=>if(t.map (·.1)).Nodup/\row.length<=5000/\(qx (1-2*(r%2)) row (p+2*r) t).length<=5000 then some (qx (1-2*(r%2)) row (p+2*r) t) else none
 |_=>none
noncomputable def Ek(Φ:Nat->List D->R D)(f:Nat)(δ:iy)(i:Nat)(p r:R D):Out:=match δ[i]?,p,r with
 |some (some (true,.jt ks vs)),.ok (.int p),.ok (.int r)=>(match(tabOf ks vs).bind λt=>xv Φ f t p r with
  |some t=>.nx (δ.set i (some (true,pj t)))
  |none=>.bad)
 |_,_,_=>.bad
noncomputable def jo:List (List Int)->Option (List (Int×Int))
 |[]=>some []
 |[a,b]::r=>(jo r).map ((a,b)::·)
 |_=>none
noncomputable def C8(δ:iy):Out:=match(qy (cg δ 0)).bind jo with
 |some l=>if δ.length=6/\l.length<=900 then .rt (.int (ah l)) else .bad
 |none=>.bad
section
variable(Φ:Nat->List D->R D)(G:List D)(n:Nat)
mutual
noncomputable def bp:Sm->iy->Out
 |.new i,δ=>.nx (δ.set i (some (true,.jt [] [])))
 |.bz i e,δ=>Out.of (ev Φ G false e (bf (ai false e) δ)) (bf (ai false e) δ) λd=>.nx ((bf (ai false e) δ).set i (some (bq e&&ba d,d)))
 | .put i ix e,δ=>if yj (bf (ai false e++ai true ix) δ) i then Out.of (ev Φ G false e (bf (ai false e++ai true ix) δ)) (bf (ai false e++ai true ix) δ) λv=>
   Out.of (ev Φ G true ix (bf (ai false e++ai true ix) δ)) (bf (ai false e++ai true ix) δ) λk=>putD (bf (ai false e++ai true ix) δ) i k v else .bad
 | .dput i ix e,δ=>if Gr (bf (ai false e++ai true ix) δ) i then Out.of (ev Φ G false e (bf (ai false e++ai true ix) δ)) (bf (ai false e++ai true ix) δ) λv=>
   Out.of (ev Φ G true ix (bf (ai false e++ai true ix) δ)) (bf (ai false e++ai true ix) δ) λk=>CF (bf (ai false e++ai true ix) δ) i k v else .bad
 |.app i e,δ=>if yj (bf (ai false e) δ) i then Out.of (ev Φ G false e (bf (ai false e) δ)) (bf (ai false e) δ) λv=>Ej (bf (ai false e) δ) i v else .bad
 |.ret e,δ=>Out.of (ev Φ G false e (bf (ai false e) δ)) (bf (ai false e) δ) λd=>.rt d
 |.ite c a b,δ=>Out.of (du Φ G c (bf (au c) δ)) (bf (au c) δ) λt=>if t then av a (bf (au c) δ) else av b (bf (au c) δ)
 | .loop k its tg body,δ=>Out.of ((ck Φ G false its (bf (aq false its) δ)).bind (bo k)).quiet (bf (aq false its) δ) λxs=>
   forM (λx δ'=>match br tg.length x with
    |none=>.bad
    |some ts=>av body (sets δ' tg ts)) xs (bf (aq false its) δ)
 |.Dx c body,δ=>A0 (du Φ G c) (bf (au c)) (av body) n δ
 |.yi c,δ=>.xc c δ
 | .Gq body cs as h,δ=>match av body δ with
   | .xc c' δ'=>if cs.contains c' then(match as with
     |none=>(match av h δ' with
      |.xc _ _=>.bad
      |o=>o)
     |some i=>match av h (δ'.set i (some (false,.yv c'))) with
      |.nx Sd=>.nx (Sd.set i none)
      |.rt d=>.rt d
      |_=>.bad) else .bad
   |o=>o
 |.pass,δ=>.nx δ
 |.Eh i f p r,δ=>Ek Φ f (bf (ai false p++ai false r) δ) i (ev Φ G false p (bf (ai false p++ai false r) δ)) (ev Φ G false r (bf (ai false p++ai false r) δ))
 |.Dw,δ=>C8 δ
noncomputable def av:List Sm->iy->Out
 |[],δ=>.nx δ
 |s::ss,δ=>match bp s δ with
  |.nx δ'=>av ss δ'
  |o=>o
end
end
structure Fn where
 np:Nat
 ns:Nat
 body:List Sm
noncomputable def vh(F:Fn)(ds:List D):iy:=ds.map (λd=>some (false,d))++List.replicate (F.ns-F.np) none
noncomputable def Out.val:Out->R D
 |.nx _=>.ok .de
 |.rt d=>.ok d
 |.xc c _=>.exc c
 |_=>.bad
structure Prog where
 fns:List Fn
 fk:List D
noncomputable def bt(P:Prog):Nat->Nat->List D->R D
 |0,_,_=>.bad
 |k+1,f,ds=>match P.fns[f]? with
  |some F=>if ds.length=F.np then(av (bt P k) P.fk 1000 F.body (vh F ds)).val else .bad
  |none=>.bad
end Py
namespace L2.Snd
open PySem PySem.Spec PyProof.Rows L2 Py
noncomputable def Ot(a C:Addr):HO:=.ext λh=>∃o,h.get? a=some o/\o.cls=.ref C/\o.dict=none/\∃vs,o.data=.fields vs
def M3(K:PySem.W.Frag)(H:Hp)(a:Addr)(xs:List V):Prop:=
 (∃o,H a=some (.bf o (.ak xs)))\/
  ∃(o:Obj)(its:Array Value)(n:Nat),K.lookup a=some o/\o.cls=.type "list"/\o.dict=none/\o.data=.seq its n/\its.size<=sizeLine/\dj xs its.toList
theorem M3.TY{K:PySem.W.Frag}(h:M3 K H a xs):lj K H a xs:=h.elim (λ⟨o,e⟩=>.inl (.inr ⟨o,e⟩)) .inr
section
variable(K:PySem.W.Frag)(cl:Nat->Addr)(F:Addr->Prop)(H:Hp)
mutual
noncomputable def Rep:D->V->Prop
 |.de,v=>v=.de
 |.bl b,v=>v=.bl b
 |.int i,v=>v=.int i
 |.str x,v=>v=.str ⟨x.toArray⟩
 |.ar xs,v=>∃a vs,v=.ref a/\nv K H a vs/\bb xs vs
 |.ak xs,v=>∃a vs,v=.ref a/\F a/\H a=some (.ak vs)/\bb xs vs
 |.jt ks ds,v=>∃(a:Addr)(kvs:List (Key×V)),v=.ref a/\F a/\H a=some (.dK kvs)/\kvs.map (·.1)=ks.map Sum.inl/\bb ds (kvs.map (·.2))
 |.yv c,v=>∃a,v=.ref a/\F a/\H a=some (Ot a (cl c))
 |.ig ns,v=>∃a,v=.ref a/\M3 K H a (ns.map V.int)
noncomputable def bb:List D->List V->Prop
 |[],vs=>vs=[]
 |d::ds,vs=>∃v r,vs=v::r/\Rep d v/\bb ds r
end
def Own(d:D)(a:Addr):Prop:=match d with
 |.ak xs=>∃vs,H a=some (.ak vs)/\bb K cl F H xs vs
 |.jt ks ds=>∃kvs:List (Key×V),H a=some (.dK kvs)/\kvs.map (·.1)=ks.map Sum.inl/\bb K cl F H ds (kvs.map (·.2))
 |_=>False
def Got(d:D)(v:V):Prop:=Rep K cl F H d v\/∃p,v=.ref p/\Own K cl F H d p
end
structure iq(F:Addr->Prop)(H H':Hp):Prop where
 fr:∀a o,F a->H a=some o->H' a=some o
 tp:∀a xs,H a=some (.ar xs)->H' a=some (.ar xs)
 fz:∀a o u,H a=some (.bf o u)->H' a=some (.bf o u)
theorem iq.of_same(h:jn H H'):iq F H H':=⟨λa o _ e=>h a o e,λa xs e=>h a _ e,λa o u e=>h a _ e⟩
theorem iq.upd(hp:¬F p)(ht:∀xs,H p≠some (.ar xs))(hf:∀o u,H p≠some (.bf o u)):iq F H (upd H p o):=by
 refine⟨λa o' fa e=>?_,λa xs e=>?_,λa o' u e=>?_⟩
 ·rw[aB (by rintro rfl;exact hp fa)];exact e
 ·rw[aB (by rintro rfl;exact ht xs e)];exact e
 ·rw[aB (by rintro rfl;exact hf o' u e)];exact e
theorem iq.TZ{K:PySem.W.Frag}(P:iq F H H')(h:nv K H a xs):nv K H' a xs:=by
 rcases h with(h|⟨o,h⟩)|h
 ·exact .inl (.inl (P.tp _ _ h))
 ·exact .inl (.inr ⟨o,P.fz _ _ _ h⟩)
 ·exact .inr h
theorem iq.Vc{K:PySem.W.Frag}(P:iq F H H')(h:M3 K H a xs):M3 K H' a xs:=by
 rcases h with⟨o,h⟩|h
 ·exact .inl ⟨o,P.fz _ _ _ h⟩
 ·exact .inr h
section
variable{K:PySem.W.Frag}{cl:Nat->Addr}{F F':Addr->Prop}{H H':Hp}
mutual
theorem Rep.mono(P:iq F H H')(s:∀a,F a->F' a):∀{d:D}{v:V},Rep K cl F H d v->Rep K cl F' H' d v
 |.de,_,h=>by simpa[Rep] using h
 |.bl _,_,h=>by simpa[Rep] using h
 |.int _,_,h=>by simpa[Rep] using h
 |.str _,_,h=>by simpa[Rep] using h
 |.ar xs,_,h=>by
  simp only[Rep] at h⊢;obtain⟨a,vs,e,q,r⟩:=h;exact⟨a,vs,e,P.TZ q,bb.mono P s r⟩
 |.ak xs,_,h=>by
  simp only[Rep] at h⊢;obtain⟨a,vs,e,fa,q,r⟩:=h;exact⟨a,vs,e,s a fa,P.fr _ _ fa q,bb.mono P s r⟩
 |.jt _ _,_,h=>by
  simp only[Rep] at h⊢;obtain⟨a,kvs,e,fa,q,k,r⟩:=h;exact⟨a,kvs,e,s a fa,P.fr _ _ fa q,k,bb.mono P s r⟩
 |.yv c,_,h=>by
  simp only[Rep] at h⊢;obtain⟨a,e,fa,q⟩:=h;exact⟨a,e,s a fa,P.fr _ _ fa q⟩
 |.ig ns,_,h=>by
  simp only[Rep] at h⊢;obtain⟨a,e,q⟩:=h;exact⟨a,e,P.Vc q⟩
theorem bb.mono(P:iq F H H')(s:∀a,F a->F' a):∀{ds:List D}{vs:List V},bb K cl F H ds vs->bb K cl F' H' ds vs
 |[],_,h=>by simpa[bb] using h
 |d::ds,_,h=>by
  simp only[bb] at h⊢;obtain⟨v,r,e,h1,h2⟩:=h;exact⟨v,r,e,Rep.mono P s h1,bb.mono P s h2⟩
end
theorem Own.mono(h:Own K cl F H d a)(P:iq F H H')(s:∀a,F a->F' a)(ha:H' a=H a):Own K cl F' H' d a:=by
 cases d with
 |ak xs=>obtain⟨vs,e,r⟩:=h;exact⟨vs,ha.trans e,r.mono P s⟩
 |jt ks ds=>obtain⟨kvs,e,k,r⟩:=h;exact⟨kvs,ha.trans e,k,r.mono P s⟩
 |_=>exact h.elim
theorem Own.at(h:Own K cl F H d a):(∃vs,H a=some (.ak vs))\/∃kvs,H a=some (.dK kvs):=by
 cases d with
 |ak xs=>obtain⟨vs,e,r⟩:=h;exact .inl ⟨vs,e⟩
 |jt ks ds=>obtain⟨kvs,e,k,r⟩:=h;exact .inr ⟨kvs,e⟩
 |_=>exact h.elim
theorem Own.some(h:Own K cl F H d a):H a≠none:=by
 rcases h.at with⟨_,e⟩|⟨_,e⟩<;>rw[e]<;>exact λz=>nomatch z
theorem bb.nil:bb K cl F H [] []:=by simp[bb]
theorem bb.cons{d:D}{ds:List D}{v:V}{vs:List V}(h:Rep K cl F H d v)(r:bb K cl F H ds vs):bb K cl F H (d::ds) (v::vs):=by
 simp only[bb];exact⟨v,vs,rfl,h,r⟩
theorem bb.cons_inv{d:D}{ds:List D}{vs:List V}(h:bb K cl F H (d::ds) vs):∃v r,vs=v::r/\Rep K cl F H d v/\bb K cl F H ds r:=by simpa only[bb] using h
theorem bb.nil_inv{vs:List V}(h:bb K cl F H [] vs):vs=[]:=by simpa only[bb] using h
theorem bb.length:∀{ds:List D}{vs:List V},bb K cl F H ds vs->vs.length=ds.length
 |[],vs,h=>by rw[h.nil_inv];rfl
 |d::ds,vs,h=>by
  obtain⟨v,r,rfl,_,h2⟩:=h.cons_inv;rw[ja,ja,bb.length h2]
theorem bb.append:∀{ds es:List D}{vs us:List V},bb K cl F H ds vs->bb K cl F H es us->bb K cl F H (ds++es) (vs++us)
 |[],_,vs,_,h,h'=>by rw[h.nil_inv];exact h'
 |d::ds,_,vs,_,h,h'=>by
  obtain⟨v,r,rfl,h1,h2⟩:=h.cons_inv;exact(bb.append h2 h').cons h1|>λz=>z
theorem bb.get:∀{ds:List D}{vs:List V}{i:Nat}{d:D},bb K cl F H ds vs->ds[i]?=some d->∃v,vs[i]?=some v/\Rep K cl F H d v
 |[],_,_,_,_,e=>by simp at e
 |d::ds,vs,0,d',h,e=>by
  obtain⟨v,r,rfl,h1,h2⟩:=h.cons_inv;simp at e;subst e;exact⟨v,by simp,h1⟩
 |d::ds,vs,i+1,d',h,e=>by
  obtain⟨v,r,rfl,h1,h2⟩:=h.cons_inv;obtain⟨u,h3,h4⟩:=bb.get (i:=i) h2 (by simpa using e);exact⟨u,by simpa using h3,h4⟩
theorem bb.take:∀(n:Nat){ds:List D}{vs:List V},bb K cl F H ds vs->bb K cl F H (ds.take n) (vs.take n)
 |0,_,_,_=>by simpa using bb.nil
 |_+1,[],vs,h=>by rw[h.nil_inv];simpa using bb.nil
 |n+1,d::ds,vs,h=>by
  obtain⟨v,r,rfl,h1,h2⟩:=h.cons_inv;simpa using bb.cons h1 (bb.take n h2)
theorem bb.drop:∀(n:Nat){ds:List D}{vs:List V},bb K cl F H ds vs->bb K cl F H (ds.drop n) (vs.drop n)
 |0,_,_,h=>by simpa using h
 |_+1,[],vs,h=>by rw[h.nil_inv];simpa using bb.nil
 |n+1,d::ds,vs,h=>by
  obtain⟨v,r,rfl,h1,h2⟩:=h.cons_inv;simpa using bb.drop n h2
theorem bb.set:∀(n:Nat){ds:List D}{vs:List V}{d:D}{v:V},bb K cl F H ds vs->Rep K cl F H d v->bb K cl F H (ds.set n d) (vs.set n v)
 |_,[],vs,_,_,h,_=>by rw[h.nil_inv];simpa using bb.nil
 |0,d::ds,vs,_,_,h,h'=>by
  obtain⟨v,r,rfl,h1,h2⟩:=h.cons_inv;simpa using bb.cons h' h2
 |n+1,d::ds,vs,_,_,h,h'=>by
  obtain⟨v,r,rfl,h1,h2⟩:=h.cons_inv;simpa using bb.cons h1 (bb.set n h2 h')
end
structure Up(F:Addr->Prop)(H:Hp)(F':Addr->Prop)(H':Hp):Prop where
 same:jn H H'
 sub:∀a,F a->F' a
 new:∀a,F' a->F a\/(H a=none/\H' a≠none)
theorem Up.refl(F:Addr->Prop)(H:Hp):Up F H F H:=⟨jn.refl H,λ_ h=>h,λ_ h=>.inl h⟩
theorem Up.trans(a:Up F H F1 H1)(b:Up F1 H1 F2 H2):Up F H F2 H2:=
 ⟨a.same.trans b.same,λx h=>b.sub x (a.sub x h),λx h=>by
  rcases b.new x h with z|⟨z1,z2⟩
  ·rcases a.new x z with y|⟨y1,y2⟩
   ·exact .inl y
   ·refine .inr ⟨y1,λe=>?_⟩
    exact y2 (b.same.free e)
  ·exact .inr ⟨a.same.free z1,z2⟩⟩
theorem Up.alloc(hp:H p=none):Up F H F (L2.upd H p o):=
 ⟨λb u e=>by rw[aB (aO e hp)];exact e,λ_ h=>h,λ_ h=>.inl h⟩
noncomputable def B9(F:Addr->Prop)(p:Addr):Addr->Prop:=λa=>F a\/a=p
theorem Up.freeze(u:Up F H F' H')(hp:H p=none)(M4:H' p≠none):Up F H (B9 F' p) H':=
 ⟨u.same,λa h=>.inl (u.sub a h),λa h=>h.elim (u.new a) λe=>.inr (by subst e;exact⟨hp,M4⟩)⟩
def AH(F:Addr->Prop)(H:Hp):Prop:=∀a,F a->H a≠none
theorem AH.up(t:AH F H)(u:Up F H F' H'):AH F' H':=λa h=>by
 rcases u.new a h with z|⟨_,z⟩
 ·exact λe=>t a z (u.same.free e)
 ·exact z
theorem AH.fresh(t:AH F H)(h:H p=none):¬F p:=λz=>t p z h
section
variable{K:PySem.W.Frag}{cl:Nat->Addr}{F F':Addr->Prop}{H H':Hp}{d:D}{v:V}
theorem Rep.up(h:Rep K cl F H d v)(u:Up F H F' H'):Rep K cl F' H' d v:=h.mono (iq.of_same u.same) u.sub
theorem bb.up(h:bb K cl F H ds vs)(u:Up F H F' H'):bb K cl F' H' ds vs:=h.mono (iq.of_same u.same) u.sub
theorem Own.up(h:Own K cl F H d a)(u:Up F H F' H'):Own K cl F' H' d a:=by
 refine h.mono (iq.of_same u.same) u.sub ?_;rcases h.at with⟨_,e⟩|⟨_,e⟩<;>rw[e]<;>exact u.same _ _ e
theorem Got.up(h:Got K cl F H d v)(u:Up F H F' H'):Got K cl F' H' d v:=h.elim (λz=>.inl (z.up u)) λ⟨p,e,o⟩=>.inr ⟨p,e,o.up u⟩
end
structure jg(K:PySem.W.Frag)(cl:Nat->Addr)(F:Addr->Prop)(H:Hp)(σ:St)(δ:iy):Prop where
 len:σ.length=δ.length
 Ag:AH F H
 sh:∀(i:Nat) d,δ[i]?=some (some (false,d))->∃v,σ[i]?=some (some v)/\Rep K cl F H d v
 ow:∀(i:Nat) d,δ[i]?=some (some (true,d))->∃a,σ[i]?=some (some (.ref a))/\¬F a/\Own K cl F H d a
theorem jg.up{K:PySem.W.Frag}(h:jg K cl F H σ δ)(u:Up F H F' H'):jg K cl F' H' σ δ:=by
 refine⟨h.len,h.Ag.up u,λi d e=>?_,λi d e=>?_⟩
 ·obtain⟨v,h1,h2⟩:=h.sh i d e
  exact⟨v,h1,h2.up u⟩
 ·obtain⟨a,h1,h2,h3⟩:=h.ow i d e
  exact⟨a,h1,λz=>(u.new a z).elim h2 λy=>h3.some y.1,h3.up u⟩
def M5(K:PySem.W.Frag)(cl:Nat->Addr)(F':Addr->Prop)(H H':Hp)(d:D)(v:V):Prop:=∃p,v=.ref p/\H p=none/\¬F' p/\Own K cl F' H' d p
def Res(K:PySem.W.Frag)(cl:Nat->Addr)(fr:Bool)(F':Addr->Prop)(H H':Hp)(d:D)(v:V):Prop:=
 if(fr&&ba d)=true then M5 K cl F' H H' d v else Rep K cl F' H' d v
def Gives(K:PySem.W.Frag)(cl:Nat->Addr)(m fr:Bool)(F':Addr->Prop)(H H':Hp)(d:D)(v:V):Prop:=
 if m=true then Got K cl F' H' d v else Res K cl fr F' H H' d v
section
variable{K:PySem.W.Frag}{cl:Nat->Addr}{F F':Addr->Prop}{H H':Hp}{d:D}{v:V}{fr:Bool}
theorem M5.got(h:M5 K cl F' H H' d v):Got K cl F' H' d v:=let⟨p,e,_,_,o⟩:=h;.inr ⟨p,e,o⟩
theorem Res.got(h:Res K cl fr F' H H' d v):Got K cl F' H' d v:=by
 unfold Res at h;split at h
 ·exact h.got
 ·exact .inl h
theorem Res.gives(h:Res K cl fr F' H H' d v):Gives K cl m fr F' H H' d v:=by
 unfold Gives;split
 ·exact h.got
 ·exact h
theorem Res.vi(h:Rep K cl F' H' d v)(hn:(fr&&ba d)=false):Res K cl fr F' H H' d v:=by
 unfold Res;rw[bh (by rw[hn];exact kj)];exact h
theorem Gives.got(h:Gives K cl m fr F' H H' d v):Got K cl F' H' d v:=by
 unfold Gives at h;split at h
 ·exact h
 ·exact h.got
theorem Res.keep(h:Res K cl fr F' H H' d v)(u:Up F H F' H'):∃F2,Up F H F2 H'/\(∀a,F' a->F2 a)/\Rep K cl F2 H' d v:=by
 unfold Res at h;split at h
 ·obtain⟨p,rfl,hp,nf,o⟩:=h
  refine⟨B9 F' p,u.freeze hp o.some,λa z=>.inl z,?_⟩
  cases d with
  |ak xs=>
   obtain⟨vs,e,r⟩:=o;simp only[Rep];exact⟨p,vs,rfl,.inr rfl,e,r.mono (iq.of_same (jn.refl _)) λa z=>.inl z⟩
  |jt ks ds=>rename_i hc;simp[ba] at hc
  |_=>exact o.elim
 ·exact⟨F',u,λ_ z=>z,h⟩
end
def Meet{α:Type}(r:R α)(P:α->Prop)(E:Nat->Prop):Prop:=match r with
 |.ok a=>P a|.exc c=>E c|.bad=>False
theorem Meet.bind{α β:Type}{r:R α}{f:α->R β}{P:β->Prop}{E:Nat->Prop}(h:Meet (r.bind f) P E):Meet r (λa=>Meet (f a) P E) E:=by
 cases r<;>exact h
theorem Meet.mono{α:Type}{r:R α}{P P':α->Prop}{E E':Nat->Prop}(h:Meet r P E)(hP:∀a,r=.ok a->P a->P' a)(hE:∀c,E c->E' c):Meet r P' E':=by
 cases r with
 |ok a=>exact hP a rfl h
 |exc c=>exact hE c h
 |bad=>exact h
def ax(K:PySem.W.Frag)(cl:Nat->Addr)(XE:Nat->Hp->Prop)(m fr:Bool)(F:Addr->Prop)(H:Hp)(Q:VK)(r:R D):Prop:=
 Meet r (λd=>∀F' v H',Up F H F' H'->Gives K cl m fr F' H H' d v->Q v H') λc=>∀F' H',Up F H F' H'->XE c H'
def um(XE:Nat->Hp->Prop)(F:Addr->Prop)(H:Hp)(Q:Bool->Hp->Prop)(r:R Bool):Prop:=
 Meet r (λb=>∀F' H',Up F H F' H'->Q b H') λc=>∀F' H',Up F H F' H'->XE c H'
def xw(K:PySem.W.Frag)(cl:Nat->Addr)(XE:Nat->Hp->Prop)(m:Bool)(F:Addr->Prop)(H:Hp)(Q:List V->Hp->Prop)(r:R (List D)):Prop:=
 Meet r (λds=>∀F' vs H',Up F H F' H'->(if m=true then Paired (Got K cl F' H') ds vs else bb K cl F' H' ds vs)->Q vs H') λc=>∀F' H',Up F H F' H'->XE c H'
section
variable{K:PySem.W.Frag}{cl:Nat->Addr}{XE:Nat->Hp->Prop}{m fr:Bool}{F F':Addr->Prop}{H H' H0:Hp}{Q:VK}{r:R D}{d:D}{v:V}
theorem M5.base(h:M5 K cl F' H0 H' d v)(s:jn H H0):M5 K cl F' H H' d v:=let⟨p,e,hp,n,o⟩:=h;⟨p,e,s.free hp,n,o⟩
theorem Res.base(h:Res K cl fr F' H0 H' d v)(s:jn H H0):Res K cl fr F' H H' d v:=by
 unfold Res at h⊢;split
 ·rename_i c;rw[bg c] at h;exact h.base s
 ·rename_i c;rw[bh c] at h;exact h
theorem Gives.base(h:Gives K cl m fr F' H0 H' d v)(s:jn H H0):Gives K cl m fr F' H H' d v:=by
 unfold Gives at h⊢;split
 ·rename_i c;rw[bg c] at h;exact h
 ·rename_i c;rw[bh c] at h;exact h.base s
theorem ax.up(h:ax K cl XE m fr F H Q r)(u:Up F H F' H'):ax K cl XE m fr F' H' Q r:=
 Meet.mono h (λd _ q F2 v H2 u2 g=>q F2 v H2 (u.trans u2) (g.base u.same)) λc q F2 H2 u2=>q F2 H2 (u.trans u2)
theorem um.up{Q:Bool->Hp->Prop}{r:R Bool}(h:um XE F H Q r)(u:Up F H F' H'):um XE F' H' Q r:=
 Meet.mono h (λd _ q F2 H2 u2=>q F2 H2 (u.trans u2)) λc q F2 H2 u2=>q F2 H2 (u.trans u2)
theorem xw.up{Q:List V->Hp->Prop}{r:R (List D)}(h:xw K cl XE m F H Q r)(u:Up F H F' H'):xw K cl XE m F' H' Q r:=
 Meet.mono h (λd _ q F2 vs H2 u2 g=>q F2 vs H2 (u.trans u2) g) λc q F2 H2 u2=>q F2 H2 (u.trans u2)
theorem ax.here(h:ax K cl XE m fr F H Q (.ok d))(g:Res K cl fr F H H d v):Q v H:=h F v H (Up.refl F H) g.gives
theorem ax.ky(h:ax K cl XE m fr F H Q (.ok d))(g:Rep K cl F H d v)(hn:(fr&&ba d)=false):Q v H:=h.here (.vi g hn)
end
section
variable(X:Cx)(cl:Nat->Addr)(XE:Nat->St->Hp->Prop)(Φ:Nat->List D->R D)(G:List D)
structure dh(m:Bool)(ex:Ex)(e:Expr):Prop where
 ok:∃t,PE X e t/\∀F σ δ H Q,jg X.K cl F H σ δ->ax X.K cl (λc=>XE c σ) m (bq ex) F H Q (ev Φ G m ex δ)->t σ H Q
structure B_(tx:Tx)(e:Expr):Prop where
 ok:∃t,PT X e t/\∀F σ δ H Q,jg X.K cl F H σ δ->um (λc=>XE c σ) F H Q (du Φ G tx δ)->t σ H Q
structure Gs(tx:Tx)(e:Expr):Prop where
 ok:∃t,PW X e t/\∀F σ δ H Q,jg X.K cl F H σ δ->um (λc=>XE c σ) F H Q (du Φ G tx δ)->t σ H Q
structure C9(m:Bool)(exs:List Ex)(es:List Expr):Prop where
 ok:∃t,PA X es t/\∀F σ δ H Q,jg X.K cl F H σ δ->xw X.K cl (λc=>XE c σ) m F H Q (ck Φ G m exs δ)->t σ H Q
end
section
variable{X:Cx}{cl:Nat->Addr}{XE:Nat->St->Hp->Prop}{YE:Nat->Hp->Prop}{Φ:Nat->List D->R D}{G:List D}{m:Bool}
theorem KP(hN:X.N[i]?=some x)(hv:DM X.env.scope x)(hd:(x==("__debug__":Str))=false)(uj:(x==("__classdict__":Str))=false):
  dh X cl XE Φ G m (.aa i) (.Name x pos):=by
 refine⟨_,iV hN hv hd uj,λF σ δ H Q S h=>?_⟩;simp only[ev] at h
 cases e:δ[i]? with
 |none=>cases m<;>simp[cg,cj,e] at h<;>exact False.elim h
 |some o=>
  cases o with
  |none=>cases m<;>simp[cg,cj,e] at h<;>exact False.elim h
  |some p=>
   obtain⟨b,d⟩:=p
   cases b with
   |false=>
    obtain⟨v,h1,h2⟩:=S.sh i d e;refine⟨v,h1,?_⟩;cases m<;>simp[cg,cj,e] at h<;>exact h F v H (Up.refl F H) (Res.gives (.vi h2 (by simp[bq])))
   |true=>
    obtain⟨a,h1,h2,h3⟩:=S.ow i d e;refine⟨.ref a,h1,?_⟩
    cases m with
    |false=>simp[cg,e] at h;exact False.elim h
    |true=>
     simp[cj,e] at h;exact h F _ H (Up.refl F H) (by unfold Gives;rw[bg rfl];exact .inr ⟨a,rfl,h3⟩)
theorem KQ:dh X cl XE Φ G m (.ao (.int i)) (.Constant (.int i) j pos):=
 ⟨_,aU,λF σ δ H Q S h=>ax.ky h (by simp[Rep]) (by simp[bq])⟩
theorem Ou:dh X cl XE Φ G m (.ao (.bl i)) (.Constant (.bool i) j pos):=
 ⟨_,Nz,λF σ δ H Q S h=>ax.ky h (by simp[Rep]) (by simp[bq])⟩
theorem KR:dh X cl XE Φ G m (.ao .de) (.Constant .none j pos):=
 ⟨_,JJ,λF σ δ H Q S h=>ax.ky h (by simp[Rep]) (by simp[bq])⟩
theorem sW(hg:Gl X x)(hm:X.mg x=some u)(r:cm v u)(hd:(x==("__debug__":Str))=false)(hr:∀d,G[g]?=some d->∀F H,Rep X.K cl F H d v):
  dh X cl XE Φ G m (.glob g) (.Name x pos):=by
 refine⟨_,Fv hg hm r hd,λF σ δ H Q S h=>?_⟩;simp only[ev] at h
 cases e:G[g]? with
 |none=>rw[e] at h;exact False.elim h
 |some d=>rw[e] at h;exact ax.ky h (hr d e F H) (by simp[bq])
theorem two{a b:Expr}{o:D->D->R D}(ia:∀F σ δ H Q,jg X.K cl F H σ δ->ax X.K cl (λc=>XE c σ) true (bq ea) F H Q (ev Φ G true ea δ)->ta σ H Q)
  (ib:∀F σ δ H Q,jg X.K cl F H σ δ->ax X.K cl (λc=>XE c σ) true (bq eb) F H Q (ev Φ G true eb δ)->tb σ H Q)
  (ho:∀(YE:Nat->Hp->Prop) F H x y p q Q,AH F H->Got X.K cl F H p x->Got X.K cl F H q y->ax X.K cl YE m fr F H Q (o p q)->r x y H Q)
  (S:jg X.K cl F H σ δ) (h:ax X.K cl (λc=>XE c σ) m fr F H Q ((ev Φ G true ea δ).bind λx=>(ev Φ G true eb δ).bind λy=>o x y)):AW r ta tb σ H Q:=by
 refine ia F σ δ H _ S (Meet.mono h.bind (λp _ hp F1 x H1 u1 g1=>?_) λc z=>z);have Bd:ax X.K cl (λc=>XE c σ) m fr F1 H1 Q ((ev Φ G true eb δ).bind λy=>o p y):=ax.up hp u1;refine ib F1 σ δ H1 _ (S.up u1) (Meet.mono Bd.bind (λq _ hq F2 y H2 u2 g2=>?_) λc z=>z);exact ho _ F2 H2 x y p q Q ((S.up u1).up u2).Ag (g1.got.up u2) g2.got (ax.up hq u2)
theorem i9(hr:wz X (binaryOp op) r)(ia:dh X cl XE Φ G true ea a)(ib:dh X cl XE Φ G true eb b)
  (ho:∀(YE:Nat->Hp->Prop) F H x y p q Q,AH F H->Got X.K cl F H p x->Got X.K cl F H q y->ax X.K cl YE m (bq (.ag o ea eb)) F H Q (ag o p q)->r x y H Q):dh X cl XE Φ G m (.ag o ea eb) (.BinOp a op b pos):=by
 obtain⟨ta,pa,ia⟩:=ia;obtain⟨tb,pb,ib⟩:=ib;exact⟨_,cR hr pa pb,λF σ δ H Q S h=>two (a:=a) (b:=b) (o:=ag o) ia ib ho S (by simpa only[ev] using h)⟩
theorem Ov(hr:ID X r)(hs:yq b)(ia:dh X cl XE Φ G true ea a)(ib:dh X cl XE Φ G true eb b)
  (ho:∀(YE:Nat->Hp->Prop) F H x y p q Q,AH F H->Got X.K cl F H p x->Got X.K cl F H q y->ax X.K cl YE m (bq (.ag .at ea eb)) F H Q (ag .at p q)->r x y H Q):dh X cl XE Φ G m (.ag .at ea eb) (.Subscript a b pos):=by
 obtain⟨ta,pa,ia⟩:=ia;obtain⟨tb,pb,ib⟩:=ib;exact⟨_,IE hr pa pb hs,λF σ δ H Q S h=>two (a:=a) (b:=b) (o:=ag .at) ia ib ho S (by simpa only[ev] using h)⟩
theorem Ow(hr:Qx X (unaryOp op) r)(ia:dh X cl XE Φ G true ea a)
  (ho:∀(YE:Nat->Hp->Prop) F H x p Q,AH F H->Got X.K cl F H p x->ax X.K cl YE m (bq (.b_ o ea)) F H Q (b_ o p)->r x H Q):dh X cl XE Φ G m (.b_ o ea) (.UnaryOp op a pos):=by
 obtain⟨ta,pa,ia⟩:=ia;refine⟨_,NK hr pa,λF σ δ H Q S h=>?_⟩;simp only[ev] at h;exact ia F σ δ H _ S (Meet.mono (Meet.bind h) (λp _ hp F1 x H1 u1 g1=>ho _ F1 H1 x p Q (S.up u1).Ag g1.got (ax.up hp u1)) λc z=>z)
theorem bT:C9 X cl XE Φ G m [] []:=⟨_,mh,λF σ δ H Q S h=>by
 simp only[ck] at h;refine h F [] H (Up.refl F H) ?_;cases m
 ·rw[bh kj];exact bb.nil
 ·rw[bg rfl];exact .nil⟩
theorem bA(hs:starEach (a::as) X.env=(false,eval a X.env)::starEach as X.env)(ia:dh X cl XE Φ G m ea a)(ir:C9 X cl XE Φ G m es as):
  C9 X cl XE Φ G m (ea::es) (a::as):=by
 obtain⟨ta,pa,ia⟩:=ia;obtain⟨tr,pr,ir⟩:=ir;refine⟨_,gz pa pr hs,λF σ δ H Q S h=>?_⟩;simp only[ck] at h;refine ia F σ δ H _ S (Meet.mono (Meet.bind h) (λp _ hp F1 x H1 u1 g1=>?_) λc z=>z)
 cases m with
 |true=>
  have Bd:xw X.K cl (λc=>XE c σ) true F1 H1 Q ((ck Φ G true es δ).bind λxs=>.ok (p::xs)):=xw.up hp u1;refine ir F1 σ δ H1 _ (S.up u1) (Meet.mono (Meet.bind Bd) (λps _ hq F2 xs H2 u2 g2=>?_) λc z=>z);rw[bg rfl] at g2;exact hq F2 (x::xs) H2 u2 (by rw[bg rfl];exact .cons (g1.got.up u2) g2)
 |false=>
  unfold Gives at g1;rw[bh kj] at g1;obtain⟨T2,T3,sub,rp⟩:=g1.keep u1;have Bd:xw X.K cl (λc=>XE c σ) false T2 H1 Q ((ck Φ G false es δ).bind λxs=>.ok (p::xs)):=xw.up hp T3;refine ir T2 σ δ H1 _ (S.up T3) (Meet.mono (Meet.bind Bd) (λps _ hq F2 xs H2 u2 g2=>?_) λc z=>z);rw[bh kj] at g2;exact hq F2 (x::xs) H2 u2 (by rw[bh kj];exact .cons (rp.up u2) g2)
end
theorem jA:∀{ds es:List D},ju ds es=true->ds.length=es.length
 |[],[],_=>rfl
 |[],_::_,h=>by simp[ju] at h
 |_::_,[],h=>by simp[ju] at h
 |a::as,b::bs,h=>by
  simp only[ju,oy] at h;rw[ja,ja,jA h.2]
theorem jB:∀(ds es:List D),ds.length=es.length->ju ds es=(List.range ds.length).all λj=>f_ (ds.getD j .de) (es.getD j .de)
 |[],[],_=>by simp[ju]
 |[],_::_,h=>by simp at h
 |_::_,[],h=>by simp at h
 |a::as,b::bs,h=>by
  have ih:=jB as bs (by simpa using h);rw[ju,ih,ja,List.range_succ_eq_map,Fq,List.all_map];rfl
section
variable{X:Cx}{ae:List (Addr×Obj)}{σ:St}{H:Hp}{s:Shared}{cl:Nat->Addr}{F:Addr->Prop}
theorem Got.ar(h:Got X.K cl F H (.ar xs) v):∃a vs,v=.ref a/\nv X.K H a vs/\bb X.K cl F H xs vs:=by
 rcases h with h|⟨p,_,o⟩
 ·simpa only[Rep] using h
 ·exact o.elim
theorem Got.ak(h:Got X.K cl F H (.ak xs) v):∃a vs,v=.ref a/\H a=some (.ak vs)/\bb X.K cl F H xs vs:=by
 rcases h with h|⟨p,e,o⟩
 ·simp only[Rep] at h
  obtain⟨a,vs,e,_,q,r⟩:=h;exact⟨a,vs,e,q,r⟩
 ·obtain⟨vs,q,r⟩:=o
  exact⟨p,vs,e,q,r⟩
theorem Got.int(h:Got X.K cl F H (.int i) v):v=.int i:=by
 rcases h with h|⟨p,_,o⟩
 ·simpa only[Rep] using h
 ·exact o.elim
theorem Got.bl(h:Got X.K cl F H (.bl i) v):v=.bl i:=by
 rcases h with h|⟨p,_,o⟩
 ·simpa only[Rep] using h
 ·exact o.elim
theorem Got.de(h:Got X.K cl F H .de v):v=.de:=by
 rcases h with h|⟨p,_,o⟩
 ·simpa only[Rep] using h
 ·exact o.elim
theorem Got.str(h:Got X.K cl F H (.str x) v):v=.str ⟨x.toArray⟩:=by
 rcases h with h|⟨p,_,o⟩
 ·simpa only[Rep] using h
 ·exact o.elim
theorem Got.ig(h:Got X.K cl F H (.ig ns) v):∃a,v=.ref a/\M3 X.K H a (ns.map V.int):=by
 rcases h with h|⟨p,_,o⟩
 ·simpa only[Rep] using h
 ·exact o.elim
theorem Got.jt(h:Got X.K cl F H (.jt ks ds) v):∃a kvs,v=.ref a/\H a=some (.dK kvs)/\kvs.map (·.1)=ks.map Sum.inl/\bb X.K cl F H ds (kvs.map (·.2)):=by
 rcases h with h|⟨p,e,o⟩
 ·simp only[Rep] at h
  obtain⟨a,kvs,e,_,h1,h2,h3⟩:=h;exact⟨a,kvs,e,h1,h2,h3⟩
 ·obtain⟨kvs,h1,h2,h3⟩:=o
  exact⟨p,kvs,e,h1,h2,h3⟩
theorem gT(I:bj X ae σ H s)(h1:H a=some (.ak xs))(h2:nv X.K H a ys):False:=by
 obtain⟨its,_,⟨o,ho,hc,n,hd⟩,_⟩:=I.tuple h2;obtain⟨_,yf,n2,_,e⟩:=I.fo a _ h1;rw[ho] at e;have:=Aw e;subst this;exact absurd (show Value.type "list"=Value.type "tuple" from hc) (by decide)
theorem sX(I:bj X ae σ H s):∀(n:Nat)(d e:D)(v:V),dr n d=true->dr n e=true->Got X.K cl F H d v->Got X.K cl F H e v->f_ d e=true:=by
 intro n
 induction n using Nat.strongRecOn with
 |ind N QI=>
  have many:∀(n:Nat),n<N->∀(ds es:List D)(vs:List V),lg n ds=true->lg n es=true->bb X.K cl F H ds vs->bb X.K cl F H es vs->ju ds es=true:=by
   intro n hn;have ih:=QI n hn;intro ds
   induction ds with
   |nil=>
    intro es vs _ _ r1 r2;rw[r1.nil_inv] at r2
    cases es with
    |nil=>rfl
    |cons e es=>obtain⟨_,_,z,_⟩:=r2.cons_inv;cases z
   |cons d ds M6=>
    intro es vs p1 p2 r1 r2;obtain⟨v,r,rfl,a1,a2⟩:=r1.cons_inv
    cases es with
    |nil=>have z:=r2.nil_inv;cases z
    |cons e es=>
     obtain⟨v',r',z,b1,b2⟩:=r2.cons_inv;cases z;simp only[lg,oy] at p1 p2;simp only[ju,oy];exact⟨ih d e v p1.1 p2.1 (.inl a1) (.inl b1),M6 es r p1.2 p2.2 a2 b2⟩
  intro d e v pd pe gd ge
  cases d with
  |ar xs=>
   obtain⟨a,vs,rfl,q,r⟩:=gd.ar
   cases e with
   |ar ys=>
    obtain⟨a',AZ,z,q',r'⟩:=ge.ar;cases z;have:=I.wx q q';subst this;simp only[dr,oy,DH] at pd pe;simpa only[f_] using many (N-1) (Nat.sub_lt pd.1 Nat.one_pos) xs ys vs pd.2 pe.2 r r'
   |ak ys=>
    obtain⟨a',AZ,z,q',r'⟩:=ge.ak;cases z;exact(gT I q' q).elim
   |int i=>have z:=ge.int;cases z
   |bl i=>have z:=ge.bl;cases z
   |de=>have z:=ge.de;cases z
   |str i=>have z:=ge.str;cases z
   |jt _ _=>simp[dr] at pe
   |yv _=>simp[dr] at pe
   |ig _=>simp[dr] at pe
  |ak xs=>
   obtain⟨a,vs,rfl,q,r⟩:=gd.ak
   cases e with
   |ar ys=>
    obtain⟨a',AZ,z,q',r'⟩:=ge.ar;cases z;exact(gT I q q').elim
   |ak ys=>
    obtain⟨a',AZ,z,q',r'⟩:=ge.ak;cases z;rw[q] at q';cases q';simp only[dr,oy,DH] at pd pe;simpa only[f_] using many (N-1) (Nat.sub_lt pd.1 Nat.one_pos) xs ys vs pd.2 pe.2 r r'
   |int i=>have z:=ge.int;cases z
   |bl i=>have z:=ge.bl;cases z
   |de=>have z:=ge.de;cases z
   |str i=>have z:=ge.str;cases z
   |jt _ _=>simp[dr] at pe
   |yv _=>simp[dr] at pe
   |ig _=>simp[dr] at pe
  |jt _ _=>simp[dr] at pd
  |yv _=>simp[dr] at pd
  |ig _=>simp[dr] at pd
  |de=>
   have z:=gd.de;subst z
   cases e with
   |de=>rfl
   |ar ys=>obtain⟨_,_,z,_⟩:=ge.ar;cases z
   |ak ys=>obtain⟨_,_,z,_⟩:=ge.ak;cases z
   |int i=>have z:=ge.int;cases z
   |bl i=>have z:=ge.bl;cases z
   |str i=>have z:=ge.str;cases z
   |jt _ _=>simp[dr] at pe
   |yv _=>simp[dr] at pe
   |ig _=>simp[dr] at pe
  |bl b=>
   have z:=gd.bl;subst z
   cases e with
   |de=>have z:=ge.de;cases z
   |ar ys=>obtain⟨_,_,z,_⟩:=ge.ar;cases z
   |ak ys=>obtain⟨_,_,z,_⟩:=ge.ak;cases z
   |int i=>have z:=ge.int;cases z
   |bl i=>have z:=ge.bl;cases z;simp[f_]
   |str i=>have z:=ge.str;cases z
   |jt _ _=>simp[dr] at pe
   |yv _=>simp[dr] at pe
   |ig _=>simp[dr] at pe
  |int b=>
   have z:=gd.int;subst z
   cases e with
   |de=>have z:=ge.de;cases z
   |ar ys=>obtain⟨_,_,z,_⟩:=ge.ar;cases z
   |ak ys=>obtain⟨_,_,z,_⟩:=ge.ak;cases z
   |int i=>have z:=ge.int;cases z;simp[f_]
   |bl i=>have z:=ge.bl;cases z
   |str i=>have z:=ge.str;cases z
   |jt _ _=>simp[dr] at pe
   |yv _=>simp[dr] at pe
   |ig _=>simp[dr] at pe
  |str b=>
   have z:=gd.str;subst z
   cases e with
   |de=>have z:=ge.de;cases z
   |ar ys=>obtain⟨_,_,z,_⟩:=ge.ar;cases z
   |ak ys=>obtain⟨_,_,z,_⟩:=ge.ak;cases z
   |int i=>have z:=ge.int;cases z
   |bl i=>have z:=ge.bl;cases z
   |str i=>have z:=ge.str;simp at z;simp[f_,z]
   |jt _ _=>simp[dr] at pe
   |yv _=>simp[dr] at pe
   |ig _=>simp[dr] at pe
end
theorem iF(x y:List Nat):((⟨x.toArray⟩:Str)==⟨y.toArray⟩)=(x==y):=by
 rw[Bool.eq_iff_iff];simp
theorem bb.at{K:PySem.W.Frag}(r:bb K cl F H ds vs)(h:i<ds.length):∃v,vs[i]?=some v/\Rep K cl F H (ds.getD i .de) v:=by
 obtain⟨v,h1,h2⟩:=r.get (i:=i) (d:=ds.getD i .de) (by simp[List.getD,Ai h]);exact⟨v,h1,h2⟩
theorem jC:∀{ds:List D}{i:Nat},lg n ds=true->i<ds.length->dr n (ds.getD i .de)=true
 |[],_,_,h=>by simp at h
 |d::ds,0,p,_=>by simp only[lg,oy] at p;simpa using p.1
 |d::ds,i+1,p,h=>by
  simp only[lg,oy] at p;simpa using jC (i:=i) p.2 (by simpa using h)
section
variable{X:Cx}{ae:List (Addr×Obj)}{σ:St}{H:Hp}{s:Shared}{cl:Nat->Addr}{F:Addr->Prop}
theorem dS(I:bj X ae σ H s)(ih:∀(d e:D)(x y:V)(u w:Value),dr n d=true->dr n e=true->Got X.K cl F H d x->Got X.K cl F H e y->cm x u->cm y w->SeqAt.EqAt A s u w (f_ d e))
  {us zs:List Value} (r1:bb X.K cl F H ds vs) (r2:bb X.K cl F H es ws) (p1:lg n ds=true) (p2:lg n es=true) (q1:dj vs us) (q2:dj ws zs)
  (j:Nat) (h1:j<us.toArray.size) (h2:j<zs.toArray.size):SeqAt.EqAt A s us.toArray[j] zs.toArray[j] (f_ (ds.getD j .de) (es.getD j .de)):=by
 have l1:j<ds.length:=by rw[←r1.length,q1.length];simpa using h1
 have l2:j<es.length:=by rw[←r2.length,q2.length];simpa using h2
 obtain⟨v,e1,a1⟩:=r1.at l1;obtain⟨w,e2,a2⟩:=r2.at l2;obtain⟨u,f1,b1⟩:=q1.get e1;obtain⟨z,f2,b2⟩:=q2.get e2;have g1:us.toArray[j]=u:=by
  have:j<us.length:=by simpa using h1
  simpa[this] using f1
 have g2:zs.toArray[j]=z:=by
  have:j<zs.length:=by simpa using h2
  simpa[this] using f2
 rw[g1,g2];exact ih _ _ v w u z (jC p1 l1) (jC p2 l2) (.inl a1) (.inl a2) b1 b2
theorem qM(I:bj X ae σ H s){A:Around}(hu:A.units<cLine)(ih:∀(d e:D)(x y:V)(u w:Value),dr n d=true->dr n e=true->Got X.K cl F H d x->Got X.K cl F H e y->cm x u->cm y w->SeqAt.EqAt A.in1 s u w (f_ d e))
  (p1:lg n ds=true) (p2:lg n es=true) (h1:nv X.K H a vs) (h2:nv X.K H b ws) (r1:bb X.K cl F H ds vs) (r2:bb X.K cl F H es ws):
  ∃items zr e,s.heap.IsTuple a items/\s.heap.IsTuple b zr/\(∀j (g1:j<items.size)(g2:j<zr.size),SeqAt.EqAt A.in1 s items[j] zr[j] (e j))/\
   ((List.range (min items.size zr.size)).all e&&items.size==zr.size)=ju ds es:=by
 obtain⟨its,q1,t1,_⟩:=I.tuple h1;obtain⟨yf,q2,t2,_⟩:=I.tuple h2;refine⟨its.toArray,yf.toArray,λj=>f_ (ds.getD j .de) (es.getD j .de),t1,t2,dS I ih r1 r2 p1 p2 q1 q2,?_⟩;have l1:its.toArray.size=ds.length:=by rw[uq,←q1.length,r1.length]
 have l2:yf.toArray.size=es.length:=by rw[uq,←q2.length,r2.length]
 rw[l1,l2];by_cases hl:ds.length=es.length
 ·rw[jB ds es hl,hl];simp
 ·have:ju ds es=false:=by
   cases h:ju ds es with
   |false=>rfl
   |true=>exact absurd (jA h) hl
  rw[this];simp[hl]
theorem qN(I:bj X ae σ H s)(hu:A.units<cLine)(ih:∀(d e:D)(x y:V)(u w:Value),dr n d=true->dr n e=true->Got X.K cl F H d x->Got X.K cl F H e y->cm x u->cm y w->SeqAt.EqAt A.in1 s u w (f_ d e))
  (p1:lg n ds=true) (p2:lg n es=true) (h1:H a=some (.ak vs)) (h2:H b=some (.ak ws)) (r1:bb X.K cl F H ds vs) (r2:bb X.K cl F H es ws):
  SeqAt.RcAt A s (.ref a) (.ref b) (ju ds es)/\SeqAt.RcNeAt A s (.ref a) (.ref b) (!ju ds es):=by
 obtain⟨its,q1,t1,_⟩:=I.list (lj.of (K:=X.K) h1);obtain⟨yf,q2,t2,_⟩:=I.list (lj.of (K:=X.K) h2);have l1:its.toArray.size=ds.length:=by rw[uq,←q1.length,r1.length]
 have l2:yf.toArray.size=es.length:=by rw[uq,←q2.length,r2.length]
 by_cases hl:ds.length=es.length
 ·have hs:its.toArray.size=yf.toArray.size:=by rw[l1,l2,hl]
  have e1:=SeqAt.RcAt.lists (e:=λj=>f_ (ds.getD j .de) (es.getD j .de)) t1.isList t2.isList hs hu (dS I ih r1 r2 p1 p2 q1 q2);have e2:=SeqAt.RcNeAt.lists (e:=λj=>f_ (ds.getD j .de) (es.getD j .de)) t1.isList t2.isList hs hu (dS I ih r1 r2 p1 p2 q1 q2);rw[l1,←jB ds es hl] at e1 e2;exact⟨e1,e2⟩
 ·have:ju ds es=false:=by
   cases h:ju ds es with
   |false=>rfl
   |true=>exact absurd (jA h) hl
  rw[this];have hs:(its.toArray.size !=yf.toArray.size)=true:=by rw[l1,l2];simpa using hl
  exact⟨SeqAt.RcAt.lists_lengths t1.isList t2.isList hs hu,SeqAt.RcNeAt.lists_lengths t1.isList t2.isList hs hu⟩
theorem wX(I:bj X ae σ H s):∀(n:Nat)(A:Around),A.units+n<cLine->∀(d e:D)(x y:V)(u w:Value),dr n d=true->dr n e=true->Got X.K cl F H d x->Got X.K cl F H e y->cm x u->cm y w->
  SeqAt.EqAt A s u w (f_ d e):=by
 intro n
 induction n using Nat.strongRecOn with
 |ind N QI=>
  intro A hu d e x y u w pd pe gd ge rx ry;have An:A.units<cLine:=by omega
  have C_:∀{a:Addr}{vs:List V},nv X.K H a vs->∃its,s.heap.IsTuple a its:=λh=>let⟨its,_,t,_⟩:=I.tuple h;⟨_,t⟩;have C':∀{a:Addr}{vs:List V},H a=some (.ak vs)->∃its,s.heap.IsList a its:=λh=>let⟨its,_,t,_⟩:=I.list (lj.of (K:=X.K) h);⟨_,t.isList⟩
  cases d with
  |jt _ _=>simp[dr] at pd
  |yv _=>simp[dr] at pd
  |ig _=>simp[dr] at pd
  |ar ds=>
   obtain⟨a,vs,rfl,h1,r1⟩:=gd.ar;cases (show u=Value.ref a from rx);obtain⟨Vd,t1⟩:=C_ h1;have Se:=pd;simp only[dr,oy,DH] at pd
   cases e with
   |jt _ _=>simp[dr] at pe
   |yv _=>simp[dr] at pe
   |ig _=>simp[dr] at pe
   |ar es=>
    obtain⟨b,ws,rfl,h2,r2⟩:=ge.ar;cases (show w=Value.ref b from ry);have Sf:=pe;simp only[dr,oy,DH] at pe;by_cases pw:a=b
    ·subst pw
     rw[sX I N (.ar ds) (.ar es) (.ref a) Se Sf gd ge];exact SeqAt.EqAt.same _
    ·obtain⟨i1,i2,ee,a1,a2,a3,a4⟩:=qM I (A:=A) An (QI (N-1) (Nat.sub_lt pd.1 Nat.one_pos) A.in1 (by show A.units+1+(N-1)<cLine;omega)) pd.2 pe.2 h1 h2 r1 r2
     have:=SeqAt.EqAt.of_refs pw (SeqAt.RcAt.tuples a1 a2 An a3);rw[a4] at this;simpa only[f_] using this
   |ak es=>
    obtain⟨b,ws,rfl,h2,r2⟩:=ge.ak;cases (show w=Value.ref b from ry);obtain⟨Gu,t2⟩:=C' h2;simpa only[f_] using SeqAt.EqAt.tuple_list t1 t2 An
   |de=>rw[ge.de] at ry;cases ry;simpa only[f_] using SeqAt.EqAt.tuple_none t1 An
   |bl b=>rw[ge.bl] at ry;cases ry;simpa only[f_] using SeqAt.EqAt.tuple_bool b t1 An
   |int b=>rw[ge.int] at ry;obtain⟨t,rfl⟩:=ry;simpa only[f_] using SeqAt.EqAt.tuple_int b t t1 An
   |str b=>rw[ge.str] at ry;obtain⟨t,rfl⟩:=ry;simpa only[f_] using SeqAt.EqAt.tuple_str _ t t1 An
  |ak ds=>
   obtain⟨a,vs,rfl,h1,r1⟩:=gd.ak;cases (show u=Value.ref a from rx);obtain⟨Vd,t1⟩:=C' h1;have Se:=pd;simp only[dr,oy,DH] at pd
   cases e with
   |jt _ _=>simp[dr] at pe
   |yv _=>simp[dr] at pe
   |ig _=>simp[dr] at pe
   |ak es=>
    obtain⟨b,ws,rfl,h2,r2⟩:=ge.ak;cases (show w=Value.ref b from ry);have Sf:=pe;simp only[dr,oy,DH] at pe;by_cases pw:a=b
    ·subst pw
     rw[sX I N (.ak ds) (.ak es) (.ref a) Se Sf gd ge];exact SeqAt.EqAt.same _
    ·have:=SeqAt.EqAt.of_refs pw (qN I (A:=A) An (QI (N-1) (Nat.sub_lt pd.1 Nat.one_pos) A.in1 (by show A.units+1+(N-1)<cLine;omega)) pd.2 pe.2 h1 h2 r1 r2).1
     simpa only[f_] using this
   |ar es=>
    obtain⟨b,ws,rfl,h2,r2⟩:=ge.ar;cases (show w=Value.ref b from ry);obtain⟨Gu,t2⟩:=C_ h2;simpa only[f_] using SeqAt.EqAt.list_tuple t1 t2 An
   |de=>rw[ge.de] at ry;cases ry;simpa only[f_] using SeqAt.EqAt.list_none t1 An
   |bl b=>rw[ge.bl] at ry;cases ry;simpa only[f_] using SeqAt.EqAt.list_bool b t1 An
   |int b=>rw[ge.int] at ry;obtain⟨t,rfl⟩:=ry;simpa only[f_] using SeqAt.EqAt.list_int b t t1 An
   |str b=>rw[ge.str] at ry;obtain⟨t,rfl⟩:=ry;simpa only[f_] using SeqAt.EqAt.list_str _ t t1 An
  |de=>
   rw[gd.de] at rx;cases rx
   cases e with
   |jt _ _=>simp[dr] at pe
   |yv _=>simp[dr] at pe
   |ig _=>simp[dr] at pe
   |ar es=>obtain⟨b,ws,rfl,h2,r2⟩:=ge.ar;cases (show w=Value.ref b from ry);obtain⟨Gu,t2⟩:=C_ h2;simpa only[f_] using SeqAt.EqAt.none_tuple t2 An
   |ak es=>obtain⟨b,ws,rfl,h2,r2⟩:=ge.ak;cases (show w=Value.ref b from ry);obtain⟨Gu,t2⟩:=C' h2;simpa only[f_] using SeqAt.EqAt.none_list t2 An
   |de=>rw[ge.de] at ry;simpa only[f_,lp] using aV (y:=.de) (x:=.de) rfl ry rfl rfl
   |bl b=>rw[ge.bl] at ry;simpa only[f_,lp] using aV (y:=.de) (x:=.bl b) rfl ry rfl rfl
   |int b=>rw[ge.int] at ry;simpa only[f_,lp] using aV (y:=.de) (x:=.int b) rfl ry rfl rfl
   |str b=>rw[ge.str] at ry;simpa only[f_,lp] using aV (y:=.de) (x:=.str _) rfl ry rfl rfl
  |bl c=>
   rw[gd.bl] at rx
   cases e with
   |jt _ _=>simp[dr] at pe
   |yv _=>simp[dr] at pe
   |ig _=>simp[dr] at pe
   |ar es=>cases rx;obtain⟨b,ws,rfl,h2,r2⟩:=ge.ar;cases (show w=Value.ref b from ry);obtain⟨Gu,t2⟩:=C_ h2;simpa only[f_] using SeqAt.EqAt.bool_tuple c t2 An
   |ak es=>cases rx;obtain⟨b,ws,rfl,h2,r2⟩:=ge.ak;cases (show w=Value.ref b from ry);obtain⟨Gu,t2⟩:=C' h2;simpa only[f_] using SeqAt.EqAt.bool_list c t2 An
   |de=>rw[ge.de] at ry;simpa only[f_,lp] using aV (y:=.bl c) (x:=.de) rx ry rfl rfl
   |bl b=>rw[ge.bl] at ry;simpa only[f_,lp] using aV (y:=.bl c) (x:=.bl b) rx ry rfl rfl
   |int b=>rw[ge.int] at ry;simpa only[f_,lp] using aV (y:=.bl c) (x:=.int b) rx ry rfl rfl
   |str b=>rw[ge.str] at ry;simpa only[f_,lp] using aV (y:=.bl c) (x:=.str _) rx ry rfl rfl
  |int c=>
   rw[gd.int] at rx
   cases e with
   |jt _ _=>simp[dr] at pe
   |yv _=>simp[dr] at pe
   |ig _=>simp[dr] at pe
   |ar es=>obtain⟨t,rfl⟩:=rx;obtain⟨b,ws,rfl,h2,r2⟩:=ge.ar;cases (show w=Value.ref b from ry);obtain⟨Gu,t2⟩:=C_ h2;simpa only[f_] using SeqAt.EqAt.int_tuple c t t2 An
   |ak es=>obtain⟨t,rfl⟩:=rx;obtain⟨b,ws,rfl,h2,r2⟩:=ge.ak;cases (show w=Value.ref b from ry);obtain⟨Gu,t2⟩:=C' h2;simpa only[f_] using SeqAt.EqAt.int_list c t t2 An
   |de=>rw[ge.de] at ry;simpa only[f_,lp] using aV (y:=.int c) (x:=.de) rx ry rfl rfl
   |bl b=>rw[ge.bl] at ry;simpa only[f_,lp] using aV (y:=.int c) (x:=.bl b) rx ry rfl rfl
   |int b=>rw[ge.int] at ry;simpa only[f_,lp] using aV (y:=.int c) (x:=.int b) rx ry rfl rfl
   |str b=>rw[ge.str] at ry;simpa only[f_,lp] using aV (y:=.int c) (x:=.str _) rx ry rfl rfl
  |str c=>
   rw[gd.str] at rx
   cases e with
   |jt _ _=>simp[dr] at pe
   |yv _=>simp[dr] at pe
   |ig _=>simp[dr] at pe
   |ar es=>obtain⟨t,rfl⟩:=rx;obtain⟨b,ws,rfl,h2,r2⟩:=ge.ar;cases (show w=Value.ref b from ry);obtain⟨Gu,t2⟩:=C_ h2;simpa only[f_] using SeqAt.EqAt.str_tuple _ t t2 An
   |ak es=>obtain⟨t,rfl⟩:=rx;obtain⟨b,ws,rfl,h2,r2⟩:=ge.ak;cases (show w=Value.ref b from ry);obtain⟨Gu,t2⟩:=C' h2;simpa only[f_] using SeqAt.EqAt.str_list _ t t2 An
   |de=>rw[ge.de] at ry;simpa only[f_,lp] using aV (y:=.str _) (x:=.de) rx ry rfl rfl
   |bl b=>rw[ge.bl] at ry;simpa only[f_,lp] using aV (y:=.str _) (x:=.bl b) rx ry rfl rfl
   |int b=>rw[ge.int] at ry;simpa only[f_,lp] using aV (y:=.str _) (x:=.int b) rx ry rfl rfl
   |str b=>
    rw[ge.str] at ry;have:=aV (A:=A) (s:=s) (y:=.str _) (x:=.str _) rx ry rfl rfl;have e:lp (.str ⟨c.toArray⟩) (.str ⟨b.toArray⟩)=(c==b):=iF c b;rw[e] at this;simpa only[f_] using this
noncomputable def Gv(K:PySem.W.Frag)(cl:Nat->Addr)(neg:Bool):R2:=λx y H Q=>∃F p q,Got K cl F H p x/\Got K cl F H q y/\dr 9 p=true/\dr 9 q=true/\AU p q=true/\Q (.bl (if neg then !f_ p q else f_ p q)) H
theorem KS(hu:X.A.units+20<cLine):wz X (compareOp .Eq) (Gv X.K cl false):=by
 intro ae s σ H x y v u Q I rx ry h;obtain⟨F,p,q,g1,g2,p1,p2,k,hq⟩:=h;rw[bh kj] at hq;have ih:=wX (cl:=cl) (F:=F) I 8 X.A.in1 (by show X.A.units+1+8<cLine;omega);cases p<;>cases q<;>first|(simp[AU] at k;done)|skip
 ·rename_i a b
  have e1:=g1.bl;have e2:=g2.bl;subst e1 e2;exact wH ae s σ H _ _ v u Q I rx ry ⟨rfl,by rw[mL];exact hq⟩
 ·rename_i a b
  have e1:=g1.int;have e2:=g2.int;subst e1 e2;exact wH ae s σ H _ _ v u Q I rx ry ⟨rfl,by rw[iD];exact hq⟩
 ·rename_i a b
  have e1:=g1.str;have e2:=g2.str;subst e1 e2;exact wH ae s σ H _ _ v u Q I rx ry ⟨rfl,by rw[iE,iF];exact hq⟩
 ·rename_i ds es
  obtain⟨a,vs,rfl,h1,r1⟩:=g1.ar;obtain⟨b,ws,rfl,h2,r2⟩:=g2.ar;cases (show v=Value.ref a from rx);cases (show u=Value.ref b from ry);simp only[dr,oy] at p1 p2;obtain⟨i1,i2,ee,a1,a2,a3,a4⟩:=qM I (A:=X.A) (by omega) ih p1.2 p2.2 h1 h2 r1 r2;refine SeqAt.RcAt.tuples a1 a2 (by omega) a3 X.prog X.w X.xe _ ?_;rw[a4];exact⟨.bl _,H,I,rfl,hq⟩
 ·rename_i ds es
  obtain⟨a,vs,rfl,h1,r1⟩:=g1.ak;obtain⟨b,ws,rfl,h2,r2⟩:=g2.ak;cases (show v=Value.ref a from rx);cases (show u=Value.ref b from ry);simp only[dr,oy] at p1 p2;exact(qN I (A:=X.A) (by omega) ih p1.2 p2.2 h1 h2 r1 r2).1 X.prog X.w X.xe _ ⟨.bl _,H,I,rfl,hq⟩
theorem KU(hu:X.A.units+20<cLine):wz X (compareOp .NotEq) (Gv X.K cl true):=by
 intro ae s σ H x y v u Q I rx ry h;obtain⟨F,p,q,g1,g2,p1,p2,k,hq⟩:=h;rw[bg rfl] at hq;have ih:=wX (cl:=cl) (F:=F) I 8 X.A.in1 (by show X.A.units+1+8<cLine;omega);cases p<;>cases q<;>first|(simp[AU] at k;done)|skip
 ·rename_i a b
  have e1:=g1.bl;have e2:=g2.bl;subst e1 e2;exact wI ae s σ H _ _ v u Q I rx ry ⟨rfl,by rw[mL];exact hq⟩
 ·rename_i a b
  have e1:=g1.int;have e2:=g2.int;subst e1 e2;exact wI ae s σ H _ _ v u Q I rx ry ⟨rfl,by rw[iD];exact hq⟩
 ·rename_i a b
  have e1:=g1.str;have e2:=g2.str;subst e1 e2;exact wI ae s σ H _ _ v u Q I rx ry ⟨rfl,by rw[iE,iF];exact hq⟩
 ·rename_i ds es
  obtain⟨a,vs,rfl,h1,r1⟩:=g1.ar;obtain⟨b,ws,rfl,h2,r2⟩:=g2.ar;cases (show v=Value.ref a from rx);cases (show u=Value.ref b from ry);simp only[dr,oy] at p1 p2;obtain⟨i1,i2,ee,a1,a2,a3,a4⟩:=qM I (A:=X.A) (by omega) ih p1.2 p2.2 h1 h2 r1 r2;refine SeqAt.RcNeAt.tuples a1 a2 (by omega) a3 X.prog X.w X.xe _ ?_;rw[a4];exact⟨.bl _,H,I,rfl,hq⟩
 ·rename_i ds es
  obtain⟨a,vs,rfl,h1,r1⟩:=g1.ak;obtain⟨b,ws,rfl,h2,r2⟩:=g2.ak;cases (show v=Value.ref a from rx);cases (show u=Value.ref b from ry);simp only[dr,oy] at p1 p2;exact(qN I (A:=X.A) (by omega) ih p1.2 p2.2 h1 h2 r1 r2).2 X.prog X.w X.xe _ ⟨.bl _,H,I,rfl,hq⟩
end
theorem jD(h:n<=jj):n<=sizeLine:=rm h (by decide)
section
variable{X:Cx}{cl:Nat->Addr}{XE:Nat->St->Hp->Prop}{YE:Nat->Hp->Prop}{Φ:Nat->List D->R D}{G:List D}{m fr:Bool}{F:Addr->Prop}{H:Hp}{Q:VK}{x y:V}{p q:D}
theorem ax.no(h:ax X.K cl YE m fr F H Q .bad):False:=h
theorem ax.int(h:ax X.K cl YE m fr F H Q (.ok (.int i))):Q (.int i) H:=ax.ky h (by simp[Rep]) (by simp[ba])
theorem ax.bl(h:ax X.K cl YE m fr F H Q (.ok (.bl i))):Q (.bl i) H:=ax.ky h (by simp[Rep]) (by simp[ba])
theorem ax.El{p:Addr}(h:ax X.K cl YE m true F H Q (.ok (.ak ds)))(r:bb X.K cl F H ds vs)(hF:¬F p)(hp:H p=none):Q (.ref p) (L2.upd H p (.ak vs)):=by
 refine h F (.ref p) _ (Up.alloc hp) (Res.gives ?_);unfold Res;rw[bg (by simp[ba])];exact⟨p,rfl,hp,hF,vs,aC,r.up (Up.alloc hp)⟩
theorem ax.Gw{p:Addr}(h:ax X.K cl YE m fr F H Q (.ok (.ar ds)))(r:bb X.K cl F H ds vs)(hp:H p=none):Q (.ref p) (L2.upd H p (.ar vs)):=by
 refine h F (.ref p) _ (Up.alloc hp) (Res.gives (.vi ?_ (by simp[ba])));simp only[Rep];exact⟨p,vs,rfl,.inl (.inl aC),r.up (Up.alloc hp)⟩
theorem KW(t:AH F H)(g1:Got X.K cl F H p x)(g2:Got X.K cl F H q y)(h:ax X.K cl YE m true F H Q (ag .add p q)):DR (λi j=>.int (i+j)) x y H Q\/N4 x y H Q\/D6 X.K x y H Q:=by
 cases p<;>cases q<;>first|exact(show False from h).elim|skip
 ·rw[g1.int,g2.int]
  exact .inl ⟨_,_,rfl,rfl,ax.int h⟩
 ·rename_i ds es
  have h':ax X.K cl YE m true F H Q (if ds.length+es.length<=jj then .ok (.ar (ds++es)) else .bad):=h;by_cases hc:ds.length+es.length<=jj
  ·rw[bg hc] at h'
   obtain⟨a,vs,rfl,h1,r1⟩:=g1.ar;obtain⟨b,ws,rfl,h2,r2⟩:=g2.ar;refine .inr (.inr ⟨a,b,vs,ws,rfl,rfl,h1,h2,by rw[r1.length,r2.length];exact jD hc,λe=>?_,λ_ e=>?_,λ_ _ l hl=>ax.Gw h' (r1.append r2) hl⟩)
   ·subst e
    have e:ds=[]:=by have:=r1.length;cases ds with|nil=>rfl|cons _ _=>simp at this
    subst e;exact ax.ky h' (by rw[Bg];simp only[Rep];exact⟨b,ws,rfl,h2,r2⟩) (by simp[ba])
   ·subst e
    have e:es=[]:=by have:=r2.length;cases es with|nil=>rfl|cons _ _=>simp at this
    subst e;exact ax.ky h' (by rw[A_];simp only[Rep];exact⟨a,vs,rfl,h1,r1⟩) (by simp[ba])
  ·rw[bh hc] at h';exact h'.no.elim
 ·rename_i ds es
  have h':ax X.K cl YE m true F H Q (if ds.length+es.length<=jj then .ok (.ak (ds++es)) else .bad):=h;by_cases hc:ds.length+es.length<=jj
  ·rw[bg hc] at h'
   obtain⟨a,vs,rfl,h1,r1⟩:=g1.ak;obtain⟨b,ws,rfl,h2,r2⟩:=g2.ak;exact .inr (.inl ⟨a,b,vs,ws,rfl,rfl,h1,h2,by rw[r1.length,r2.length];exact jD hc,λl hl=>ax.El h' (r1.append r2) (t.fresh hl) hl⟩)
  ·rw[bh hc] at h';exact h'.no.elim
theorem mS[∀i j,Decidable (C i j)]{f:Int->Int->D}(ho:∀p q,(∃i j,p=.int i/\q=.int j/\ag o p q=if C i j then .ok (f i j) else .bad)\/ag o p q=.bad)
  (hk:∀i j,Rep X.K cl F H (f i j) (k i j)) (hn:∀i j,ba (f i j)=false) (g1:Got X.K cl F H p x) (g2:Got X.K cl F H q y) (h:ax X.K cl YE m fr F H Q (ag o p q)):rI C k x y H Q:=by
 rcases ho p q with⟨i,j,rfl,rfl,e⟩|e
 ·rw[e] at h
  by_cases hc:C i j
  ·rw[bg hc] at h
   exact⟨i,j,g1.int,g2.int,hc,ax.ky h (hk i j) (by rw[hn];simp)⟩
  ·rw[bh hc] at h;exact h.no.elim
 ·rw[e] at h;exact h.no.elim
theorem eU{f:Int->Int->D}(ho:∀p q,(∃i j,p=.int i/\q=.int j/\ag o p q=.ok (f i j))\/ag o p q=.bad)
  (hk:∀i j,Rep X.K cl F H (f i j) (k i j)) (hn:∀i j,ba (f i j)=false) (g1:Got X.K cl F H p x) (g2:Got X.K cl F H q y) (h:ax X.K cl YE m fr F H Q (ag o p q)):DR k x y H Q:=by
 rcases ho p q with⟨i,j,rfl,rfl,e⟩|e
 ·rw[e] at h
  exact⟨i,j,g1.int,g2.int,ax.ky h (hk i j) (by rw[hn];simp)⟩
 ·rw[e] at h;exact h.no.elim
theorem KY(p q:D):(∃i j,p=.int i/\q=.int j/\ag .sub p q=.ok (.int (i-j)))\/ag .sub p q=.bad:=by
 cases p<;>cases q<;>first|exact .inr rfl|exact .inl ⟨_,_,rfl,rfl,rfl⟩
theorem KZ(p q:D):(∃i j,p=.int i/\q=.int j/\ag .mul p q=if(-(2^64)<i/\i<2^64)\/(-(2^64)<j/\j<2^64) then R.ok (.int (i*j)) else R.bad)\/ag .mul p q=.bad:=by
 cases p<;>cases q<;>first|exact .inr rfl|exact .inl ⟨_,_,rfl,rfl,rfl⟩
theorem K0(p q:D):(∃i j,p=.int i/\q=.int j/\ag .mod p q=if 0<j then R.ok (.int (i%j)) else R.bad)\/ag .mod p q=.bad:=by
 cases p<;>cases q<;>first|exact .inr rfl|exact .inl ⟨_,_,rfl,rfl,rfl⟩
theorem Gx(p q:D):(∃i j,p=.int i/\q=.int j/\ag .fdiv p q=if 0<j/\j<1073741824 then R.ok (.int (i/j)) else R.bad)\/ag .fdiv p q=.bad:=by
 cases p<;>cases q<;>first|exact .inr rfl|exact .inl ⟨_,_,rfl,rfl,rfl⟩
theorem IL(p q:D):(∃i j,p=.int i/\q=.int j/\ag .lt p q=.ok (.bl (decide (i<j))))\/ag .lt p q=.bad:=by
 cases p<;>cases q<;>first|exact .inr rfl|exact .inl ⟨_,_,rfl,rfl,rfl⟩
theorem IM(p q:D):(∃i j,p=.int i/\q=.int j/\ag .gt p q=.ok (.bl (decide (j<i))))\/ag .gt p q=.bad:=by
 cases p<;>cases q<;>first|exact .inr rfl|exact .inl ⟨_,_,rfl,rfl,rfl⟩
theorem IP(p q:D):(∃i j,p=.int i/\q=.int j/\ag .ge p q=.ok (.bl (decide (j<=i))))\/ag .ge p q=.bad:=by
 cases p<;>cases q<;>first|exact .inr rfl|exact .inl ⟨_,_,rfl,rfl,rfl⟩
theorem Ox(g1:Got X.K cl F H p x)(g2:Got X.K cl F H q y)(h:ax X.K cl YE m fr F H Q (ag .eq p q)):Gv X.K cl false x y H Q:=by
 have h':ax X.K cl YE m fr F H Q (if(dr 9 p&&dr 9 q&&AU p q)=true then .ok (.bl (f_ p q)) else .bad):=h;by_cases hc:(dr 9 p&&dr 9 q&&AU p q)=true
 ·rw[bg hc] at h'
  simp only[oy] at hc;exact⟨F,p,q,g1,g2,hc.1.1,hc.1.2,hc.2,by rw[bh kj];exact ax.bl h'⟩
 ·rw[bh hc] at h';exact h'.no.elim
theorem Oy(g1:Got X.K cl F H p x)(g2:Got X.K cl F H q y)(h:ax X.K cl YE m fr F H Q (ag .ne p q)):Gv X.K cl true x y H Q:=by
 have h':ax X.K cl YE m fr F H Q (if(dr 9 p&&dr 9 q&&AU p q)=true then .ok (.bl (!f_ p q)) else .bad):=h;by_cases hc:(dr 9 p&&dr 9 q&&AU p q)=true
 ·rw[bg hc] at h'
  simp only[oy] at hc;exact⟨F,p,q,g1,g2,hc.1.1,hc.1.2,hc.2,by rw[bg rfl];exact ax.bl h'⟩
 ·rw[bh hc] at h';exact h'.no.elim
theorem eV(g:Got X.K cl F H d v)(h:flat d=true):mi v=true:=by
 cases d with
 |de=>rw[g.de];rfl
 |bl b=>rw[g.bl];rfl
 |int b=>rw[g.int];rfl
 |str b=>rw[g.str];rfl
 |_=>simp[flat] at h
theorem mT(g:Got X.K cl F H d v)(g':Got X.K cl F H e w)(h:flat d=true)(h':flat e=true):lp v w=f_ d e:=by
 cases d with
 |de=>rw[g.de];cases e with
  |de=>rw[g'.de];simp only[lp,f_]
  |bl b=>rw[g'.bl];simp only[lp,f_]
  |int b=>rw[g'.int];simp only[lp,f_]
  |str b=>rw[g'.str];simp only[lp,f_]
  |_=>simp[flat] at h'
 |bl c=>rw[g.bl];cases e with
  |de=>rw[g'.de];simp only[lp,f_]
  |bl b=>rw[g'.bl];simp only[lp,f_]
  |int b=>rw[g'.int];simp only[lp,f_]
  |str b=>rw[g'.str];simp only[lp,f_]
  |_=>simp[flat] at h'
 |int c=>rw[g.int];cases e with
  |de=>rw[g'.de];simp only[lp,f_]
  |bl b=>rw[g'.bl];simp only[lp,f_]
  |int b=>rw[g'.int];simp only[lp,f_]
  |str b=>rw[g'.str];simp only[lp,f_]
  |_=>simp[flat] at h'
 |str c=>rw[g.str];cases e with
  |de=>rw[g'.de];simp only[lp,f_]
  |bl b=>rw[g'.bl];simp only[lp,f_]
  |int b=>rw[g'.int];simp only[lp,f_]
  |str b=>rw[g'.str];simp only[lp,f_];exact iF c b
  |_=>simp[flat] at h'
 |_=>simp[flat] at h
theorem cU:∀{ds:List D}{vs:List V},bb X.K cl F H ds vs->ds.all flat=true->vs.all mi=true
 |[],vs,r,_=>by rw[r.nil_inv];rfl
 |d::ds,vs,r,h=>by
  obtain⟨v,r',rfl,a1,a2⟩:=r.cons_inv;rw[Fq,oy] at h⊢;exact⟨eV (.inl a1) h.1,cU a2 h.2⟩
theorem qO(g:Got X.K cl F H p x)(h:flat p=true):∀{ds:List D}{vs:List V},bb X.K cl F H ds vs->ds.all flat=true->QB x vs=inD p ds
 |[],vs,r,_=>by rw[r.nil_inv];rfl
 |d::ds,vs,r,hf=>by
  obtain⟨v,r',rfl,a1,a2⟩:=r.cons_inv;rw[Fq,oy] at hf;have ih:=qO g h a2 hf.2;unfold QB inD at ih⊢;rw[Fp,Fp,ih,mT (.inl a1) g hf.1 h]
theorem Oz(neg:Bool)(g1:Got X.K cl F H p x)(g2:Got X.K cl F H q y)(h:ax X.K cl YE m fr F H Q ((isin p q).bind λb=>.ok (.bl (if neg then !b else b)))):To X.K neg x y H Q:=by
 cases q with
 |ak es=>
  have h':ax X.K cl YE m fr F H Q ((if(flat p&&es.all flat)=true then R.ok (inD p es) else R.bad).bind λb=>.ok (.bl (if neg then !b else b))):=h;by_cases hc:(flat p&&es.all flat)=true
  ·rw[bg hc] at h'
   simp only[oy] at hc;obtain⟨a,vs,rfl,h1,r1⟩:=g2.ak;exact⟨a,vs,rfl,.inl (lj.of h1),eV g1 hc.1,cU r1 hc.2,by rw[qO g1 hc.1 r1 hc.2];exact ax.bl h'⟩
  ·rw[bh hc] at h';exact(show False from h').elim
 |ar es=>
  have h':ax X.K cl YE m fr F H Q ((if(flat p&&es.all flat)=true then R.ok (inD p es) else R.bad).bind λb=>.ok (.bl (if neg then !b else b))):=h;by_cases hc:(flat p&&es.all flat)=true
  ·rw[bg hc] at h'
   simp only[oy] at hc;obtain⟨a,vs,rfl,h1,r1⟩:=g2.ar;exact⟨a,vs,rfl,.inr h1,eV g1 hc.1,cU r1 hc.2,by rw[qO g1 hc.1 r1 hc.2];exact ax.bl h'⟩
  ·rw[bh hc] at h';exact(show False from h').elim
 |_=>exact(show False from h).elim
theorem wY(r:bb X.K cl F H ds vs)(h:my ds i=some d):∃v,IB vs i=some v/\Rep X.K cl F H d v:=by
 unfold my at h
 cases e:B8 ds.length i with
 |none=>rw[e] at h;cases h
 |some j=>
  rw[e] at h;obtain⟨v,h1,h2⟩:=r.get (i:=j) (d:=d) h;refine⟨v,?_,h2⟩;show(Dt vs.length i).bind (λj=>vs[j]?)=some v;rw[r.length];have e':Dt ds.length i=some j:=e;rw[e'];exact h1
theorem OC(g1:Got X.K cl F H p x)(g2:Got X.K cl F H q y)(h:ax X.K cl YE m false F H Q (ag .at p q)):xa X.K x y H Q\/N1 X.K x y H Q:=by
 cases p<;>cases q<;>first|exact(show False from h).elim|skip
 ·rename_i ds i
  have h':ax X.K cl YE m false F H Q (wm (my ds i)):=h
  cases e:my ds i with
  |none=>rw[e] at h';exact(show False from h').elim
  |some d=>
   rw[e] at h';obtain⟨a,vs,rfl,h1,r1⟩:=g1.ar;obtain⟨v,e1,e2⟩:=wY r1 e;exact .inr ⟨a,vs,i,v,rfl,g2.int,h1,e1,ax.ky h' e2 (by simp)⟩
 ·rename_i ds i
  have h':ax X.K cl YE m false F H Q (wm (my ds i)):=h
  cases e:my ds i with
  |none=>rw[e] at h';exact(show False from h').elim
  |some d=>
   rw[e] at h';obtain⟨a,vs,rfl,h1,r1⟩:=g1.ak;obtain⟨v,e1,e2⟩:=wY r1 e;exact .inl ⟨a,vs,i,v,rfl,g2.int,lj.of h1,e1,ax.ky h' e2 (by simp)⟩
 ·rename_i ns i
  have h':ax X.K cl YE m false F H Q (wm ((my ns i).map .int)):=h
  cases e:my ns i with
  |none=>rw[e] at h';exact(show False from h').elim
  |some d=>
   rw[e] at h';obtain⟨a,rfl,h1⟩:=g1.ig;refine .inl ⟨a,_,i,.int d,rfl,g2.int,h1.TY,?_,ax.int h'⟩;unfold my at e;show(Dt (ns.map V.int).length i).bind (λj=>(ns.map V.int)[j]?)=_;rw[gh]
   cases e2:B8 ns.length i with
   |none=>rw[e2] at e;cases e
   |some j=>
    rw[e2] at e;have e3:Dt ns.length i=some j:=e2;rw[e3];show(ns.map V.int)[j]?=_;rw[A9];have e4:ns[j]?=some d:=e;rw[e4];rfl
end
noncomputable def qi(o:D->R D):List D->R D
 |[x]=>o x
 |_=>.bad
noncomputable def Em(o:D->D->R D):List D->R D
 |[x,y]=>o x y
 |_=>.bad
theorem Paired.one{α β:Type}{P:α->β->Prop}{a:α}{l:List β}(h:Paired P [a] l):∃b,l=[b]/\P a b:=by
 cases h with|cons h r=>cases r;exact⟨_,rfl,h⟩
theorem Paired.two{α β:Type}{P:α->β->Prop}{a b:α}{l:List β}(h:Paired P [a,b] l):∃c d,l=[c,d]/\P a c/\P b d:=by
 cases h with|cons h r=>cases r with|cons h' r=>cases r;exact⟨_,_,rfl,h,h'⟩
section
variable{X:Cx}{cl:Nat->Addr}{XE:Nat->St->Hp->Prop}{YE:Nat->Hp->Prop}{Φ:Nat->List D->R D}{G:List D}{m fr:Bool}
theorem cV{id:String}(Sg:∀δ,ev Φ G m ex δ=(ck Φ G true exs δ).bind o)
  (hc:qh X (.builtin id) r) (hg:Gl X x) (hm:X.mg x=none) (hv:bootBuiltins x=some (.builtin id)) (hn:x≠"__name__") (vx:(x==("__debug__":Str))=false)
  (he:starEach (e::es) X.env=(false,eval e X.env)::starEach es X.env) (Ah:(backTo pos (starEach es X.env)).any (·.1)=false) (ia:C9 X cl XE Φ G true exs (e::es))
  (ho:∀(YE:Nat->Hp->Prop) F H vs ds Q,AH F H->Paired (Got X.K cl F H) ds vs->ax X.K cl YE m (bq ex) F H Q (o ds)->r vs H Q):dh X cl XE Φ G m ex (.Call (.Name x p) (e::es) [] pos):=by
 obtain⟨ta,pa,ia⟩:=ia;refine⟨_,iZ hc hg hm hv pa hn vx he Ah,λF σ δ H Q S h=>?_⟩;rw[Sg] at h;refine ia F σ δ H _ S (Meet.mono (Meet.bind h) (λds _ hd F1 vs H1 u1 g1=>?_) λc z=>z);rw[bg rfl] at g1;exact ho _ F1 H1 vs ds Q (S.up u1).Ag g1 (ax.up hd u1)
theorem lB{id:String}(Sg:∀δ,ev Φ G m ex δ=(ck Φ G true exs δ).bind o)
  (hc:qh X (.type id) r) (hg:Gl X x) (hm:X.mg x=none) (hv:bootBuiltins x=some (.type id)) (hn:x≠"__name__") (vx:(x==("__debug__":Str))=false)
  (he:starEach (e::es) X.env=(false,eval e X.env)::starEach es X.env) (Ah:(backTo pos (starEach es X.env)).any (·.1)=false) (ia:C9 X cl XE Φ G true exs (e::es))
  (ho:∀(YE:Nat->Hp->Prop) F H vs ds Q,AH F H->Paired (Got X.K cl F H) ds vs->ax X.K cl YE m (bq ex) F H Q (o ds)->r vs H Q):dh X cl XE Φ G m ex (.Call (.Name x p) (e::es) [] pos):=by
 obtain⟨ta,pa,ia⟩:=ia;refine⟨_,kX hc hg hm hv pa hn vx he Ah,λF σ δ H Q S h=>?_⟩;rw[Sg] at h;refine ia F σ δ H _ S (Meet.mono (Meet.bind h) (λds _ hd F1 vs H1 u1 g1=>?_) λc z=>z);rw[bg rfl] at g1;exact ho _ F1 H1 vs ds Q (S.up u1).Ag g1 (ax.up hd u1)
theorem OE(δ:iy):ev Φ G m (.b_ o a) δ=(ck Φ G true [a] δ).bind (qi (b_ o)):=by
 simp only[ev,ck];cases ev Φ G true a δ<;>rfl
theorem Ve(δ:iy):ev Φ G m (.ag o a b) δ=(ck Φ G true [a,b] δ).bind (Em (ag o)):=by
 simp only[ev,ck]
 cases ev Φ G true a δ with
 |ok x=>cases ev Φ G true b δ<;>rfl
 |exc c=>rfl
 |bad=>rfl
variable{F:Addr->Prop}{H:Hp}{Q:VK}{x y:V}{p q:D}
theorem K1(g:Paired (Got X.K cl F H) ds vs)(h:ax X.K cl YE m fr F H Q (qi (b_ .len) ds)):
  ∃p ys,vs=[.ref p]/\(lj X.K H p ys\/nv X.K H p ys)/\Q (.int ys.length) H:=by
 match ds,g,h with
 |[],_,h=>exact(show False from h).elim
 |_::_::_,_,h=>exact(show False from h).elim
 |[d],g,h=>
  obtain⟨v,rfl,gv⟩:=Paired.one g;have h:ax X.K cl YE m fr F H Q (b_ .len d):=h;cases d<;>first|exact(show False from h).elim|skip
  ·rename_i ds
   obtain⟨a,ws,rfl,h1,r1⟩:=gv.ar;exact⟨a,ws,rfl,.inr h1,by rw[r1.length];exact ax.int h⟩
  ·rename_i ds
   obtain⟨a,ws,rfl,h1,r1⟩:=gv.ak;exact⟨a,ws,rfl,.inl (lj.of h1),by rw[r1.length];exact ax.int h⟩
  ·rename_i ns
   obtain⟨a,rfl,h1⟩:=gv.ig;exact⟨a,_,rfl,.inl h1.TY,by rw[gh];exact ax.int h⟩
theorem Gy(t:AH F H)(g:Paired (Got X.K cl F H) ds vs)(h:ax X.K cl YE m true F H Q (qi (b_ .list) ds)):
  ∃p ys,vs=[.ref p]/\(lj X.K H p ys\/nv X.K H p ys)/\∀l,H l=none->Q (.ref l) (L2.upd H l (.ak ys)):=by
 match ds,g,h with
 |[],_,h=>exact(show False from h).elim
 |_::_::_,_,h=>exact(show False from h).elim
 |[d],g,h=>
  obtain⟨v,rfl,gv⟩:=Paired.one g;have h:ax X.K cl YE m true F H Q (b_ .list d):=h;cases d<;>first|exact(show False from h).elim|skip
  ·rename_i ds
   obtain⟨a,ws,rfl,h1,r1⟩:=gv.ar;exact⟨a,ws,rfl,.inr h1,λl hl=>ax.El h r1 (t.fresh hl) hl⟩
  ·rename_i ds
   obtain⟨a,ws,rfl,h1,r1⟩:=gv.ak;exact⟨a,ws,rfl,.inl (lj.of h1),λl hl=>ax.El h r1 (t.fresh hl) hl⟩
theorem wZ(g:Paired (Got X.K cl F H) ds vs)(h:ax X.K cl YE m false F H Q (qi (b_ .tuple) ds)):
  ∃p ys,vs=[.ref p]/\((lj X.K H p ys/\∀l,H l=none->Q (.ref l) (L2.upd H l (.ar ys)))\/(nv X.K H p ys/\Q (.ref p) H)):=by
 match ds,g,h with
 |[],_,h=>exact(show False from h).elim
 |_::_::_,_,h=>exact(show False from h).elim
 |[d],g,h=>
  obtain⟨v,rfl,gv⟩:=Paired.one g;have h:ax X.K cl YE m false F H Q (b_ .tuple d):=h;cases d<;>first|exact(show False from h).elim|skip
  ·rename_i ds
   obtain⟨a,ws,rfl,h1,r1⟩:=gv.ar;exact⟨a,ws,rfl,.inr ⟨h1,ax.ky h (by simp only[Rep];exact⟨a,ws,rfl,h1,r1⟩) (by simp)⟩⟩
  ·rename_i ds
   obtain⟨a,ws,rfl,h1,r1⟩:=gv.ak;exact⟨a,ws,rfl,.inl ⟨lj.of h1,λl hl=>ax.Gw h r1 hl⟩⟩
theorem K2(g:Paired (Got X.K cl F H) ds vs)(h:ax X.K cl YE m fr F H Q (Em (ag .max) ds)):
  ∃i j,vs=[.int i,.int j]/\Q (.int (if j>i then j else i)) H:=by
 match ds,g,h with
 |[],_,h=>exact(show False from h).elim
 |[_],_,h=>exact(show False from h).elim
 |_::_::_::_,_,h=>exact(show False from h).elim
 |[d,e],g,h=>
  obtain⟨v,w,rfl,gv,gw⟩:=Paired.two g;have h:ax X.K cl YE m fr F H Q (ag .max d e):=h;cases d<;>cases e<;>first|exact(show False from h).elim|skip;rw[gv.int,gw.int];exact⟨_,_,rfl,ax.int h⟩
theorem K3(g:Got X.K cl F H p x)(h:ax X.K cl YE m fr F H Q (b_ .neg p)):rU (λi=>.int (-i)) x H Q:=by
 cases p<;>first|exact(show False from h).elim|skip;exact⟨_,g.int,ax.int h⟩
theorem K4(g:Got X.K cl F H p x)(h:ax X.K cl YE m fr F H Q (b_ .isNone p)):Q (.bl (decide (x=.de))) H:=by
 cases p with
 |de=>rw[g.de];exact ax.bl h
 |bl b=>rw[g.bl];exact ax.bl h
 |int b=>rw[g.int];exact ax.bl h
 |str b=>rw[g.str];exact ax.bl h
 |ar b=>
  obtain⟨a,_,rfl,_⟩:=g.ar;have h':ax X.K cl YE m fr F H Q (if dr 1000 (.ar b)=true then .ok (.bl false) else .bad):=h;by_cases hc:dr 1000 (.ar b)=true
  ·rw[bg hc] at h';exact ax.bl h'
  ·rw[bh hc] at h';exact h'.no.elim
 |ak b=>
  obtain⟨a,_,rfl,_⟩:=g.ak;have h':ax X.K cl YE m fr F H Q (if dr 1000 (.ak b)=true then .ok (.bl false) else .bad):=h;by_cases hc:dr 1000 (.ak b)=true
  ·rw[bg hc] at h';exact ax.bl h'
  ·rw[bh hc] at h';exact h'.no.elim
 |jt a b=>exact(show False from h).elim
 |yv a=>exact(show False from h).elim
 |ig a=>exact(show False from h).elim
theorem Gz(g:Got X.K cl F H p x)(h:ax X.K cl YE m fr F H Q (b_ .isNotNone p)):Q (.bl (!decide (x=.de))) H:=by
 cases p with
 |de=>rw[g.de];exact ax.bl h
 |bl b=>rw[g.bl];exact ax.bl h
 |int b=>rw[g.int];exact ax.bl h
 |str b=>rw[g.str];exact ax.bl h
 |ar b=>
  obtain⟨a,_,rfl,_⟩:=g.ar;have h':ax X.K cl YE m fr F H Q (if dr 1000 (.ar b)=true then .ok (.bl true) else .bad):=h;by_cases hc:dr 1000 (.ar b)=true
  ·rw[bg hc] at h';exact ax.bl h'
  ·rw[bh hc] at h';exact h'.no.elim
 |ak b=>
  obtain⟨a,_,rfl,_⟩:=g.ak;have h':ax X.K cl YE m fr F H Q (if dr 1000 (.ak b)=true then .ok (.bl true) else .bad):=h;by_cases hc:dr 1000 (.ak b)=true
  ·rw[bg hc] at h';exact ax.bl h'
  ·rw[bh hc] at h';exact h'.no.elim
 |jt a b=>exact(show False from h).elim
 |yv a=>exact(show False from h).elim
 |ig a=>exact(show False from h).elim
theorem ax.Eg(g:Got X.K cl F H p x)(h:ax X.K cl YE m fr F H Q ((Eg p).bind f)):∃c,x=.bl c/\ax X.K cl YE m fr F H Q (f c):=by
 cases p with
 |bl c=>exact⟨c,g.bl,h⟩
 |_=>exact(show False from h).elim
theorem K5(ia:dh X cl XE Φ G true ea a):dh X cl XE Φ G m (.not ea) (.UnaryOp .Not a pos):=by
 obtain⟨ta,pa,ia⟩:=ia;refine⟨_,JU pa,λF σ δ H Q S h=>?_⟩;simp only[ev] at h;refine ia F σ δ H _ S (Meet.mono (Meet.bind h) (λp _ hp F1 x H1 u1 g1=>?_) λc z=>z);obtain⟨c,e,hc⟩:=ax.Eg g1.got (ax.up hp u1);exact⟨c,e,ax.bl hc⟩
theorem K6(ia:dh X cl XE Φ G m ex a):dh X cl XE Φ G m ex (.BoolOp op [a] pos):=by
 obtain⟨ta,pa,ia⟩:=ia;exact⟨_,JR pa,ia⟩
theorem ax.weak(h:ax X.K cl YE m false F H Q r):ax X.K cl YE m fr F H Q r:=by
 refine Meet.mono h (λd _ q F' v H' u g=>?_) λc z=>z;unfold Gives at g;by_cases hm:m=true
 ·rw[bg hm] at g
  exact q F' v H' u (by unfold Gives;rw[bg hm];exact g)
 ·rw[bh hm] at g
  obtain⟨F2,u2,_,rp⟩:=g.keep u;exact q F2 v H' u2 (by unfold Gives;rw[bh hm];exact .vi rp (by simp))
theorem ax.En(h:ax X.K cl YE m fr F H Q r):ax X.K cl YE false fr F H Q r:=
 Meet.mono h (λd _ q F' v H' u g=>q F' v H' u (Res.gives (by unfold Gives at g;rw[bh kj] at g;exact g))) λc z=>z
theorem K7(ia:dh X cl XE Φ G true ea a)(ib:dh X cl XE Φ G false eb (.BoolOp .And (b::rest) pos)):dh X cl XE Φ G m (.and ea eb) (.BoolOp .And (a::b::rest) pos):=by
 obtain⟨ta,pa,ia⟩:=ia;obtain⟨tb,pb,ib⟩:=ib;refine⟨_,JT pa pb,λF σ δ H Q S h=>?_⟩;simp only[ev] at h;refine ia F σ δ H _ S (Meet.mono (Meet.bind h) (λp _ hp F1 x H1 u1 g1=>?_) λc z=>z);obtain⟨c,e,hc⟩:=ax.Eg g1.got (ax.up hp u1);refine⟨c,e,?_⟩
 cases c with
 |true=>
  rw[bg rfl];exact ib F1 σ δ H1 Q (S.up u1) (ax.En hc).weak
 |false=>
  rw[bh kj];exact ax.bl hc
theorem K8(ic:B_ X cl XE Φ G ec c)(ia:dh X cl XE Φ G false ea a)(ib:dh X cl XE Φ G false eb b):dh X cl XE Φ G m (.ite ec ea eb) (.IfExp c a b pos):=by
 obtain⟨tc,pc,ic⟩:=ic;obtain⟨ta,pa,ia⟩:=ia;obtain⟨tb,pb,ib⟩:=ib;refine⟨_,v9 pc pa pb,λF σ δ H Q S h=>?_⟩;simp only[ev] at h;refine ic F σ δ H _ S (Meet.mono (Meet.bind h) (λt _ hp F1 H1 u1=>?_) λc z=>z);have hp:=ax.up (K:=X.K) (cl:=cl) hp u1
 cases t with
 |true=>
  show ta σ H1 Q;exact ia F1 σ δ H1 Q (S.up u1) (ax.En hp).weak
 |false=>
  show tb σ H1 Q;exact ib F1 σ δ H1 Q (S.up u1) (ax.En hp).weak
theorem K9(hl:exs.length<=jj)(ia:C9 X cl XE Φ G false exs es):dh X cl XE Φ G m (.ar exs) (.Tuple es k pos):=by
 obtain⟨ta,pa,ia⟩:=ia;refine⟨_,J5 pa,λF σ δ H Q S h=>?_⟩;simp only[ev] at h;refine ia F σ δ H _ S (Meet.mono (Meet.bind h) (λds F8 hp F1 vs H1 u1 g1=>?_) λc z=>z);rw[bh kj] at g1;have di:ds.length=exs.length:=by
  have:∀(es:List Ex)(ds:List D),ck Φ G false es δ=.ok ds->ds.length=es.length:=by
   intro es
   induction es with
   |nil=>intro ds h;simp only[ck] at h;cases h;rfl
   |cons e es ih=>
    intro ds h;simp only[ck] at h
    cases q:ev Φ G false e δ with
    |ok x=>
     rw[q] at h
     cases q2:ck Φ G false es δ with
     |ok xs=>rw[q2] at h;cases h;rw[ja,ja,ih xs q2]
     |exc c=>rw[q2] at h;cases h
     |bad=>rw[q2] at h;cases h
    |exc c=>rw[q] at h;cases h
    |bad=>rw[q] at h;cases h
  exact this exs ds F8
 exact⟨by rw[g1.length,di];exact jD hl,λl QJ=>ax.Gw (ax.up hp u1) g1 QJ⟩
theorem K_(hl:exs.length<=jj)(ia:C9 X cl XE Φ G false exs es):dh X cl XE Φ G m (.ak exs) (.List es pos):=by
 obtain⟨ta,pa,ia⟩:=ia;refine⟨_,J6 pa,λF σ δ H Q S h=>?_⟩;simp only[ev] at h;refine ia F σ δ H _ S (Meet.mono (Meet.bind h) (λds F8 hp F1 vs H1 u1 g1=>?_) λc z=>z);rw[bh kj] at g1;have di:ds.length=exs.length:=by
  have:∀(es:List Ex)(ds:List D),ck Φ G false es δ=.ok ds->ds.length=es.length:=by
   intro es
   induction es with
   |nil=>intro ds h;simp only[ck] at h;cases h;rfl
   |cons e es ih=>
    intro ds h;simp only[ck] at h
    cases q:ev Φ G false e δ with
    |ok x=>
     rw[q] at h
     cases q2:ck Φ G false es δ with
     |ok xs=>rw[q2] at h;cases h;rw[ja,ja,ih xs q2]
     |exc c=>rw[q2] at h;cases h
     |bad=>rw[q2] at h;cases h
    |exc c=>rw[q] at h;cases h
    |bad=>rw[q] at h;cases h
  exact this exs ds F8
 exact⟨by rw[g1.length,di];exact jD hl,λl QJ=>ax.El (ax.up hp u1) g1 ((S.up u1).Ag.fresh QJ) QJ⟩
end
section
variable{X:Cx}{cl:Nat->Addr}{XE:Nat->St->Hp->Prop}{YE:Nat->Hp->Prop}{Φ:Nat->List D->R D}{G:List D}{m fr:Bool}
structure QK(X:Cx)(cl:Nat->Addr)(XE:Nat->St->Hp->Prop)(Φ:Nat->List D->R D)(G:List D)(ex:Option Ex)(e:Option Expr):Prop where
 ok:∃t,PO X e t/\∀F σ δ H Q,jg X.K cl F H σ δ->
 Meet (CD Φ G ex δ) (λo=>∀F' H',Up F H F' H'->Q o H') (λc=>∀F' H',Up F H F' H'->XE c σ H')->t σ H Q
theorem w5:QK X cl XE Φ G none none:=⟨_,sM,λF σ δ H Q S h=>by simp only[CD] at h;exact h F H (Up.refl F H)⟩
theorem w6(ia:dh X cl XE Φ G true ex e):QK X cl XE Φ G (some ex) (some e):=by
 obtain⟨ta,pa,ia⟩:=ia;refine⟨_,sN pa,λF σ δ H Q S h=>?_⟩;simp only[CD] at h;refine ia F σ δ H _ S (Meet.mono (Meet.bind h) (λp _ hp F1 x H1 u1 g1=>?_) λc z=>z)
 cases p with
 |int i=>exact⟨i,g1.got.int,hp F1 H1 u1⟩
 |_=>exact(show False from hp).elim
variable{F:Addr->Prop}{H:Hp}{Q:VK}{x y:V}{p q:D}
theorem fR(n d:Nat)(o:Option Int):HT.gj n d o=Py.gj n d o:=by cases o<;>rfl
theorem xA(r:bb X.K cl F H ds vs)(l h:Option Int):bb X.K cl F H (cut ds l h) (zf vs l h):=by
 unfold cut zf;rw[r.length,fR,fR];exact(r.drop _).take _
theorem GA{ds:List D}(e:Py.gj ds.length 0 l=0/\Py.gj ds.length ds.length h=ds.length):cut ds l h=ds:=by
 unfold cut;rw[e.1,e.2];simp
theorem K'(t:AH F H)(g:Got X.K cl F H p x)(hp:ax X.K cl YE m true F H Q (rq p l h)):Kj X.K x l h H Q\/NZ X.K x l h H Q\/IH X.K x l h H Q\/N5 x l h H Q:=by
 cases p with
 |ak ds=>
  obtain⟨a,vs,rfl,h1,r1⟩:=g.ak;exact .inl ⟨a,vs,rfl,lj.of h1,λp' M4=>ax.El hp (xA r1 l h) (t.fresh M4) M4⟩
 |ar ds=>
  obtain⟨a,vs,rfl,h1,r1⟩:=g.ar;by_cases hw:HT.gj vs.length 0 l=0/\HT.gj vs.length vs.length h=vs.length
  ·refine .inr (.inr (.inl ⟨a,vs,rfl,h1,hw,ax.ky hp ?_ (by simp[ba])⟩))
   have QL:Py.gj ds.length 0 l=0/\Py.gj ds.length ds.length h=ds.length:=by
    rw[r1.length,fR,fR] at hw;exact hw
   rw[GA QL];simp only[Rep];exact⟨a,vs,rfl,h1,r1⟩
  ·exact .inr (.inl ⟨a,vs,rfl,h1,hw,λp' M4=>ax.Gw hp (xA r1 l h) M4⟩)
 |str z=>
  have hp:ax X.K cl YE m true F H Q (if z.length<=jj then .ok (.str (cut z l h)) else .bad):=hp;by_cases hc:z.length<=jj
  ·rw[bg hc] at hp
   refine .inr (.inr (.inr ⟨⟨z.toArray⟩,?_,jD (show z.toArray.size<=jj by simpa using hc),?_⟩))
   ·rcases g with g|⟨a,_,o⟩
    ·simpa[Rep] using g
    ·exact o.elim
   ·rw[uQ]
    have e:(⟨z.toArray⟩:Str).length=z.length:=by show z.toArray.size=_;simp
    rw[e,fR,fR];exact ax.ky hp (by simp[Rep,cut]) (by simp[ba])
  ·rw[bh hc] at hp;exact(show False from hp).elim
 |_=>exact(show False from hp).elim
theorem La{lo hi:Option Ex}(ia:dh X cl XE Φ G true ea a)(il:QK X cl XE Φ G lo le)(ih:QK X cl XE Φ G hi he):dh X cl XE Φ G m (.rq ea lo hi) (.Subscript a (.Slice le he none p2) pos):=by
 obtain⟨ta,pa,ia⟩:=ia;obtain⟨tl,pl,il⟩:=il;obtain⟨th,ph,ih⟩:=ih;refine⟨_,oB (Cy.or (Kf.or (Gj.or Ks))) pa pl ph,λF σ δ H Q S h=>?_⟩;simp only[ev] at h;refine ia F σ δ H _ S (Meet.mono (Meet.bind h) (λp _ hp F1 x H1 u1 g1=>?_) λc z=>z);have Bd:ax X.K cl (λc=>XE c σ) m true F1 H1 Q ((CD Φ G lo δ).bind λl=>(CD Φ G hi δ).bind λh=>rq p l h):=ax.up hp u1;refine il F1 σ δ H1 _ (S.up u1) (Meet.mono (Meet.bind Bd) (λl _ hl F2 H2 u2=>?_) λc z=>z);have RC:ax X.K cl (λc=>XE c σ) m true F2 H2 Q ((CD Φ G hi δ).bind λh=>rq p l h):=ax.up hl u2;refine ih F2 σ δ H2 _ ((S.up u1).up u2) (Meet.mono (Meet.bind RC) (λh' _ hh F3 H3 u3=>?_) λc z=>z);exact K' (((S.up u1).up u2).up u3).Ag ((g1.got.up u2).up u3) (ax.up hh u3)
theorem GB(r:bb X.K cl F H ds vs){i:Nat}(h:vs[i]?=some v):∃d,ds[i]?=some d/\Rep X.K cl F H d v:=by
 have hl:=r.length;have hi:i<ds.length:=by
  by_cases hc:i<vs.length
  ·omega
  ·rw[Ih (by omega)] at h;cases h
 obtain⟨v',h1,h2⟩:=r.get (i:=i) (d:=ds[i]) (by simp[hi]);rw[h] at h1;cases h1;exact⟨ds[i],by simp[hi],h2⟩
theorem oJ(e:D):∀(ds:List D)(j:Nat),zo e ds=some j->∃z,ds[j]?=some z/\f_ z e=true/\∀(k:Nat) z',k<j->ds[k]?=some z'->f_ z' e=false
 |[],j,h=>by simp[zo] at h
 |d::ds,j,h=>by
  unfold zo at h;by_cases hc:f_ d e=true
  ·rw[bg hc] at h
   cases h;exact⟨d,by simp,hc,λk z' hk=>absurd hk (Jy k)⟩
  ·rw[bh hc] at h
   cases q:zo e ds with
   |none=>rw[q] at h;cases h
   |some i=>
    rw[q] at h;cases h;obtain⟨z,h1,h2,h3⟩:=oJ e ds i q;refine⟨z,by simpa using h1,h2,λk z' hk hz=>?_⟩
    cases k with
    |zero=>simp at hz;subst hz;simpa using hc
    |succ k=>exact h3 k z' (by have:k+1<i+1:=hk;omega) (by simpa using hz)
theorem xB(g1:Got X.K cl F H p x)(g2:Got X.K cl F H q y)(h:ax X.K cl YE m fr F H Q (ag .index p q)):D7 x [y] H Q:=by
 cases p<;>first|exact(show False from h).elim|skip;rename_i ds;have h':ax X.K cl YE m fr F H Q (if(flat q&&ds.all flat)=true then wm ((zo q ds).map λn=>.int n) else .bad):=h;by_cases hc:(flat q&&ds.all flat)=true
 ·rw[bg hc] at h'
  simp only[oy] at hc;obtain⟨a,vs,rfl,h1,r1⟩:=g1.ak
  cases e:zo q ds with
  |none=>rw[e] at h';exact(show False from h').elim
  |some j=>
   rw[e] at h';obtain⟨z,e1,e2,e3⟩:=oJ q ds j e;obtain⟨v,f1,f2⟩:=r1.get e1;have fl:∀(k:Nat) d,ds[k]?=some d->flat d=true:=λk d hk=>List.all_eq_true.mp hc.2 d (MS hk);refine⟨a,vs,y,j,v,rfl,rfl,h1,eV g2 hc.1,cU r1 hc.2,f1,by rw[mT (.inl f2) g2 (fl j z e1) hc.1];exact e2,λk z' hk hz=>?_,ax.int h'⟩;obtain⟨d,d1,d2⟩:=GB r1 hz;rw[mT (.inl d2) g2 (fl k d d1) hc.1];exact e3 k d hk d1
 ·rw[bh hc] at h';exact h'.no.elim
theorem oK(g:Got X.K cl F H p x)(h:flat p=true):∀{ds:List D}{vs:List V},bb X.K cl F H ds vs->ds.all flat=true->(vs.countP λz=>lp z x)=ds.countP λz=>f_ z p
 |[],vs,r,_=>by rw[r.nil_inv];rfl
 |d::ds,vs,r,hf=>by
  obtain⟨v,r',rfl,a1,a2⟩:=r.cons_inv;rw[Fq,oy] at hf;rw[List.countP_cons,List.countP_cons,oK g h a2 hf.2,mT (.inl a1) g hf.1 h]
theorem xC(g1:Got X.K cl F H p x)(g2:Got X.K cl F H q y)(h:ax X.K cl YE m fr F H Q (ag .count p q)):D9 x [y] H Q:=by
 cases p<;>first|exact(show False from h).elim|skip;rename_i ds;have h':ax X.K cl YE m fr F H Q (if(flat q&&ds.all flat)=true then .ok (.int (ds.countP λy=>f_ y q)) else .bad):=h;by_cases hc:(flat q&&ds.all flat)=true
 ·rw[bg hc] at h'
  simp only[oy] at hc;obtain⟨a,vs,rfl,h1,r1⟩:=g1.ak;exact⟨a,vs,y,rfl,rfl,h1,eV g2 hc.1,cU r1 hc.2,by rw[oK g2 hc.1 r1 hc.2];exact ax.int h'⟩
 ·rw[bh hc] at h';exact h'.no.elim
theorem sY{id:String}(slot:Slot "list" name id)(N3:typeOf (.builtin id)=pure (.type "method_descriptor"))(hm:Kg X id r)
  (ia:dh X cl XE Φ G true ea a) (ib:dh X cl XE Φ G true eb b) (mj:attributeBase a name X.env (eval a X.env)=eval a X.env) (mq:(apos.endLine==gr.line)=true)
  (hs:starEach [b] X.env=[(false,eval b X.env)])
  (hl:∀p q,(∃ds,p=.ak ds)\/ag o p q=.bad) (hx:∀δ c,ev Φ G true eb δ≠.exc c)
  (ho:∀(YE:Nat->Hp->Prop) F H x y p q Q,Got X.K cl F H p x->Got X.K cl F H q y->ax X.K cl YE m (bq (.ag o ea eb)) F H Q (ag o p q)->r x [y] H Q):dh X cl XE Φ G m (.ag o ea eb) (.Call (.Attribute a name apos) [b] [] gr):=by
 obtain⟨ta,pa,ia⟩:=ia;obtain⟨tb,pb,ib⟩:=ib;have A1:starEach (b::[]) X.env=(false,eval b X.env)::starEach [] X.env:=hs;refine⟨_,IF PySem.F.plainAttrs_list slot N3 hm pa (gz pb mh A1) mj (by rw[hs];rfl) mq A1 rfl,λF σ δ H Q S h=>?_⟩;simp only[ev] at h;refine ia F σ δ H _ S (Meet.mono (Meet.bind h) (λp _ hp F1 x H1 u1 g1=>?_) λc z=>z);have Bd:ax X.K cl (λc=>XE c σ) m (bq (.ag o ea eb)) F1 H1 Q ((ev Φ G true eb δ).bind λy=>ag o p y):=ax.up hp u1;refine⟨?_,?_⟩
 ·rcases hl p .de with⟨ds,rfl⟩|_
  ·obtain⟨l,vs,rfl,h1,r1⟩:=g1.got.ak
   exact .inl ⟨rfl,vs,lj.of h1⟩
  ·by_cases hc:∃ds,p=.ak ds
   ·obtain⟨ds,rfl⟩:=hc
    obtain⟨l,vs,rfl,h1,r1⟩:=g1.got.ak;exact .inl ⟨rfl,vs,lj.of h1⟩
   ·exfalso
    cases e:ev Φ G true eb δ with
    |ok y=>
     rw[e] at Bd;rcases hl p y with z|z
     ·exact hc z
     ·have:ax X.K cl (λc=>XE c σ) m (bq (.ag o ea eb)) F1 H1 Q (ag o p y):=Bd
      rw[z] at this;exact this
    |exc c=>
     exact hx δ c e
    |bad=>rw[e] at Bd;exact Bd
 ·show ny tb vv σ H1 _
  refine ib F1 σ δ H1 _ (S.up u1) (Meet.mono (Meet.bind Bd) (λq _ hq F2 y H2 u2 g2=>?_) λc z=>z);exact ho _ F2 H2 x y p q Q (g1.got.up u2) g2.got (ax.up hq u2)
theorem boot_isinstance:bootBuiltins "isinstance"=some (.builtin "isinstance"):=by first|exact PySem.boot_isinstance|rfl|decide+kernel
theorem boot_int:bootBuiltins "int"=some (.type "int"):=by first|exact PySem.boot_int|rfl|decide+kernel
theorem boot_bool:bootBuiltins "bool"=some (.type "bool"):=by first|exact PySem.boot_bool|rfl|decide+kernel
theorem boot_tuple:bootBuiltins "tuple"=some (.type "tuple"):=by first|exact PySem.boot_tuple|rfl|decide+kernel
theorem boot_list:bootBuiltins "list"=some (.type "list"):=by first|exact PySem.boot_list|rfl|decide+kernel
theorem boot_max:bootBuiltins "max"=some (.builtin "max"):=by first|exact PySem.boot_max|rfl|decide+kernel
noncomputable def tyName:D->String
 |.de=>"NoneType"|.bl _=>"bool"|.int _=>"int"|.str _=>"str"|.ar _=>"tuple"|.ak _=>"list"|_=>""
theorem GC{ae:List (Addr×Obj)}{σ:St}{s:Shared}{A:Around}{E:Value->Shared->Prop}{QQ:Value->Shared->Prop}{u c:Value}{b:Bool}(I:bj X ae σ H s)(g:Got X.K cl F H p x)(hp:dr 1000 p=true)(rx:cm x u)
  (e:PySem.W.kitOne X.K (.type (tyName p)) c=some b) (h:∀tk,QQ (.bool b) {s with toks:=tk}):wpAny (model X.prog X.w) A (call (.builtin "isinstance") [u,c]) QQ E s:=by
 cases p with
 |de=>rw[g.de] at rx;cases rx;exact PySem.W.kia_one PySem.W.kitx_none I.CU True.intro e (λz=>nomatch z) h
 |bl y=>rw[g.bl] at rx;cases rx;exact PySem.W.kia_one PySem.W.kitx_bool I.CU True.intro e (λz=>nomatch z) h
 |int i=>rw[g.int] at rx;obtain⟨t,rfl⟩:=rx;exact PySem.W.kia_one PySem.W.kitx_int I.CU True.intro e (λz=>nomatch z) h
 |str y=>rw[g.str] at rx;obtain⟨t,rfl⟩:=rx;exact PySem.W.kia_one PySem.W.kitx_str I.CU True.intro e (λz=>nomatch z) h
 |ar ds=>
  obtain⟨a,vs,rfl,h1,r1⟩:=g.ar;cases (show u=Value.ref a from rx);obtain⟨its,_,⟨o,ho,hc,_⟩,_⟩:=I.tuple h1;exact PySem.W.kia_one PySem.W.kitx_tuple I.CU ⟨o,ho,hc⟩ e (λz=>nomatch z) h
 |ak ds=>
  obtain⟨a,vs,rfl,h1,r1⟩:=g.ak;cases (show u=Value.ref a from rx);obtain⟨_,_,n,_,h2⟩:=I.fo a _ h1;exact PySem.W.kia_one PySem.W.kitx_list I.CU ⟨_,h2,rfl⟩ e (λz=>nomatch z) h
 |_=>simp[dr] at hp
noncomputable def Sh(K:PySem.W.Frag)(cl:Nat->Addr)(T:String):List V->Hp->VK->Prop:=λxs H Q=>∃F d x b,xs=[x,.ty T]/\Got K cl F H d x/\dr 1000 d=true/\PySem.W.kitOne K (.type (tyName d)) (.type T)=some b/\Q (.bl b) H
theorem xD(T:String):qh X (.builtin "isinstance") (Sh X.K cl T):=by
 intro ae s σ H xs us Q I r h;obtain⟨F,d,x,b,rfl,g,hp,e,q⟩:=h;obtain⟨u,w,rfl,ru,Ay⟩:=vals2 r;cases (show w=Value.type T from Ay);exact GC I g hp ru e λtk=>⟨.bl b,H,I.tok tk,rfl,q⟩
noncomputable def Eo(T:String)(d:D):Bool:=match d with
 |.bl _=>T=="bool"||T=="int"
 |d=>T==tyName d
theorem Lb(K:PySem.W.Frag)(T:String)(hT:T="int"\/T="bool"\/T="tuple"\/T="list"\/T="str")(d:D)(hp:dr 1000 d=true):PySem.W.kitOne K (.type (tyName d)) (.type T)=some (Eo T d):=by
 rcases hT with rfl|rfl|rfl|rfl|rfl<;>cases d<;>first|(simp[dr] at hp;done)|rfl|decide+kernel
theorem qP(hT:T="int"\/T="bool"\/T="tuple"\/T="list"\/T="str")
  (hg:Gl X "isinstance") (hm:X.mg "isinstance"=none) (Lc:Gl X Tn) (IQ:X.mg Tn=none) (hv:bootBuiltins Tn=some (.type T)) (hn:Tn≠"__name__") (vx:(Tn==("__debug__":Str))=false) (ia:dh X cl XE Φ G true ea a)
  (hs:starEach [a,.Name Tn p2] X.env=[(false,eval a X.env),(false,eval (.Name Tn p2) X.env)]) (xb:bq (.b_ o ea)=false)
  (ho:∀d,(b_ o d=.ok (.bl (Eo T d))/\dr 1000 d=true)\/b_ o d=.bad):dh X cl XE Φ G m (.b_ o ea) (.Call (.Name "isinstance" p1) [a,.Name Tn p2] [] pos):=by
 obtain⟨ta,pa,ia⟩:=ia;have pt:PE X (.Name Tn p2) (tC (.ty T)):=Fw Lc IQ hv rfl hn vx;have A1:starEach (a::[.Name Tn p2]) X.env=(false,eval a X.env)::starEach [.Name Tn p2] X.env:=hs;refine⟨_,iZ (xD (cl:=cl) T) hg hm boot_isinstance (gz pa (gz pt mh rfl) A1) (by decide) (by decide) A1 rfl,λF σ δ H Q S h=>?_⟩;simp only[ev] at h;refine ia F σ δ H _ S (Meet.mono (Meet.bind h) (λd _ hp F1 x H1 u1 g1=>?_) λc z=>z);have Bd:=ax.up hp u1;rcases ho d with⟨e,pl⟩|e
 ·rw[e] at Bd
  exact⟨F1,d,x,_,rfl,g1.got,pl,Lb X.K T hT d pl,ax.bl Bd⟩
 ·rw[e] at Bd;exact Bd.no.elim
theorem xE(d:D):(b_ .isInt d=.ok (.bl (Eo "int" d))/\dr 1000 d=true)\/b_ .isInt d=.bad:=by
 cases d<;>first|exact .inl ⟨rfl,by simp[dr]⟩|exact .inr rfl|skip
 all_goals exact Classical.byCases (λhc=>.inl ⟨bg hc,hc⟩) λhc=>.inr (bh hc)
theorem uU(d:D):(b_ .isBool d=.ok (.bl (Eo "bool" d))/\dr 1000 d=true)\/b_ .isBool d=.bad:=by
 cases d<;>first|exact .inl ⟨rfl,by simp[dr]⟩|exact .inr rfl|skip
 all_goals exact Classical.byCases (λhc=>.inl ⟨bg hc,hc⟩) λhc=>.inr (bh hc)
theorem xF(d:D):(b_ .isTup d=.ok (.bl (Eo "tuple" d))/\dr 1000 d=true)\/b_ .isTup d=.bad:=by
 cases d<;>first|exact .inl ⟨rfl,by simp[dr]⟩|exact .inr rfl|skip
 all_goals exact Classical.byCases (λhc=>.inl ⟨bg hc,hc⟩) λhc=>.inr (bh hc)
end
noncomputable def zt(K:PySem.W.Frag)(cl:Nat->Addr)(Φ:Nat->List D->R D)(f:Nat):Sp:=λvs H Q E=>∃F ds,AH F H/\bb K cl F H ds vs/\
 Meet (Φ f ds) (λd=>∀F' v H',Up F H F' H'->Rep K cl F' H' d v->Q v H') λc=>∀F' H',Up F H F' H'->E (.ref (cl c)) none H'
noncomputable def M7(cl:Nat->Addr)(YE:Nat->Hp->Prop):XK:=λk _ H'=>∃c,k=.ref (cl c)/\YE c H'
section
variable{X:Cx}{cl:Nat->Addr}{XE:Nat->St->Hp->Prop}{YE:Nat->Hp->Prop}{Φ:Nat->List D->R D}{G:List D}{m fr:Bool}
def vj(CX:MX)(X:Cx)(σ:St)(E:XK):Prop:=∀(ae:List (Addr×Obj))(H:Hp)(s:Shared)(e:Value)(s':Shared),bj X ae σ H s->CX X.stack H s E e s'->X.xe e s'
theorem GD(Fo:u_ X.prog X.w X.K X.mg X.base CX k f fd ps sp)(hr:mf k X.A)
  (hb:Binds X.K fd ps []) (hx:vj CX X σ E) (I:bj X ae σ H s) (r:dj vs us) (h:sp vs H Q E):wpAny (model X.prog X.w) X.A (call (.ref f) us) (EP X ae σ Q) X.xe s:=by
 have hl:(us++[]).length=ps.length:=by rw[A_,←r.length];exact Fo.len _ _ _ _ h
 have QM:=hb s us I.CU hl;rw[A_] at QM;refine wpAny_call (codeAny_mono (Fo.run X.A X.stack s H ⟨us,[]⟩ us vs Q E hr I.RB QM r h) λr s' hq=>?_)
 cases r with
 |error e=>exact hx ae H s e s' I hq
 |ok fl=>
  cases fl with
  |ret u=>exact I.after hq
  |next=>exact False.elim hq
  |brk=>exact False.elim hq
  |cont=>exact False.elim hq
theorem oM{E:St->XK}(Fo:u_ X.prog X.w X.K X.mg X.base CX k f fd ps sp)(hr:mf k X.A)(hg:Gl X x)(hm:X.mg x=some (.ref f))
  (hk:PySem.W.keepIn X.K (.ref f)=true) (hb:Binds X.K fd ps []) (hx:∀σ,vj CX X σ (E σ)) (ha:PA X (e::es) t) (vx:(x==("__debug__":Str))=false)
  (he:starEach (e::es) X.env=(false,eval e X.env)::starEach es X.env) (Ah:(backTo pos (starEach es X.env)).any (·.1)=false):
  PE X (.Call (.Name x p) (e::es) [] pos) (λσ H Q=>t σ H λvs H1=>sp vs H1 Q (E σ)):=by
 intro ae s σ H Q I h;refine wpAny_Call_Name_kw (iC I hg hm ?_ vx);refine PySem.W.callWith_K (h₀:=X.base) I.ok.mod.AU hk (ij (ha pos ae s σ H _ I h) λus s1 ⟨vs,H1,I1,r,q⟩=>⟨I1.CU,?_⟩) he Ah;exact GD Fo hr hb (hx σ) I1 r q
theorem GF(Fo:u_ X.prog X.w X.K X.mg X.base CX k fa fd ps (zt X.K cl Φ f))(hr:mf k X.A)
  (hg:Gl X x) (hm:X.mg x=some (.ref fa)) (hk:PySem.W.keepIn X.K (.ref fa)=true) (hb:Binds X.K fd ps []) (hx:∀σ,vj CX X σ (M7 cl λc=>XE c σ)) (vx:(x==("__debug__":Str))=false)
  (he:starEach (e::es) X.env=(false,eval e X.env)::starEach es X.env) (Ah:(backTo pos (starEach es X.env)).any (·.1)=false) (ia:C9 X cl XE Φ G false exs (e::es)):
  dh X cl XE Φ G m (.call f exs) (.Call (.Name x p) (e::es) [] pos):=by
 obtain⟨ta,pa,ia⟩:=ia;refine⟨_,oM Fo hr hg hm hk hb hx pa vx he Ah,λF σ δ H Q S h=>?_⟩;simp only[ev] at h;refine ia F σ δ H _ S (Meet.mono (Meet.bind h) (λds _ hp F1 vs H1 u1 g1=>?_) λc z=>z);rw[bh kj] at g1;refine⟨F1,ds,(S.up u1).Ag,g1,Meet.mono (ax.up hp u1) (λd _ q F2 v H2 u2 r2=>q F2 v H2 u2 (Res.gives (.vi r2 (by simp[bq])))) λc z F2 H2 u2=>⟨c,rfl,z F2 H2 u2⟩⟩
variable{F:Addr->Prop}{H:Hp}{Q:VK}{x y:V}{p q:D}
theorem mU:∀{ks:List Int}{ds:List D}{kvs:List (Key×V)}(i:Int),kvs.map (·.1)=ks.map Sum.inl->bb X.K cl F H ds (kvs.map (·.2))->
  (match nh ks ds i with|some d=>∃v,n_ kvs (Sum.inl i)=some v/\Rep X.K cl F H d v|none=>n_ kvs (Sum.inl i)=none)/\decide (i∈ks)=(n_ kvs (Sum.inl i)).isSome
 |[],ds,kvs,i,h,r=>by
  have:kvs=[]:=by cases kvs with|nil=>rfl|cons _ _=>simp at h
  subst this;have:ds=[]:=by have:=r.length;cases ds with|nil=>rfl|cons _ _=>simp at this
  subst this;exact⟨rfl,rfl⟩
 |k::ks,ds,kvs,i,h,r=>by
  cases kvs with
  |nil=>simp at h
  |cons kv kvs=>
   obtain⟨kk,v⟩:=kv;simp only[j_,List.cons.injEq] at h;obtain⟨h1,h2⟩:=h;subst h1
   cases ds with
   |nil=>have:=r.length;simp at this
   |cons d ds=>
    obtain⟨v',r',z,a1,a2⟩:=r.cons_inv;have z':v=v'/\kvs.map (·.2)=r':=by simpa using z
    obtain⟨rfl,rfl⟩:=z';obtain⟨QN,M6⟩:=mU i h2 a2;by_cases hc:k=i
    ·subst hc
     have e1:n_ ((Sum.inl k,v)::kvs) (Sum.inl k:Key)=some v:=eM rfl;refine⟨?_,?_⟩
     ·simp only[nh,cw]
      exact⟨v,e1,a1⟩
     ·rw[e1];simp
    ·have e1:n_ ((Sum.inl k,v)::kvs) (Sum.inl i:Key)=n_ kvs (Sum.inl i):=eO (λz=>hc (Sum.inl.inj z))
     refine⟨?_,?_⟩
     ·simp only[nh,bh hc]
      rw[e1];exact QN
     ·rw[e1,←M6]
      simp only[qf,decide_eq_decide];constructor
      ·rintro(z|z)
       ·exact absurd z.symm hc
       ·exact z
      ·exact .inr
theorem GH(hu:X.A.units+1<cLine)(hs:FQ b)(ia:dh X cl XE Φ G true ea a)(ib:dh X cl XE Φ G true eb b):dh X cl XE Φ G m (.sf ea eb) (.Subscript a b pos):=by
 obtain⟨ta,pa,ia⟩:=ia;obtain⟨tb,pb,ib⟩:=ib;refine⟨_,FW hu pa pb hs,λF σ δ H Q S h=>?_⟩;simp only[ev] at h;refine ia F σ δ H _ S (Meet.mono (Meet.bind h) (λp _ hp F1 x H1 u1 g1=>?_) λc z=>z);refine ib F1 σ δ H1 _ (S.up u1) (Meet.mono (Meet.bind (ax.up hp u1)) (λq _ hq F2 y H2 u2 g2=>?_) λc z=>z);have Ep:=ax.up (K:=X.K) (cl:=cl) hq u2;obtain⟨ks,ds,i,rfl,rfl⟩:∃ks ds i,p=.jt ks ds/\q=.int i:=by
  cases p<;>cases q<;>first|exact(show False from Ep).elim|exact⟨_,_,_,rfl,rfl⟩
 obtain⟨l,kvs,rfl,h1,h2,h3⟩:=(g1.got.up u2).jt;have IS:ax X.K cl (λc=>XE c σ) m (bq (.sf ea eb)) F2 H2 Q (wm (nh ks ds i)):=Ep;have lk:=(mU i h2 h3).1
 cases e:nh ks ds i with
 |none=>rw[e] at IS;exact(show False from IS).elim
 |some d=>
  rw[e] at IS lk;obtain⟨v,e1,e2⟩:=lk;refine⟨l,v,rfl,?_,ax.ky IS e2 (by simp[bq])⟩;rw[g2.got.int];have:=va.k (k:=Sum.inl i) h1;rw[e1] at this;exact this
theorem uV:qh X (.builtin "len") (λxs H Q=>∃a kvs,xs=[V.ref a]/\H a=some (.dK kvs)/\Q (.int kvs.length) H):=by
 intro ae s σ H xs us Q I r h;obtain⟨a,kvs,rfl,ha,q⟩:=h;obtain⟨u,rfl,ru⟩:=vals1 r;cases ru;exact NW I (.inl ha) λt s' I'=>⟨.int kvs.length,H,I',⟨t,rfl⟩,q⟩
noncomputable def OG:D->R D
 |.jt ks _=>.ok (.int ks.length)
 |_=>.bad
theorem GI{p pos:Pos}(hg:Gl X "len")(hm:X.mg "len"=none)(hs:starEach [a] X.env=[(false,eval a X.env)])(ia:dh X cl XE Φ G true ea a):dh X cl XE Φ G m (.yh ea) (.Call (.Name "len" p) [a] [] pos):=by
 have A1:starEach (a::[]) X.env=(false,eval a X.env)::starEach [] X.env:=hs;refine cV (exs:=[ea]) (o:=qi OG) (λδ=>?_) uV hg hm PySem.boot_len (by decide) (by decide) A1 rfl (bA A1 ia bT) λYE F H vs ds Q t g h=>?_
 ·simp only[ev,ck]
  cases ev Φ G true ea δ with
  |ok d=>cases d<;>rfl
  |exc c=>rfl
  |bad=>rfl
 ·match ds,g,h with
  |[],_,h=>exact(show False from h).elim
  |_::_::_,_,h=>exact(show False from h).elim
  |[d],g,h=>
   obtain⟨v,rfl,gv⟩:=Paired.one g;have h:ax X.K cl YE m (bq (.yh ea)) F H Q (OG d):=h;obtain⟨ks,ws,rfl⟩:∃ks ws,d=.jt ks ws:=by
    cases d<;>first|exact(show False from h).elim|exact⟨_,_,rfl⟩
   obtain⟨l,kvs,rfl,h1,h2,h3⟩:=gv.jt;have hl:kvs.length=ks.length:=by have:=congrArg List.length h2;simpa using this
   exact⟨l,kvs,rfl,h1,by rw[hl];exact ax.int h⟩
theorem Ld{t:R Bool}(g:Got X.K cl F H p x){Q:Bool->Hp->Prop}(h:um YE F H Q (truth p)):∃k,J3 X.K x H k/\Q k H:=by
 cases p with
 |de=>rw[g.de];exact⟨false,rfl,h F H (Up.refl F H)⟩
 |bl b=>rw[g.bl];exact⟨b,rfl,h F H (Up.refl F H)⟩
 |int i=>
  rw[g.int];refine⟨_,rfl,?_⟩;have e:(i !=0)=decide (i≠0):=by
   by_cases hc:i=0
   ·subst hc;rfl
   ·simp[hc]
  rw[e];exact h F H (Up.refl F H)
 |str z=>exact(show False from h).elim
 |ar ds=>
  obtain⟨a,vs,rfl,h1,r1⟩:=g.ar;refine⟨!ds.isEmpty,.inr (.inl ⟨vs,h1,?_⟩),h F H (Up.refl F H)⟩;have:=r1.length;cases ds<;>cases vs<;>simp at this⊢
 |ak ds=>
  obtain⟨a,vs,rfl,h1,r1⟩:=g.ak;refine⟨!ds.isEmpty,.inl ⟨vs,lj.of h1,?_⟩,h F H (Up.refl F H)⟩;have:=r1.length;cases ds<;>cases vs<;>simp at this⊢
 |jt _ _=>exact(show False from h).elim
 |yv _=>exact(show False from h).elim
 |ig _=>exact(show False from h).elim
theorem GJ(he:∀whole,isTrue e X.env whole=(do let v←whole;standAt e.pos;holding [v] (truthy v)))(ia:dh X cl XE Φ G true ex e):B_ X cl XE Φ G (.a_ ex) e:=by
 obtain⟨ta,pa,ia⟩:=ia;refine⟨_,wJ pa he,λF σ δ H Q S h=>?_⟩;simp only[du] at h;refine ia F σ δ H _ S (Meet.mono (Meet.bind h) (λp _ hp F1 x H1 u1 g1=>?_) λc z=>z);exact Ld (t:=.bad) g1.got (um.up hp u1)
theorem GK(ia:B_ X cl XE Φ G tx e):B_ X cl XE Φ G (.not tx) (.UnaryOp .Not e pos):=by
 obtain⟨ta,pa,ia⟩:=ia;refine⟨_,JQ pa,λF σ δ H Q S h=>?_⟩;simp only[du] at h;exact ia F σ δ H _ S (Meet.mono (Meet.bind h) (λb _ hp F1 H1 u1=>hp F1 H1 u1) λc z=>z)
theorem xG(ia:B_ X cl XE Φ G tx e):Gs X cl XE Φ G tx (.BoolOp .And [e] pos):=by
 obtain⟨ta,pa,ia⟩:=ia;exact⟨_,FA pa,ia⟩
theorem GL(ia:B_ X cl XE Φ G tx e):Gs X cl XE Φ G tx (.BoolOp .Or [e] pos):=by
 obtain⟨ta,pa,ia⟩:=ia;exact⟨_,JO pa,ia⟩
theorem GN(ia:B_ X cl XE Φ G ta a)(ib:Gs X cl XE Φ G tb (.BoolOp .And (b::rest) pos)):Gs X cl XE Φ G (.and ta tb) (.BoolOp .And (a::b::rest) pos):=by
 obtain⟨ra,pa,ia⟩:=ia;obtain⟨rb,pb,ib⟩:=ib;refine⟨_,JP pa pb,λF σ δ H Q S h=>?_⟩;simp only[du] at h;refine ia F σ δ H _ S (Meet.mono (Meet.bind h) (λc _ hp F1 H1 u1=>?_) λc z=>z);have hp:=um.up hp u1
 cases c with
 |true=>exact ib F1 σ δ H1 Q (S.up u1) hp
 |false=>exact hp F1 H1 (Up.refl F1 H1)
theorem Le(ia:B_ X cl XE Φ G ta a)(ib:Gs X cl XE Φ G tb (.BoolOp .Or (b::rest) pos)):Gs X cl XE Φ G (.or ta tb) (.BoolOp .Or (a::b::rest) pos):=by
 obtain⟨ra,pa,ia⟩:=ia;obtain⟨rb,pb,ib⟩:=ib;refine⟨_,NC pa pb,λF σ δ H Q S h=>?_⟩;simp only[du] at h;refine ia F σ δ H _ S (Meet.mono (Meet.bind h) (λc _ hp F1 H1 u1=>?_) λc z=>z);have hp:=um.up hp u1
 cases c with
 |true=>exact hp F1 H1 (Up.refl F1 H1)
 |false=>exact ib F1 σ δ H1 Q (S.up u1) hp
theorem Gs.t(h:Gs X cl XE Φ G tx e):B_ X cl XE Φ G tx e:=let⟨t,p,q⟩:=h;⟨t,p.pt,q⟩
end
noncomputable def tE(K:PySem.W.Frag)(cl:Nat->Addr)(XE:Nat->St->Hp->Prop)(Φ:Nat->List D->R D)(G:List D)(m:Bool)(ex:Ex):TE:=λσ H Q=>∃F δ,jg K cl F H σ δ/\ax K cl (λc=>XE c σ) m (bq ex) F H Q (ev Φ G m ex δ)
noncomputable def tO(K:PySem.W.Frag)(cl:Nat->Addr)(XE:Nat->St->Hp->Prop)(Φ:Nat->List D->R D)(G:List D)(c:Option Tx):TT:=λσ H Q=>∃F δ,jg K cl F H σ δ/\um (λc=>XE c σ) F H Q (Bc Φ G c δ)
section
variable{X:Cx}{cl:Nat->Addr}{XE:Nat->St->Hp->Prop}{YE:Nat->Hp->Prop}{Φ:Nat->List D->R D}{G:List D}{m fr:Bool}
theorem dh.pe(h:dh X cl XE Φ G m ex e):PE X e (tE X.K cl XE Φ G m ex):=by
 obtain⟨t,p,q⟩:=h;exact λae s σ H Q I ⟨F,δ,S,z⟩=>p ae s σ H Q I (q F σ δ H Q S z)
def M8(X:Cx)(cl:Nat->Addr)(XE:Nat->St->Hp->Prop)(Φ:Nat->List D->R D)(G:List D)(c:Option Tx)(ifs:List Expr):Prop:=IG X ifs (tO X.K cl XE Φ G c)
theorem oN:M8 X cl XE Φ G none []:=λae s σ H Q I ⟨F,δ,S,z⟩=>sQ ae s σ H Q I (by simp only[Bc] at z;exact z F H (Up.refl F H))
theorem xH(h:B_ X cl XE Φ G tx e):M8 X cl XE Φ G (some tx) [e]:=by
 obtain⟨t,p,q⟩:=h;exact λae s σ H Q I ⟨F,δ,S,z⟩=>Gf p ae s σ H Q I (q F σ δ H Q S (by simpa only[Bc] using z))
def E5(m:Bool)(F:Addr->Prop)(H H':Hp):Prop:=if m=true then jn H H' else iq F H H'
structure Wk(K:PySem.W.Frag)(cl:Nat->Addr)(m:Bool)(J:It)(xs:List D)(P:(Addr->Prop)->Hp->Prop):Prop where
 st:∀F H F' H',P F H->E5 m F H H'->(∀a,F a->F' a)->P F' H'
 go:∀F H (i:Nat) x,P F H->xs[i]?=some x->J.go i H/\∀v H',J.NH i H v H'->Up F H F H'/\Rep K cl F H' x v
 stop:∀F H,P F H->J.stop xs.length H
structure Dc(X:Cx)(cl:Nat->Addr)(XE:Nat->St->Hp->Prop)(Φ:Nat->List D->R D)(G:List D)(m:Bool)(k:AG)(its:List Ex)(tg iter:Expr):Prop where
 ok:∃wi,PI X tg iter wi/\∀F σ δ H R,jg X.K cl F H σ δ->
 Meet ((ck Φ G m its δ).bind (bo k)) (λxs=>∀F' H' J P,Up F H F' H'->Wk X.K cl m J xs P->P F' H'->R J H') (λc=>∀F' H',Up F H F' H'->XE c σ H')->wi σ H R
theorem PI.or(h:PI X tg iter wi)(h':PI X tg iter Vf):PI X tg iter (λσ H R=>wi σ H R\/Vf σ H R):=λae s σ H R I z=>z.elim (h ae s σ H R I) (h' ae s σ H R I)
theorem sZ{a:Addr}{xs:List D}:Wk X.K cl m (Rq X.K a) xs (λF H=>(m=true\/F a)/\∃vs,H a=some (.ak vs)/\bb X.K cl F H xs vs) where
 st:=λF H F' H' ⟨hm,vs,h1,r1⟩ hs sub=>by
  unfold E5 at hs;by_cases hc:m=true
  ·rw[bg hc] at hs
   exact⟨.inl hc,vs,hs _ _ h1,r1.mono (iq.of_same hs) sub⟩
  ·rw[bh hc] at hs
   have fa:F a:=hm.resolve_left hc;exact⟨.inr (sub a fa),vs,hs.fr _ _ fa h1,r1.mono hs sub⟩
 go:=λF H i x ⟨_,vs,h1,r1⟩ hx=>by
  obtain⟨v,h2,h3⟩:=r1.get hx;refine⟨⟨vs,v,lj.of h1,h2⟩,λw H' hy=>?_⟩;obtain⟨rfl,hy⟩:=hy;have:=hy vs (lj.of h1);rw[h2] at this;cases this;exact⟨Up.refl F _,h3⟩
 stop:=λF H ⟨_,vs,h1,r1⟩=>⟨vs,lj.of h1,by rw[r1.length];exact ji _⟩
theorem xI{a:Addr}{xs:List D}:Wk X.K cl m (Rr X.K a) xs (λF H=>∃vs,nv X.K H a vs/\bb X.K cl F H xs vs) where
 st:=λF H F' H' ⟨vs,h1,r1⟩ hs sub=>by
  have A1:iq F H H':=by
   unfold E5 at hs;by_cases hc:m=true
   ·rw[bg hc] at hs;exact iq.of_same hs
   ·rw[bh hc] at hs;exact hs
  exact⟨vs,A1.TZ h1,r1.mono A1 sub⟩
 go:=λF H i x ⟨vs,h1,r1⟩ hx=>by
  obtain⟨v,h2,h3⟩:=r1.get hx;refine⟨⟨vs,v,h1,h2⟩,λw H' hy=>?_⟩;obtain⟨rfl,hy⟩:=hy;have:=hy vs h1;rw[h2] at this;cases this;exact⟨Up.refl F _,h3⟩
 stop:=λF H ⟨vs,h1,r1⟩=>⟨vs,h1,by rw[r1.length];exact ji _⟩
theorem qR{lo:Int}(h:(dg lo n)[i]?=some x):i<n/\x=.int (lo+i):=by
 unfold dg at h;rw[A9] at h;by_cases hc:i<n
 ·rw[List.getElem?_range hc] at h
  simp at h;exact⟨hc,h.symm⟩
 ·rw[Ih (by simp;omega)] at h;cases h
theorem Lf{lo:Int}{n:Nat}:Wk X.K cl m (JX lo n) (dg lo n) (λ_ _=>True) where
 st:=λ_ _ _ _ _ _ _=>trivial
 go:=λF H i x _ hx=>by
  obtain⟨hi,rfl⟩:=qR hx;refine⟨hi,λv H' hy=>?_⟩;obtain⟨rfl,rfl⟩:=hy;exact⟨Up.refl F _,by simp[Rep]⟩
 stop:=λF H _=>by show n<=(dg lo n).length;simp[dg]
theorem lC:∀{xs:List D}{n i:Nat}{x:D},(iz n xs)[i]?=some x->∃y,xs[i]?=some y/\x=.ar [.int ((n+i:Nat):Int),y]
 |[],n,i,x,h=>by simp[iz] at h
 |y::xs,n,0,x,h=>by simp[iz] at h;exact⟨y,by simp,h.symm⟩
 |y::xs,n,i+1,x,h=>by
  obtain⟨z,h1,h2⟩:=lC (xs:=xs) (n:=n+1) (i:=i) (by simpa[iz] using h);exact⟨z,by simpa using h1,by rw[h2];congr 3;omega⟩
theorem lD:∀(xs:List D)(n:Nat),(iz n xs).length=xs.length
 |[],_=>rfl
 |_::xs,n=>by simp[iz,lD xs (n+1)]
theorem GO{a:Addr}{xs:List D}:Wk X.K cl m (R1 X.K a) (iz 0 xs) (λF H=>∃vs,nv X.K H a vs/\bb X.K cl F H xs vs) where
 st:=(xI (X:=X) (cl:=cl) (m:=m) (a:=a) (xs:=xs)).st
 go:=λF H i x ⟨vs,h1,r1⟩ hx=>by
  obtain⟨y,e1,rfl⟩:=lC hx;obtain⟨v,h2,h3⟩:=r1.get e1;refine⟨⟨vs,v,h1,h2⟩,λw H' hy=>?_⟩;obtain⟨t,z,ht,rfl,rfl,hy⟩:=hy;have:=hy vs h1;rw[h2] at this;cases this;refine⟨Up.alloc ht,?_⟩;simp only[Rep];refine⟨t,_,rfl,nv.of aC,bb.cons ?_ (bb.cons (h3.up (Up.alloc ht)) bb.nil)⟩;simp[Rep]
 stop:=λF H ⟨vs,h1,r1⟩=>⟨vs,h1,by rw[lD,r1.length];exact ji _⟩
theorem tD{α:Type}{P:Prop}[Decidable P]{a:α}{c:Nat}(h:(if P then R.ok a else R.bad)=R.exc c):False:=by split at h<;>cases h
theorem dU(h:Meet (bo k ss) P E):∃xs,zq k ss=.ok xs/\P xs:=by
 unfold bo at h
 cases e:zq k ss with
 |ok xs=>
  rw[e] at h;simp only[R.g_] at h;by_cases hc:xs.length<=jj
  ·rw[bg hc] at h;exact⟨xs,rfl,h⟩
  ·rw[bh hc] at h;exact(show False from h).elim
 |exc c=>
  exfalso;cases k<;>rcases ss with _|⟨d,_|⟨d',_|⟨WK,ss⟩⟩⟩<;>first|cases e|(cases d<;>first|cases e|exact tD e|(cases d'<;>first|cases e|exact tD e))
 |bad=>rw[e] at h;exact(show False from h).elim
theorem oO(g:if m=true then Paired (Got X.K cl F H) ds vs else bb X.K cl F H ds vs):Paired (Got X.K cl F H) ds vs:=by
 by_cases hc:m=true
 ·rw[bg hc] at g;exact g
 ·rw[bh hc] at g
  clear hc
  induction ds generalizing vs with
  |nil=>rw[g.nil_inv];exact .nil
  |cons d ds ih=>obtain⟨v,r,rfl,a1,a2⟩:=g.cons_inv;exact .cons (.inl a1) (ih a2)
theorem Lg(hg:Gl X "range")(hm:X.mg "range"=none)(hs:starEach [a] X.env=[(false,eval a X.env)])(ia:dh X cl XE Φ G m ea a):Dc X cl XE Φ G m .js [ea] tg (.Call (.Name "range" p) [a] [] pos):=by
 obtain⟨ta,pa,ia⟩:=bA (es:=[]) (as:=[]) hs ia bT;refine⟨_,kR hg hm pa hs,λF σ δ H R S h=>?_⟩;refine ia F σ δ H _ S (Meet.mono (Meet.bind h) (λds _ hd F1 vs H1 u1 g1=>?_) λc z=>z);obtain⟨xs,e,hx⟩:=dU hd;have g2:=oO g1
 match ds,e,g2 with
 |[],e,_=>cases e
 |x::_::_,e,_=>cases x<;>cases e
 |[d],e,g2=>
  obtain⟨v,rfl,gv⟩:=Paired.one g2;obtain⟨n,rfl⟩:∃n,d=.int n:=by
   cases d<;>first|exact⟨_,rfl⟩|cases e
  have e:(if-(jj:Int)<=n/\n<=jj then Py.R.ok (dg 0 n.toNat) else Py.R.bad)=Py.R.ok xs:=e;by_cases hc: -(jj:Int)<=n/\n<=(jj:Int)
  ·rw[bg hc] at e
   cases e;rw[gv.int];have hl:(jj:Int)=100000:=rfl;exact⟨n,rfl,by have:=hc.1;omega,by have:=hc.2;omega,hx F1 H1 _ _ u1 Lf trivial⟩
  ·rw[bh hc] at e;cases e
theorem GQ{tk:Nat}(hg:Gl X "enumerate")(hm:X.mg "enumerate"=none)(hs:starEach [a] X.env=[(false,eval a X.env)])(ia:dh X cl XE Φ G m ea a):
  Dc X cl XE Φ G m .enum [ea] (.Tuple elts tk FV) (.Call (.Name "enumerate" p) [a] [] pos):=by
 obtain⟨ta,pa,ia⟩:=bA (es:=[]) (as:=[]) hs ia bT;refine⟨_,Gi hg hm pa hs,λF σ δ H R S h=>?_⟩;refine ia F σ δ H _ S (Meet.mono (Meet.bind h) (λds _ hd F1 vs H1 u1 g1=>?_) λc z=>z);obtain⟨xs,e,hx⟩:=dU hd;have g2:=oO g1
 match ds,e,g2 with
 |[],e,_=>cases e
 |x::_::_,e,_=>cases x<;>cases e
 |[d],e,g2=>
  obtain⟨v,rfl,gv⟩:=Paired.one g2;obtain⟨ys,rfl⟩:∃ys,d=.ar ys:=by
   cases d<;>first|exact⟨_,rfl⟩|cases e
  cases e;obtain⟨b,ws,rfl,h1,r1⟩:=gv.ar;exact⟨b,rfl,⟨ws,h1⟩,hx F1 H1 _ _ u1 GO ⟨ws,h1,r1⟩⟩
theorem xJ(ia:dh X cl XE Φ G m ea a):Dc X cl XE Φ G m .seq [ea] tg a:=by
 obtain⟨ta,pa,ia⟩:=ia;refine⟨_,PI.or (sI pa) (JY pa),λF σ δ H R S h=>?_⟩;simp only[ck] at h
 cases e:ev Φ G m ea δ with
 |bad=>rw[e] at h;exact(show False from h).elim
 |exc c=>
  rw[e] at h;refine .inl (ia F σ δ H _ S ?_);rw[e];exact h
 |ok d=>
  rw[e] at h;obtain⟨xs,e2,hx⟩:=dU (show Meet (bo .seq [d]) _ _ from h);cases d<;>first|(cases e2;done)|skip
  ·rename_i ys
   cases e2;refine .inr (ia F σ δ H _ S ?_);rw[e];intro F1 v H1 u1 g1;obtain⟨b,ws,rfl,h1,r1⟩:=g1.got.ar;exact⟨b,rfl,⟨ws,h1⟩,hx F1 H1 _ _ u1 xI ⟨ws,h1,r1⟩⟩
  ·rename_i ys
   cases e2;refine .inl (ia F σ δ H _ S ?_);rw[e];intro F1 v H1 u1 g1;by_cases hc:m=true
   ·obtain⟨b,ws,rfl,h1,r1⟩:=g1.got.ak
    exact⟨b,rfl,⟨ws,lj.of h1⟩,hx F1 H1 _ _ u1 sZ ⟨.inl hc,ws,h1,r1⟩⟩
   ·unfold Gives at g1
    rw[bh hc] at g1;obtain⟨F2,u2,_,rp⟩:=g1.keep u1;simp only[Rep] at rp;obtain⟨b,ws,rfl,fa,h1,r1⟩:=rp;exact⟨b,rfl,⟨ws,lj.of h1⟩,hx F2 H1 _ _ u2 sZ ⟨.inr fa,ws,h1,r1⟩⟩
end
noncomputable def jh(σ:St):List Nat->List V->St
 |i::is,v::vs=>jh (σ.set i (some v)) is vs
 |_,_=>σ
theorem fS:∀(is:List Nat)(vs:List V)(σ:St),(jh σ is vs).length=σ.length
 |[],_,σ=>rfl
 |_::_,[],σ=>rfl
 |i::is,v::vs,σ=>by rw[jh,fS is vs];simp
theorem dE:∀(is:List Nat)(vs:List V)(σ:St)(j:Nat),j∉is->(jh σ is vs)[j]?=σ[j]?
 |[],_,σ,j,_=>rfl
 |_::_,[],σ,j,_=>rfl
 |i::is,v::vs,σ,j,h=>by
  rw[jh,dE is vs _ j λz=>h (rk _ z),x_];rintro rfl;exact h wo
section
variable{X:Cx}{cl:Nat->Addr}{XE:Nat->St->Hp->Prop}{YE:Nat->Hp->Prop}{Φ:Nat->List D->R D}{G:List D}{m fr:Bool}
def Er(X:Cx)(cl:Nat->Addr)(CG:List Nat)(g:TG)(tg:Expr):Prop:=PG X tg g/\∀F H σ v x ts Q,br CG.length x=some ts->Rep X.K cl F H x v->(∀vs,bb X.K cl F H ts vs->Q (jh σ CG vs) H)->g v σ H Q
theorem xK(hN:X.N.Nodup)(hi:X.N[i]?=some x)(hx:Loc X.env.scope x)(hf:X.fn x=true\/X.env.scope.names.lookup x=some .local):Er X cl [i] (fj i) (.Name x pos):=by
 refine⟨eK hN hi hx hf,λF H σ v x ts Q hs r q=>?_⟩;have:ts=[x]:=by simpa[br] using hs.symm
 subst this;exact q [v] (bb.cons r bb.nil)
theorem IT(hc:X.calm=true)(hN:X.N.Nodup)(hi:X.N[i]?=some x)(hx:Loc X.env.scope x)(hf:X.fn x=true\/X.env.scope.names.lookup x=some .local)
  (hj:X.N[j]?=some y) (hy:Loc X.env.scope y) (Si:X.fn y=true\/X.env.scope.names.lookup y=some .local):
  Er X cl [i,j] (FJ X.K 2 (zc (fj i) (zc (fj j) FE))) (.Tuple [.Name x p1,.Name y p2] k pos):=by
 refine⟨JW hc (n5 (eK hN hi hx hf) (n5 (eK hN hj hy Si) FG)),λF H σ v d ts Q hs r q=>?_⟩
 cases d with
 |ar xs=>
  have A1:(if xs.length=2 then some xs else none)=some ts:=hs;by_cases hl:xs.length=2
  ·rw[bg hl] at A1
   cases A1;simp only[Rep] at r;obtain⟨a,vs,rfl,h1,r1⟩:=r;have hv:vs.length=2:=by rw[r1.length,hl]
   match vs,hv,h1,r1 with
   |[v1,v2],_,h1,r1=>exact⟨a,[v1,v2],rfl,h1,rfl,v1,[v2],rfl,v2,[],rfl,rfl,q [v1,v2] r1⟩
  ·rw[bh hl] at A1;cases A1
 |_=>cases hs
theorem oP(S:jg X.K cl F H σ δ)(u:Up F H F' H')(hl:dk.length=ntg+caps.length)
  (hc:∀j,ntg<=j->dk[j]?=(qk σ caps ntg)[j]?) (D_:ts.length=ntg) (r:bb X.K cl F' H' ts vs):
  jg X.K cl F' H' (jh dk (List.range ntg) vs) (ts.map (λt=>some (false,t))++eh δ caps):=by
 have S':=S.up u;have hv:vs.length=ntg:=by rw[r.length,D_]
 --the targets
 have Vg:∀(n k:Nat)(ws:List V)(τ:St),ws.length=n->k+n<=τ.length->∀i,i<n->(jh τ (List.range' k n) ws)[k+i]?=(ws[i]?).map some:=by
  intro n
  induction n with
  |zero=>intro k ws τ _ _ i hi;exact absurd hi (Jy i)
  |succ n ih=>
   intro k ws τ hw WL i hi
   match ws,hw with
   |w::ws,hw=>
    have QL:ws.length=n:=by simpa using hw
    rw[List.range'_succ,jh]
    cases i with
    |zero=>
     rw[dE _ _ _ _ (by simp[List.mem_range'];omega)];simp[BM (show k<τ.length by omega)]
    |succ i=>
     have:=ih (k+1) ws (τ.set k (some w)) QL (by simp;omega) i (by omega);rw[show k+(i+1)=k+1+i by omega,this];simp
 have OH:(jh dk (List.range ntg) vs).length=ntg+caps.length:=by rw[fS,hl]
 have Sj:∀i,i<ntg->(jh dk (List.range ntg) vs)[i]?=(vs[i]?).map some:=λi hi=>by
  have:=Vg ntg 0 vs dk hv (by omega) i hi;rw[List.range_eq_range'];simpa using this
 have OI:∀i,ntg<=i->(jh dk (List.range ntg) vs)[i]?=(qk σ caps ntg)[i]?:=λi hi=>by
  rw[dE _ _ _ _ (by simp;omega)];exact hc i hi
 have OJ:∀k,(qk σ caps ntg)[ntg+k]?=(caps[k]?).map λj=>(σ[j]?).getD none:=λk=>by
  unfold qk;rw[DE (by simp),Jq,A9];simp
 have OL:∀k,(ts.map (λt=>(some (false,t):Slot))++eh δ caps)[ntg+k]?=(caps[k]?).map λj=>(δ[j]?).getD none:=λk=>by
  rw[DE (by simp[D_]),gh,D_];unfold eh;rw[A9];simp
 have OM:∀i,i<ntg->(ts.map (λt=>(some (false,t):Slot))++eh δ caps)[i]?=(ts[i]?).map λt=>some (false,t):=λi hi=>by
  rw[DF (by simp[D_];exact hi),A9]
 refine⟨by rw[OH];simp[eh,D_],S'.Ag,λi d e=>?_,λi d e=>?_⟩
 ·by_cases hi:i<ntg
  ·rw[OM i hi] at e
   cases q:ts[i]? with
   |none=>rw[q] at e;cases e
   |some t=>
    rw[q] at e;have:t=d:=by simpa using e
    subst this;obtain⟨v,h1,h2⟩:=r.get q;exact⟨v,by rw[Sj i hi,h1];rfl,h2⟩
  ·obtain⟨k,rfl⟩:∃k,i=ntg+k:=⟨i-ntg,by omega⟩
   rw[OL k] at e
   cases q:caps[k]? with
   |none=>rw[q] at e;cases e
   |some j=>
    rw[q] at e;have e':(δ[j]?).getD none=some (false,d):=by simpa using e
    have e2:δ[j]?=some (some (false,d)):=by
     cases z:δ[j]? with
     |none=>rw[z] at e';cases e'
     |some o=>rw[z] at e';simp at e';rw[e']
    obtain⟨v,h1,h2⟩:=S'.sh j d e2;exact⟨v,by rw[OI _ (by omega),OJ k,q];simp[h1],h2⟩
 ·by_cases hi:i<ntg
  ·rw[OM i hi] at e
   cases q:ts[i]? with
   |none=>rw[q] at e;cases e
   |some t=>rw[q] at e;simp at e
  ·obtain⟨k,rfl⟩:∃k,i=ntg+k:=⟨i-ntg,by omega⟩
   rw[OL k] at e
   cases q:caps[k]? with
   |none=>rw[q] at e;cases e
   |some j=>
    rw[q] at e;have e':(δ[j]?).getD none=some (true,d):=by simpa using e
    have e2:δ[j]?=some (some (true,d)):=by
     cases z:δ[j]? with
     |none=>rw[z] at e';cases e'
     |some o=>rw[z] at e';simp at e';rw[e']
    obtain⟨a,h1,h2,h3⟩:=S'.ow j d e2;exact⟨a,by rw[OI _ (by omega),OJ k,q];simp[h1],h2,h3⟩
theorem qS(h:br n d=some ts):ts.length=n:=by
 unfold br at h;split at h
 ·cases h;rfl
 ·split at h
  ·cases h;assumption
  ·cases h
 ·cases h
theorem jE{cond:Option Tx}
  (hw:∀F σ δ H R,jg X.K cl F H σ δ->Meet ((ck Φ G true its δ).bind (bo k)) (λxs=>∀F' H' J P,Up F H F' H'->Wk X.K cl true J xs P->P F' H'->R J H') (λc=>∀F' H',Up F H F' H'->XE c σ H')->wi σ H R)
  (hg:∀F H σ v x ts Q,br ntg x=some ts->Rep X.K cl F H x v->(∀vs,bb X.K cl F H ts vs->Q (jh σ (List.range ntg) vs) H)->g v σ H Q)
  (S:jg X.K cl F H σ δ) (h:ax X.K cl (λc=>XE c σ) m true F H Q (ev Φ G m (.comp k its caps ntg cond elt) δ)):
  xm wi g (tO X.K cl (λ_ _ _=>False) Φ G cond) (tE X.K cl (λ_ _ _=>False) Φ G false elt) caps ntg σ H Q:=by
 simp only[ev] at h;generalize hf:(λx=>match br ntg x with
    |none=>(.bad:R (Option D))
    |some ts=>
     (Bc Φ G cond (ts.map (λt=>some (false,t))++eh δ caps)).bind λb=>
      if b then(ev Φ G false elt (ts.map (λt=>some (false,t))++eh δ caps)).bind λy=>.ok (some y) else .ok none)=f at h
 have h0:Meet ((ck Φ G true its δ).bind (bo k)) (λxs=>ax X.K cl (λc=>XE c σ) m true F H Q (R.bind (R.quiet (h_ f xs)) λys=>.ok (.ak ys))) (λc=>∀F' H',Up F H F' H'->XE c σ H'):=by
  have h1:=Meet.bind h
  cases e:ck Φ G true its δ with
  |ok ss=>rw[e] at h1;exact Meet.bind h1
  |exc c=>rw[e] at h1;exact h1
  |bad=>rw[e] at h1;exact h1
 have M9:Meet ((ck Φ G true its δ).bind (bo k)) (λxs=>xs.length<=jj/\ax X.K cl (λc=>XE c σ) m true F H Q (R.bind (R.quiet (h_ f xs)) λys=>.ok (.ak ys))) (λc=>∀F' H',Up F H F' H'->XE c σ H'):=by
  refine Meet.mono h0 (λxs e z=>⟨?_,z⟩) λc z=>z
  cases e1:ck Φ G true its δ with
  |ok ss=>
   rw[e1] at e;have e:bo k ss=.ok xs:=e;unfold bo at e
   cases e2:zq k ss with
   |ok ys=>
    rw[e2] at e;simp only[R.g_] at e;by_cases hc:ys.length<=jj
    ·rw[bg hc] at e;cases e;exact hc
    ·rw[bh hc] at e;cases e
   |exc c=>rw[e2] at e;cases e
   |bad=>rw[e2] at e;cases e
  |exc c=>rw[e1] at e;cases e
  |bad=>rw[e1] at e;cases e
 clear h h0;unfold xm;refine hw F σ δ H _ S (Meet.mono M9 (λxs _ hx F1 H1 J P u1 W1 p1 q hq=>?_) λc z=>z);obtain⟨di,hx⟩:=hx
 cases ho:h_ f xs with
 |exc c=>rw[ho] at hx;exact(show False from hx).elim
 |bad=>rw[ho] at hx;exact(show False from hx).elim
 |ok out=>
  rw[ho] at hx;have hx:ax X.K cl (λc=>XE c σ) m true F H Q (.ok (.ak out)):=hx;have nq:∀b o,H1 b=some o->b≠q:=λb o e z=>by rw[z,hq] at e;cases e
  have Sl:¬F1 q:=(S.up u1).Ag.fresh hq;refine⟨λi n dk H'=>n=xs.length-i/\i<=xs.length/\dk.length=ntg+caps.length/\(∀j,ntg<=j->dk[j]?=(qk σ caps ntg)[j]?)/\
   ∃F' ys ds rest,Up F1 H1 F' H'/\¬F' q/\H' q=some (.ak ys)/\bb X.K cl F' H' ds ys/\ds.length<=i/\h_ f (xs.drop i)=.ok rest/\out=ds++rest,⟨xs.length,?_⟩,?_⟩
  ·refine⟨by simp,E3 _,by simp[qk],λj _=>rfl,F1,[],[],out,Up.alloc hq,Sl,aC,bb.nil,ji _,by simpa using ho,rfl⟩
  ·rintro i n dk H' ⟨rfl,hi,hl,hc,F',ys,ds,rest,u2,nF,ON,r2,DY,rz,GR⟩
   have pH:P F' H':=W1.st F1 H1 F' H' p1 (by unfold E5;rw[bg rfl];exact u2.same) u2.sub;by_cases lq:i<xs.length
   ·refine .inr ?_
    obtain⟨go,yl⟩:=W1.go F' H' i xs[i] pH (by simp[lq]);refine⟨go,λv H2 hy=>?_⟩;obtain⟨u3,rx⟩:=yl v H2 hy;have hd:xs.drop i=xs[i]::xs.drop (i+1):=MP lq;rw[hd] at rz;simp only[h_] at rz
    cases QO:f xs[i] with
    |exc c=>rw[QO] at rz;cases rz
    |bad=>rw[QO] at rz;cases rz
    |ok o=>
     rw[QO] at rz;simp only[R.g_] at rz
     cases By:h_ f (xs.drop (i+1)) with
     |exc c=>rw[By] at rz;cases rz
     |bad=>rw[By] at rz;cases rz
     |ok IU=>
      rw[By] at rz;simp only[R.g_,R.ok.injEq] at rz;have mz:=QO;rw[←hf] at mz;dsimp only at mz
      cases CV:br ntg xs[i] with
      |none=>rw[CV] at mz;cases mz
      |some ts=>
       rw[CV] at mz;dsimp only at mz;have D_:=qS CV;refine hg F' H2 dk v xs[i] ts _ CV rx λvs rv=>?_;have Lh:Up F1 H1 F' H2:=u2.trans u3;have S2:jg X.K cl F' H2 (jh dk (List.range ntg) vs) (ts.map (λt=>some (false,t))++eh δ caps):=oP S (u1.trans Lh) hl hc D_ rv;have MY:(jh dk (List.range ntg) vs).length=ntg+caps.length:=by rw[fS];exact hl
       have Ds:∀j,ntg<=j->(jh dk (List.range ntg) vs)[j]?=(qk σ caps ntg)[j]?:=λj hj=>by
        rw[dE _ _ _ _ (by simp;omega)];exact hc j hj
       have Ep:H2 q=some (.ak ys):=u3.same _ _ ON
       cases hb:Bc Φ G cond (ts.map (λt=>some (false,t))++eh δ caps) with
       |exc c=>rw[hb] at mz;cases mz
       |bad=>rw[hb] at mz;cases mz
       |ok b=>
        rw[hb] at mz;simp only[R.g_] at mz;refine⟨F',_,S2,?_⟩;rw[hb];intro F3 H3 u4;have S3:=S2.up u4;have IS:H3 q=some (.ak ys):=u4.same _ _ Ep;have T4:¬F3 q:=λz=>(u4.new q z).elim nF λy=>by rw[Ep] at y;cases y.1
        have r3:bb X.K cl F3 H3 ds ys:=(r2.up u3).up u4
        cases b with
        |false=>
         rw[bh kj] at mz;cases mz;show∃m',_;refine⟨xs.length-(i+1),by omega,rfl,lq,MY,Ds,F3,ys,ds,IU,Lh.trans u4,T4,IS,r3,by omega,By,?_⟩;rw[GR,←rz]
        |true=>
         rw[bg rfl] at mz
         cases M_:ev Φ G false elt (ts.map (λt=>some (false,t))++eh δ caps) with
         |exc c=>rw[M_] at mz;cases mz
         |bad=>rw[M_] at mz;cases mz
         |ok y=>
          rw[M_] at mz;simp only[R.g_] at mz;cases mz;show tE X.K cl (λ_ _ _=>False) Φ G false elt _ H3 _;refine⟨F3,_,S3,?_⟩;rw[M_];intro F4 w H4 u5 gv;unfold Gives at gv;rw[bh kj] at gv;obtain⟨F5,u6,Sn,Ay⟩:=gv.keep u5;have Li:H4 q=some (.ak ys):=u6.same _ _ IS;have Lj:¬F5 q:=λz=>(u6.new q z).elim T4 λy=>by rw[IS] at y;cases y.1
          have r4:bb X.K cl F5 H4 ds ys:=r3.up u6;have pr:iq F5 H4 (L2.upd H4 q (.ak (ys++[w]))):=iq.upd Lj (λzs e=>by rw[Li] at e;cases e) (λo u e=>by rw[Li] at e;cases e);have u7:Up F1 H1 F5 H4:=(Lh.trans u4).trans u6;refine⟨ys,xs.length-(i+1),Li,?_,by omega,rfl,lq,MY,Ds,F5,ys++[w],ds++[y],IU,⟨λb o e=>?_,u7.sub,λa z=>?_⟩,Lj,aC,?_,?_,By,?_⟩
          ·rw[r4.length];exact Dm (rm DY (DL lq)) (Dm di (by decide))
          ·rw[aB (nq b o e)];exact u7.same b o e
          ·rcases u7.new a z with y|⟨y1,y2⟩
           ·exact .inl y
           ·refine .inr ⟨y1,?_⟩
            rw[aB (by rintro rfl;exact Lj z)];exact y2
          ·exact(r4.mono pr λ_ z=>z).append (bb.cons (Ay.mono pr λ_ z=>z) bb.nil)
          ·rw[vm,List.length_singleton];omega
          ·rw[GR,←rz];simp
   ·have AI:i=xs.length:=by omega
    subst AI;refine .inl ⟨W1.stop F' H' pH,?_⟩;have hr:rest=[]:=by
     rw[List.drop_length] at rz;simp only[h_] at rz;cases rz;rfl
    subst hr;rw[A_] at GR;subst GR;refine hx F' (.ref q) H' (u1.trans u2) (Res.gives ?_);unfold Res;rw[bg (by simp[ba])];exact⟨q,rfl,u1.same.free hq,nF,ys,ON,r2⟩
end
section
variable{X:Cx}{cl:Nat->Addr}{XE:Nat->St->Hp->Prop}{YE:Nat->Hp->Prop}{Φ:Nat->List D->R D}{G:List D}{m fr:Bool}
theorem GS{cond:Option Tx}
  (hc:X.calm=true) (hi:Dc X cl XE Φ G true k its tg iter) (Sc:jy X N' caps ntg scope) (hg:∀jc C s H fp,Er (cu X N' scope jc C s H fp λ_ _=>False) cl (List.range ntg) g tg)
  (ht:∀jc C s H fp,M8 (cu X N' scope jc C s H fp λ_ _=>False) cl (λ_ _ _=>False) Φ G cond ifs) (he:∀jc C s H fp,dh (cu X N' scope jc C s H fp λ_ _=>False) cl (λ_ _ _=>False) Φ G false elt e)
  (hs:∀x,foldedSetIterable iter X.env x=pure x):dh X cl XE Φ G m (.comp k its caps ntg cond elt) (.ListComp e [⟨tg,iter,ifs,0⟩] scope pos):=by
 obtain⟨wi,pi,hw⟩:=hi;refine⟨_,Gh (tc:=tO X.K cl (λ_ _ _=>False) Φ G cond) (te:=tE X.K cl (λ_ _ _=>False) Φ G false elt) hc pi Sc (λjc C s H fp=>(hg jc C s H fp).1) (λjc C s H fp=>ht jc C s H fp) (λjc C s H fp=>(he jc C s H fp).pe) hs,λF σ δ H Q S h=>?_⟩;exact jE (g:=g) hw (λF H σ v x ts Q h1 h2 h3=>(hg [] 0 X.fv X.bx []).2 F H σ v x ts Q (by rw[List.length_range];exact h1) h2 h3) S h
theorem oQ{cond:Option Tx}(hN:X.N.Nodup)(hy:X.N[i]?=some y)(hx:Loc X.env.scope y)
  (hf:X.fn y=true\/X.env.scope.names.lookup y=some .local) (AY:swapsWith (.ListComp e [⟨tg,iter,ifs,0⟩] scope pos) (some (.Name y py)) wb.line X.env=pure true)
  (hc:X.calm=true) (hi:Dc X cl XE Φ G true k its tg iter) (Sc:jy X N' caps ntg scope) (hg:∀jc C s H fp,Er (cu X N' scope jc C s H fp λ_ _=>False) cl (List.range ntg) g tg)
  (ht:∀jc C s H fp,M8 (cu X N' scope jc C s H fp λ_ _=>False) cl (λ_ _ _=>False) Φ G cond ifs) (he:∀jc C s H fp,dh (cu X N' scope jc C s H fp λ_ _=>False) cl (λ_ _ _=>False) Φ G false elt e)
  (hs:∀x,foldedSetIterable iter X.env x=pure x):∃t,PS X (.Assign [.Name y py] (.ListComp e [⟨tg,iter,ifs,0⟩] scope pos) wb) (qj t (fj i))/\
   ∀F σ δ H Q,jg X.K cl F H σ δ->ax X.K cl (λc=>XE c σ) false true F H Q (ev Φ G false (.comp k its caps ntg cond elt) δ)->t σ H Q:=by
 obtain⟨wi,pi,hw⟩:=hi;refine⟨_,gS (tc:=tO X.K cl (λ_ _ _=>False) Φ G cond) (te:=tE X.K cl (λ_ _ _=>False) Φ G false elt) hN hy hx hf AY hc pi Sc (λjc C s H fp=>(hg jc C s H fp).1) (λjc C s H fp=>ht jc C s H fp) (λjc C s H fp=>(he jc C s H fp).pe) hs,λF σ δ H Q S h=>?_⟩;exact jE (g:=g) hw (λF H σ v x ts Q h1 h2 h3=>(hg [] 0 X.fv X.bx []).2 F H σ v x ts Q (by rw[List.length_range];exact h1) h2 h3) S h
structure m_(K:PySem.W.Frag)(cl:Nat->Addr)(c_:Addr->Prop)(bx:Hp)(F:Addr->Prop)(H:Hp)(σ:St)(δ:iy):Prop where
 sees:jg K cl F H σ δ
 up:Up c_ bx F H
 new:∀(i:Nat) d a,δ[i]?=some (some (true,d))->σ[i]?=some (some (.ref a))->bx a=none
 ds:∀(i j:Nat) d e a,i≠j->δ[i]?=some (some (true,d))->δ[j]?=some (some (true,e))->σ[i]?=some (some (.ref a))->σ[j]?≠some (some (.ref a))
section
variable{c_ F F':Addr->Prop}{bx H H':Hp}{σ dk:St}{δ δ':iy}{K:PySem.W.Frag}
theorem m_.to(f:m_ K cl c_ bx F H σ δ)(u:Up F H F' H'):m_ K cl c_ bx F' H' σ δ:=⟨f.sees.up u,f.up.trans u,f.new,f.ds⟩
theorem Own.fz(h:Own K cl F H d a):H a≠none/\Rep K cl (B9 F a) H d (.ref a):=by
 have pr:iq F H H:=iq.of_same (jn.refl H)
 cases d with
 |ak xs=>
  obtain⟨vs,e,r⟩:=h;refine⟨by rw[e];exact MU _,?_⟩;simp only[Rep];exact⟨a,vs,rfl,.inr rfl,e,r.mono pr λb z=>.inl z⟩
 |jt ks ds=>
  obtain⟨kvs,e,k,r⟩:=h;refine⟨by rw[e];exact MU _,?_⟩;simp only[Rep];exact⟨a,kvs,rfl,.inr rfl,e,k,r.mono pr λb z=>.inl z⟩
 |_=>exact h.elim
theorem m_.T5(f:m_ K cl c_ bx F H σ δ)(i:Nat)(e:δ[i]?=some (some (true,d))):∃F',(∀a,F a->F' a)/\m_ K cl c_ bx F' H σ (δ.set i (some (false,d))):=by
  obtain⟨a,h1,h2,h3⟩:=f.sees.ow i _ e;obtain⟨e1,r1⟩:=h3.fz;have hn:=f.new i _ a e h1;have hi:i<δ.length:=by
   by_cases hc:i<δ.length
   ·exact hc
   ·rw[Ih (by omega)] at e;cases e
  have sub:∀b,F b->B9 F a b:=λb z=>.inl z;have pr:iq F H H:=iq.of_same (jn.refl H);have other:∀j,j≠i->(δ.set i (some (false,d)))[j]?=δ[j]?:=λj hj=>x_ (kg hj);have here:(δ.set i (some (false,d)))[i]?=some (some (false,d)):=by simp[BM hi]
  have px:∀d',(δ.set i (some (false,d)))[i]?≠some (some (true,d')):=λd' z=>by rw[here] at z;cases z
  refine⟨B9 F a,sub,⟨by rw[Cn];exact f.sees.len,λb z=>z.elim (f.sees.Ag b) λy=>(by rw[y];exact e1),λj d' z=>?_,λj d' z=>?_⟩,⟨f.up.same,λb z=>.inl (f.up.sub b z),λb z=>z.elim (f.up.new b) λy=>.inr ?_⟩,λj d' b z w=>?_,λj k d1 d2 b Dy z z' w=>?_⟩
  ·by_cases hj:j=i
   ·subst hj
    rw[here] at z;cases z;exact⟨.ref a,h1,r1⟩
   ·rw[other j hj] at z
    obtain⟨v,q1,q2⟩:=f.sees.sh j d' z;exact⟨v,q1,q2.mono pr sub⟩
  ·have hj:j≠i:=by rintro rfl;exact px d' z
   rw[other j hj] at z;obtain⟨b,q1,q2,q3⟩:=f.sees.ow j d' z;refine⟨b,q1,λy=>y.elim q2 λy=>?_,q3.mono pr sub rfl⟩;subst y;exact f.ds i j _ d' b (kg hj) e z h1 q1
  ·rw[y];exact⟨hn,e1⟩
  ·have hj:j≠i:=by rintro rfl;exact px d' z
   rw[other j hj] at z;exact f.new j d' b z w
  ·have hj:j≠i:=by rintro rfl;exact px d1 z
   have hk:k≠i:=by rintro rfl;exact px d2 z'
   rw[other j hj] at z;rw[other k hk] at z';exact f.ds j k d1 d2 b Dy z z' w
theorem m_.cf(f:m_ K cl c_ bx F H σ δ)(i:Nat):∃F',(∀a,F a->F' a)/\m_ K cl c_ bx F' H σ (cf δ i):=by
 unfold Py.cf;split
 ·exact f.T5 i (by assumption)
 ·exact f.T5 i (by assumption)
 ·exact⟨F,λ_ z=>z,f⟩
theorem m_.bf:∀(is:List Nat){F:Addr->Prop}{δ:iy},m_ K cl c_ bx F H σ δ->∃F',(∀a,F a->F' a)/\m_ K cl c_ bx F' H σ (bf is δ)
 |[],F,δ,f=>⟨F,λ_ z=>z,f⟩
 |i::is,F,δ,f=>by
  obtain⟨F1,s1,f1⟩:=f.cf i;obtain⟨F2,s2,f2⟩:=m_.bf is f1;exact⟨F2,λa z=>s2 a (s1 a z),f2⟩
theorem m_.set(f:m_ K cl c_ bx F H σ δ)(i:Nat)(r:Rep K cl F H d v):m_ K cl c_ bx F H (σ.set i (some v)) (δ.set i (some (false,d))):=by
 have hl:=f.sees.len;have Dz:∀j,j≠i->(σ.set i (some v))[j]?=σ[j]?:=λj hj=>x_ (kg hj);have A2:∀j,j≠i->(δ.set i (some (false,d)))[j]?=δ[j]?:=λj hj=>x_ (kg hj);have here:∀o,(δ.set i (some (false,d)))[i]?=some o->o=some (false,d)/\(σ.set i (some v))[i]?=some (some v):=λo z=>by
  by_cases hi:i<δ.length
  ·rw[BM hi] at z
   exact⟨(Aw z).symm,BM (by rw[hl];exact hi)⟩
  ·rw[Ih (by simpa using hi)] at z;cases z
 have px:∀e,(δ.set i (some (false,d)))[i]?≠some (some (true,e)):=λe z=>by have:=(here _ z).1;cases this
 refine⟨⟨by simp[hl],f.sees.Ag,λj e z=>?_,λj e z=>?_⟩,f.up,λj e b z w=>?_,λj k e e' b Dy z z' w=>?_⟩
 ·by_cases hj:j=i
  ·subst hj
   obtain⟨q1,q2⟩:=here _ z;cases q1;exact⟨v,q2,r⟩
  ·rw[A2 j hj] at z
   obtain⟨u,q1,q2⟩:=f.sees.sh j e z;exact⟨u,by rw[Dz j hj];exact q1,q2⟩
 ·have hj:j≠i:=by rintro rfl;exact px e z
  rw[A2 j hj] at z;obtain⟨b,q1,q2⟩:=f.sees.ow j e z;exact⟨b,by rw[Dz j hj];exact q1,q2⟩
 ·have hj:j≠i:=by rintro rfl;exact px e z
  rw[A2 j hj] at z;rw[Dz j hj] at w;exact f.new j e b z w
 ·have hj:j≠i:=by rintro rfl;exact px e z
  have hk:k≠i:=by rintro rfl;exact px e' z'
  rw[A2 j hj] at z;rw[A2 k hk] at z';rw[Dz j hj] at w;rw[Dz k hk];exact f.ds j k e e' b Dy z z' w
theorem m_.own(f:m_ K cl c_ bx F H σ δ)(i:Nat)(u:Up F H F' H')(hp:H p=none)(nF:¬F' p)(o:Own K cl F' H' d p):m_ K cl c_ bx F' H' (σ.set i (some (.ref p))) (δ.set i (some (true,d))):=by
 have f':=f.to u;have hl:=f.sees.len;have Dz:∀j,j≠i->(σ.set i (some (V.ref p)))[j]?=σ[j]?:=λj hj=>x_ (kg hj);have A2:∀j,j≠i->(δ.set i (some (true,d)))[j]?=δ[j]?:=λj hj=>x_ (kg hj);have here:∀o,(δ.set i (some (true,d)))[i]?=some o->o=some (true,d)/\(σ.set i (some (V.ref p)))[i]?=some (some (V.ref p)):=λo z=>by
  by_cases hi:i<δ.length
  ·rw[BM hi] at z
   exact⟨(Aw z).symm,BM (by rw[hl];exact hi)⟩
  ·rw[Ih (by simpa using hi)] at z;cases z
 have old:∀(j:Nat) e b,δ[j]?=some (some (true,e))->σ[j]?=some (some (V.ref b))->b≠p:=λj e b z w y=>by
  obtain⟨b',q1,q2,q3⟩:=f.sees.ow j e z;rw[w] at q1;have:b=b':=by simpa using q1
  subst this;rw[y] at q3;exact q3.some hp
 refine⟨⟨by simp[hl],f'.sees.Ag,λj e z=>?_,λj e z=>?_⟩,f'.up,λj e b z w=>?_,λj k e e' b Dy z z' w=>?_⟩
 ·have hj:j≠i:=by rintro rfl;have:=(here _ z).1;cases this
  rw[A2 j hj] at z;obtain⟨v,q1,q2⟩:=f'.sees.sh j e z;exact⟨v,by rw[Dz j hj];exact q1,q2⟩
 ·by_cases hj:j=i
  ·subst hj
   obtain⟨q1,q2⟩:=here _ z;cases q1;exact⟨p,q2,nF,o⟩
  ·rw[A2 j hj] at z
   obtain⟨b,q1,q2⟩:=f'.sees.ow j e z;exact⟨b,by rw[Dz j hj];exact q1,q2⟩
 ·by_cases hj:j=i
  ·subst hj
   obtain⟨q1,q2⟩:=here _ z;rw[q2] at w;have:p=b:=by simpa using w
   subst this;exact f.up.same.free hp
  ·rw[A2 j hj] at z
   rw[Dz j hj] at w;exact f.new j e b z w
 ·by_cases hj:j=i
  ·subst hj
   obtain⟨q1,q2⟩:=here _ z;rw[q2] at w;have:p=b:=by simpa using w
   subst this;rw[A2 k (kg Dy)] at z';rw[Dz k (kg Dy)];exact λy=>old k e' p z' y rfl
  ·rw[A2 j hj] at z
   rw[Dz j hj] at w;by_cases hk:k=i
   ·subst hk
    obtain⟨q1,q2⟩:=here _ z';rw[q2];intro y;have:p=b:=by simpa using y
    exact old j e b z w this.symm
   ·rw[A2 k hk] at z'
    rw[Dz k hk];exact f.ds j k e e' b Dy z z' w
theorem m_.write(f:m_ K cl c_ bx F H σ δ)(i:Nat)(e:δ[i]?=some (some (true,d)))(hp:σ[i]?=some (some (.ref p)))(hd:(∃vs,o=.ak vs)\/∃kvs,o=.dK kvs)(ho:Own K cl F (L2.upd H p o) d' p):
  m_ K cl c_ bx F (L2.upd H p o) σ (δ.set i (some (true,d'))):=by
 obtain⟨p',q1,q2,q3⟩:=f.sees.ow i d e;rw[hp] at q1;have:p=p':=by simpa using q1
 subst this;have hi:i<δ.length:=by
  by_cases hc:i<δ.length
  ·exact hc
  ·rw[Ih (by omega)] at e;cases e
 have pr:iq F H (L2.upd H p o):=by
  refine iq.upd q2 (λxs z=>?_) λo' u z=>?_
  ·rcases q3.at with⟨_,y⟩|⟨_,y⟩<;>(rw[y] at z;cases z)
  ·rcases q3.at with⟨_,y⟩|⟨_,y⟩<;>(rw[y] at z;cases z)
 have h0:=f.new i d p e hp;have A2:∀j,j≠i->(δ.set i (some (true,d')))[j]?=δ[j]?:=λj hj=>x_ (kg hj);have here:(δ.set i (some (true,d')))[i]?=some (some (true,d')):=BM hi;have nn:∀b,(L2.upd H p o b)=none->H b=none:=λb z=>by
  by_cases hb:b=p
  ·subst hb;rw[aC] at z;cases z
  ·rw[aB hb] at z;exact z
 refine⟨⟨by simp[f.sees.len],λb z y=>f.sees.Ag b z (nn b y),λj x z=>?_,λj x z=>?_⟩,⟨λb u z=>?_,f.up.sub,λb z=>?_⟩,λj x b z w=>?_,λj k x x' b Dy z z' w=>?_⟩
 ·have hj:j≠i:=by rintro rfl;rw[here] at z;cases z
  rw[A2 j hj] at z;obtain⟨v,r1,r2⟩:=f.sees.sh j x z;exact⟨v,r1,r2.mono pr λ_ y=>y⟩
 ·by_cases hj:j=i
  ·subst hj
   rw[here] at z;cases z;exact⟨p,hp,q2,ho⟩
  ·rw[A2 j hj] at z
   obtain⟨b,r1,r2,r3⟩:=f.sees.ow j x z;refine⟨b,r1,r2,r3.mono pr (λ_ y=>y) (aB ?_)⟩;rintro rfl;exact f.ds i j d x b (kg hj) e z hp r1
 ·rw[aB (aO z h0)]
  exact f.up.same b u z
 ·rcases f.up.new b z with y|⟨y1,y2⟩
  ·exact .inl y
  ·exact .inr ⟨y1,λw=>y2 (nn b w)⟩
 ·by_cases hj:j=i
  ·subst hj
   rw[hp] at w;have:p=b:=by simpa using w
   subst this;exact h0
  ·rw[A2 j hj] at z
   exact f.new j x b z w
 ·by_cases hj:j=i
  ·subst hj
   rw[A2 k (kg Dy)] at z';exact f.ds j k d x' b Dy e z' w
  ·rw[A2 j hj] at z
   by_cases hk:k=i
   ·subst hk
    exact f.ds j k x d b Dy z e w
   ·rw[A2 k hk] at z'
    exact f.ds j k x x' b Dy z z' w
end
end
noncomputable def jq(K:PySem.W.Frag)(cl:Nat->Addr)(XE:Nat->St->Hp->Prop)(c_:Addr->Prop)(bx:Hp)(D:Ends):Out->Prop
 |.nx δ=>∀F σ H,m_ K cl c_ bx F H σ δ->D.nx σ H
 |.bk δ=>∀F σ H,m_ K cl c_ bx F H σ δ->D.bk σ H
 |.ct δ=>∀F σ H,m_ K cl c_ bx F H σ δ->D.ct σ H
 |.rt d=>∀F v H,Up c_ bx F H->Rep K cl F H d v->D.rt v H
 |.xc c δ=>∀F σ H,m_ K cl c_ bx F H σ δ->XE c σ H
 |.bad=>False
section
variable(X:Cx)(cl:Nat->Addr)(XE:Nat->St->Hp->Prop)(Φ:Nat->List D->R D)(G:List D)(n:Nat)
structure yw(sm:Sm)(st:Stmt):Prop where
 ok:∃t,PS X st t/\∀c_ bx F σ δ H D,m_ X.K cl c_ bx F H σ δ->jq X.K cl XE c_ bx D (bp Φ G n sm δ)->t D σ H
structure si(Lk:List Sm)(OO:List Stmt):Prop where
 ok:∃t,BP X OO t/\∀c_ bx F σ δ H D,m_ X.K cl c_ bx F H σ δ->jq X.K cl XE c_ bx D (av Φ G n Lk δ)->t D σ H
end
section
variable{X:Cx}{cl:Nat->Addr}{XE:Nat->St->Hp->Prop}{Φ:Nat->List D->R D}{G:List D}{n:Nat}{K:PySem.W.Frag}{c_ F F':Addr->Prop}{bx H H':Hp}{σ:St}{δ:iy}{W:Ends}
theorem GU:si X cl XE Φ G n [] []:=⟨_,mK,λc_ bx F σ δ H D f h=>by simp only[av] at h;exact h F σ H f⟩
theorem xM{st:Stmt}(h1:yw X cl XE Φ G n sm st)(h2:si X cl XE Φ G n Lk OO):si X cl XE Φ G n (sm::Lk) (st::OO):=by
 obtain⟨t,p1,i1⟩:=h1;obtain⟨u,p2,i2⟩:=h2;refine⟨_,bC p1 p2,λc_ bx F σ δ H D f h=>?_⟩;simp only[av] at h;refine i1 c_ bx F σ δ H _ f ?_
 cases e:bp Φ G n sm δ with
 |nx δ'=>rw[e] at h;exact λF' dk H' f'=>i2 c_ bx F' dk δ' H' D f' h
 |bk δ'=>rw[e] at h;exact h
 |ct δ'=>rw[e] at h;exact h
 |rt d=>rw[e] at h;exact h
 |xc c δ'=>rw[e] at h;exact h
 |bad=>rw[e] at h;exact h
theorem jq.of_ok{α:Type}{r:R α}{k:α->Out}{P:α->Prop}(h:jq K cl XE c_ bx W (Out.of r δ k))(hk:∀a,r=.ok a->jq K cl XE c_ bx W (k a)->P a):Meet r P (λc=>∀F σ H,m_ K cl c_ bx F H σ δ->XE c σ H):=by
 cases r with
 |ok a=>exact hk a rfl h
 |exc c=>exact h
 |bad=>exact h
theorem gU{e:Expr}{t:TE}(ie:∀F σ δ H Q,jg X.K cl F H σ δ->ax X.K cl (λc=>XE c σ) m (bq ex) F H Q (ev Φ G m ex δ)->t σ H Q)(f:m_ X.K cl c_ bx F H σ δ)
  (h:jq X.K cl XE c_ bx W (Out.of (ev Φ G m ex δ) δ k)) (hQ:∀d F' v H',Up F H F' H'->Gives X.K cl m (bq ex) F' H H' d v->jq X.K cl XE c_ bx W (k d)->Q v H'):t σ H Q:=by
 refine ie F σ δ H Q f.sees (Meet.mono (h.of_ok (P:=λd=>jq X.K cl XE c_ bx W (k d)) λa _ z=>z) (λd _ z F' v H' u g=>hQ d F' v H' u g z) λc z F' H' u=>z F' σ H' (f.to u))
theorem GV(hN:X.N.Nodup)(hi:X.N[i]?=some x)(hx:Loc X.env.scope x)(hf:X.fn x=true\/X.env.scope.names.lookup x=some .local)(hs:swapsWith e (some (.Name x pos')) pos.line X.env=pure false)
  (ie:dh X cl XE Φ G false ex e):yw X cl XE Φ G n (.bz i ex) (.Assign [.Name x pos'] e pos):=by
 obtain⟨t,pe,ie⟩:=ie;refine⟨_,p9 hN hi hx pe hs hf,λc_ bx F σ δ H D f h=>?_⟩;simp only[bp] at h;obtain⟨F1,s1,f1⟩:=f.bf (ai false ex);refine gU (e:=e) (m:=false) ie f1 h λd F' v H' u g z=>?_;have g':Res X.K cl (bq ex) F' H H' d v:=by unfold Gives at g;rw[bh kj] at g;exact g
 show D.nx (σ.set i (some v)) H';unfold Res at g';by_cases hc:(bq ex&&ba d)=true
 ·rw[bg hc] at g'
  obtain⟨p,rfl,hp,nF,o⟩:=g';rw[hc] at z;exact z F' _ H' (f1.own i u hp nF o)
 ·rw[bh hc] at g'
  rw[Bool.not_eq_true _|>.mp hc] at z;exact z F' _ H' ((f1.to u).set i g')
theorem gW(xb:bq ex=true)(ie:∃t,PS X (.Assign [.Name x pos'] e pos) (qj t (fj i))/\∀F σ δ H Q,jg X.K cl F H σ δ->ax X.K cl (λc=>XE c σ) false true F H Q (ev Φ G false ex δ)->t σ H Q):
  yw X cl XE Φ G n (.bz i ex) (.Assign [.Name x pos'] e pos):=by
 obtain⟨t,pe,ie⟩:=ie;refine⟨_,pe,λc_ bx F σ δ H D f h=>?_⟩;simp only[bp] at h;obtain⟨F1,s1,f1⟩:=f.bf (ai false ex);refine gU (ex:=ex) (e:=e) (m:=false) (λF σ δ H Q S z=>ie F σ δ H Q S (by rw[xb] at z;exact z)) f1 h λd F' v H' u g z=>?_;have g':Res X.K cl (bq ex) F' H H' d v:=by unfold Gives at g;rw[bh kj] at g;exact g
 show D.nx (σ.set i (some v)) H';unfold Res at g';by_cases hc:(bq ex&&ba d)=true
 ·rw[bg hc] at g'
  obtain⟨p,rfl,hp,nF,o⟩:=g';rw[hc] at z;exact z F' _ H' (f1.own i u hp nF o)
 ·rw[bh hc] at g'
  rw[Bool.not_eq_true _|>.mp hc] at z;exact z F' _ H' ((f1.to u).set i g')
theorem GW(hN:X.N.Nodup)(hi:X.N[i]?=some x)(hx:Loc X.env.scope x)(hf:X.fn x=true\/X.env.scope.names.lookup x=some .local)(hs:swapsWith (.Dict [] [] p) (some (.Name x pos')) pos.line X.env=pure false):
  yw X cl XE Φ G n (.new i) (.Assign [.Name x pos'] (.Dict [] [] p) pos):=by
 refine⟨_,p9 hN hi hx wL hs hf,λc_ bx F σ δ H D f h=>?_⟩;simp only[bp] at h;intro a ha;exact h F _ _ (f.own i (d:=.jt [] []) (Up.alloc ha) ha (f.sees.Ag.fresh ha) ⟨[],aC,rfl,bb.nil⟩)
theorem GX(ie:dh X cl XE Φ G false ex e):yw X cl XE Φ G n (.ret ex) (.Return (some e) pos):=by
 obtain⟨t,pe,ie⟩:=ie;refine⟨_,wA pe,λc_ bx F σ δ H D f h=>?_⟩;simp only[bp] at h;obtain⟨F1,s1,f1⟩:=f.bf (ai false ex);refine gU (e:=e) (m:=false) ie f1 h λd F' v H' u g z=>?_;have g':Res X.K cl (bq ex) F' H H' d v:=by unfold Gives at g;rw[bh kj] at g;exact g
 obtain⟨F2,u2,_,rp⟩:=g'.keep u;exact z F2 v H' (f1.up.trans u2) rp
theorem Ll{sa sb:List Sm}(ic:B_ X cl XE Φ G tx c)(ia:si X cl XE Φ G n sa a)(ib:si X cl XE Φ G n sb b):yw X cl XE Φ G n (.ite tx sa sb) (.If c a b pos):=by
 obtain⟨tc,pc,ic⟩:=ic;obtain⟨ta,pa,ia⟩:=ia;obtain⟨tb,pb,ib⟩:=ib;refine⟨_,wB pc pa pb,λc_ bx F σ δ H D f h=>?_⟩;simp only[bp] at h;obtain⟨F1,s1,f1⟩:=f.bf (au tx);refine ic F1 σ _ H _ f1.sees (Meet.mono (h.of_ok (P:=λt=>jq X.K cl XE c_ bx D (if t then av Φ G n sa (Py.bf (au tx) δ) else av Φ G n sb (Py.bf (au tx) δ))) λa _ z=>z) (λt _ z F' H' u=>?_) λc z F' H' u=>z F' σ H' (f1.to u))
 cases t with
 |true=>rw[bg rfl] at z⊢;exact ia c_ bx F' σ _ H' D (f1.to u) z
 |false=>rw[bh kj] at z⊢;exact ib c_ bx F' σ _ H' D (f1.to u) z
theorem uW{st:Stmt}(h:PS X st (Eb XE c)):yw X cl XE Φ G n (.yi c) st:=⟨_,h,λc_ bx F σ δ H D f z=>by simp only[bp] at z;exact z F σ H f⟩
theorem GY(hN:X.N[i]?=some x)(hv:DM X.env.scope x)(hd:(x==("__debug__":Str))=false)(uj:(x==("__classdict__":Str))=false)
  (mj:attributeBase (.Name x p) "append" X.env (eval (.Name x p) X.env)=eval (.Name x p) X.env) (mq:(apos.endLine==gr.line)=true) (hs:starEach [e] X.env=[(false,eval e X.env)])
  (AY:swapsWith (.Call (.Attribute (.Name x p) "append" apos) [e] [] gr) none pos.line X.env=pure false)
  (ie:dh X cl XE Φ G false ex e):yw X cl XE Φ G n (.app i ex) (.Expr (.Call (.Attribute (.Name x p) "append" apos) [e] [] gr) pos):=by
 obtain⟨t,pe,ie⟩:=ie;have A1:starEach (e::[]) X.env=(false,eval e X.env)::starEach [] X.env:=hs;refine⟨_,sH (IF PySem.F.plainAttrs_list PySem.F.slot_list_append PySem.F.type_list_append fP (iV hN hv hd uj) (gz pe mh A1) mj (by rw[hs];rfl) mq A1 rfl) AY,λc_ bx F σ δ H D f h=>?_⟩;simp only[bp] at h;obtain⟨F1,s1,f1⟩:=f.bf (ai false ex);generalize QP:Py.bf (ai false ex) δ=A3 at h f1;by_cases ho:yj A3 i=true
 ·rw[bg ho] at h
  obtain⟨xs,e0⟩:∃xs,A3[i]?=some (some (true,.ak xs)):=by
   unfold yj at ho;split at ho
   ·rename_i xs e;exact⟨xs,e⟩
   ·cases ho
  obtain⟨a,q1,q2,q3⟩:=f1.sees.ow i _ e0;obtain⟨T6,w1,w2⟩:=id q3;refine⟨.ref a,q1,.inl ⟨rfl,T6,lj.of w1⟩,?_⟩;refine gU (e:=e) (m:=false) ie f1 h λd F' v H' u g z=>?_;have g':Res X.K cl (bq ex) F' H H' d v:=by unfold Gives at g;rw[bh kj] at g;exact g
  obtain⟨F2,u2,OP,rp⟩:=g'.keep u;have f2:=f1.to u2;obtain⟨a',IV,OQ,vs,w1,w2⟩:=f2.sees.ow i _ e0;rw[q1] at IV;have:a=a':=by simpa using IV
  subst this;simp only[Ej,e0] at z;by_cases hl:xs.length<jj
  ·rw[bg hl] at z
   refine⟨a,vs,v,rfl,rfl,w1,by rw[w2.length];exact AR hl (by decide),?_⟩;have pr:iq F2 H' (L2.upd H' a (.ak (vs++[v]))):=iq.upd OQ (λys y=>by rw[w1] at y;cases y) λo u y=>by rw[w1] at y;cases y
   exact z F2 σ _ (f2.write i e0 q1 (.inl ⟨_,rfl⟩) ⟨_,aC,(w2.mono pr λ_ y=>y).append (bb.cons (rp.mono pr λ_ y=>y) bb.nil)⟩)
  ·rw[bh hl] at z;exact z.elim
 ·rw[bh ho] at h;exact h.elim
end
section
variable{X:Cx}{cl:Nat->Addr}{XE:Nat->St->Hp->Prop}{Φ:Nat->List D->R D}{G:List D}{n:Nat}{K:PySem.W.Frag}{c_ F F':Addr->Prop}{bx H H':Hp}{σ:St}{δ:iy}{W:Ends}
theorem Lm(h:B8 n j=some k):Dt n j=some k:=by
 unfold B8 at h;unfold Dt;by_cases h0:0<=j
 ·rw[bg h0] at h⊢
  exact h
 ·rw[bh h0] at h⊢
  exact h
theorem GZ(hN:X.N[i]?=some x)(hv:DM X.env.scope x)(hd:(x==("__debug__":Str))=false)(uj:(x==("__classdict__":Str))=false)
  (AY:swapsWithSole [.Subscript (.Name x p) ie ps] e pos.line X.env=pure false) (hw:swappedStores [.Subscript (.Name x p) ie ps] e X.env=pure none) (h1:(assignEach [.Subscript (.Name x p) ie ps] X.env).map (·.2)=[assign (.Subscript (.Name x p) ie ps) X.env])
  (ha:∀v,assign (.Subscript (.Name x p) ie ps) X.env v=(do
   let ov←holding [v] (eval (.Name x p) X.env)
   let iv←holding [v,ov] (eval ie X.env)
   standAt ps
   holding [v,ov,iv] (setItem ov iv v)
   release [v,ov,iv] []))
  (i1:dh X cl XE Φ G false ex e) (i2:dh X cl XE Φ G true ix ie):yw X cl XE Φ G n (.put i ix ex) (.Assign [.Subscript (.Name x p) ie ps] e pos):=by
 obtain⟨t,pe,i1⟩:=i1;obtain⟨u,pi,i2⟩:=i2;refine⟨_,p8 pe (wC (iV hN hv hd uj) pi oD ha) AY hw h1,λc_ bx F σ δ H W f h=>?_⟩;simp only[bp] at h;obtain⟨F1,s1,f1⟩:=f.bf (ai false ex++ai true ix);generalize QP:Py.bf (ai false ex++ai true ix) δ=A3 at h f1;by_cases ho:yj A3 i=true
 ·rw[bg ho] at h
  obtain⟨xs,e0⟩:∃xs,A3[i]?=some (some (true,.ak xs)):=by
   unfold yj at ho;split at ho
   ·rename_i xs e;exact⟨xs,e⟩
   ·cases ho
  refine gU (e:=e) (m:=false) i1 f1 h λd F' v H' uu g z=>?_;have g':Res X.K cl (bq ex) F' H H' d v:=by unfold Gives at g;rw[bh kj] at g;exact g
  obtain⟨F2,u2,OP,rp⟩:=g'.keep uu;have f2:=f1.to u2;obtain⟨a,q1,q2,T6,Vh,Vi⟩:=f2.sees.ow i _ e0;refine⟨.ref a,q1,?_⟩;refine gU (e:=ie) (m:=true) i2 f2 z λk F3 y H3 u3 g3 z3=>?_;have f3:=f2.to u3;obtain⟨a',IV,OQ,vs,w1,w2⟩:=f3.sees.ow i _ e0;rw[q1] at IV;have:a=a':=by simpa using IV
  subst this
  cases k with
  |int j=>
   simp only[putD,e0] at z3
   cases hj:B8 xs.length j with
   |none=>rw[hj] at z3;exact z3.elim
   |some m=>
    rw[hj] at z3;rw[g3.got.int];refine⟨a,vs,j,m,rfl,rfl,w1,Lm (by rw[w2.length];exact hj),?_⟩;have pr:iq F3 H3 (L2.upd H3 a (.ak (vs.set m v))):=iq.upd OQ (λys y=>by rw[w1] at y;cases y) λo u y=>by rw[w1] at y;cases y
    exact z3 F3 σ _ (f3.write i e0 q1 (.inl ⟨_,rfl⟩) ⟨_,aC,(w2.mono pr λ_ y=>y).set m ((rp.up u3).mono pr λ_ y=>y)⟩)
  |_=>simp only[putD,e0] at z3<;>exact z3.elim
 ·rw[bh ho] at h;exact h.elim
theorem G0(rv:Rep K cl F H d v):∀{ks:List Int}{ds:List D}{kvs:List (Key×V)},kvs.map (·.1)=ks.map Sum.inl->bb K cl F H ds (kvs.map (·.2))->
  (j∈ks->(putK kvs (Sum.inl j:Key) v).map (·.1)=ks.map Sum.inl/\bb K cl F H (Ei ks ds j d) ((putK kvs (Sum.inl j:Key) v).map (·.2)))/\
  (j∉ks->(putK kvs (Sum.inl j:Key) v).map (·.1)=(ks++[j]).map Sum.inl/\bb K cl F H (ds++[d]) ((putK kvs (Sum.inl j:Key) v).map (·.2))):=by
 intro ks ds kvs hk r;have Ln:(kvs.any λkv=>decide (kv.1=(Sum.inl j:Key)))=decide (j∈ks):=by
  clear r
  induction kvs generalizing ks with
  |nil=>cases ks with|nil=>rfl|cons _ _=>simp at hk
  |cons kv kvs ih=>
   cases ks with
   |nil=>simp at hk
   |cons k ks=>
    simp only[j_,List.cons.injEq] at hk;rw[Fp,ih hk.2,hk.1];by_cases e:k=j
    ·subst e;simp
    ·have e':¬(Sum.inl k:Key)=Sum.inl j:=λz=>e (Sum.inl.inj z)
     simp[e,e',kg e]
 refine⟨λhj=>?_,λhj=>?_⟩
 ·unfold putK
  rw[Ln,bg (ya hj)];clear Ln hj
  induction kvs generalizing ks ds with
  |nil=>
   cases ks with
   |nil=>cases ds with|nil=>exact⟨rfl,bb.nil⟩|cons _ _=>exact⟨rfl,bb.nil⟩
   |cons _ _=>simp at hk
  |cons kv kvs ih=>
   cases ks with
   |nil=>simp at hk
   |cons k ks=>
    simp only[j_,List.cons.injEq] at hk
    cases ds with
    |nil=>have:=r.length;simp at this
    |cons d0 ds=>
     obtain⟨v0,r0,z,a1,a2⟩:=r.cons_inv;have z':kv.2=v0/\kvs.map (·.2)=r0:=by simpa using z
     obtain⟨rfl,rfl⟩:=z';obtain⟨QN,M6⟩:=ih hk.2 a2;by_cases e:k=j
     ·have e':kv.1=(Sum.inl j:Key):=by rw[hk.1,e]
      simp only[j_,bg e',Ei,bg e];exact⟨by rw[QN,hk.1],bb.cons rv M6⟩
     ·have e':¬kv.1=(Sum.inl j:Key):=by rw[hk.1];exact λz=>e (Sum.inl.inj z)
      simp only[j_,bh e',Ei,bh e];exact⟨by rw[QN,hk.1],bb.cons a1 M6⟩
 ·unfold putK
  rw[Ln,bh (by simpa using hj)];rw[wj,wj,wj,hk];exact⟨rfl,r.append (bb.cons rv bb.nil)⟩
theorem xN(hu:X.A.units+1<cLine)(hN:X.N[i]?=some x)(hv:DM X.env.scope x)(hd:(x==("__debug__":Str))=false)(uj:(x==("__classdict__":Str))=false)
  (hs:swapsWith e (some (.Subscript (.Name x p) ie ps)) pos.line X.env=pure false) (i1:dh X cl XE Φ G false ex e) (i2:dh X cl XE Φ G true ix ie):yw X cl XE Φ G n (.dput i ix ex) (.Assign [.Subscript (.Name x p) ie ps] e pos):=by
 obtain⟨t,pe,i1⟩:=i1;obtain⟨u,pi,i2⟩:=i2;refine⟨_,FY hu (iV hN hv hd uj) pi pe hs,λc_ bx F σ δ H W f h=>?_⟩;simp only[bp] at h;obtain⟨F1,s1,f1⟩:=f.bf (ai false ex++ai true ix);generalize QP:Py.bf (ai false ex++ai true ix) δ=A3 at h f1;by_cases ho:Gr A3 i=true
 ·rw[bg ho] at h
  obtain⟨ks,ds,e0⟩:∃ks ds,A3[i]?=some (some (true,.jt ks ds)):=by
   unfold Gr at ho;split at ho
   ·rename_i ks ds e;exact⟨ks,ds,e⟩
   ·cases ho
  refine gU (e:=e) (m:=false) i1 f1 h λd F' v H' uu g z=>?_;have g':Res X.K cl (bq ex) F' H H' d v:=by unfold Gives at g;rw[bh kj] at g;exact g
  obtain⟨F2,u2,OP,rp⟩:=g'.keep uu;have f2:=f1.to u2;obtain⟨a,q1,q2,WM,Vh,Vi,WN⟩:=f2.sees.ow i _ e0;refine⟨.ref a,q1,?_⟩;refine gU (e:=ie) (m:=true) i2 f2 z λk F3 y H3 u3 g3 z3=>?_;have f3:=f2.to u3;obtain⟨a',IV,OQ,kvs,w1,w2,w3⟩:=f3.sees.ow i _ e0;rw[q1] at IV;have:a=a':=by simpa using IV
  subst this
  cases k with
  |int j=>
   simp only[CF,e0] at z3;by_cases hl:ks.length<jj
   ·rw[bg hl] at z3
    rw[g3.got.int];have Vj:kvs.length=ks.length:=by have:=congrArg List.length w2;simpa using this
    refine⟨a,_,rfl,B4.k (k:=Sum.inl j) w1 (by rw[Vj];exact AR hl (by decide)),?_⟩;have pr:iq F3 H3 (L2.upd H3 a (.dK (putK kvs (Sum.inl j) v))):=iq.upd OQ (λys y=>by rw[w1] at y;cases y) λo u y=>by rw[w1] at y;cases y
    have rv:=(rp.up u3).mono (F':=F3) pr λ_ y=>y;have pk:=G0 (j:=j) rv w2 (w3.mono (F':=F3) pr λ_ y=>y);by_cases hj:j∈ks
    ·rw[bg hj] at z3
     exact z3 F3 σ _ (f3.write i e0 q1 (.inr ⟨_,rfl⟩) ⟨_,aC,(pk.1 hj).1,(pk.1 hj).2⟩)
    ·rw[bh hj] at z3
     exact z3 F3 σ _ (f3.write i e0 q1 (.inr ⟨_,rfl⟩) ⟨_,aC,(pk.2 hj).1,(pk.2 hj).2⟩)
   ·rw[bh hl] at z3;exact z3.elim
  |_=>simp only[CF,e0] at z3<;>exact z3.elim
 ·rw[bh ho] at h;exact h.elim
theorem m_.rebase(f:m_ K cl c_ bx F H σ δ):∃Hm,m_ K cl F Hm F H σ δ/\∀F' H',Up F Hm F' H'->Up c_ bx F' H'/\iq F H H'/\(∀a,F a->F' a)/\∀dk δ',m_ K cl F Hm F' H' dk δ'->m_ K cl c_ bx F' H' dk δ':=by
 classical
 let Ca:Addr->Prop:=λa=>∃(i:Nat)(d:D),δ[i]?=some (some (true,d))/\σ[i]?=some (some (.ref a))
 let Hm:Hp:=λa=>if Ca a then none else H a
 have h1:∀a,Ca a->Hm a=none:=λa h=>bg h;have h2:∀a,¬Ca a->Hm a=H a:=λa h=>bh h;have sub:∀a o,Hm a=some o->H a=some o:=λa o e=>by
  by_cases hm:Ca a
  ·rw[h1 a hm] at e;cases e
  ·rw[h2 a hm] at e;exact e
 have So:∀a o,bx a=some o->¬Ca a:=λa o e ⟨i,d,e1,e2⟩=>by rw[f.new i d a e1 e2] at e;cases e
 have old:∀a o,bx a=some o->Hm a=some o:=λa o e=>by rw[h2 a (So a o e)];exact f.up.same a o e
 have nF:∀a,F a->¬Ca a:=λa fa ⟨i,d,e1,e2⟩=>by
  obtain⟨a',q1,q2,_⟩:=f.sees.ow i d e1;rw[e2] at q1;have:a=a':=by simpa using q1
  subst this;exact q2 fa
 have at':∀a,Ca a->(∃vs,H a=some (.ak vs))\/∃kvs,H a=some (.dK kvs):=λa ⟨i,d,e1,e2⟩=>by
  obtain⟨a',q1,q2,o⟩:=f.sees.ow i d e1;rw[e2] at q1;have:a=a':=by simpa using q1
  subst this;exact o.at
 refine⟨Hm,⟨f.sees,⟨sub,λ_ h=>h,λ_ h=>.inl h⟩,λi d a e1 e2=>h1 a ⟨i,d,e1,e2⟩,f.ds⟩,λF' H' u=>?_⟩;have up:Up c_ bx F' H':=by
  refine⟨λa o e=>u.same a o (old a o e),λa h=>u.sub a (f.up.sub a h),λa h=>?_⟩;rcases u.new a h with z|⟨z1,z2⟩
  ·rcases f.up.new a z with y|⟨y1,y2⟩
   ·exact .inl y
   ·refine .inr ⟨y1,λw=>?_⟩
    cases q:H a with
    |none=>exact y2 q
    |some o=>
     have:=u.same a o (by rw[h2 a (nF a z)];exact q);rw[w] at this;cases this
  ·refine .inr ⟨?_,z2⟩
   cases q:bx a with
   |none=>rfl
   |some o=>rw[old a o q] at z1;cases z1
 refine⟨up,⟨λa o fa e=>u.same a o (by rw[h2 a (nF a fa)];exact e),λa xs e=>u.same a _ (by rw[h2 a λm=>(at' a m).elim (λ⟨_,z⟩=>by rw[e] at z;cases z) λ⟨_,z⟩=>by rw[e] at z;cases z];exact e),
  λa o w e=>u.same a _ (by rw[h2 a λm=>(at' a m).elim (λ⟨_,z⟩=>by rw[e] at z;cases z) λ⟨_,z⟩=>by rw[e] at z;cases z];exact e)⟩,u.sub,λdk δ' g=>⟨g.sees,up,λi d a e1 e2=>?_,g.ds⟩⟩
 have z:=g.new i d a e1 e2
 cases q:bx a with
 |none=>rfl
 |some o=>rw[old a o q] at z;cases z
theorem m_.sets:∀(is:List Nat){ds:List D}{vs:List V}{σ:St}{δ:iy},m_ K cl c_ bx F H σ δ->bb K cl F H ds vs->m_ K cl c_ bx F H (jh σ is vs) (sets δ is ds)
 |[],_,_,_,_,f,_=>by simpa[jh,Py.sets] using f
 |i::is,[],vs,_,_,f,r=>by rw[r.nil_inv];simpa[jh,Py.sets] using f
 |i::is,d::ds,vs,σ,δ,f,r=>by
  obtain⟨v,r',rfl,h1,h2⟩:=r.cons_inv;simp only[jh,Py.sets];exact m_.sets is (f.set i h1) h2
end
section
variable{X:Cx}{cl:Nat->Addr}{XE:Nat->St->Hp->Prop}{Φ:Nat->List D->R D}{G:List D}{n:Nat}{K:PySem.W.Frag}{c_ F F':Addr->Prop}{bx H H':Hp}{σ:St}{δ:iy}{W:Ends}
theorem PS.yn{st:Stmt}(h:PS X.yn st t):PS X st t:=λae s σ H D I hw=>
 ur (h ae s σ H D (I.Ak _) hw) (λ_ _ q=>q.qw) λ_ _ z=>False.elim z
theorem xO(hc:X.calm=true)(hi:Dc X.yn cl (λ_ _ _=>False) Φ G false k its tg iter)(hg:Er X.yn cl CG g tg)
  (hb:si X.yn cl (λ_ _ _=>False) Φ G n body b) (hs:∀x,foldedSetIterable iter X.env x=pure x):yw X cl XE Φ G n (.loop k its CG body) (.For tg iter b [] pos):=by
 obtain⟨wi,pi,hw⟩:=hi;obtain⟨pg,Vk⟩:=hg;obtain⟨tb,pb,ib⟩:=hb;refine⟨_,PS.yn (wF (X:=X.yn) PassesOwn.never hc pi pg pb hs),λc_ bx F σ δ H W f h=>?_⟩;simp only[bp] at h;obtain⟨F1,s1,f1⟩:=f.bf (aq false its);generalize QP:Py.bf (aq false its) δ=A3 at h f1;refine hw F1 σ A3 H _ f1.sees ?_
 cases e:(ck Φ G false its A3).bind (bo k) with
 |bad=>rw[e] at h;exact h
 |exc c=>rw[e] at h;exact(show False from h).elim
 |ok xs=>
  rw[e] at h;have h:jq X.K cl XE c_ bx W (forM (λx δ'=>match br CG.length x with
    |none=>.bad
    |some ts=>av Φ G n body (sets δ' CG ts)) xs A3):=h
  generalize T7:(λx δ'=>match br CG.length x with
    |none=>Out.bad
    |some ts=>av Φ G n body (sets δ' CG ts))=fb at h
  intro F2 H2 J P u2 W2 p2;refine⟨λi m dk H'=>m=xs.length-i/\i<=xs.length/\∃F' δ',m_ X.K cl c_ bx F' H' dk δ'/\P F' H'/\jq X.K cl XE c_ bx W (forM fb (xs.drop i) δ'),⟨_,rfl,E3 _,F2,A3,f1.to u2,p2,by simpa using h⟩,?_⟩;rintro i m dk H' ⟨rfl,hi,F',δ',f',pH,h'⟩;by_cases lq:i<xs.length
  ·refine .inr ?_
   obtain⟨go,yl⟩:=W2.go F' H' i xs[i] pH (by simp[lq]);refine⟨go,λBp H3=>∃F3 OR,m_ X.K cl c_ bx F3 H3 Bp OR/\P F3 H3/\jq X.K cl XE c_ bx W (forM fb (xs.drop (i+1)) OR),λBp H3 z=>⟨xs.length-(i+1),by omega,rfl,lq,z⟩,λv H3 hy=>?_⟩;obtain⟨u3,rv⟩:=yl v H3 hy;have f3:=f'.to u3;have p3:P F' H3:=W2.st F' H' F' H3 pH (by unfold E5;rw[bh kj];exact iq.of_same u3.same) λ_ z=>z;rw[MP lq,Py.forM.eq_2] at h'
   cases CV:br CG.length xs[i] with
   |none=>
    have:fb xs[i] δ'=.bad:=by rw[←T7];simp only[CV]
    rw[this] at h';exact h'.elim
   |some ts=>
    have hx:fb xs[i] δ'=av Φ G n body (sets δ' CG ts):=by rw[←T7];simp only[CV]
    rw[hx] at h';refine Vk F' H3 dk v xs[i] ts _ CV rv λvs Vl=>?_;have f4:=f3.sets CG Vl;obtain⟨Hm,f5,back⟩:=f4.rebase;refine ib F' Hm F' _ _ H3 _ f5 ?_
    cases e2:av Φ G n body (sets δ' CG ts) with
    |nx CH=>
     rw[e2] at h';intro F6 Dr H6 f6;obtain⟨up,pr,sb,bk⟩:=back F6 H6 f6.up;exact⟨F6,CH,bk Dr CH f6,W2.st F' H3 F6 H6 p3 (by unfold E5;rw[bh kj];exact pr) sb,h'⟩
    |ct CH=>
     rw[e2] at h';intro F6 Dr H6 f6;obtain⟨up,pr,sb,bk⟩:=back F6 H6 f6.up;exact⟨F6,CH,bk Dr CH f6,W2.st F' H3 F6 H6 p3 (by unfold E5;rw[bh kj];exact pr) sb,h'⟩
    |bk CH=>
     rw[e2] at h';intro F6 Dr H6 f6;obtain⟨up,pr,sb,bk⟩:=back F6 H6 f6.up;exact h' F6 Dr H6 (bk Dr CH f6)
    |rt d=>
     rw[e2] at h';intro F6 v6 H6 u6 r6;exact h' F6 v6 H6 (back F6 H6 u6).1 r6
    |xc c CH=>rw[e2] at h';exact(show False from h').elim
    |bad=>rw[e2] at h';exact h'
  ·have ei:i=xs.length:=by omega
   subst ei;refine .inl ⟨W2.stop F' H' pH,?_⟩;rw[List.drop_length,Py.forM.eq_1] at h';exact h' F' dk H' f'
theorem uX(hi:B_ X.yn cl (λ_ _ _=>False) Φ G tx c)(hb:si X.yn cl (λ_ _ _=>False) Φ G n body b):yw X cl XE Φ G n (.Dx tx body) (.While c b [] pos):=by
 obtain⟨tc,pc,ic⟩:=hi;obtain⟨tb,pb,ib⟩:=hb;refine⟨_,PS.yn (n6 (X:=X.yn) PassesOwn.never pc pb),λc_ bx F σ δ H W f h=>?_⟩;simp only[bp] at h;refine⟨λm dk H'=>∃F' δ',m_ X.K cl c_ bx F' H' dk δ'/\jq X.K cl XE c_ bx W (A0 (du Φ G tx) (Py.bf (au tx)) (av Φ G n body) m δ'),⟨n,F,δ,f,h⟩,?_⟩;rintro m dk H' ⟨F',δ',f',h'⟩
 cases m with
 |zero=>exact h'.elim
 |succ m=>
  obtain⟨F1,s1,f1⟩:=f'.bf (au tx);simp only[A0] at h';refine ic F1 dk _ H' _ f1.sees ?_
  cases e:du Φ G tx (Py.bf (au tx) δ') with
  |bad=>rw[e] at h';exact h'
  |exc c=>rw[e] at h';exact(show False from h').elim
  |ok t=>
   rw[e] at h';intro F2 H2 u2
   cases t with
   |true=>
    rw[bg rfl];refine⟨λBp H3=>∃F3 OR,m_ X.K cl c_ bx F3 H3 Bp OR/\jq X.K cl XE c_ bx W (A0 (du Φ G tx) (Py.bf (au tx)) (av Φ G n body) m OR),λBp H3 z=>⟨m,EZ m,z⟩,?_⟩;refine ib c_ bx F2 dk _ H2 _ (f1.to u2) ?_
    cases e2:av Φ G n body (Py.bf (au tx) δ') with
    |nx CH=>rw[e2] at h';exact λF6 Dr H6 f6=>⟨F6,CH,f6,h'⟩
    |ct CH=>rw[e2] at h';exact λF6 Dr H6 f6=>⟨F6,CH,f6,h'⟩
    |bk CH=>rw[e2] at h';exact λF6 Dr H6 f6=>h' F6 Dr H6 f6
    |rt d=>rw[e2] at h';exact h'
    |xc c CH=>rw[e2] at h';exact(show False from h').elim
    |bad=>rw[e2] at h';exact h'
   |false=>
    rw[bh kj];exact h' F2 dk H2 (f1.to u2)
noncomputable def Sq(K:PySem.W.Frag)(cl:Nat->Addr)(XE:Nat->St->Hp->Prop)(Φ:Nat->List D->R D)(G:List D)(n:Nat)(Lk:List Sm):TS:=λW σ H=>∃c_ bx F δ,m_ K cl c_ bx F H σ δ/\jq K cl XE c_ bx W (av Φ G n Lk δ)
theorem si.Vm(h:si X cl XE Φ G n Lk OO):BP X OO (Sq X.K cl XE Φ G n Lk):=by
 obtain⟨t,p,i⟩:=h;exact λae s σ H W I ⟨c_,bx,F,δ,f,z⟩=>p ae s σ H W I (i c_ bx F σ δ H W f z)
theorem jq.quiet(h:jq K cl XE c_ bx W (match o with|.xc _ _=>.bad|o=>o)):jq K cl (λ_ _ _=>False) c_ bx W o:=by
 cases o<;>first|exact h|exact(show False from h).elim
theorem G3{CE:Addr}(hx:X.ex=[])(AV:X.stack=X.env::X.outer)(Ee:X.env.frame=some X.env.locals)(hg:Gl X cn)(hm:X.mg cn=some (.ref CE))(vx:(cn==("__debug__":Str))=false)
  (Iz:∀c∈cs,PySem.W.exmOne X.K (.ref (cl c)) (.ref CE)=some true) (ib:∀ae XH,si (xt X cl ae XH) cl XH Φ G n body b) (ih:∀a,si (Ed X a) cl (λ_ _ _=>False) Φ G n hb (b0::xu)):
  yw X cl XE Φ G n (.Gq body cs none hb) (.Try b [.ExceptHandler (some (.Name cn np)) none (b0::xu) C6] [] [] pos):=by
 refine⟨_,KL (cl:=cl) (th:=Sq X.K cl (λ_ _ _=>False) Φ G n hb) hx AV Ee hg hm vx λa=>(ih a).Vm,λc_ bx F σ δ H W f h ae=>?_⟩;obtain⟨t,p,i⟩:=ib ae (TK X cl CE (Sq X.K cl (λ_ _ _=>False) Φ G n hb) W);refine⟨t,p,i c_ bx F σ δ H W f ?_⟩;simp only[bp] at h
 cases e:av Φ G n body δ with
 |xc c δ'=>
  rw[e] at h;intro F' dk H' f';by_cases hc:cs.contains c=true
  ·simp only[hc,cw] at h
   exact⟨Iz c (by simpa using hc),c_,bx,F',δ',f',h.quiet⟩
  ·simp only[hc] at h;exact(show False from h).elim
 |nx δ'=>rw[e] at h;exact h
 |bk δ'=>rw[e] at h;exact h
 |ct δ'=>rw[e] at h;exact h
 |rt d=>rw[e] at h;exact h
 |bad=>rw[e] at h;exact h
end
section
variable{P:Program}{w:World}{K:PySem.W.Frag}{mg:Str->Option Value}{base:Heap}{cl:Nat->Addr}{Pg:Prog}
theorem oR{Fn:Py.Fn}(hf:Pg.fns[f]?=some Fn)(h:zt K cl (bt Pg k) f vs H Q E):vs.length=Fn.np:=by
 obtain⟨F,ds,tr,r,z⟩:=h;rw[r.length]
 cases k with
 |zero=>exact z.elim
 |succ k=>
  simp only[bt,hf] at z;by_cases hl:ds.length=Fn.np
  ·exact hl
  ·rw[bh hl] at z;exact z.elim
theorem uY{Fn:Py.Fn}(tr:AH F H)(r:bb K cl F H ds vs)(hl:ds.length=Fn.np)(hn:Fn.ns=N.length)(hp:Fn.np<=Fn.ns):m_ K cl F H F H (start N vs) (vh Fn ds):=by
 have T8:=r.length;have get:∀(i:Nat)(o:Bool×D),(vh Fn ds)[i]?=some (some o)->∃d,ds[i]?=some d/\o=(false,d):=λi o z=>by
  unfold vh at z;by_cases hi:i<ds.length
  ·rw[DF (by simpa using hi),A9] at z
   cases e:ds[i]? with
   |none=>rw[e] at z;cases z
   |some d=>rw[e] at z;cases z;exact⟨d,rfl,rfl⟩
  ·rw[DE (by simpa using hi),Ig] at z
   split at z<;>cases z
 refine⟨⟨?_,tr,λi d z=>?_,λi d z=>?_⟩,Up.refl F H,λi d a z _=>?_,λi j d e a _ z _ _=>?_⟩
 ·unfold start vh
  rw[vm,vm,gh,gh,Jq,Jq];omega
 ·obtain⟨d',e1,e2⟩:=get i _ z
  cases e2;obtain⟨v,e3,rv⟩:=r.get e1;refine⟨v,?_,rv⟩;unfold start;rw[DF (by
   have:=(List.getElem?_eq_some_iff.mp e3).1;simpa using this),A9,e3]
  rfl
 ·obtain⟨d',_,e2⟩:=get i _ z;cases e2
 ·obtain⟨d',_,e2⟩:=get i _ z;cases e2
 ·obtain⟨d',_,e2⟩:=get i _ z;cases e2
noncomputable abbrev T9(P:Program)(w:World)(K:PySem.W.Frag)(mg:Str->Option Value)(base:Heap)(N:List Str)(qual:Str)(scope:Scope)(f:Addr)(cd:Value)(A:Around)(outer:List Env)(s:Shared)(H:Hp)(E:XK):Cx:=
 yc (yu P w) P w K mg base N qual scope f cd A outer s H E
theorem xP{st:Stmt}{Fn:Py.Fn}(F:Ge K x qual st fa fd)(S:vw N ps (d_ st))(hf:Pg.fns[f]?=some Fn)(T_:Fn.np=ps.length)(Kt:Fn.ns=N.length)
  (hb:∀(cd:Value)(A:Around)(outer:List Env)(s:Shared)(H:Hp)(E:XK),mf k (A.deeper (envOfC qual (d_ st) s.heap.objs.size fa cd))->
   si (T9 P w K mg base N qual (d_ st) fa cd A outer s H E) cl (λc _ H'=>E (.ref (cl c)) none H') (bt Pg j) Pg.fk 1000 Fn.body (ng st)):
  u_ P w K mg base (yu P w) (k+1) fa fd ps (zt K cl (bt Pg (j+1)) f):=by
 obtain⟨oc,od,kV,doc,pm,an,yd,ct,J9,rfl,lk,uj⟩:=F.ex;refine Iw lk uj S (λvs H Q E h=>by rw[oR hf h,T_]) λA outer s H vs Q E hr h=>?_;have T8:=oR hf h;obtain⟨F0,ds,tr,r,z⟩:=h;obtain⟨t,pt,it⟩:=hb yd A outer s H E hr;have hl:ds.length=Fn.np:=by rw[←r.length];exact T8
 have hle:Fn.np<=Fn.ns:=by
  rw[T_,Kt];have:=congrArg List.length S.pre;rw[Be] at this;omega
 refine⟨t,pt,it F0 H F0 (start N vs) (vh Fn ds) H _ (uY tr r hl Kt hle) ?_⟩;simp only[bt,hf,bg hl] at z
 cases e:av (bt Pg j) Pg.fk 1000 Fn.body (vh Fn ds) with
 |nx δ=>rw[e] at z;exact λF' dk H' f'=>z F' .de H' f'.up (by simp[Rep])
 |rt d=>rw[e] at z;exact λF' v H' u rp=>z F' v H' u rp
 |xc c δ=>rw[e] at z;exact λF' dk H' f'=>z F' H' f'.up
 |bk δ=>rw[e] at z;exact z.elim
 |ct δ=>rw[e] at z;exact z.elim
 |bad=>rw[e] at z;exact z.elim
theorem xQ:u_ P w K mg base (yu P w) k fa fd ps (zt K cl (bt Pg 0) f):=
 ⟨λvs H Q E ⟨F,ds,_,_,z⟩=>z.elim,λA outer s H args us vs Q E _ _ _ _ ⟨F,ds,_,_,z⟩=>z.elim⟩
end
end L2.Snd
namespace L2
open PySem PySem.Spec PyProof.Rows
theorem uZ{P:Program}{w:World}{K:PySem.W.Frag}{mg mb:Str->Option Value}{CX:MX}{k:Nat}{fa a:Addr}{fd:FuncData}{x:Str}{sp:Sp}{fm:Shared}{vs:List Value}{ns:List Int}
  (KX:K.In fm.heap) (Kt:fm.heap.Ns mainGlobals mg) (hb:fm.heap.Ns builtinsNs mb) (QM:∀x:Str,x≠"__name__"->mb x=bootBuiltins x) (Sr:fm.heap.NoLimit) (hg:fm.gens= #[])
  (ha:fm.heap.get? a=some {cls:=.type "list",data:=.seq vs.toArray}) (hi:IntsAre vs ns) (hl:ns.length<=sizeLine) (hr:mf k callerA)
  (F:∀base:Heap,K.In base->base.Ns mainGlobals mg->(∀b o,fm.heap.get? b=some o->(∀its n,o.data≠.seq its n)->base.get? b=some o)->u_ P w K mg base CX k fa fd [x] sp) (OS:∀(s:Shared)(u:Value),BindsTo s fd ⟨[u],[]⟩ [(x,u)])
  (CV:∀H:Hp,Kn H->lj K H a (ns.map V.int)->sp [.ref a] H (λv _=>v=.bl true) λ_ _ _=>False)
  (Vn:∀H e s',CX [] H fm (λ_ _ _=>False) e s'->False):
  codeAny (model P w) callerA (.call (.ref fa) ⟨[.ref a],[]⟩) (λr s'=>r=.ok (.ret (.bool true))/\OldK fm.heap s'.heap/\s'.os=fm.os/\AllBare s'.gens) fm:=by
 have rv:=oi hi;have Ss:=hi.length
 --from an abstract heap in which nothing but the Lo may be tracked
 have core:∀H:Hp,Kn H->lj K H a (ns.map V.int)->qg P w H fm.heap->(∀b,H b≠none->b=a)->(H a≠none->K.lookup a=none)->
   codeAny (model P w) callerA (.call (.ref fa) ⟨[.ref a],[]⟩) (λr s'=>r=.ok (.ret (.bool true))/\OldK fm.heap s'.heap/\s'.os=fm.os/\AllBare s'.gens) fm:=by
  intro H hO hS fo hA hK;have A4:∀{b:Addr}{o:Obj},fm.heap.get? b=some o->H b=none->(AS fm.heap H).get? b=some o:=λe n=>v5 e n;have NQ:∀{b:Addr}{o:Obj}{es:Array DictEntry}{ep:Nat},fm.heap.get? b=some o->o.data=.dict es ep->H b=none:=λ{b o es ep} e d=>by
   cases q:H b with
   |none=>rfl
   |some u=>
    have e':b=a:=hA b (by rw[q];simp);subst e';rw[ha] at e;cases e;have d':Data.seq vs.toArray _=Data.dict es ep:=d;cases d'
  have Vo:∀{b:Addr}{o:Obj},fm.heap.get? b=some o->(∀its n,o.data≠.seq its n)->H b=none:=λ{b o} e nd=>by
   cases q:H b with
   |none=>rfl
   |some u=>
    have e':b=a:=hA b (by rw[q];simp);subst e';rw[ha] at e;cases e;exact(nd _ _ rfl).elim
  have QR:∀{b:Addr}{m:Str->Option Value},fm.heap.Ns b m->(AS fm.heap H).Ns b m:=λ{b m} ⟨o,es,ep,e,d,r⟩=>⟨o,es,ep,A4 e (NQ e d),d,r⟩
  have Ua:K.In (AS fm.heap H):=λb o e=>A4 (KX b o e) (by
   cases q:H b with
   |none=>rfl
   |some u=>
    have e':b=a:=hA b (by rw[q];simp);subst e';rw[hK (by rw[q];simp)] at e;cases e)
  have hM:Mod K mg (AS fm.heap H):=⟨Ua,QR Kt,⟨mb,QR hb,QM⟩,let⟨mc,h1,h2⟩:=Sr;⟨mc,QR h1,h2⟩⟩
  have e0:FO P w K mg (AS fm.heap H) callerA [] fm H:=⟨rfl,hM,λb o e=>Ft e,Nat.le_of_eq (uG _ _),trivial,λb hb=>absurd (show b∈([]:List Addr) from hb) (by simp),fo,.of_eq hg⟩
  refine codeAny_mono ((F _ Ua (QR Kt) λb o e nd=>A4 e (Vo e nd)).run callerA [] fm H ⟨[.ref a],[]⟩ [.ref a] [.ref a] _ _ hr e0 (OS fm (.ref a)) (.cons rfl .nil) (CV H hO hS)) λr s' h=>?_
  cases r with
  |error e=>exact(Vn H e s' h).elim
  |ok fl=>
   cases fl with
   |next=>exact False.elim h
   |brk=>exact False.elim h
   |cont=>exact False.elim h
   |ret u=>
    obtain⟨v,H',os,bare,un,Su,r',q⟩:=h;have q':v=.bl true:=q;subst q';obtain rfl:u=Value.bool true:=r';refine⟨rfl,OldK.of_keep λb o e=>?_,os,bare⟩
    cases q:H b with
    |none=>exact un.keep b o e q (by intro z;exact absurd (show b∈([]:List Addr) from z) (by simp)) (by simp)
    |some u=>
     rcases hO b with z|⟨ob,xs,z⟩
     ·rw[q] at z;cases z
     ·have z2:=un.uv b ob _ z
      obtain⟨e1,_⟩:=fo b _ z;obtain⟨e2,_⟩:=Su b _ z2;rw[e] at e1;cases e1;exact e2
 cases hk:K.lookup a with
 |some o=>
  --the Lo is one of the module's own objects
  have e:=KX a o hk;rw[ha] at e;cases e;refine core (λ_=>none) (λ_=>.inl rfl) (.inr ⟨_,vs.toArray,_,hk,rfl,rfl,rfl,by rw[uq,Ss];exact hl,by simpa using rv⟩) (λb u z=>by have z':(none:Option HO)=some u:=z;cases z') (λb z=>absurd rfl z) λz=>absurd rfl z
 |none=>
  refine core (λb=>if b=a then some (.bf {cls:=.type "list",data:=.seq vs.toArray} (.ak (ns.map V.int))) else none) (λb=>?_) (.inl (.inr ⟨{cls:=.type "list",data:=.seq vs.toArray},bg rfl⟩)) (λb u z=>?_) (λb z=>?_) λ_=>hk
  ·by_cases hb:b=a
   ·exact .inr ⟨_,_,bg hb⟩
   ·exact .inl (bh hb)
  ·by_cases hb:b=a
   ·have z':=(bg hb).symm.trans z
    cases z';subst hb;exact⟨ha,by rw[gh];exact hl,vs,_,rv,ha⟩
   ·have z':=(bh hb).symm.trans z
    cases z'
  ·by_cases hb:b=a
   ·exact hb
   ·exact absurd (bh hb) z
theorem jF(O:OwnCls x C bm QF mg h)(k:∀a o,h.get? a=some o->(∀its n,o.data≠.seq its n)->b.get? a=some o):OwnCls x C bm QF mg b:=by
 obtain⟨tl,N,nm,q,bs,hdct,sn,sub,ab,col,dd,k0,k1,k2,k3,k5,mN,hC,hN,M1,T⟩:=O.obj;have ns:∀{N:Addr}{m:Str->Option Value},h.Ns N m->b.Ns N m:=λ{N m} ⟨o,es,ep,e,d,r⟩=>⟨o,es,ep,k _ _ e λits n z=>(by rw[d] at z;cases z),d,r⟩
 refine⟨O.bound,tl,N,nm,q,bs,hdct,sn,sub,ab,col,dd,k0,k1,k2,k3,k5,mN,k _ _ hC (λits n z=>by cases z),ns hN,M1,?_⟩;clear hC hN M1
 induction T with
 |base=>exact .base
 |own hA hN M1 _ ih=>exact .own (k _ _ hA λits n z=>by cases z) (ns hN) M1 ih
namespace Snd
open Py
theorem Lp{K:PySem.W.Frag}(e:Φ f [.ig ns]=.ok (.bl true))(hO:Kn H)(hS:lj K H a (ns.map V.int)):zt K cl Φ f [.ref a] H (λv _=>v=.bl true) λ_ _ _=>False:=by
 refine⟨λ_=>False,[.ig ns],λ_ z=>z.elim,bb.cons ?_ bb.nil,?_⟩
 ·simp only[Rep]
  refine⟨a,rfl,?_⟩;rcases hS with(h|⟨o,h⟩)|h
  ·rcases hO a with z|⟨o,xs,z⟩
   ·rw[z] at h;cases h
   ·rw[z] at h;cases h
  ·exact .inl ⟨o,h⟩
  ·exact .inr h
 ·rw[e]
  intro F' v H' u r;simpa only[Rep] using r
theorem Lq(h:yu P w [] H s (λ_ _ _=>False) e s'):False:=by
 obtain⟨a,C,H',_,_,_,_,_,_,z⟩:=h;exact z
end Snd
end L2
namespace L2.Snd
open PySem PySem.Spec PyProof.Rows L2 Py
section
variable{X:Cx}{cl:Nat->Addr}{XE:Nat->St->Hp->Prop}{YE:Nat->Hp->Prop}{Φ:Nat->List D->R D}{G:List D}{n:Nat}{m fr:Bool}
theorem Sv(ho:wz X (compareOp op) r)(ha:PE X a ta)(hb:PE X b tb):PC X op a b (AW r ta tb):=
 λae s σ H Q I h=>J0 ha hb I h λv u s2 x y H2 I2 rx ry q=>ho ae s2 σ H2 x y v u Q I2 rx ry q
structure sj(X:Cx)(cl:Nat->Addr)(XE:Nat->St->Hp->Prop)(Φ:Nat->List D->R D)(G:List D)(op:CmpOp)(ex:Ex)(a b:Expr):Prop where
 ok:∃t,PC X op a b t/\∀F σ δ H Q,jg X.K cl F H σ δ->ax X.K cl (λc=>XE c σ) true false F H Q (ev Φ G true ex δ)->t σ H Q
 bl:∀δ d,ev Φ G true ex δ=.ok d->∃b,d=.bl b
 md:∀m δ,ev Φ G m ex δ=ev Φ G true ex δ
theorem sj.e(h:sj X cl XE Φ G op ex a b)(hm:behindInMarks op b=false):dh X cl XE Φ G m ex (.Compare a [op] [b] pos):=by
 obtain⟨t,pc,i⟩:=h.ok;refine⟨t,JN pc hm,λF σ δ H Q S z=>i F σ δ H Q S ?_⟩;rw[h.md] at z;refine Meet.mono z (λd e q F' v H' u g=>?_) λc q=>q;obtain⟨b',rfl⟩:=h.bl δ d e;refine q F' v H' u ?_;have gv:v=.bl b':=g.got.bl;subst gv;exact Res.gives (.vi (by simp[Rep]) (by simp[ba]))
theorem sj.t(h:sj X cl XE Φ G op ex a b)(hm:behindInMarks op b=false):B_ X cl XE Φ G (.a_ ex) (.Compare a [op] [b] pos):=by
 obtain⟨t,pc,i⟩:=h.ok;refine⟨_,mJ pc hm,λF σ δ H Q S z=>i F σ δ H _ S ?_⟩;simp only[du] at z;refine Meet.mono (Meet.bind z) (λd e q F' v H' u g=>?_) λc q=>q;obtain⟨b',rfl⟩:=h.bl δ d e;have gv:v=.bl b':=g.got.bl;exact⟨b',gv,q F' H' u⟩
theorem fU(hr:wz X (compareOp op) r)(ia:dh X cl XE Φ G true ea a)(ib:dh X cl XE Φ G true eb b)
  (ho:∀(YE:Nat->Hp->Prop) F H x y p q Q,AH F H->Got X.K cl F H p x->Got X.K cl F H q y->ax X.K cl YE true false F H Q (ag o p q)->r x y H Q) (Vp:∀p q d,ag o p q=.ok d->∃b,d=.bl b):sj X cl XE Φ G op (.ag o ea eb) a b:=by
 obtain⟨ta,pa,ia⟩:=ia;obtain⟨tb,pb,ib⟩:=ib;refine⟨⟨_,Sv hr pa pb,λF σ δ H Q S h=>two (a:=a) (b:=b) (o:=ag o) ia ib ho S (by simpa only[ev] using h)⟩,λδ d e=>?_,λm δ=>by simp only[ev]⟩;simp only[ev] at e
 cases e1:ev Φ G true ea δ with
 |ok p=>
  cases e2:ev Φ G true eb δ with
  |ok q=>rw[e1,e2] at e;exact Vp p q d e
  |exc c=>rw[e1,e2] at e;cases e
  |bad=>rw[e1,e2] at e;cases e
 |exc c=>rw[e1] at e;cases e
 |bad=>rw[e1] at e;cases e
variable{ea eb:Ex}{a b:Expr}{pos:Pos}
theorem OT(p q d:D)(h:ag .lt p q=.ok d):∃b,d=.bl b:=by
 rcases IL p q with⟨i,j,_,_,e⟩|e<;>rw[e] at h<;>cases h;exact⟨_,rfl⟩
theorem OU(p q d:D)(h:ag .gt p q=.ok d):∃b,d=.bl b:=by
 rcases IM p q with⟨i,j,_,_,e⟩|e<;>rw[e] at h<;>cases h;exact⟨_,rfl⟩
theorem OV(p q d:D)(h:ag .ge p q=.ok d):∃b,d=.bl b:=by
 rcases IP p q with⟨i,j,_,_,e⟩|e<;>rw[e] at h<;>cases h;exact⟨_,rfl⟩
theorem Lr(p q:D):ag .eq p q=if dr 9 p&&dr 9 q&&AU p q then .ok (.bl (f_ p q)) else .bad:=by cases p<;>cases q<;>rfl
theorem Ls(p q:D):ag .ne p q=if dr 9 p&&dr 9 q&&AU p q then .ok (.bl (!f_ p q)) else .bad:=by cases p<;>cases q<;>rfl
theorem tF(p q:D):ag .kr p q=(isin p q).bind λb=>.ok (.bl (!b)):=by cases p<;>cases q<;>rfl
theorem OW(p q d:D)(h:ag .eq p q=.ok d):∃b,d=.bl b:=by
 rw[Lr] at h;split at h<;>cases h;exact⟨_,rfl⟩
theorem OX(p q d:D)(h:ag .ne p q=.ok d):∃b,d=.bl b:=by
 rw[Ls] at h;split at h<;>cases h;exact⟨_,rfl⟩
theorem Lu(p q d:D)(h:ag .kr p q=.ok d):∃b,d=.bl b:=by
 rw[tF] at h;cases e:isin p q<;>rw[e] at h<;>cases h;exact⟨_,rfl⟩
theorem Sw(ia:dh X cl XE Φ G true ea a)(ib:dh X cl XE Φ G true eb b):sj X cl XE Φ G .Lt (.ag .lt ea eb) a b:=fU NN ia ib (λYE F H x y p q Q t g1 g2 h=>eU (k:=λi j=>.bl (decide (i<j))) IL (λ_ _=>by simp[Rep]) (λ_ _=>rfl) g1 g2 h) OT
theorem Sy(ia:dh X cl XE Φ G true ea a)(ib:dh X cl XE Φ G true eb b):sj X cl XE Φ G .Gt (.ag .gt ea eb) a b:=fU NO ia ib (λYE F H x y p q Q t g1 g2 h=>eU (k:=λi j=>.bl (decide (j<i))) IM (λ_ _=>by simp[Rep]) (λ_ _=>rfl) g1 g2 h) OU
theorem Sz(ia:dh X cl XE Φ G true ea a)(ib:dh X cl XE Φ G true eb b):sj X cl XE Φ G .GtE (.ag .ge ea eb) a b:=fU NP ia ib (λYE F H x y p q Q t g1 g2 h=>eU (k:=λi j=>.bl (decide (j<=i))) IP (λ_ _=>by simp[Rep]) (λ_ _=>rfl) g1 g2 h) OV
theorem SA(hu:X.A.units+20<cLine)(ia:dh X cl XE Φ G true ea a)(ib:dh X cl XE Φ G true eb b):sj X cl XE Φ G .Eq (.ag .eq ea eb) a b:=fU (KS (cl:=cl) hu) ia ib (λYE F H x y p q Q t g1 g2 h=>Ox g1 g2 h) OW
theorem SD(hu:X.A.units+20<cLine)(ia:dh X cl XE Φ G true ea a)(ib:dh X cl XE Φ G true eb b):sj X cl XE Φ G .NotEq (.ag .ne ea eb) a b:=fU (KU (cl:=cl) hu) ia ib (λYE F H x y p q Q t g1 g2 h=>Oy g1 g2 h) OX
theorem OY(ia:dh X cl XE Φ G true ea a)(ib:dh X cl XE Φ G true eb b):sj X cl XE Φ G .NotIn (.ag .kr ea eb) a b:=fU mQ ia ib (λYE F H x y p q Q t g1 g2 h=>Oz true g1 g2 (by rw[tF] at h;simpa using h)) Lu
theorem xR[Decidable c]{b:Bool}(e:(if c then R.ok (D.bl b) else R.bad)=.ok d):∃b,d=.bl b:=by
 split at e<;>cases e;exact⟨_,rfl⟩
theorem OZ(ia:dh X cl XE Φ G true ea a):sj X cl XE Φ G .Is (.b_ .isNone ea) a (.Constant .none j p):=by
 obtain⟨ta,pa,ia⟩:=ia;refine⟨⟨_,JM pa,λF σ δ H Q S h=>?_⟩,λδ d e=>?_,λm δ=>by simp only[ev]⟩
 ·simp only[ev] at h
  exact ia F σ δ H _ S (Meet.mono (Meet.bind h) (λp _ hp F1 x H1 u1 g1=>K4 g1.got (ax.up hp u1)) λc z=>z)
 ·simp only[ev] at e
  cases e1:ev Φ G true ea δ with
  |ok p=>
   rw[e1] at e;have e:b_ .isNone p=.ok d:=e;cases p<;>first|(cases e;done)|(cases e;exact⟨_,rfl⟩)|exact xR e
  |exc c=>rw[e1] at e;cases e
  |bad=>rw[e1] at e;cases e
theorem Lv(ia:dh X cl XE Φ G true ea a):sj X cl XE Φ G .IsNot (.b_ .isNotNone ea) a (.Constant .none j p):=by
 obtain⟨ta,pa,ia⟩:=ia;refine⟨⟨_,Fz pa,λF σ δ H Q S h=>?_⟩,λδ d e=>?_,λm δ=>by simp only[ev]⟩
 ·simp only[ev] at h
  exact ia F σ δ H _ S (Meet.mono (Meet.bind h) (λp _ hp F1 x H1 u1 g1=>Gz g1.got (ax.up hp u1)) λc z=>z)
 ·simp only[ev] at e
  cases e1:ev Φ G true ea δ with
  |ok p=>
   rw[e1] at e;have e:b_ .isNotNone p=.ok d:=e;cases p<;>first|(cases e;done)|(cases e;exact⟨_,rfl⟩)|exact xR e
  |exc c=>rw[e1] at e;cases e
  |bad=>rw[e1] at e;cases e
theorem O0(neg:Bool)(hu:X.A.units+20<cLine)(ia:dh X cl XE Φ G true ea a)(ib:dh X cl XE Φ G true eb b):sj X cl XE Φ G (if neg then .NotIn else .In) (.Ef neg ea eb) a b:=by
 have Ub:X.A.units+1<cLine:=Dm (Jr (by decide) _) hu;obtain⟨ta,pa,ia⟩:=ia;obtain⟨tb,pb,ib⟩:=ib;have rd:∀F σ δ H Q,jg X.K cl F H σ δ->ax X.K cl (λc=>XE c σ) true false F H Q (ev Φ G true (.Ef neg ea eb) δ)->ta σ H λy H1=>tb σ H1 λx H2=>∃a o,x=.ref a/\va H2 a y o/\Q (.bl (if neg then !o.isSome else o.isSome)) H2:=λF σ δ H Q S h=>by
  simp only[ev] at h;refine ia F σ δ H _ S (Meet.mono (Meet.bind h) (λq _ hp F1 y H1 u1 g1=>?_) λc z=>z);refine ib F1 σ δ H1 _ (S.up u1) (Meet.mono (Meet.bind (ax.up hp u1)) (λp _ hq F2 x H2 u2 g2=>?_) λc z=>z);have Ep:=ax.up (K:=X.K) (cl:=cl) hq u2;obtain⟨ks,ds,i,rfl,rfl⟩:∃ks ds i,p=.jt ks ds/\q=.int i:=by
   cases p<;>cases q<;>first|exact(show False from Ep).elim|exact⟨_,_,_,rfl,rfl⟩
  obtain⟨l,kvs,rfl,h1,h2,h3⟩:=g2.got.jt;refine⟨l,_,rfl,by rw[(g1.got.up u2).int];exact va.k (k:=Sum.inl i) h1,?_⟩;rw[←(mU i h2 h3).2];exact ax.bl Ep
 refine⟨?_,λδ d e=>?_,λm δ=>by simp only[ev]⟩
 ·cases neg with
  |true=>exact⟨_,uN Ub pa pb,rd⟩
  |false=>exact⟨_,Ka Ub pa pb,rd⟩
 ·simp only[ev] at e
  cases e1:ev Φ G true ea δ with
  |ok p=>
   cases e2:ev Φ G true eb δ with
   |ok q=>
    rw[e1,e2] at e;simp only[R.g_] at e;cases q<;>cases p<;>first|(cases e;exact⟨_,rfl⟩)|cases e
   |exc c=>rw[e1,e2] at e;cases e
   |bad=>rw[e1,e2] at e;cases e
  |exc c=>rw[e1] at e;cases e
  |bad=>rw[e1] at e;cases e
theorem xS(hN:X.N[i]?=some x:=by rfl)(hv:DM X.env.scope x:=by first|exact Or.inl rfl|exact Or.inr (Or.inl rfl)|exact Or.inr (Or.inr rfl))(hd:(x==("__debug__":Str))=false:=by decide)(uj:(x==("__classdict__":Str))=false:=by decide):
  dh X cl XE Φ G m (.aa i) (.Name x pos):=KP hN hv hd uj
theorem O1(ia:dh X cl XE Φ G true ea a)(ib:dh X cl XE Φ G true eb b):dh X cl XE Φ G m (.ag .add ea eb) (.BinOp a .Add b pos):=i9 (AX.or (Kl.or wQ)) ia ib λYE F H x y p q Q t g1 g2 h=>KW t g1 g2 h
theorem O2(ia:dh X cl XE Φ G true ea a)(ib:dh X cl XE Φ G true eb b):dh X cl XE Φ G m (.ag .sub ea eb) (.BinOp a .Sub b pos):=i9 qE ia ib λYE F H x y p q Q t g1 g2 h=>eU (k:=λi j=>.int (i-j)) KY (λ_ _=>by simp[Rep]) (λ_ _=>rfl) g1 g2 h
theorem O3(ia:dh X cl XE Φ G true ea a)(ib:dh X cl XE Φ G true eb b):dh X cl XE Φ G m (.ag .mul ea eb) (.BinOp a .Mult b pos):=i9 iX ia ib λYE F H x y p q Q t g1 g2 h=>mS (C:=λi j=>(-(2^64)<i/\i<2^64)\/(-(2^64)<j/\j<2^64)) (k:=λi j=>.int (i*j)) KZ (λ_ _=>by simp[Rep]) (λ_ _=>rfl) g1 g2 h
theorem O4(ia:dh X cl XE Φ G true ea a)(ib:dh X cl XE Φ G true eb b):dh X cl XE Φ G m (.ag .mod ea eb) (.BinOp a .Mod b pos):=i9 wG ia ib λYE F H x y p q Q t g1 g2 h=>mS (C:=λi j=>0<j) (k:=λi j=>.int (i%j)) K0 (λ_ _=>by simp[Rep]) (λ_ _=>rfl) g1 g2 h
theorem Lw(ia:dh X cl XE Φ G true ea a)(ib:dh X cl XE Φ G true eb b):dh X cl XE Φ G m (.ag .fdiv ea eb) (.BinOp a .FloorDiv b pos):=i9 FN ia ib λYE F H x y p q Q t g1 g2 h=>mS (C:=λi j=>0<j/\j<1073741824) (k:=λi j=>.int (i/j)) Gx (λ_ _=>by simp[Rep]) (λ_ _=>rfl) g1 g2 h
theorem O5(ia:dh X cl XE Φ G true ea a):dh X cl XE Φ G m (.b_ .neg ea) (.UnaryOp .USub a pos):=Ow J2 ia λYE F H x p Q t g h=>K3 g h
theorem x_at(ia:dh X cl XE Φ G true ea a)(ib:dh X cl XE Φ G true eb b)(hs:yq b:=by exact λ_ _=>rfl):dh X cl XE Φ G m (.ag .at ea eb) (.Subscript a b pos):=Ov (Cw.or Kh) hs ia ib λYE F H x y p q Q t g1 g2 h=>OC g1 g2 h
theorem Lx(hu:X.A.units+20<cLine)(ia:dh X cl XE Φ G true ea a)(ib:dh X cl XE Φ G true eb b)(hs:FQ b:=by exact λ_ _=>rfl):dh X cl XE Φ G m (.sf ea eb) (.Subscript a b pos):=GH (Dm (Jr (by decide) _) hu) hs ia ib
theorem lE(δ:iy)(c:Nat):ev Φ G m (.aa i) δ≠.exc c:=by
 simp only[ev];cases m<;>simp only[cj,cg]<;>(intro z;split at z<;>first|(split at z<;>cases z)|cases z)
theorem G4{i:Nat}{apos gr:Pos}(ia:dh X cl XE Φ G true ea a)(ib:dh X cl XE Φ G true (.aa i) b)(mj:attributeBase a "index" X.env (eval a X.env)=eval a X.env:=by rfl)(mq:(apos.endLine==gr.line)=true:=by rfl)(hs:starEach [b] X.env=[(false,eval b X.env)]:=by rfl):
  dh X cl XE Φ G m (.ag .index ea (.aa i)) (.Call (.Attribute a "index" apos) [b] [] gr):=sY PySem.F.slot_list_index PySem.F.type_list_index wR ia ib mj mq hs (λp q=>by cases p<;>first|exact .inl ⟨_,rfl⟩|exact .inr rfl) (λδ c=>lE δ c) λYE F H x y p q Q g1 g2 h=>xB g1 g2 h
theorem G5{i:Nat}{apos gr:Pos}(ia:dh X cl XE Φ G true ea a)(ib:dh X cl XE Φ G true (.aa i) b)(mj:attributeBase a "count" X.env (eval a X.env)=eval a X.env:=by rfl)(mq:(apos.endLine==gr.line)=true:=by rfl)(hs:starEach [b] X.env=[(false,eval b X.env)]:=by rfl):
  dh X cl XE Φ G m (.ag .count ea (.aa i)) (.Call (.Attribute a "count" apos) [b] [] gr):=sY PySem.F.slot_list_count PySem.F.type_list_count wS ia ib mj mq hs (λp q=>by cases p<;>first|exact .inl ⟨_,rfl⟩|exact .inr rfl) (λδ c=>lE δ c) λYE F H x y p q Q g1 g2 h=>xC g1 g2 h
theorem O6{p:Pos}(hm:X.mg "len"=none)(ia:dh X cl XE Φ G true ea a)(hg:Gl X "len":=by rfl)(hs:starEach (a::[]) X.env=(false,eval a X.env)::starEach [] X.env:=by rfl):dh X cl XE Φ G m (.b_ .len ea) (.Call (.Name "len" p) [a] [] pos):=
 cV (exs:=[ea]) (o:=qi (b_ .len)) OE eP hg hm PySem.boot_len (by decide) (by decide) hs rfl (bA hs ia bT) λYE F H vs ds Q t g h=>K1 g h
theorem Ly{p:Pos}(hm:X.mg "len"=none)(ia:dh X cl XE Φ G true ea a)(hg:Gl X "len":=by rfl)(hs:starEach [a] X.env=[(false,eval a X.env)]:=by rfl):dh X cl XE Φ G m (.yh ea) (.Call (.Name "len" p) [a] [] pos):=GI hg hm hs ia
theorem Lz{p:Pos}(hm:X.mg "list"=none)(ia:dh X cl XE Φ G true ea a)(hg:Gl X "list":=by rfl)(hs:starEach (a::[]) X.env=(false,eval a X.env)::starEach [] X.env:=by rfl):dh X cl XE Φ G m (.b_ .list ea) (.Call (.Name "list" p) [a] [] pos):=
 lB (exs:=[ea]) (o:=qi (b_ .list)) OE eQ hg hm boot_list (by decide) (by decide) hs rfl (bA hs ia bT) λYE F H vs ds Q t g h=>Gy t g h
theorem G6{p:Pos}(hm:X.mg "tuple"=none)(ia:dh X cl XE Φ G true ea a)(hg:Gl X "tuple":=by rfl)(hs:starEach (a::[]) X.env=(false,eval a X.env)::starEach [] X.env:=by rfl):dh X cl XE Φ G m (.b_ .tuple ea) (.Call (.Name "tuple" p) [a] [] pos):=
 lB (exs:=[ea]) (o:=qi (b_ .tuple)) OE kM hg hm boot_tuple (by decide) (by decide) hs rfl (bA hs ia bT) λYE F H vs ds Q t g h=>wZ g h
theorem O7{p:Pos}(hm:X.mg "max"=none)(ia:dh X cl XE Φ G true ea a)(ib:dh X cl XE Φ G true eb b)(hc:X.calm=true:=by rfl)(hg:Gl X "max":=by rfl)(hs:starEach (a::[b]) X.env=(false,eval a X.env)::starEach [b] X.env:=by rfl)(Vq:starEach (b::[]) X.env=(false,eval b X.env)::starEach [] X.env:=by rfl)(Ah:(backTo pos (starEach [b] X.env)).any (·.1)=false:=by rfl):
  dh X cl XE Φ G m (.ag .max ea eb) (.Call (.Name "max" p) [a,b] [] pos):=
 cV (exs:=[ea,eb]) (o:=Em (ag .max)) Ve (uK hc) hg hm boot_max (by decide) (by decide) hs Ah (bA hs ia (bA Vq ib bT)) λYE F H vs ds Q t g h=>K2 g h
theorem G7{p1 p2:Pos}(hm:X.mg "isinstance"=none)(IQ:X.mg "int"=none)(ia:dh X cl XE Φ G true ea a)(hg:Gl X "isinstance":=by rfl)(Lc:Gl X "int":=by rfl)(hs:starEach [a,.Name "int" p2] X.env=[(false,eval a X.env),(false,eval (.Name "int" p2) X.env)]:=by rfl):
  dh X cl XE Φ G m (.b_ .isInt ea) (.Call (.Name "isinstance" p1) [a,.Name "int" p2] [] pos):=qP (T:="int") (by simp) hg hm Lc IQ boot_int (by decide) (by decide) ia hs rfl xE
theorem xT{p1 p2:Pos}(hm:X.mg "isinstance"=none)(IQ:X.mg "bool"=none)(ia:dh X cl XE Φ G true ea a)(hg:Gl X "isinstance":=by rfl)(Lc:Gl X "bool":=by rfl)(hs:starEach [a,.Name "bool" p2] X.env=[(false,eval a X.env),(false,eval (.Name "bool" p2) X.env)]:=by rfl):
  dh X cl XE Φ G m (.b_ .isBool ea) (.Call (.Name "isinstance" p1) [a,.Name "bool" p2] [] pos):=qP (T:="bool") (by simp) hg hm Lc IQ boot_bool (by decide) (by decide) ia hs rfl uU
theorem G8{p1 p2:Pos}(hm:X.mg "isinstance"=none)(IQ:X.mg "tuple"=none)(ia:dh X cl XE Φ G true ea a)(hg:Gl X "isinstance":=by rfl)(Lc:Gl X "tuple":=by rfl)(hs:starEach [a,.Name "tuple" p2] X.env=[(false,eval a X.env),(false,eval (.Name "tuple" p2) X.env)]:=by rfl):
  dh X cl XE Φ G m (.b_ .isTup ea) (.Call (.Name "isinstance" p1) [a,.Name "tuple" p2] [] pos):=qP (T:="tuple") (by simp) hg hm Lc IQ boot_tuple (by decide) (by decide) ia hs rfl xF
theorem LA(ia:dh X cl XE Φ G m ea a)(ir:C9 X cl XE Φ G m es as)(hs:starEach (a::as) X.env=(false,eval a X.env)::starEach as X.env:=by rfl):C9 X cl XE Φ G m (ea::es) (a::as):=bA hs ia ir
theorem O8{exs:List Ex}{es:List Expr}{k:Nat}(ia:C9 X cl XE Φ G false exs es)(hl:exs.length<=jj:=by decide):dh X cl XE Φ G m (.ar exs) (.Tuple es k pos):=K9 hl ia
theorem O9(ia:C9 X cl XE Φ G false exs es)(hl:exs.length<=jj:=by decide):dh X cl XE Φ G m (.ak exs) (.List es pos):=K_ hl ia
theorem SE(h:sj X cl XE Φ G op ex a b)(hm:behindInMarks op b=false:=by rfl):dh X cl XE Φ G m ex (.Compare a [op] [b] pos):=h.e hm
theorem SF(h:sj X cl XE Φ G op ex a b)(hm:behindInMarks op b=false:=by rfl):B_ X cl XE Φ G (.a_ ex) (.Compare a [op] [b] pos):=h.t hm
theorem LB(ia:dh X cl XE Φ G true ex e)(he:∀whole,isTrue e X.env whole=(do let v←whole;standAt e.pos;holding [v] (truthy v)):=by intro _;rfl):B_ X cl XE Φ G (.a_ ex) e:=GJ he ia
theorem xU(hN:X.N.Nodup)(hi:X.N[i]?=some x:=by rfl)(hx:Loc X.env.scope x:=by first|exact Or.inl rfl|exact Or.inr rfl)(hf:X.fn x=true\/X.env.scope.names.lookup x=some .local:=by first|exact .inl rfl|exact .inr rfl):Er X cl [i] (fj i) (.Name x pos):=xK hN hi hx hf
theorem O_{i j:Nat}{x y:Str}{k:Nat}{p1 p2:Pos}(hN:X.N.Nodup)(hc:X.calm=true:=by rfl)(hi:X.N[i]?=some x:=by rfl)(hx:Loc X.env.scope x:=by first|exact Or.inl rfl|exact Or.inr rfl)(hf:X.fn x=true\/X.env.scope.names.lookup x=some .local:=by first|exact .inl rfl|exact .inr rfl)
  (hj:X.N[j]?=some y:=by rfl) (hy:Loc X.env.scope y:=by first|exact Or.inl rfl|exact Or.inr rfl) (Si:X.fn y=true\/X.env.scope.names.lookup y=some .local:=by first|exact .inl rfl|exact .inr rfl):
  Er X cl [i,j] (FJ X.K 2 (zc (fj i) (zc (fj j) FE))) (.Tuple [.Name x p1,.Name y p2] k pos):=IT hc hN hi hx hf hj hy Si
theorem O'{tg:Expr}{p:Pos}(hm:X.mg "range"=none)(ia:dh X cl XE Φ G m ea a)(hg:Gl X "range":=by rfl)(hs:starEach [a] X.env=[(false,eval a X.env)]:=by rfl):Dc X cl XE Φ G m .js [ea] tg (.Call (.Name "range" p) [a] [] pos):=Lg hg hm hs ia
theorem LC{elts:List Expr}{tk:Nat}{FV p:Pos}(hm:X.mg "enumerate"=none)(ia:dh X cl XE Φ G m ea a)(hg:Gl X "enumerate":=by rfl)(hs:starEach [a] X.env=[(false,eval a X.env)]:=by rfl):Dc X cl XE Φ G m .enum [ea] (.Tuple elts tk FV) (.Call (.Name "enumerate" p) [a] [] pos):=GQ hg hm hs ia
noncomputable def A5(Nx:List Str)(kx:Str->Option NameKind)(N':List Str)(caps:List Nat)(ntg:Nat)(scope:Scope):Bool:=
 scope.kind== .function&&scope.names.all (λy=>y.2 != .cell)&&scope.names.all (λy=>y.2 != .local||scope.names.lookup y.1==some .local)
  &&scope.names.all (λy=>y.2 != .free||(kx y.1==some .cell||kx y.1==some .free))&&N'.length==ntg+caps.length
  &&(List.range caps.length).all (λi=>match caps[i]?,N'[ntg+i]? with
   |some j,some x=>Nx[j]?==some x&&scope.names.lookup x==some .free
   |_,_=>true)
theorem fV(h:A5 X.N X.env.kindOf N' caps ntg scope=true):jy X N' caps ntg scope:=by
 unfold A5 at h;simp only[oy,List.all_eq_true,Bool.or_eq_true,bne_iff_ne,beq_iff_eq] at h;obtain⟨⟨⟨⟨⟨h1,h2⟩,h3⟩,h4⟩,h5⟩,h6⟩:=h;refine⟨h1,h2,λy hy e=>(h3 y hy).resolve_left λz=>z e,λy hy e=>(h4 y hy).resolve_left λz=>z e,h5,λi j x e1 e2=>?_⟩;have hi:i<caps.length:=(List.getElem?_eq_some_iff.mp e1).1;have z:=h6 i (List.mem_range.mpr hi);rw[e1,e2] at z;simp only[oy,beq_iff_eq] at z;exact z
noncomputable def Pa(X:Cx)(tg:Expr)(caps:List Nat):List Str:=(match tg with
 |.Name x _=>[x]
 |.Tuple [.Name x _,.Name y _] _ _=>[x,y]
 |_=>[])++caps.map λi=>X.N.getD i ""
noncomputable abbrev Es(X:Cx)(tg:Expr)(caps:List Nat)(scope:Scope)(jc:List (Str×Addr))(C:Addr)(s:Shared)(H:Hp)(fp:List Addr)(E:Value->Shared->Prop):Cx:=cu X (Pa X tg caps) scope jc C s H fp E
noncomputable def QS:List Str->Bool
 |[]=>true
 |x::r=>!r.contains x&&QS r
theorem xV:∀{l:List Str},QS l=true->l.Nodup
 |[],_=>Im
 |x::r,h=>by
  simp only[QS,oy,Bool.not_eq_true',List.contains_eq_mem,decide_eq_false_iff_not] at h;exact List.nodup_cons.mpr ⟨h.1,xV h.2⟩
noncomputable def SG(tg:Expr)(sc:Scope)(n:Nat):Bool:=match tg with
 |.Name x _=>n==1&&sc.names.lookup x==some .local
 |.Tuple [.Name x _,.Name y _] _ _=>n==2&&(sc.names.lookup x==some .local&&sc.names.lookup y==some .local)
 |_=>false
noncomputable def LD(X:Cx)(tg:Expr)(caps:List Nat)(n:Nat)(sc:Scope):Bool:=A5 X.N X.env.kindOf (Pa X tg caps) caps n sc&&(SG tg (relabel sc X.env) n&&QS (Pa X tg caps))
theorem LF{tp:Pos}(h:LD X (.Name x tp) caps 1 scope=true):jy X (Pa X (.Name x tp) caps) caps 1 scope/\∀jc C s H fp E,Er (Es X (.Name x tp) caps scope jc C s H fp E) cl [0] (fj 0) (.Name x tp):=by
 simp only[LD,SG,oy,beq_iff_eq] at h;obtain⟨h1,⟨_,hx⟩,h3⟩:=h;exact⟨fV h1,λjc C s H fp E=>xK (X:=Es X _ caps scope jc C s H fp E) (xV h3) rfl (.inl hx) (.inr hx)⟩
theorem IW(h:LD X tg caps ntg scope=true)(hc:X.calm=true):jy X (Pa X tg caps) caps ntg scope/\∃g,∀jc C s H fp E,Er (Es X tg caps scope jc C s H fp E) cl (List.range ntg) g tg:=by
 simp only[LD,oy] at h;obtain⟨h1,h2,h3⟩:=h;refine⟨fV h1,?_⟩;have nd:=xV h3;unfold SG at h2;split at h2
 ·simp only[oy,beq_iff_eq] at h2
  obtain⟨rfl,hx⟩:=h2;exact⟨_,λjc C s H fp E=>xK (X:=Es X _ caps scope jc C s H fp E) nd rfl (.inl hx) (.inr hx)⟩
 ·simp only[oy,beq_iff_eq] at h2
  obtain⟨rfl,hx,hy⟩:=h2;exact⟨FJ X.K 2 (zc (fj 0) (zc (fj 1) FE)),λjc C s H fp E=>IT (X:=Es X (.Tuple [.Name _ _,.Name _ _] _ _) caps scope jc C s H fp E) hc nd rfl (.inl hx) (.inr hx) rfl (.inl hy) (.inr hy)⟩
 ·cases h2
theorem LG{cond:Option Tx}(hi:Dc X cl XE Φ G true k its tg iter)
  (ht:∀jc C s H fp,M8 (Es X tg caps scope jc C s H fp λ_ _=>False) cl (λ_ _ _=>False) Φ G cond ifs) (he:∀jc C s H fp,dh (Es X tg caps scope jc C s H fp λ_ _=>False) cl (λ_ _ _=>False) Φ G false elt e)
  (Sc:LD X tg caps ntg scope=true:=by rfl) (hc:X.calm=true:=by rfl) (hs:∀x,foldedSetIterable iter X.env x=pure x:=by intro _;rfl):dh X cl XE Φ G m (.comp k its caps ntg cond elt) (.ListComp e [⟨tg,iter,ifs,0⟩] scope pos):=by
 obtain⟨S,g,hg⟩:=IW (cl:=cl) Sc hc;exact GS hc hi S (λjc C s H fp=>hg jc C s H fp _) ht he hs
theorem jG:vj (yu X.prog X.w) X σ (M7 cl λc=>(λ_ _ _=>False:Nat->St->Hp->Prop) c σ):=λae H s e s' I ⟨_,_,_,_,_,_,_,_,_,_,_,z⟩=>z.elim
theorem xW(hx:X.ex=[])(t:KH X cl XE)(σ:St):vj (yu X.prog X.w) X σ (M7 cl λc=>XE c σ):=λae H s e s' I z=>Gk hx t σ ae H s e s' I z
theorem x_call{k:Nat}{fa:Addr}{fd:FuncData}{ps:List Str}{f:Nat}{x:Str}{p:Pos}{exs:List Ex}{e:Expr}{es:List Expr}(Fo:u_ X.prog X.w X.K X.mg X.base (yu X.prog X.w) k fa fd ps (zt X.K cl Φ f))(hr:mf k X.A)(hm:X.mg x=some (.ref fa))(hk:PySem.W.keepIn X.K (.ref fa)=true)(hb:Binds X.K fd ps [])
  (hx:∀σ,vj (yu X.prog X.w) X σ (M7 cl λc=>XE c σ)) (ia:C9 X cl XE Φ G false exs (e::es)) (hg:Gl X x:=by rfl) (vx:(x==("__debug__":Str))=false:=by decide) (he:starEach (e::es) X.env=(false,eval e X.env)::starEach es X.env:=by rfl) (Ah:(backTo pos (starEach es X.env)).any (·.1)=false:=by rfl):
  dh X cl XE Φ G m (.call f exs) (.Call (.Name x p) (e::es) [] pos):=GF Fo hr hg hm hk hb hx vx he Ah ia
theorem Pb{i:Nat}{x:Str}{ex:Ex}{e:Expr}{pos':Pos}(hN:X.N.Nodup)(ie:dh X cl XE Φ G false ex e)(hi:X.N[i]?=some x:=by rfl)(hx:Loc X.env.scope x:=by first|exact Or.inl rfl|exact Or.inr rfl)(hf:X.fn x=true\/X.env.scope.names.lookup x=some .local:=by first|exact .inl rfl|exact .inr rfl)(hs:swapsWith e (some (.Name x pos')) pos.line X.env=pure false:=by rfl):
  yw X cl XE Φ G n (.bz i ex) (.Assign [.Name x pos'] e pos):=GV hN hi hx hf hs ie
theorem LH{k:AG}{its:List Ex}{caps:List Nat}{ntg:Nat}{cond:Option Tx}{elt:Ex}{tg iter e:Expr}{ifs:List Expr}{scope:Scope}{py wb:Pos}{i:Nat}{y:Str}(hN:X.N.Nodup)(hi:Dc X cl XE Φ G true k its tg iter)
  (ht:∀jc C s H fp,M8 (Es X tg caps scope jc C s H fp λ_ _=>False) cl (λ_ _ _=>False) Φ G cond ifs) (he:∀jc C s H fp,dh (Es X tg caps scope jc C s H fp λ_ _=>False) cl (λ_ _ _=>False) Φ G false elt e)
  (Sc:LD X tg caps ntg scope=true:=by rfl) (hy:X.N[i]?=some y:=by rfl) (hx:Loc X.env.scope y:=by first|exact Or.inl rfl|exact Or.inr rfl) (hf:X.fn y=true\/X.env.scope.names.lookup y=some .local:=by first|exact .inl rfl|exact .inr rfl) (AY:swapsWith (.ListComp e [⟨tg,iter,ifs,0⟩] scope pos) (some (.Name y py)) wb.line X.env=pure true:=by rfl)
  (hc:X.calm=true:=by rfl) (hs:∀x,foldedSetIterable iter X.env x=pure x:=by intro _;rfl):yw X cl XE Φ G n (.bz i (.comp k its caps ntg cond elt)) (.Assign [.Name y py] (.ListComp e [⟨tg,iter,ifs,0⟩] scope pos) wb):=by
 obtain⟨S,g,hg⟩:=IW (cl:=cl) Sc hc;exact gW rfl (oQ hN hy hx hf AY hc hi S (λjc C s H fp=>hg jc C s H fp _) ht he hs)
theorem Pc{i:Nat}{x:Str}{pos' p:Pos}(hN:X.N.Nodup)(hi:X.N[i]?=some x:=by rfl)(hx:Loc X.env.scope x:=by first|exact Or.inl rfl|exact Or.inr rfl)(hf:X.fn x=true\/X.env.scope.names.lookup x=some .local:=by first|exact .inl rfl|exact .inr rfl)(hs:swapsWith (.Dict [] [] p) (some (.Name x pos')) pos.line X.env=pure false:=by rfl):
  yw X cl XE Φ G n (.new i) (.Assign [.Name x pos'] (.Dict [] [] p) pos):=GW hN hi hx hf hs
theorem Pd{i:Nat}{x:Str}{ex:Ex}{e:Expr}{p apos gr:Pos}(ie:dh X cl XE Φ G false ex e)(hN:X.N[i]?=some x:=by rfl)(hv:DM X.env.scope x:=by first|exact Or.inl rfl|exact Or.inr (Or.inl rfl)|exact Or.inr (Or.inr rfl))(hd:(x==("__debug__":Str))=false:=by decide)(uj:(x==("__classdict__":Str))=false:=by decide)
  (mj:attributeBase (.Name x p) "append" X.env (eval (.Name x p) X.env)=eval (.Name x p) X.env:=by rfl) (mq:(apos.endLine==gr.line)=true:=by rfl) (hs:starEach [e] X.env=[(false,eval e X.env)]:=by rfl)
  (AY:swapsWith (.Call (.Attribute (.Name x p) "append" apos) [e] [] gr) none pos.line X.env=pure false:=by rfl):yw X cl XE Φ G n (.app i ex) (.Expr (.Call (.Attribute (.Name x p) "append" apos) [e] [] gr) pos):=GY hN hv hd uj mj mq hs AY ie
theorem Pe{i:Nat}{x:Str}{ex ix:Ex}{e ie:Expr}{p ps:Pos}(i1:dh X cl XE Φ G false ex e)(i2:dh X cl XE Φ G true ix ie)(hN:X.N[i]?=some x:=by rfl)(hv:DM X.env.scope x:=by first|exact Or.inl rfl|exact Or.inr (Or.inl rfl)|exact Or.inr (Or.inr rfl))(hd:(x==("__debug__":Str))=false:=by decide)(uj:(x==("__classdict__":Str))=false:=by decide)
  (AY:swapsWithSole [.Subscript (.Name x p) ie ps] e pos.line X.env=pure false:=by rfl) (hw:swappedStores [.Subscript (.Name x p) ie ps] e X.env=pure none:=by rfl) (h1:(assignEach [.Subscript (.Name x p) ie ps] X.env).map (·.2)=[assign (.Subscript (.Name x p) ie ps) X.env]:=by rfl)
  (ha:∀v,assign (.Subscript (.Name x p) ie ps) X.env v=(do
   let ov←holding [v] (eval (.Name x p) X.env)
   let iv←holding [v,ov] (eval ie X.env)
   standAt ps
   holding [v,ov,iv] (setItem ov iv v)
   release [v,ov,iv] []):=by intro _;rfl):yw X cl XE Φ G n (.put i ix ex) (.Assign [.Subscript (.Name x p) ie ps] e pos):=GZ hN hv hd uj AY hw h1 ha i1 i2
theorem LI{i:Nat}{x:Str}{ex ix:Ex}{e ie:Expr}{p ps:Pos}(hu:X.A.units+20<cLine)(i1:dh X cl XE Φ G false ex e)(i2:dh X cl XE Φ G true ix ie)(hN:X.N[i]?=some x:=by rfl)(hv:DM X.env.scope x:=by first|exact Or.inl rfl|exact Or.inr (Or.inl rfl)|exact Or.inr (Or.inr rfl))(hd:(x==("__debug__":Str))=false:=by decide)(uj:(x==("__classdict__":Str))=false:=by decide)
  (hs:swapsWith e (some (.Subscript (.Name x p) ie ps)) pos.line X.env=pure false:=by rfl):yw X cl XE Φ G n (.dput i ix ex) (.Assign [.Subscript (.Name x p) ie ps] e pos):=xN (Dm (Jr (by decide) _) hu) hN hv hd uj hs i1 i2
theorem LJ{b:List Stmt}(hi:Dc X.yn cl (λ_ _ _=>False) Φ G false k its tg iter)(hg:Er X.yn cl CG g tg)(hb:si X.yn cl (λ_ _ _=>False) Φ G n body b)(hc:X.calm=true:=by rfl)(hs:∀x,foldedSetIterable iter X.env x=pure x:=by intro _;rfl):
  yw X cl XE Φ G n (.loop k its CG body) (.For tg iter b [] pos):=xO hc hi hg hb hs
theorem G9{c:Nat}{x tx:Str}{bm TC:List Value}{B Bn newId QF Ec TB:String}{j:Nat}{p np gr:Pos}(t:KH X cl XE)(O:OwnCls x (cl c) bm newId X.mg X.base)(Fn:ExcBaseFacts Bn newId TB TC)(R8:bm.contains (.type Bn)=true)(FB:ExcBaseFacts B QF Ec bm)
  (hc:X.calm=true:=by rfl) (hx:X.ex=[]:=by rfl) (hg:Gl X x:=by rfl) (vx:(x==("__debug__":Str))=false:=by decide):yw X cl XE Φ G n (.yi c) (.Raise (some (.Call (.Name x np) [.Constant (.str tx) j p] [] gr)) none pos):=uW (wU hc hx t hg vx O Fn R8 FB)
theorem Pf{CE:Addr}{cn:Str}{np C6:Pos}{body hb:List Sm}{cs:List Nat}{b xu:List Stmt}{b0:Stmt}(hm:X.mg cn=some (.ref CE))(Iz:∀c∈cs,PySem.W.exmOne X.K (.ref (cl c)) (.ref CE)=some true)(ib:∀ae XH,si (xt X cl ae XH) cl XH Φ G n body b)(ih:∀a,si (Ed X a) cl (λ_ _ _=>False) Φ G n hb (b0::xu))
  (hx:X.ex=[]:=by rfl) (AV:X.stack=X.env::X.outer:=by rfl) (Ee:X.env.frame=some X.env.locals:=by rfl) (hg:Gl X cn:=by rfl) (vx:(cn==("__debug__":Str))=false:=by decide):
  yw X cl XE Φ G n (.Gq body cs none hb) (.Try b [.ExceptHandler (some (.Name cn np)) none (b0::xu) C6] [] [] pos):=G3 hx AV Ee hg hm vx Iz ib ih
end
theorem Vr{α:Type}:∀{us:List α},us.length=1->∃a,us=[a]
 |[a],_=>⟨a,rfl⟩
theorem Vs{α:Type}:∀{us:List α},us.length=2->∃a b,us=[a,b]
 |[a,b],_=>⟨a,b,rfl⟩
theorem Vt{α:Type}:∀{us:List α},us.length=3->∃a b c,us=[a,b,c]
 |[a,b,c],_=>⟨a,b,c,rfl⟩
theorem Vu{α:Type}:∀{us:List α},us.length=4->∃a b c d,us=[a,b,c,d]
 |[a,b,c,d],_=>⟨a,b,c,d,rfl⟩
theorem qU{K:PySem.W.Frag}(h0:PySem.W.subIn K (.ref d) (.type "BaseException")=some true)(h1:PySem.W.clsIn K d=some cd)(h2:PySem.W.typeIn K (.ref d)=some (.type "type"))(h3:PySem.W.subIn K (.ref c) (.ref d)=some true):PySem.W.exmOne K (.ref c) (.ref d)=some true:=by
 unfold PySem.W.exmOne;rw[h0,bg (by simp)];unfold PySem.W.kitCls;dsimp only;rw[h1,h2,bg (by simp)];exact h3
variable{X:Cx}{cl:Nat->Addr}{XE:Nat->St->Hp->Prop}{YE:Nat->Hp->Prop}{Φ:Nat->List D->R D}{G:List D}{n:Nat}{m fr:Bool}
variable{ea eb:Ex}{a b:Expr}{pos:Pos}
end L2.Snd
namespace L2.Snd
open PySem PySem.Spec PyProof.Rows L2 Py
section
variable{X:Cx}{cl:Nat->Addr}{XE:Nat->St->Hp->Prop}{YE:Nat->Hp->Prop}{Φ:Nat->List D->R D}{G:List D}{n:Nat}{m fr:Bool}
theorem lF{K:PySem.W.Frag}:∀{xs:List D}{ws:List V},bb K cl F H xs ws->xs.all xf=true->∃ys:List Int,ws=ys.map V.int/\ys.length=xs.length/\(∀y∈ys,-1000000<=y/\y<=1000000)/\Bx xs=some ys.sum
 |[],ws,r,_=>⟨[],by simpa[bb] using r,rfl,by simp,rfl⟩
 |d::xs,ws,r,h=>by
  rw[Fq,oy] at h;obtain⟨v,r',rfl,rv,rr⟩:=(by simpa only[bb] using r:∃v r,ws=v::r/\Rep K cl F H d v/\bb K cl F H xs r)
  obtain⟨ys,rfl,hl,hb,hs⟩:=lF rr h.2
  cases d with
  |int i=>
   have rv:v=.int i:=by simpa only[Rep] using rv
   have hi: -1000000<=i/\i<=1000000:=of_decide_eq_true h.1;refine⟨i::ys,by rw[rv];rfl,by simp[hl],?_,?_⟩
   ·intro y hy
    rcases List.mem_cons.mp hy with h|h
    ·rw[h];exact hi
    ·exact hb y h
   ·rw[Bx,hs];simp
  |_=>exact absurd h.1 (λz=>by cases z)
theorem LK(g:Paired (Got X.K cl F H) ds vs)(h:ax X.K cl YE m fr F H Q (qi (b_ .sum) ds)):
  ∃(p:Addr)(ys:List Int),vs=[.ref p]/\lj X.K H p (ys.map V.int)/\ys.length<=1000/\(∀y∈ys,-1000000<=y/\y<=1000000)/\Q (.int ys.sum) H:=by
 match ds,g,h with
 |[],_,h=>exact(show False from h).elim
 |_::_::_,_,h=>exact(show False from h).elim
 |[d],g,h=>
  obtain⟨v,rfl,gv⟩:=Paired.one g;have h:ax X.K cl YE m fr F H Q (b_ .sum d):=h
  cases d with
  |ak xs=>
   obtain⟨a,ws,rfl,h1,r1⟩:=gv.ak;have h:ax X.K cl YE m fr F H Q (if xs.length<=1000/\xs.all xf=true then wm ((Bx xs).map .int) else .bad):=h;by_cases hc:xs.length<=1000/\xs.all xf=true
   ·rw[bg hc] at h
    obtain⟨ys,rfl,hl,hb,hs⟩:=lF r1 hc.2;rw[hs] at h;exact⟨a,ys,rfl,lj.of h1,by omega,hb,ax.int h⟩
   ·rw[bh hc] at h
    exact(show False from h).elim
  |_=>exact(show False from h).elim
theorem Ph{ea:Ex}{a:Expr}{pos p:Pos}(hm:X.mg "sum"=none)(ia:dh X cl XE Φ G true ea a)(hc:X.calm=true:=by rfl)(hg:Gl X "sum":=by rfl)(hs:starEach (a::[]) X.env=(false,eval a X.env)::starEach [] X.env:=by rfl):dh X cl XE Φ G m (.b_ .sum ea) (.Call (.Name "sum" p) [a] [] pos):=
 cV (exs:=[ea]) (o:=qi (b_ .sum)) OE (kO hc) hg hm boot_sum (by decide) (by decide) hs rfl (bA hs ia bT) λYE F H vs ds Q t g h=>LK g h
def IX(K:PySem.W.Frag)(mg:Str->Option Value)(x:Str)(d:D):Prop:=∃(v:V)(u:Value),mg x=some u/\cm v u/\∀(cl:Nat->Addr)(F:Addr->Prop)(H:Hp),Rep K cl F H d v
end
noncomputable def vg(r:List Int):D:=.ar (r.map .int)
structure xi(H:Hp)(L:Addr)(as:List Addr)(R:List (List Int)):Prop where
 top:H L=some (.ak (as.map V.ref))
 len:as.length=R.length
 row:∀(j:Nat) a r,as[j]?=some a->R[j]?=some r->H a=some (.ak (r.map V.int))
 nd:as.Nodup
 ne:∀a∈as,a≠L
section
variable{X:Cx}{cl:Nat->Addr}{XE:Nat->St->Hp->Prop}{YE:Nat->Hp->Prop}{Φ:Nat->List D->R D}{G:List D}{n:Nat}{m fr:Bool}
theorem oS{K:PySem.W.Frag}:∀{r:List Int}{ws:List V},bb K cl F H (r.map D.int) ws->ws=r.map V.int
 |[],ws,h=>by simpa[bb] using h
 |x::r,ws,h=>by
  obtain⟨v,t,rfl,h1,h2⟩:=bb.cons_inv (by simpa using h);have h1:v=.int x:=by simpa only[Rep] using h1
  rw[h1,oS h2];rfl
noncomputable def Cb(K:PySem.W.Frag)(cl:Nat->Addr):TE:=λσ H Q=>∃F δ r,jg K cl F H σ δ/\δ[0]?=some (some (false,vg r))/\∀H' l,jn H H'->H' l=none->Q (.ref l) (upd H' l (.ak (r.map V.int)))
theorem G_(hm:X.mg "list"=none)(iv:dh X cl (λ_ _ _=>False) Φ G true (.aa 0) (.Name x p2))(hg:Gl X "list")(hs:starEach [.Name x p2] X.env=[(false,eval (.Name x p2) X.env)]):
  PE X (.Call (.Name "list" p) [.Name x p2] [] pos) (Cb X.K cl):=by
 obtain⟨ta,pa,ia⟩:=bA (es:=[]) (as:=[]) hs iv bT;have pe:=kX (p:=p) (pos:=pos) (X:=X) eQ hg hm boot_list pa (by decide) (by decide) hs rfl;rintro ae s σ H Q I ⟨F,δ,r,S,e0,q⟩;refine pe ae s σ H Q I ?_;refine ia F σ δ H _ S ?_;have e1:ck Φ G true [.aa 0] δ=.ok [vg r]:=by
  simp only[ck,ev,cj,e0,cw];rfl
 rw[e1];intro F' vs H' u g;rw[bg rfl] at g;obtain⟨v,rfl,gv⟩:=Paired.one g;obtain⟨a,ws,rfl,h1,r1⟩:=gv.ar;have:=oS r1;subst this;exact⟨a,_,rfl,.inr h1,λl hl=>q H' l u.same hl⟩
theorem jn.up1(h:jn H H'):Up F H F H':=⟨h,λ_ z=>z,λ_ z=>.inl z⟩
theorem qV(hw:∀F σ δ H R,jg X.K cl F H σ δ->Meet ((ck Φ G true [(.aa i)] δ).bind (bo .seq)) (λxs=>∀F' H' J P,Up F H F' H'->Wk X.K cl true J xs P->P F' H'->R J H') (λc=>∀F' H',Up F H F' H'->XE c σ H')->wi σ H R)
  (S:jg X.K cl F H σ δ) (hi:δ[i]?=some (some (b,.ak (Rw.map vg)))) (hl:Rw.length<=1000)
  (q:∀H' L as,jn H H'->H L=none->(∀a∈as,H a=none)->xi H' L as Rw->Q (.ref L) H'):
  xm wi (fj 0) (tO X.K cl (λ_ _ _=>False) Φ G none) (Cb X.K cl) [] 1 σ H Q:=by
 refine hw F σ δ H _ S ?_;have e:(ck Φ G true [(.aa i)] δ).bind (bo .seq)=.ok (Rw.map vg):=by
  have e1:ck Φ G true [(.aa i)] δ=.ok [.ak (Rw.map vg)]:=by
   simp only[ck,ev,cj,hi,cw];rfl
  rw[e1];show bo .seq [.ak (Rw.map vg)]=_;unfold bo;show(if(Rw.map vg).length<=jj then R.ok (Rw.map vg) else R.bad)=_;rw[bg (rm (by simpa using hl) (by decide))]
 rw[e];intro F1 H1 J P u1 W1 p1 L hL;have t1:AH F1 H1:=(S.up u1).Ag;have hsz:(1000:Nat)<sizeLine:=by decide
 refine⟨λj k dk H'=>k=Rw.length-j/\j<=Rw.length/\dk.length=1/\jn H1 H'/\∃as:List Addr,as.length=j/\xi H' L as (Rw.take j)/\∀a∈as,H1 a=none,⟨Rw.length,?_⟩,?_⟩
 ·refine⟨rfl,E3 _,by simp[qk],λa o z=>?_,[],rfl,⟨aC,by simp,by simp,by simp,by simp⟩,by simp⟩
  rw[aB (by rintro rfl;rw[hL] at z;cases z)];exact z
 ·rintro j k dk H' ⟨rfl,hj,Pj,sm,as,Pk,E6,xb⟩
  by_cases lq:j<Rw.length
  ·have pH:P F1 H':=W1.st F1 H1 F1 H' p1 (by unfold E5;rw[bg rfl];exact sm) λ_ z=>z
   obtain⟨go,yl⟩:=W1.go F1 H' j (vg Rw[j]) pH (by simp[lq]);refine .inr ⟨go,λv H2 hy=>?_⟩;obtain⟨u3,rx⟩:=yl v H2 hy;show tO X.K cl (λ_ _ _=>False) Φ G none (dk.set 0 (some v)) H2 _;refine⟨λ_=>False,[none],⟨by simp[Pj],λ_ z=>z.elim,λa d z=>?_,λa d z=>?_⟩,?_⟩
   ·cases a<;>simp at z
   ·cases a<;>simp at z
   ·simp only[Bc]
    intro F4 H4 u4;rw[bg rfl];have s4:jn H' H4:=u3.same.trans u4.same;refine⟨F1,[some (false,vg Rw[j])],Rw[j],⟨by simp[Pj],t1.up (jn.up1 (sm.trans s4)),λa d z=>?_,λa d z=>?_⟩,rfl,λH5 l s5 QT=>?_⟩
    ·cases a with
     |zero=>
      have z:vg Rw[j]=d:=by simpa using z
      subst z;refine⟨v,?_,rx.up (jn.up1 u4.same)⟩;rw[BM (by omega)]
     |succ a=>simp at z
    ·cases a<;>simp at z
    ·have M':jn H' H5:=s4.trans s5
     have nL:L≠l:=λz=>by
      have:=M' _ _ E6.top;rw[z,QT] at this;cases this
     have na:∀a∈as,a≠l:=λa ha z=>by
      obtain⟨c,hc,e⟩:=List.mem_iff_getElem.mp ha;have Ds:c<(Rw.take j).length:=by rw[←E6.len];exact hc
      have:=M' _ _ (E6.row c a ((Rw.take j)[c]) (by rw[←e];simp[hc]) (Ai Ds));rw[z,QT] at this;cases this
     refine⟨as.map V.ref,Rw.length-(j+1),?_,?_,by omega,rfl,lq,by simp[Pj],λa o z=>?_,as++[l],by simp[Pk],⟨?_,?_,?_,?_,?_⟩,?_⟩
     ·rw[aB nL];exact M' _ _ E6.top
     ·rw[gh,Pk];omega
     ·have z5:=(sm.trans M') _ _ z
      rw[aB (by rintro rfl;rw[hL] at z;cases z),aB (by rintro rfl;rw[QT] at z5;cases z5)];exact z5
     ·rw[aC];simp
     ·simp[Pk];omega
     ·intro c a r h1 h2
      have et:Rw.take (j+1)=Rw.take j++[Rw[j]]:=DD lq;rw[et] at h2;by_cases hc:c<j
      ·rw[DF (by omega)] at h1
       rw[DF (by simp;omega)] at h2;have ha:a∈as:=MS h1;rw[aB (E6.ne a ha),aB (na a ha)];exact M' _ _ (E6.row c a r h1 h2)
      ·have JI:c<(as++[l]).length:=(List.getElem?_eq_some_iff.mp h1).1
       have Vv:c=j:=by simp[Pk] at JI;omega
       subst Vv;have e1:a=l:=by
        rw[DE (by omega)] at h1;simpa[Pk] using h1.symm
       have e2:r=Rw[c]:=by
        rw[DE (by rw[Be];omega)] at h2;have hm:min c Rw.length=c:=by omega
        simpa[hm] using h2.symm
       subst e1;rw[aB (kg nL),aC,e2]
     ·rw[List.nodup_append]
      refine⟨E6.nd,by simp,λa ha b hb=>?_⟩;have hb:b=l:=by simpa using hb
      rw[hb];exact na a ha
     ·intro a ha
      rcases List.mem_append.mp ha with h|h
      ·exact E6.ne a h
      ·have h:a=l:=by simpa using h
       rw[h];exact kg nL
     ·intro a ha
      rcases List.mem_append.mp ha with h|h
      ·exact xb a h
      ·have h:a=l:=by simpa using h
       rw[h]
       cases z:H1 l with
       |none=>rfl
       |some o=>have:=(sm.trans M') _ _ z;rw[QT] at this;cases this
  ·have QE:j=Rw.length:=by omega
   subst QE;rw[BV] at E6;have pH:P F1 H':=W1.st F1 H1 F1 H' p1 (by unfold E5;rw[bg rfl];exact sm) λ_ z=>z;have st:=W1.stop F1 H' pH;rw[gh] at st;have back:∀a,H1 a=none->H a=none:=λa z=>by
    cases w:H a with
    |none=>rfl
    |some o=>have:=u1.same _ _ w;rw[z] at this;cases this
   exact .inl ⟨st,q H' L as (u1.same.trans sm) (back L hL) (λa ha=>back a (xb a ha)) E6⟩
end
theorem wd(xs:List V)(k:Nat):zf xs (some (((k:Nat):Int)+1)) none=xs.drop (k+1):=by
 unfold zf;rw[show(((k:Nat):Int)+1)=((k+1:Nat):Int) by omega,HT.F7,HT.DS];by_cases h:k+1<=xs.length
 ·rw[Nat.min_eq_left h,Jp (by simp)]
 ·rw[Nat.min_eq_right (by omega),List.drop_eq_nil_of_le (by omega),List.drop_eq_nil_of_le (by omega)];simp
theorem oU:∀{xs:List D}{r:List Int},ku xs=some r->xs=r.map D.int
 |[],r,h=>by simp only[ku,Option.some.injEq] at h;subst h;rfl
 |.int i::xs,r,h=>by
  simp only[ku,Option.map_eq_some_iff] at h;obtain⟨q,h1,rfl⟩:=h;rw[oU h1];rfl
 |.de::_,_,h=>by simp[ku] at h
 |.bl _::_,_,h=>by simp[ku] at h
 |.str _::_,_,h=>by simp[ku] at h
 |.ar _::_,_,h=>by simp[ku] at h
 |.ak _::_,_,h=>by simp[ku] at h
 |.jt _ _::_,_,h=>by simp[ku] at h
 |.yv _::_,_,h=>by simp[ku] at h
 |.ig _::_,_,h=>by simp[ku] at h
theorem oV:∀{xs:List D}{R:List (List Int)},kh xs=some R->xs=R.map vg
 |[],r,h=>by simp only[kh,Option.some.injEq] at h;subst h;rfl
 |.ar i::xs,r,h=>by
  simp only[kh,Option.bind_eq_some_iff,Option.map_eq_some_iff] at h;obtain⟨q,h1,R,h2,rfl⟩:=h;rw[oU h1,oV h2];rfl
 |.de::_,_,h=>by simp[kh] at h
 |.bl _::_,_,h=>by simp[kh] at h
 |.str _::_,_,h=>by simp[kh] at h
 |.int _::_,_,h=>by simp[kh] at h
 |.ak _::_,_,h=>by simp[kh] at h
 |.jt _ _::_,_,h=>by simp[kh] at h
 |.yv _::_,_,h=>by simp[kh] at h
 |.ig _::_,_,h=>by simp[kh] at h
theorem G'(h:cg δ i=.ok d):δ[i]?=some (some (false,d)):=by
 unfold cg at h;split at h
 ·rename_i e;cases h;exact e
 ·cases h
theorem qW{R:List (List Int)}(h:qy (cg δ i)=some R):δ[i]?=some (some (false,.ak (R.map vg))):=by
 cases e:cg δ i with
 |ok d=>
  rw[e] at h
  cases d with
  |ak xs=>
   have:=oV (show kh xs=some R from h);subst this;exact G' e
  |_=>simp[qy] at h
 |exc c=>rw[e] at h;simp[qy] at h
 |bad=>rw[e] at h;simp[qy] at h
section
variable{X:Cx}{cl:Nat->Addr}{XE:Nat->St->Hp->Prop}{Φ:Nat->List D->R D}{G:List D}{n:Nat}
def Pl(X:Cx)(cl:Nat->Addr)(i j:Nat)(st:Stmt):Prop:=∃t,PS X st (qj t (fj j))/\∀F σ δ H Q b Rw,jg X.K cl F H σ δ->δ[i]?=some (some (b,.ak (Rw.map vg)))->Rw.length<=1000->
 (∀H' L as,jn H H'->H L=none->(∀a∈as,H a=none)->xi H' L as Rw->Q (.ref L) H')->t σ H Q
end
section
variable{X:Cx}{cl:Nat->Addr}{Φ:Nat->List D->R D}{G:List D}{n:Nat}
theorem Ha{p p2 cp tp zp py wb pos:Pos}(N':List Str)(Sc:jy X N' [] 1 scope)(hN:X.N.Nodup)(hm:X.mg "list"=none)(WO:N'=[x])
  (hi:Dc X cl (λ_ _ _=>False) Φ G true .seq [.aa i] (.Name x tp) (.Name z zp))
  (hg:∀jc C s H fp,Er (cu X N' scope jc C s H fp λ_ _=>False) cl [0] (fj 0) (.Name x tp))
  (he:∀jc C s H fp,dh (cu X N' scope jc C s H fp λ_ _=>False) cl (λ_ _ _=>False) Φ G true (.aa 0) (.Name x p2))
  (hl:∀jc C s H fp,Gl (cu X N' scope jc C s H fp λ_ _=>False) "list"/\starEach [.Name x p2] (cu X N' scope jc C s H fp λ_ _=>False).env=[(false,eval (.Name x p2) (cu X N' scope jc C s H fp λ_ _=>False).env)])
  (hy:X.N[j]?=some y:=by rfl) (hx:Loc X.env.scope y:=by first|exact Or.inl rfl|exact Or.inr rfl) (hf:X.fn y=true\/X.env.scope.names.lookup y=some .local:=by first|exact .inl rfl|exact .inr rfl)
  (AY:swapsWith (.ListComp (.Call (.Name "list" p) [.Name x p2] [] cp) [⟨.Name x tp,.Name z zp,[],0⟩] scope pos) (some (.Name y py)) wb.line X.env=pure true:=by rfl)
  (hc:X.calm=true:=by rfl) (hs:∀v,foldedSetIterable (.Name z zp) X.env v=pure v:=by intro _;rfl):
  Pl X cl i j (.Assign [.Name y py] (.ListComp (.Call (.Name "list" p) [.Name x p2] [] cp) [⟨.Name x tp,.Name z zp,[],0⟩] scope pos) wb):=by
 obtain⟨wi,pi,hw⟩:=hi;refine⟨_,gS (tc:=tO X.K cl (λ_ _ _=>False) Φ G none) (te:=Cb X.K cl) hN hy hx hf AY hc pi Sc (λjc C s H fp=>(hg jc C s H fp).1) (λjc C s H fp=>oN) (λjc C s H fp=>G_ hm (he jc C s H fp) (hl jc C s H fp).1 (hl jc C s H fp).2) hs,λF σ δ H Q b Rw S hi hl q=>?_⟩;exact qV (X:=X) (XE:=λ_ _ _=>False) hw S hi hl q
theorem aM{i:Nat}{x:Str}{pos:Pos}(hN:X.N[i]?=some x:=by rfl)(hv:DM X.env.scope x:=by first|exact Or.inl rfl|exact Or.inr (Or.inl rfl)|exact Or.inr (Or.inr rfl))(hd:(x==("__debug__":Str))=false:=by decide)(uj:(x==("__classdict__":Str))=false:=by decide):PE X (.Name x pos) (ik i):=iV hN hv hd uj
end
def Bz(K:PySem.W.Frag)(d:D)(v:V):Prop:=∀(cl:Nat->Addr)(F:Addr->Prop)(H:Hp),Rep K cl F H d v
theorem cW{K:PySem.W.Frag}:Bz K (.int i) (.int i):=λ_ _ _=>by simp[Rep]
theorem tG{K:PySem.W.Frag}:∀{ds:List D}{vs:List V},Paired (Bz K) ds vs->∀(cl:Nat->Addr)(F:Addr->Prop)(H:Hp),bb K cl F H ds vs
 |_,_,.nil,_,_,_=>bb.nil
 |_,_,.cons a r,cl,F,H=>bb.cons (a cl F H) (tG r cl F H)
theorem jH{K:PySem.W.Frag}(hl:K.lookup a=some ⟨.type "tuple",od,.seq us.toArray k,sl⟩)(hv:dj vs us)(hd:Paired (Bz K) ds vs)(hn:us.length<=sizeLine):Bz K (.ar ds) (.ref a):=λcl F H=>by
 simp only[Rep];exact⟨a,vs,rfl,.inr ⟨_,_,_,hl,rfl,rfl,by simpa using hn,by simpa using hv⟩,tG hd cl F H⟩
theorem Hb{K:PySem.W.Frag}(hm:mg x=some (.ref a))(g:Bz K d (.ref a)):IX K mg x d:=⟨.ref a,.ref a,hm,rfl,g⟩
theorem mV(hr:mf (j+1) A):A.units+20<cLine:=Dm (Jr (by decide) _) hr.units
end L2.Snd
namespace L2
open PySem PySem.Spec PyProof.Rows
section
variable{X:Cx}{ae:List (Addr×Obj)}{σ:St}{H:Hp}{s:Shared}{d:Addr}{o:Obj}{u u':HO}{kvs:List (Key×V)}
theorem KV.at{l:List (κ×V)}{r:List (κ×Value)}{i:Nat}{p:κ×V}(k:KV l r)(e:l[i]?=some p):∃q,r[i]?=some (p.1,q)/\cm p.2 q:=by
 unfold KV at k
 induction k generalizing i with
 |nil=>simp at e
 | @cons a b x y h t ih=>
  cases i with
  |zero=>
   simp only[List.getElem?_cons_zero,Option.some.injEq] at e;subst e;refine⟨b.2,?_,h.2⟩;show some b=some (a.1,b.2);rw[h.1]
  |succ i=>simpa using ih (by simpa using e)
end
end L2
namespace L2.Snd
open PySem PySem.Spec PyProof.Rows L2 Py
section
variable{X:Cx}{cl:Nat->Addr}{XO:Nat->Hp->Prop}{Φ:Nat->List D->R D}{G:List D}{m fr:Bool}
theorem qX
  (hw:∀F σ δ H R,jg X.K cl F H σ δ->Meet ((ck Φ G true [it] δ).bind (bo .seq)) (λxs=>∀F' H' J P,Up F H F' H'->Wk X.K cl true J xs P->P F' H'->R J H') (λc=>∀F' H',Up F H F' H'->XO c H')->wi σ H R)
  (S:jg X.K cl F H σ δ) (h:ax X.K cl XO m true F H Q (ev Φ G m (.Am it caps f es) δ)):
  xm wi (fj 0) (λσ H Q=>Q true H) (tE X.K cl (λc _ H'=>XO c H') Φ G false (.call f es)) caps 1 σ H Q:=by
 simp only[ev] at h;generalize hf:(λx=>(ck Φ G false es (some (false,x)::eh δ caps)).bind λas=>(Φ f as).bind λy=>(.ok (some y):R (Option D)))=g at h;have h0:Meet ((ck Φ G true [it] δ).bind (bo .seq)) (λxs=>xs.length<=jj/\Meet (h_ g xs) (λys=>ax X.K cl XO m true F H Q (.ok (.ak ys))) (λc=>∀F' H',Up F H F' H'->XO c H')) (λc=>∀F' H',Up F H F' H'->XO c H'):=by
  simp only[ck]
  cases e:ev Φ G true it δ with
  |exc c=>rw[e] at h;exact h
  |bad=>rw[e] at h;exact h
  |ok s=>
   rw[e] at h;have h':Meet ((bo .seq [s]).bind λxs=>(h_ g xs).bind λys=>R.ok (D.ak ys)) (λd=>∀F' v H',Up F H F' H'->Gives X.K cl m true F' H H' d v->Q v H') (λc=>∀F' H',Up F H F' H'->XO c H'):=h;have h1:=Meet.bind h';show Meet (bo .seq [s]) _ _
   cases e2:bo .seq [s] with
   |exc c=>rw[e2] at h1;exact h1
   |bad=>rw[e2] at h1;exact h1
   |ok xs=>
    rw[e2] at h1;refine⟨?_,Meet.bind h1⟩;unfold bo at e2
    cases e3:zq .seq [s] with
    |ok ys=>
     rw[e3] at e2;simp only[R.g_] at e2;by_cases hc:ys.length<=jj
     ·rw[bg hc] at e2;cases e2;exact hc
     ·rw[bh hc] at e2;cases e2
    |exc c=>rw[e3] at e2;cases e2
    |bad=>rw[e3] at e2;cases e2
 clear h;unfold xm;refine hw F σ δ H _ S (Meet.mono h0 (λxs _ hx F1 H1 J P u1 W1 p1 q hq=>?_) λc z=>z);obtain⟨di,hx⟩:=hx;have nq:∀b o,H1 b=some o->b≠q:=λb o e z=>by rw[z,hq] at e;cases e
 have Sl:¬F1 q:=(S.up u1).Ag.fresh hq;refine⟨λi n dk H'=>n=xs.length-i/\i<=xs.length/\dk.length=1+caps.length/\(∀j,1<=j->dk[j]?=(qk σ caps 1)[j]?)/\
  ∃F' ys ds,Up F1 H1 F' H'/\¬F' q/\H' q=some (.ak ys)/\bb X.K cl F' H' ds ys/\ds.length<=i/\Meet (h_ g (xs.drop i)) (λrest=>ax X.K cl XO m true F H Q (.ok (.ak (ds++rest)))) (λc=>∀F' H',Up F H F' H'->XO c H'),⟨xs.length,?_⟩,?_⟩
 ·exact⟨by simp,E3 _,by simp[qk,Nat.add_comm],λj _=>rfl,F1,[],[],Up.alloc hq,Sl,aC,bb.nil,ji _,by simpa using hx⟩
 ·rintro i n dk H' ⟨rfl,hi,hl,hc,F',ys,ds,u2,nF,ON,r2,DY,rz⟩
  have pH:P F' H':=W1.st F1 H1 F' H' p1 (by unfold E5;rw[bg rfl];exact u2.same) u2.sub;by_cases lq:i<xs.length
  ·refine .inr ?_
   obtain⟨go,yl⟩:=W1.go F' H' i xs[i] pH (by simp[lq]);refine⟨go,λv H2 hy=>?_⟩;obtain⟨u3,rx⟩:=yl v H2 hy;have hd:xs.drop i=xs[i]::xs.drop (i+1):=MP lq;rw[hd] at rz;simp only[h_] at rz;have Lh:Up F1 H1 F' H2:=u2.trans u3;have S2:jg X.K cl F' H2 (jh dk (List.range 1) [v]) ([xs[i]].map (λt=>some (false,t))++eh δ caps):=oP S (u1.trans Lh) hl hc rfl (bb.cons rx bb.nil);have MY:(dk.set 0 (some v)).length=1+caps.length:=by rw[Cn];exact hl
   have Ds:∀j,1<=j->(dk.set 0 (some v))[j]?=(qk σ caps 1)[j]?:=λj hj=>by
    rw[x_ (by omega)];exact hc j hj
   have Ep:H2 q=some (.ak ys):=u3.same _ _ ON;show tE X.K cl (λc _ H'=>XO c H') Φ G false (.call f es) (dk.set 0 (some v)) H2 _;refine⟨F',some (false,xs[i])::eh δ caps,S2,?_⟩;have hg:g xs[i]=(ev Φ G false (.call f es) (some (false,xs[i])::eh δ caps)).bind λy=>.ok (some y):=by
    rw[←hf];simp only[ev];cases ck Φ G false es (some (false,xs[i])::eh δ caps)<;>rfl
   rw[hg] at rz;have hm:Meet (ev Φ G false (.call f es) (some (false,xs[i])::eh δ caps)) (λy=>Meet (h_ g (xs.drop (i+1))) (λrest=>ax X.K cl XO m true F H Q (.ok (.ak (ds++y::rest)))) (λc=>∀F' H',Up F H F' H'->XO c H')) (λc=>∀F' H',Up F H F' H'->XO c H'):=by
    cases e:ev Φ G false (.call f es) (some (false,xs[i])::eh δ caps) with
    |exc c=>rw[e] at rz;exact rz
    |bad=>rw[e] at rz;exact rz
    |ok y=>
     rw[e] at rz;have SH:Meet ((h_ g (xs.drop (i+1))).bind λys=>.ok (y::ys)) _ _:=rz;have hb:=Meet.bind SH;exact hb
   refine Meet.mono hm (λy _ M_ F4 w H4 u5 gv=>?_) λc z F4 H4 u5=>z F4 H4 ((u1.trans Lh).trans u5);unfold Gives at gv;rw[bh kj] at gv;obtain⟨F5,u6,Sn,Ay⟩:=gv.keep u5;have Li:H4 q=some (.ak ys):=u6.same _ _ Ep;have Lj:¬F5 q:=λz=>(u6.new q z).elim nF λy=>by rw[Ep] at y;cases y.1
   have r4:bb X.K cl F5 H4 ds ys:=(r2.up u3).up u6;have pr:iq F5 H4 (L2.upd H4 q (.ak (ys++[w]))):=iq.upd Lj (λzs e=>by rw[Li] at e;cases e) (λo u e=>by rw[Li] at e;cases e);have u7:Up F1 H1 F5 H4:=Lh.trans u6;refine⟨ys,xs.length-(i+1),Li,?_,by omega,rfl,lq,MY,Ds,F5,ys++[w],ds++[y],⟨λb o e=>?_,u7.sub,λa z=>?_⟩,Lj,aC,?_,?_,?_⟩
   ·rw[r4.length];exact Dm (rm DY (DL lq)) (Dm di (by decide))
   ·rw[aB (nq b o e)];exact u7.same b o e
   ·rcases u7.new a z with y|⟨y1,y2⟩
    ·exact .inl y
    ·refine .inr ⟨y1,?_⟩
     rw[aB (by rintro rfl;exact Lj z)];exact y2
   ·exact(r4.mono pr λ_ z=>z).append (bb.cons (Ay.mono pr λ_ z=>z) bb.nil)
   ·rw[vm,List.length_singleton];omega
   ·refine Meet.mono M_ (λrest _ z=>?_) λc z=>z
    rw[ql];exact z
  ·have AI:i=xs.length:=by omega
   subst AI;refine .inl ⟨W1.stop F' H' pH,?_⟩;rw[List.drop_length] at rz;have rz:ax X.K cl XO m true F H Q (.ok (.ak (ds++[]))):=rz;rw[A_] at rz;refine rz F' (.ref q) H' (u1.trans u2) (Res.gives ?_);unfold Res;rw[bg (by simp[ba])];exact⟨q,rfl,u1.same.free hq,nF,ys,ON,r2⟩
theorem LM{it:Ex}{caps:List Nat}{f:Nat}{es:List Ex}{x:Str}{tp:Pos}{iter e:Expr}{scope:Scope}{pos py wb:Pos}{L:Addr}{i:Nat}{y:Str}{n:Nat}(hN:X.N.Nodup)(tX:QH X cl (λc _ H=>XO c H))
  (hi:Dc X cl (λc _ H=>XO c H) Φ G true .seq [it] (.Name x tp) iter)
  (he:∀jc C s H fp E,Bw (Es X (.Name x tp) caps scope jc C s H fp E) cl XO->dh (Es X (.Name x tp) caps scope jc C s H fp E) cl (λc _ H=>XO c H) Φ G false (.call f es) e)
  (Sc:LD X (.Name x tp) caps 1 scope=true:=by rfl) (hx:X.ex=[]:=by rfl) (AV:X.stack=X.env::X.outer:=by rfl) (Ee:X.env.frame=some L:=by rfl)
  (hy:X.N[i]?=some y:=by rfl) (zk:Loc X.env.scope y:=by first|exact Or.inl rfl|exact Or.inr rfl) (hf:X.fn y=true\/X.env.scope.names.lookup y=some .local:=by first|exact .inl rfl|exact .inr rfl) (AY:swapsWith (.ListComp e [⟨.Name x tp,iter,[],0⟩] scope pos) (some (.Name y py)) wb.line X.env=pure true:=by rfl)
  (hc:X.calm=true:=by rfl) (hs:∀x,foldedSetIterable iter X.env x=pure x:=by intro _;rfl):yw X cl (λc _ H=>XO c H) Φ G n (.bz i (.Am it caps f es)) (.Assign [.Name y py] (.ListComp e [⟨.Name x tp,iter,[],0⟩] scope pos) wb):=by
 obtain⟨wi,pi,hw⟩:=hi;obtain⟨Sc,hg⟩:=LF (cl:=cl) Sc;refine gW rfl ⟨_,mR (clx:=cl) (XE:=λc _ H=>XO c H) (tc:=λσ H Q=>Q true H) (te:=tE X.K cl (λc _ H'=>XO c H') Φ G false (.call f es)) hN hy zk hf AY hc pi Sc hx AV Ee tX (λjc C s H fp E=>(hg jc C s H fp E).1) (λjc C s H fp E=>sQ) (λ_ jc C s H fp E z=>(he jc C s H fp E z).pe) hs,λF σ δ H Q S h=>?_⟩;exact qX hw S h
theorem LN(h:Bw X cl XO)(σ:St):vj (yu X.prog X.w) X σ (M7 cl λc=>XO c):=λae H s e s' I z=>h ae σ H s e s' I z
end
end L2.Snd
namespace L2
open PySem PySem.Spec PyProof.Rows
variable{X:Cx}
end L2
namespace L2.Snd
open PySem PySem.Spec PyProof.Rows L2 Py
end L2.Snd
namespace L2
open PySem PyProof.Rows
variable{X:Cx}
end L2
namespace L2.Snd
open PySem PySem.Spec PyProof.Rows L2 Py
end L2.Snd
namespace Py
theorem u0:ah []=0:=rfl
theorem aD(a b:Int)(r:List (Int×Int)):ah ((a,b)::r)=(if a=b then 1 else 0)+ah (r.map (yg a b)):=by
 simp[ah,Dw]
noncomputable def names(l:List (Int×Int)):List Int:=l.flatMap λp=>[p.1,p.2]
noncomputable def mp(f:Int->Int)(p:Int×Int):Int×Int:=(f p.1,f p.2)
theorem oW(h:x∈names (l.map (yg a b))):x=a\/x∈names l:=by
 simp only[names,Fj,BX,qf,BW,BY] at h⊢;obtain⟨_,⟨p,hp,rfl⟩,h⟩:=h;simp only[yg,sb] at h;rcases h with h|h
 ·split at h
  ·exact .inl h
  ·exact .inr ⟨p,hp,.inl h⟩
 ·split at h
  ·exact .inl h
  ·exact .inr ⟨p,hp,.inr h⟩
theorem b8(h:p∈l):p.1∈names l/\p.2∈names l:=by
 simp only[names,Fj,qf,BW,BY];exact⟨⟨p,h,.inl rfl⟩,⟨p,h,.inr rfl⟩⟩
theorem dF(f:Int->Int):∀(n:Nat)(l:List (Int×Int)),l.length=n->(∀x∈names l,∀y∈names l,f x=f y->x=y)->ah (l.map (mp f))=ah l
 |0,[],_,_=>rfl
 |n+1,(a,b)::r,hn,h=>by
  have ma:a∈names ((a,b)::r):=(b8 wo).1;have mb:b∈names ((a,b)::r):=(b8 (p:=(a,b)) wo).2;have mr:∀x∈names r,x∈names ((a,b)::r):=λx hx=>by
   simp only[names,Ij,Bh];exact .inr hx
  show ah ((f a,f b)::r.map (mp f))=_;rw[aD,aD];have e1:(f a=f b)↔a=b:=⟨h a ma b mb,λe=>by rw[e]⟩
  have e2:(r.map (mp f)).map (yg (f a) (f b))=(r.map (yg a b)).map (mp f):=by
   rw[wk,wk];refine Ae λp hp=>?_;have q:=b8 hp;have g:∀x∈names r,sb (f a) (f b) (f x)=f (sb a b x):=λx hx=>by
    unfold sb;by_cases C4:x=b
    ·rw[bg C4,bg (by rw[C4])]
    ·rw[bh C4,bh λe=>C4 (h x (mr x hx) b mb e)]
   simp only[Function.comp,mp,yg];rw[g _ q.1,g _ q.2]
  rw[e2,dF f n (r.map (yg a b)) (by rw[gh];simpa using hn) λx hx y hy=>by
   have C4:x∈names ((a,b)::r):=(oW hx).elim (λe=>e▸ma) (mr x);have Vw:y∈names ((a,b)::r):=(oW hy).elim (λe=>e▸ma) (mr y);exact h x C4 y Vw]
  simp only[e1]
noncomputable def df:Nat->List (List Int)
 |0=>[[]]
 |n+1=>(df n).map (· ++[0])++(df n).map (· ++[1])
noncomputable def sumF{α:Type}(g:α->Int)(l:List α):Int:=(l.map g).sum
theorem b9(g:α->Int)(a b:List α):sumF g (a++b)=sumF g a+sumF g b:=by
 simp[sumF,wj,List.sum_append]
theorem bU(g:β->Int)(f:α->β)(a:List α):sumF g (a.map f)=sumF (λx=>g (f x)) a:=by
 simp[sumF,Ju]
theorem aR(g:α->Int)(x:α)(a:List α):sumF g (x::a)=g x+sumF g a:=by simp[sumF]
theorem jI(g:α->Int):sumF g ([]:List α)=0:=rfl
theorem aG{α:Type}{g f:α->Int}{l:List α}(h:∀x∈l,g x=f x):sumF g l=sumF f l:=by
 unfold sumF;rw[Ae h]
theorem jJ(g f:α->Int):∀l:List α,sumF (λx=>g x+f x) l=sumF g l+sumF f l
 |[]=>rfl
 |x::r=>by rw[aR,aR,aR,jJ g f r];omega
theorem fW:∀(n:Nat)(g:List Int->Int),sumF g (df (n+1))=sumF (λw=>g (0::w)) (df n)+sumF (λw=>g (1::w)) (df n)
 |0,g=>by simp[df,sumF]
 |n+1,g=>by
  have e:sumF g (df (n+2))=sumF (λw=>g (w++[0])) (df (n+1))+sumF (λw=>g (w++[1])) (df (n+1)):=by
   show sumF g ((df (n+1)).map (· ++[0])++(df (n+1)).map (· ++[1]))=_;rw[b9,bU,bU]
  rw[e,fW n,fW n];have e2:∀c:Int,sumF (λw=>g (c::w)) (df (n+1))=sumF (λw=>g (c::(w++[0]))) (df n)+sumF (λw=>g (c::(w++[1]))) (df n):=λc=>by
   show sumF _ ((df n).map (· ++[0])++(df n).map (· ++[1]))=_;rw[b9,bU,bU]
  rw[e2,e2];simp only[E0];omega
theorem cA:∀(n:Nat)(w:List Int),w∈df n->w.length=n
 |0,w,h=>by simp[df] at h;simp[h]
 |n+1,w,h=>by
  simp only[df,Bh,BX] at h;rcases h with⟨v,hv,rfl⟩|⟨v,hv,rfl⟩<;>simp[cA n v hv]
noncomputable abbrev Po:=Int->Int
noncomputable def mono(p:Int):Po:=λi=>if i=p then 1 else 0
noncomputable def tr(f:Po):Po:=λi=> -(f (i-2))-f (i+2)
noncomputable def zu:Nat->Po->Po
 |0,f=>f
 |n+1,f=>tr (zu n f)
noncomputable def IY(k:Int)(f:Po):Po:=λi=>f (i-k)
theorem LO(k:Int)(f:Po):tr (IY k f)=IY k (tr f):=by
 funext i;show-(f (i-2-k))-f (i+2-k)= -(f (i-k-2))-f (i-k+2);rw[show i-2-k=i-k-2 by omega,show i+2-k=i-k+2 by omega]
theorem iG(k:Int)(f:Po):∀n,zu n (IY k f)=IY k (zu n f)
 |0=>rfl
 |n+1=>by show tr (zu n (IY k f))=IY k (tr (zu n f));rw[iG k f n,LO]
theorem jK(p k:Int):mono (p+k)=IY k (mono p):=by
 funext i;simp only[mono,IY];by_cases h:i=p+k
 ·rw[bg h,bg (by omega)]
 ·rw[bh h,bh (by omega)]
noncomputable abbrev X4:=Int×Int×Int×Int
noncomputable def BA(r:X4)(w:Int):List (Int×Int):=if w=0 then[(r.1,r.2.1),(r.2.2.1,r.2.2.2)] else[(r.1,r.2.2.2),(r.2.1,r.2.2.1)]
noncomputable def dw:List X4->List Int->List (Int×Int)
 |r::rs,w::ws=>BA r w++dw rs ws
 |_,_=>[]
noncomputable def Et(f:Int->Int)(r:X4):X4:=(f r.1,f r.2.1,f r.2.2.1,f r.2.2.2)
theorem tH(f:Int->Int)(r:X4)(w:Int):(BA r w).map (mp f)=BA (Et f r) w:=by
 unfold BA;split<;>rfl
theorem jL(f:Int->Int):∀(rs:List X4)(ws:List Int),(dw rs ws).map (mp f)=dw (rs.map (Et f)) ws
 |[],_=>rfl
 |_::_,[]=>rfl
 |r::rs,w::ws=>by
  show(BA r w++dw rs ws).map (mp f)=BA (Et f r) w++dw (rs.map (Et f)) ws;rw[wj,tH,jL f rs ws]
noncomputable def zv(rs:List X4)(g:Nat):Po:=λi=>sumF (λw=>zu (g+ah (dw rs w)) (mono (rs.length-2*w.sum)) i) (df rs.length)
theorem sum_cons(w:Int)(ws:List Int):(w::ws).sum=w+ws.sum:=by simp
noncomputable def Pm(r:X4):List Int:=[r.1,r.2.1,r.2.2.1,r.2.2.2]
theorem cI:∀(rs:List X4)(ws:List Int)(x:Int),x∈names (dw rs ws)->x∈rs.flatMap Pm
 |[],_,x,h=>by simp[dw,names] at h
 |_::_,[],x,h=>by simp[dw,names] at h
 |r::rs,w::ws,x,h=>by
  have h':x∈names (BA r w)\/x∈names (dw rs ws):=by simpa[dw,names,Js] using h
  simp only[Ij,Bh];rcases h' with h|h
  ·left
   unfold BA at h;split at h<;>· simp only[names,Ij,List.flatMap_nil,Bh,qf,BW,BY] at h;simp only[Pm,qf,BW,BY];grind
  ·exact .inr (cI rs ws x h)
theorem Hc(f:Int->Int)(rs:List X4)(g:Nat)(h:∀x∈rs.flatMap Pm,∀y∈rs.flatMap Pm,f x=f y->x=y):zv (rs.map (Et f)) g=zv rs g:=by
 funext i;unfold zv;rw[gh];refine aG λw _=>?_;rw[←jL,dF f _ _ rfl λx hx y hy=>h x (cI _ _ _ hx) y (cI _ _ _ hy)]
noncomputable def cc:List Int->Int->Po
 |[],_,_=>0
 |x::xs,q,i=>(if i=q then x else 0)+cc xs (q-4) i
noncomputable def adds:List Int->List Int->List Int
 |x::xs,y::ys=>(x+y)::adds xs ys
 |[],ys=>ys
 |xs,[]=>xs
theorem tI:∀(a b:List Int)(q i:Int),cc (adds a b) q i=cc a q i+cc b q i
 |[],b,q,i=>by cases b<;>simp[adds,cc]
 |x::xs,[],q,i=>by simp[adds,cc]
 |x::xs,y::ys,q,i=>by
  simp only[adds,cc,tI xs ys];split<;>omega
theorem tJ:∀(a:List Int)(q i:Int),cc (a++[0]) q i=cc a q i
 |[],q,i=>by simp[cc]
 |x::xs,q,i=>by simp only[E0,cc,tJ xs]
theorem SI(a:List Int)(q i:Int):cc (0::a) q i=cc a (q-4) i:=by simp[cc]
theorem jM:∀(a:List Int)(q k i:Int),cc a q (i-k)=cc a (q+k) i
 |[],_,_,_=>rfl
 |x::xs,q,k,i=>by
  simp only[cc];rw[jM xs,show q-4+k=q+k-4 by omega]
  congr 1
  by_cases h:i-k=q
  ·rw[bg h,bg (by omega)]
  ·rw[bh h,bh (by omega)]
noncomputable def Pn(a:List Int):List Int:=adds (a++[0]) (0::a)
noncomputable def we:Nat->List Int
 |0=>[1]
 |n+1=>Pn (we n)
noncomputable def sg(n:Nat):Int:=1-2*((n:Int)%2)
theorem Hd(n:Nat):sg (n+1)= -sg n:=by unfold sg;omega
theorem qY(p:Int):∀(n:Nat)(i:Int),zu n (mono p) i=sg n*cc (we n) (p+2*n) i
 |0,i=>by
  have h:sg 0=1:=rfl;simp[zu,mono,we,cc,h]
 |n+1,i=>by
  show-(zu n (mono p) (i-2))-zu n (mono p) (i+2)=_;rw[qY p n,qY p n,jM,show i+2=i-(-2) by omega,jM,Hd];show _= -sg n*cc (adds (we n++[0]) (0::we n)) _ i;rw[tI,tJ,SI,show p+2*((n+1:Nat):Int)=p+2*n+2 by omega,show p+2*(n:Int)+2-4=p+2*n+ -2 by omega,Int.neg_mul,Int.mul_add];omega
noncomputable def BR:List Int->List Int
 |x::y::r=>(x+y)::BR (y::r)
 |_=>[]
theorem jN:∀(x:Int)(r:List Int),adds (r++[0]) (x::r)=BR (x::r)++[(x::r).getLast (List.cons_ne_nil _ _)]
 |x,[]=>by simp[adds,BR]
 |x,y::r=>by
  show adds (y::(r++[0])) (x::y::r)=(x+y)::(BR (y::r)++[_]);rw[List.getLast_cons (List.cons_ne_nil _ _),←jN y r];show(y+x)::adds (r++[0]) (y::r)=_;rw[Int.add_comm]
theorem jO:∀n,∃r,we n=1::r/\(1::r).getLast (List.cons_ne_nil _ _)=1/\r.length=n
 |0=>⟨[],rfl,rfl,rfl⟩
 |n+1=>by
  obtain⟨r,h1,h2,h3⟩:=jO n;refine⟨BR (1::r)++[1],?_,by rw[List.getLast_cons (by simp)];simp,?_⟩
  ·show Pn (we n)=_
   rw[h1,Pn];show((1:Int)+0)::adds (r++[0]) (1::r)=_;rw[jN,h2];rfl
  ·have:∀(x:Int)(r:List Int),(BR (x::r)).length=r.length:=by
    intro x r
    induction r generalizing x with
    |nil=>rfl
    |cons y r ih=>simp[BR,ih]
   simp[this,h3]
theorem xX(n:Nat):we (n+1)=[1]++BR (we n)++[1]:=by
 obtain⟨r,h1,h2,h3⟩:=jO n;show Pn (we n)=_;rw[h1,Pn];show((1:Int)+0)::adds (r++[0]) (1::r)=_;rw[jN,h2];rfl
theorem mW(n:Nat):(we n).length=n+1:=by
 obtain⟨r,h1,h2,h3⟩:=jO n;rw[h1,ja,h3]
section
variable{κ:Type}[DecidableEq κ]
noncomputable def LP(g:κ->Int)(t:List (κ×Int)):Int:=sumF (λx=>x.2*g x.1) t
def gn(t:List (κ×Int)):Prop:=(t.map (·.1)).Nodup
noncomputable def val(t:List (κ×Int))(k:κ):Int:=LP (λj=>if j=k then 1 else 0) t
theorem He(g:κ->Int):LP g []=0:=rfl
theorem cB(g:κ->Int)(a:κ)(m:Int)(r:List (κ×Int)):LP g ((a,m)::r)=m*g a+LP g r:=by simp[LP,sumF]
theorem oX(g:κ->Int):∀(t:List (κ×Int))(k:κ)(n:Int),LP g (k_ t k n)=LP g t+n*g k
 |[],k,n=>by simp[k_,cB,He]
 |(a,m)::r,k,n=>by
  unfold k_;split
  ·rename_i h
   rw[cB,cB,h,Int.add_mul];omega
  ·rw[cB,cB,oX g r k n];omega
theorem fX:∀(t:List (κ×Int))(k:κ)(n:Int),(k_ t k n).map (·.1)=if k∈t.map (·.1) then t.map (·.1) else t.map (·.1)++[k]
 |[],k,n=>by simp[k_]
 |(a,m)::r,k,n=>by
  unfold k_;by_cases h:a=k
  ·rw[bg h];simp[h]
  ·have h':¬k=a:=λe=>h e.symm
   rw[bh h];simp only[j_,fX r k n,qf,h',false_or];split<;>simp
theorem tK(h:gn t)(k:κ)(n:Int):gn (k_ t k n):=by
 unfold gn at h⊢;rw[fX];split
 ·exact h
 ·rename_i hk
  rw[List.nodup_append];refine⟨h,by simp,λa ha b hb=>?_⟩;simp only[MV] at hb;subst hb;rintro rfl;exact hk ha
theorem xY{k j:κ}(h:j∈(k_ t k n).map (·.1)):j∈t.map (·.1)\/j=k:=by
 rw[fX] at h;split at h
 ·exact .inl h
 ·simp only[Bh,MV] at h;exact h
theorem oY(a:κ)(m:Int)(r:List (κ×Int))(k:κ):val ((a,m)::r) k=(if a=k then m else 0)+val r k:=by
 unfold val;rw[cB];split<;>simp
theorem jP:∀{t:List (κ×Int)}{k:κ},k∉t.map (·.1)->val t k=0
 |[],k,_=>rfl
 |(a,m)::r,k,h=>by
  simp only[j_,qf,not_or] at h;rw[oY,bh λe=>h.1 e.symm,jP h.2];rfl
theorem xZ(t:List (κ×Int))(k:κ)(n:Int)(j:κ):val (k_ t k n) j=val t j+(if k=j then n else 0):=by
 unfold val;rw[oX];split<;>simp
noncomputable def look(t:List (κ×Int))(k:κ):Option Int:=(t.find? λx=>decide (x.1=k)).map (·.2)
end
theorem iH(x y:Int):∀l:List Int,y∈ins x l↔y=x\/y∈l
 |[]=>by simp[ins]
 |z::r=>by
  unfold ins;split
  ·simp
  ·simp only[qf,iH x y r]
   constructor
   ·rintro(h|h|h)
    ·exact .inr (.inl h)
    ·exact .inl h
    ·exact .inr (.inr h)
   ·rintro(h|h|h)
    ·exact .inr (.inl h)
    ·exact .inl h
    ·exact .inr (.inr h)
theorem dG(y:Int):∀l:List Int,y∈sortI l↔y∈l
 |[]=>by simp[sortI]
 |z::r=>by
  show y∈ins z (sortI r)↔_;rw[iH,dG y r,qf]
theorem oZ:∀{a b:List Int},a.Pairwise (· <·)->b.Pairwise (· <·)->(∀x,x∈a↔x∈b)->a=b
 |[],[],_,_,_=>rfl
 |[],y::b,_,_,h=>by simpa using(h y).mpr (by simp)
 |x::a,[],_,_,h=>by simpa using(h x).mp (by simp)
 |x::a,y::b,ha,hb,h=>by
  rw[Jt] at ha hb;have zk:x=y:=by
   have h1:=(h x).mp (by simp);have h2:=(h y).mpr (by simp);rcases List.mem_cons.mp h1 with e|e
   ·exact e
   ·rcases List.mem_cons.mp h2 with e'|e'
    ·exact e'.symm
    ·have:=hb.1 x e
     have:=ha.1 y e';omega
  subst zk
  congr 1
  refine oZ ha.2 hb.2 λz=>?_;have hz:=h z;simp only[qf] at hz;constructor
  ·intro m
   rcases hz.mp (.inr m) with e|e
   ·subst e;have:=ha.1 z m;omega
   ·exact e
  ·intro m
   rcases hz.mpr (.inr m) with e|e
   ·subst e;have:=hb.1 z m;omega
   ·exact e
noncomputable def told(v:Po)(s:List Int):List (Int×Int):=(s.filter λi=>decide (v i≠0)).map λi=>(i,v i)
theorem x6(h:s.Pairwise (· <·))(h':s'.Pairwise (· <·))(z:∀i,v i≠0->i∈s)(z':∀i,v i≠0->i∈s'):told v s=told v s':=by
 unfold told
 congr 1
 refine oZ (h.filter _) (h'.filter _) λi=>?_;simp only[E1,DH];exact⟨λq=>⟨z' i q.2,q.2⟩,λq=>⟨z i q.2,q.2⟩⟩
theorem jQ[DecidableEq κ]:∀(t:List (κ×Int))(k:κ)(n:Int),(k_ t k n).length<=t.length+1/\t.length<=(k_ t k n).length
 |[],k,n=>by simp[k_]
 |(a,m)::r,k,n=>by
  unfold k_;split
  ·simp
  ·have:=jQ r k n
   simp only[ja];omega
def LQ(d a:Int)(n:Nat)(t:List (Int×Int)):Prop:=∀k∈t.map (·.1),∃e:Nat,e<n/\k=a-d*e
theorem x8(d a:Int)(n:Nat):LQ d a n []:=λk hk=>by simp at hk
theorem Hf(h:LQ d a c t)(hk:∃e:Nat,e<c/\k=a-d*e):LQ d a c (k_ t k n):=λj hj=>by
 rcases xY hj with hj|rfl
 ·exact h j hj
 ·exact hk
theorem lG:∀(n:Nat)(l:List Int)(a:Int),l.Nodup->(∀k∈l,a<=k/\k<a+n)->l.length<=n
 |0,[],_,_,_=>by simp
 |0,x::l,a,_,h=>by have:=h x (by simp);omega
 |n+1,l,a,nd,h=>by
  have h1:((l.filter λk=>decide (k≠a)).length<=n):=lG n _ (a+1) (nd.filter _) λk hk=>by
   simp only[E1,DH] at hk;have:=h k hk.1;omega
  have h2:l.length<=(l.filter λk=>decide (k≠a)).length+1:=by
   clear h1 h
   induction l with
   |nil=>simp
   |cons x l ih=>
    rw[Fl] at nd;by_cases hx:x=a
    ·subst hx
     rw[List.filter_cons_of_neg (by simp)];have:(l.filter λk=>decide (k≠x))=l:=by
      rw[List.filter_eq_self];intro k hk;simp only[DH];rintro rfl;exact nd.1 hk
     rw[this];simp
    ·rw[List.filter_cons_of_pos (by simpa using hx)]
     simp only[ja];have:=ih nd.2;omega
  omega
theorem x9(hd:d=2\/d=4)(nd:gn t)(h:LQ d a n t):t.length<=n:=by
 have key:∀l:List Int,l.Nodup->(∀k∈l,∃e:Nat,e<n/\k=a-d*e)->(l.map λk=>(a-k)/d).Nodup/\∀k∈l.map λk=>(a-k)/d,(0:Int)<=k/\k<0+n:=by
  intro l nd h;rcases hd with rfl|rfl<;>(
  constructor
  ·rw[List.nodup_iff_pairwise_ne,List.pairwise_map]
   refine List.Pairwise.imp_of_mem ?_ (List.nodup_iff_pairwise_ne.mp nd);intro x y hx hy ne e;obtain⟨_,_,hx⟩:=h x hx;obtain⟨_,_,hy⟩:=h y hy;omega
  ·intro k hk
   obtain⟨x,hx,rfl⟩:=List.mem_map.mp hk;obtain⟨_,_,hx⟩:=h x hx;omega)
 obtain⟨k1,k2⟩:=key _ nd h;simpa using lG n _ 0 k1 k2
end Py
namespace L2
open PySem PySem.Spec PyProof.Rows
inductive LR:HO->List (V×V)->Prop
 |k (kvs:List (Key×V)):LR (.dK kvs) (kvs.map λx=>(kV x.1,x.2))
theorem lH(h:zb k u=true):cm (kV k) u:=by
 rcases aK h with⟨i,t,rfl,rfl⟩|⟨x,t,rfl,rfl⟩
 ·exact⟨t,rfl⟩
 ·exact⟨t,rfl⟩
theorem jR:∀{es:List DictEntry}{vs:List (Key×Value)}{kvs:List (Key×V)},Pairs (fu P w) es vs->KV kvs vs->Paired (λ(p:V×V)(e:DictEntry)=>cm p.1 e.key/\cm p.2 e.val) (kvs.map λx=>(kV x.1,x.2)) es
 |_,_,_,.nil,h=>by cases h;exact .nil
 |_,_,_,.cons h1 h2 t,h=>by
  cases h with
  |cons q r=>
   refine .cons ⟨?_,?_⟩ (jR t r)
   ·show cm (kV _) _
    rw[q.1];exact lH h1
   ·rw[h2];exact q.2
theorem Hg(ok:jd P w H h d u)(hu:LR u l):
  (d==sysModules)=false/\∃o es ep,h.get? d=some o/\o.ExactDict/\o.data=.dict es ep/\Paired (λ(p:V×V)(e:DictEntry)=>cm p.1 e.key/\cm p.2 e.val) l es.toList:=by
 cases hu with
 |k kvs=>
  obtain⟨z,y,vs,r,o,es,ep,h1,h2,h3,_,h5,_⟩:=ok;exact⟨y,o,es,ep,h1,h2,h3,jR h5 r⟩
def Pp(H:Hp)(x:V):Prop:=∃p u l,x=.ref p/\LR u l/\Rd H p u
section
variable{X:Cx}{ae:List (Addr×Obj)}{σ:St}{H:Hp}{s:Shared}
theorem Hh(I:bj X ae σ H s)(r:cm x v)(ty:Pp H x):s.TypeIs v "dict"/\∀a,v=.ref a->∃ob,s.heap.get? a=some ob/\ob.dict=none:=by
 obtain⟨p,u,l,rfl,hu,e⟩:=ty;cases r;obtain⟨_,o,es,ep,ho,ex,_⟩:=Hg (e.ok I.fo) hu;refine⟨⟨o,ho,ex.1⟩,λa z=>?_⟩;cases z;exact⟨o,ho,ex.2.1⟩
variable{o e:Expr}{es:List Expr}{to:TE}{t:TA}{name:Str}{apos gr:Pos}{id:String}{r:V->List V->Hp->VK->Prop}
noncomputable def SJ(r:V->List V->Hp->VK->Prop)(to:TE)(t:TA):TE:=λσ H Q=>to σ H λx H1=>Pp H1 x/\t σ H1 λxs H2=>r x xs H2 Q
theorem Pq(slot:Slot "dict" name id)(N3:typeOf (.builtin id)=pure (.type "method_descriptor"))(hm:Kg X id r)(ho:PE X o to)(ha:PA X (e::es) t)
  (mj:attributeBase o name X.env (eval o X.env)=eval o X.env)
  (DV:((backTo gr (starEach (e::es) X.env)).all (λx=>!x.1)&&(backToKw gr (keywordEach [] X.env)).all (λx=>x.1.isSome)&&decide ((e::es).length+([]:List Keyword).length+(if([]:List Keyword).isEmpty then 0 else 1)<30))=true)
  (mq:(apos.endLine==gr.line)=true) (hs:starEach (e::es) X.env=(false,eval e X.env)::starEach es X.env) (zg:(backTo gr (starEach es X.env)).any (·.1)=false):
  PE X (.Call (.Attribute o name apos) (e::es) [] gr) (SJ r to t):=by
 intro ae s σ H Q I h;refine wpAny_Call_method_late mj DV mq rfl (ij (ho ae s σ H _ I h) λv s1 qQ=>?_);obtain⟨x,H1,I1,r1,ty,q1⟩:=qQ;obtain⟨h1,h2⟩:=Hh I1 r1 ty;refine⟨"dict",id,PySem.F.plainAttrs_dict,slot,N3,h1,h2,?_⟩;have hA:=ha gr ae s1 σ H1 _ I1 q1;rw[hs] at hA⊢;refine Calls.callWith_builtin (by show(false||(backTo gr (starEach es X.env)).any (·.1))=false;rw[zg]<;>rfl) (Calls.evalArgs_plain ?_);exact ij hA λus s2 ⟨vs,H2,I2,r2,q2⟩=>hm ae s2 σ H2 x vs v us Q I2 r1 r2 q2
end
section
variable{X:Cx}{ae:List (Addr×Obj)}{σ:St}{H:Hp}{s:Shared}
def Vx(K:PySem.W.Frag)(H:Hp)(d:Addr)(y:V)(o:Option V):Prop:=va H d y o\/False
def Vy(K:PySem.W.Frag)(H:Hp)(d:Addr)(y v:V)(H':Hp):Prop:=B4 H d y v H'\/False
noncomputable def Eu(K:PySem.W.Frag):V->List V->Hp->VK->Prop:=λx vs H Q=>∃d y z o,x=.ref d/\vs=[y,z]/\Vx K H d y o/\Q (o.getD z) H
theorem Hi(hu:X.A.units+20<cLine):Kg X "dict.get" (Eu X.K):=by
 intro ae s σ H x vs v us Q I rx rv h;obtain⟨d,y,z,o,rfl,rfl,g,q⟩:=h;cases rx;obtain⟨u1,u2,rfl,r1,r2⟩:=vals2 rv;rcases g with g|g
 ·exact Kc (by omega) I g r1 r2 λw' s' I' r'=>⟨_,_,I',r',q⟩
 ·cases g
noncomputable def IZ(K:PySem.W.Frag):JV:=λo i v H Q=>∃d H',o=.ref d/\Vy K H d i v H'/\Q H'
theorem Pt(hu:X.A.units+20<cLine):FD X (IZ X.K):=by
 intro ae s σ H o i v ov iv u Q I ro ri rv h;obtain⟨d,H',rfl,g,q⟩:=h;cases ro;rcases g with g|g
 ·exact k8 (by omega) I g ri rv λs' I'=>⟨_,I',q⟩
 ·cases g
end
end L2
namespace L2.Snd
open PySem PySem.Spec PyProof.Rows L2 Py
section
variable{K:PySem.W.Frag}
noncomputable def Ew(sp:Sp)(E:St->XK)(t:TA):TE:=λσ H Q=>t σ H λvs H1=>sp vs H1 Q (E σ)
end
end L2.Snd
namespace Py
section
variable{κ:Type}[DecidableEq κ]
theorem lI:∀{t:List (κ×Int)}{p:κ},p∉t.map (·.1)->look t p=none
 |[],p,_=>rfl
 |(a,m)::r,p,h=>by
  simp only[j_,qf,not_or] at h;have:=lI (t:=r) h.2;simp only[look,Il,show¬a=p from λe=>h.1 e.symm,decide_false] at this⊢;exact this
theorem o0:∀{t:List (κ×Int)}{p:κ}{n:Int},p∉t.map (·.1)->k_ t p n=t++[(p,n)]
 |[],p,n,_=>rfl
 |(a,m)::r,p,n,h=>by
  simp only[j_,qf,not_or] at h;rw[k_,bh λe=>h.1 e.symm,o0 h.2];rfl
theorem tL:∀{t:List (κ×Int)}{p:κ}{n:Int},gn t->p∈t.map (·.1)->k_ t p n=t.map λx=>if x.1=p then(x.1,(look t p).getD 0+n) else x
 |(a,m)::r,p,n,nd,h=>by
  simp only[gn,j_,Fl] at nd;by_cases e:a=p
  ·subst e
   rw[k_,bg rfl,j_,bg rfl];have h1:(look ((a,m)::r) a).getD 0=m:=by simp[look]
   rw[h1]
   congr 1
   symm
   refine(Ae λx hx=>?_).trans (List.map_id r);rw[bh λe=>nd.1 (List.mem_map.mpr ⟨x,hx,e⟩)];rfl
  ·have hp:p∈r.map (·.1):=by
    rcases List.mem_cons.mp h with q|q
    ·exact absurd q.symm e
    ·exact q
   have h1:look ((a,m)::r) p=look r p:=by simp[look,e]
   rw[k_,bh e,tL nd.2 hp,j_,bh e,h1]
end
end Py
namespace L2.Snd
open PySem PySem.Spec PyProof.Rows L2 Py
noncomputable def yx(t:List (Int×Int)):List (Key×V):=t.map λx=>(Sum.inl x.1,V.int x.2)
theorem Hj(t:List (Int×Int))(p:Int):n_ (yx t) (Sum.inl p)=(look t p).map V.int:=by
 induction t with
 |nil=>rfl
 |cons x r ih=>
  by_cases e:x.1=p
  ·simp[yx,n_,look,e]
  ·have e':¬(Sum.inl x.1:Key)=Sum.inl p:=λz=>e (Sum.inl.inj z)
   simp only[yx,n_,look,j_,Il,e,e',decide_false] at ih⊢;exact ih
theorem Hk(nd:gn t)(p n:Int):putK (yx t) (Sum.inl p) (.int ((look t p).getD 0+n))=yx (k_ t p n):=by
 have ha:((yx t).any λkv=>decide (kv.1=(Sum.inl p:Key)))=decide (p∈t.map (·.1)):=by
  clear nd
  induction t with
  |nil=>rfl
  |cons x r ih=>
   have z:decide ((Sum.inl x.1:Key)=Sum.inl p)=decide (p=x.1):=by
    by_cases e:p=x.1
    ·rw[e];simp
    ·rw[wt e,wt λz=>e (Sum.inl.inj z).symm]
   show(decide ((Sum.inl x.1:Key)=Sum.inl p)||(yx r).any _)=_;rw[ih,z];simp only[j_,qf,Bool.decide_or]
 unfold putK;rw[ha];by_cases h:p∈t.map (·.1)
 ·rw[ya h,bg rfl,tL nd h]
  unfold yx;rw[wk,wk];refine Ae λx _=>?_;simp only[Function.comp];by_cases e:x.1=p
  ·rw[bg (congrArg Sum.inl e),bg e]
  ·rw[bh λz=>e (Sum.inl.inj z),bh e]
 ·rw[wt h,bh kj,o0 h,lI h]
  simp[yx]
structure Kp(H H':Hp):Prop where
 tp:∀a xs,H a=some (.ar xs)->H' a=some (.ar xs)
 fz:∀a o u,H a=some (.bf o u)->H' a=some (.bf o u)
theorem Kp.refl(H:Hp):Kp H H:=⟨λ_ _ e=>e,λ_ _ _ e=>e⟩
theorem Kp.trans(a:Kp H H1)(b:Kp H1 H2):Kp H H2:=⟨λx xs e=>b.tp _ _ (a.tp x xs e),λx o u e=>b.fz _ _ _ (a.fz x o u e)⟩
structure Exc(ds:List Addr)(H H':Hp):Prop where
 kp:Kp H H'
 ot:∀a o,a∉ds->H a=some o->H' a=some o
theorem Exc.refl(ds:List Addr)(H:Hp):Exc ds H H:=⟨Kp.refl H,λ_ _ _ e=>e⟩
theorem Exc.trans(a:Exc ds H H1)(b:Exc ds H1 H2):Exc ds H H2:=⟨a.kp.trans b.kp,λx o n e=>b.ot x o n (a.ot x o n e)⟩
theorem Exc.put(a:Exc ds H H1)(h:H1 p=some u)(hp:p∈ds\/H p=none)(n1:∀xs,u≠.ar xs)(n2:∀ob v,u≠.bf ob v):Exc ds H (upd H1 p o):=by
 refine⟨⟨λx xs e=>?_,λx ob v e=>?_⟩,λx ob hx e=>?_⟩
 ·have:=a.kp.tp x xs e
  rw[aB (by rintro rfl;rw[h] at this;exact n1 _ (Aw this))];exact this
 ·have:=a.kp.fz x ob v e
  rw[aB (by rintro rfl;rw[h] at this;exact n2 _ _ (Aw this))];exact this
 ·rw[aB (by
   rintro rfl;rcases hp with hp|hp
   ·exact hx hp
   ·rw[hp] at e;cases e)]
  exact a.ot x ob hx e
end L2.Snd
namespace Py
end Py
namespace L2.Snd
open PySem PySem.Spec PyProof.Rows L2 Py
section
variable{X:Cx}
theorem lJ{vs:List (Key×Value)}:∀{kvs:List (Key×V)}{us:List Value},us.length=kvs.length->(∀(j:Nat) u,us[j]?=some u->∃k x,kvs[j]?=some (k,x)/\(fu P w).is k u=true)->dj (kvs.map λx=>kV x.1) us
 |[],us,hl,_=>by cases us with|nil=>exact .nil|cons _ _=>simp at hl
 |x::kvs,[],hl,_=>by simp at hl
 |x::kvs,u::us,hl,h=>by
  obtain⟨k,y,e,q⟩:=h 0 u rfl;cases e;exact .cons (lH q) (lJ (vs:=vs) (by simpa using hl) λj u' e=>h (j+1) u' e)
end
end L2.Snd
namespace Py
end Py
namespace L2.Snd
open PySem PySem.Spec PyProof.Rows L2 Py
end L2.Snd
namespace Py
end Py
namespace L2.Snd
open PySem PySem.Spec PyProof.Rows L2 Py
theorem Exc.same(a:Exc ds H H1)(s:jn H1 H2):Exc ds H H2:=a.trans ⟨⟨λx xs e=>s x _ e,λx o u e=>s x _ e⟩,λx o _ e=>s x o e⟩
end L2.Snd
namespace L2
open PySem PySem.Spec PyProof.Rows
end L2
namespace L2.Snd
open PySem PySem.Spec PyProof.Rows L2 Py
section
variable{X:Cx}{cl:Nat->Addr}{XE:Nat->St->Hp->Prop}{Φ:Nat->List D->R D}{G:List D}{n:Nat}
theorem Hl{K:PySem.W.Frag}(h:H p=some (.dK (yx t))):Own K cl F H (pj t) p:=by
 refine⟨yx t,h,by simp[yx,Ju],?_⟩;clear h
 induction t with
 |nil=>exact bb.nil
 |cons x t ih=>exact bb.cons (by simp[Rep]) ih
end
end L2.Snd
namespace Py
theorem o5(s:Int):∀(row:List Int)(q:Int)(t:List (Int×Int)),t.length<=(qx s row q t).length
 |[],_,t=>ji _
 |x::xs,q,t=>rm (jQ t q (x*s)).2 (o5 s xs (q-4) _)
theorem cX:∀{xs:List D}{r:List Int},intsOf xs=some r->xs=r.map .int
 |[],r,h=>by simp[intsOf] at h;subst h;rfl
 |x::xs,r,h=>by
  cases x with
  |int i=>
   rw[intsOf] at h
   cases e:intsOf xs with
   |none=>rw[e] at h;cases h
   |some q=>rw[e] at h;cases h;rw[cX e];rfl
  |_=>simp[intsOf] at h
end Py
namespace L2.Snd
open PySem PySem.Spec PyProof.Rows L2 Py
noncomputable def Ey(K:PySem.W.Frag):List V->Hp->VK->Prop:=λxs H Q=>∃p ys,xs=[.ref p]/\(lj K H p ys\/nv K H p ys)/\Q (.int ys.length) H
noncomputable abbrev QU(a b:TE):TE:=AW (rI FL λi j=>.int (i*j)) a b
noncomputable abbrev SK(a b:TE):TE:=AW (DR λi j=>.int (i+j)) a b
noncomputable abbrev Uc(a b:TE):TE:=AW (DR λi j=>.int (i-j)) a b
noncomputable abbrev Vz(a b:TE):TE:=AW (rI (λ_ j=>0<j) λi j=>.int (i%j)) a b
noncomputable def Ud(K:PySem.W.Frag)(cl:Nat->Addr)(Φ:Nat->List D->R D)(f:Nat)(E:St->XK):TS:=
 B2 (qj (Ew (zt K cl Φ f) E (ny (ik 2) vv)) (fj 3)) (Bq (Ct (ny (NT (Ey K) (ny (ik 3) vv)) vv)) (fj 4)
  (B2 (qj (Uc (SK (ik 1) (QU (tC (.int 2)) (ik 2))) (QU (tC (.int 4)) (ik 4))) (fj 5))
   (qj (SK (SJ (Eu K) (ik 0) (ny (ik 5) (ny (tC (.int 0)) vv))) (QU (AW (xa K) (ik 3) (ik 4)) (Uc (tC (.int 1)) (QU (tC (.int 2)) (Vz (ik 2) (tC (.int 2))))))) (DQ (ik 0) (ik 5) (IZ K)))))
noncomputable def LS(Φ:Nat->List D->R D)(f:Nat):Sp:=λvs H Q _=>∃d p r t t',vs=[.ref d,.int p,.int r]/\H d=some (.dK (yx t))/\xv Φ f t p r=some t'/\∀H',H' d=some (.dK (yx t'))->Exc [d] H H'->Q .de H'
theorem fY{K:PySem.W.Frag}:∀{r:List Int}{vs:List V},bb K cl F H (r.map D.int) vs->vs=r.map V.int
 |[],vs,h=>h.nil_inv
 |i::r,vs,h=>by
  obtain⟨v,q,rfl,h1,h2⟩:=h.cons_inv;rw[Rep] at h1;rw[h1,fY h2];rfl
theorem jz{i:Nat}{v:V}(h:xs[i]?=some v):IB xs (i:Int)=some v:=by
 have hi:=(List.getElem?_eq_some_iff.mp h).1;unfold IB Dt;rw[bg (by omega),bg (by omega)];simpa using h
theorem Hn{K:PySem.W.Frag}(h:LS Φ f vs H Q E'):
  Ud K cl Φ f E {nx:=λ_ H'=>Q .de H',rt:=Q} (start ["found","power","rings","row","e","at"] vs) H:=by
 obtain⟨d,p,r,t,t',rfl,hd,hl,q⟩:=h;have hs:(5000:Nat)<sizeLine:=by rw[sizeLine_eq];decide
 unfold xv at hl
 cases QV:Φ f [.int r] with
 |exc c=>rw[QV] at hl;cases hl
 |bad=>rw[QV] at hl;cases hl
 |ok dd=>
  rw[QV] at hl
  cases dd with
  |ak ds=>
   dsimp only at hl
   cases ei:intsOf ds with
   |none=>rw[ei] at hl;cases hl
   |some row=>
    rw[ei,Jw] at hl;by_cases hc:(t.map (·.1)).Nodup/\row.length<=5000/\(qx (1-2*(r%2)) row (p+2*r) t).length<=5000
    ·rw[bg hc] at hl
     have nd:gn t:=hc.1;replace hc:=hc.2;cases hl;have VA:=cX ei;subst VA;refine⟨.int r,rfl,?_⟩;dsimp only[vv];refine⟨λ_=>False,[.int r],λ_ z=>z.elim,.cons (by simp[Rep]) .nil,?_⟩;rw[QV];refine λF' v H1 u rv=>?_;rw[Rep] at rv;obtain⟨a,ws,rfl,_,ha,rws⟩:=rv;have ew:=fY rws;subst ew;dsimp only[fj];show Bq _ _ _ _ ([some (.ref d),some (.int p),some (.int r),some (.ref a),none,none]:St) H1;have d1:H1 d=some (.dK (yx t)):=u.same _ _ hd;have X1:Exc [d] H H1:=(Exc.refl [d] H).same u.same;have VB:a≠d:=by rintro rfl;rw[ha] at d1;cases d1
     refine⟨.ref a,rfl,?_⟩;dsimp only[vv];refine⟨a,row.map V.int,rfl,.inl (.inl (.inl ha)),(row.map V.int).length,rfl,by omega,by rw[gh];omega,?_⟩;rw[gh,BO];refine⟨λi m σ H'=>m+i=row.length/\∃T x y,σ=[some (.ref d),some (.int p),some (.int r),some (.ref a),x,y]/\H' d=some (.dK (yx T))/\H' a=some (.ak (row.map V.int))/\gn T/\qx (1-2*(r%2)) (row.drop i) (p+2*r-4*i) T=qx (1-2*(r%2)) row (p+2*r) t/\Exc [d] H H',
      ⟨row.length,by omega,t,_,_,rfl,d1,ha,nd,by simp,X1⟩,λi m σ H' qQ=>?_⟩
     obtain⟨hm,T,x,y,e1,e2,e3,e4,e5,e6⟩:=qQ;by_cases hi:i<row.length
     ·refine .inr ⟨hi,λdk H'=>∃T x y,dk=[some (.ref d),some (.int p),some (.int r),some (.ref a),x,y]/\H' d=some (.dK (yx T))/\H' a=some (.ak (row.map V.int))/\gn T/\qx (1-2*(r%2)) (row.drop (i+1)) (p+2*r-4*(i+1:Nat)) T=qx (1-2*(r%2)) row (p+2*r) t/\Exc [d] H H',λdk H' z=>⟨m-1,by omega,by omega,z⟩,λz Ao qQ=>?_⟩
      obtain⟨eH,ez⟩:=qQ;subst eH ez e1;rw[MP hi,qx] at e5;have lT:=jQ T (p+2*r-4*i) (row[i]*(1-2*(r%2)));have lP:=o5 (1-2*(r%2)) (row.drop (i+1)) (p+2*r-4*i-4) (k_ T (p+2*r-4*i) (row[i]*(1-2*(r%2))));rw[e5] at lP;refine⟨.int p,rfl,.int r,rfl,2,r,rfl,rfl,.inl ⟨by decide,by decide⟩,p,2*r,rfl,rfl,.int (0+(i:Nat)),rfl,4,0+(i:Nat),rfl,rfl,.inl ⟨by decide,by decide⟩,p+2*r,4*(0+(i:Nat)),rfl,rfl,?_⟩;dsimp only[fj];show qj _ _ _ ([some (.ref d),some (.int p),some (.int r),some (.ref a),some (.int (0+(i:Nat))),some (.int (p+2*r-4*(0+(i:Nat))))]:St) Ao;rw[show p+2*r-4*(0+((i:Nat):Int))=p+2*r-4*i by omega];generalize hA:p+2*r-4*((i:Nat):Int)=at_ at*;have Dd:IB (row.map V.int) (0+((i:Nat):Int))=some (.int row[i]):=by
       rw[Int.zero_add];exact jz (by rw[A9,Ai hi];rfl)
      have IQ:0<=r%2/\r%2<2:=⟨Int.emod_nonneg _ (by decide),Int.emod_lt_of_pos _ (by decide)⟩
      refine⟨.ref d,rfl,⟨d,_,_,rfl,.k _,.inl e2⟩,.int at_,rfl,d,.int at_,.int 0,(look T at_).map V.int,rfl,rfl,.inl (by rw[←Hj];exact va.k (k:=Sum.inl at_) e2),.ref a,rfl,.int (0+(i:Nat)),rfl,a,_,_,.int row[i],rfl,rfl,.inl (.inl e3),Dd,.int r,rfl,r,2,rfl,rfl,(by show(0:Int)<2;decide),2,r%2,rfl,rfl,.inl ⟨by decide,by decide⟩,1,2*(r%2),rfl,rfl,row[i],1-2*(r%2),rfl,rfl,.inr ⟨by omega,by omega⟩,(look T at_).getD 0,row[i]*(1-2*(r%2)),?_,rfl,.ref d,rfl,.int at_,rfl,d,_,rfl,.inl (B4.k (k:=Sum.inl at_) e2 (by simp[yx];omega)),?_⟩
      ·cases look T at_<;>rfl
      ·rw[Hk e4]
       refine⟨k_ T at_ (row[i]*(1-2*(r%2))),_,_,rfl,aC,by rw[aB VB];exact e3,tK e4 _ _,?_,e6.put e2 (.inl (by simp)) (λxs z=>by cases z) λob v z=>by cases z⟩;rw[show p+2*r-4*((i+1:Nat):Int)=at_-4 by omega];exact e5
     ·have VC:i=row.length:=by omega
      subst VC;rw[List.drop_length] at e5;refine .inl ⟨ji _,q H' ?_ e6⟩;rw[e2];exact congrArg (λz=>some (HO.dK (yx z))) e5
    ·rw[bh hc] at hl;cases hl
  |_=>cases hl
end L2.Snd
namespace Py
theorem o6(x:Int):∀l:List Int,(ins x l).Perm (x::l)
 |[]=>.refl _
 |y::r=>by
  unfold ins;split
  ·exact .refl _
  ·exact((o6 x r).cons y).trans (List.Perm.swap x y r)
theorem dW:∀l:List Int,(sortI l).Perm l
 |[]=>.refl _
 |x::r=>(o6 x (sortI r)).trans ((dW r).cons x)
theorem o7(x:Int):∀l:List Int,l.Pairwise (· <=·)->(ins x l).Pairwise (· <=·)
 |[],_=>by simp[ins]
 |y::r,h=>by
  rw[Jt] at h;unfold ins;split
  ·rename_i hx
   rw[Jt,Jt];refine⟨λz hz=>?_,h⟩;rcases List.mem_cons.mp hz with rfl|hz
   ·omega
   ·have:=h.1 z hz;omega
  ·rename_i hx
   rw[Jt];refine⟨λz hz=>?_,o7 x r h.2⟩;rcases(iH x z r).mp hz with rfl|hz
   ·omega
   ·exact h.1 z hz
theorem jS:∀l:List Int,(sortI l).Pairwise (· <=·)
 |[]=>.nil
 |x::r=>o7 x _ (jS r)
theorem u8(p:a.Perm b)(h:a.Pairwise (· <=·)):a=sortI b:=List.Perm.eq_of_pairwise (le:=λx y:Int=>x<=y) (λx y _ _ h1 h2=>by omega) h (jS b) (p.trans (dW b).symm)
end Py
namespace L2
open PySem PySem.Spec PyProof.Rows
section
variable{prog:Program}{w:World}{A:Around}{E:Value->Shared->Prop}{s:Shared}
def zw(vs:List Value)(ns:List Int):Prop:=∀{prog:Program}{w:World}{A:Around}{E:Value->Shared->Prop}{s:Shared}{a:Addr}{n:Nat}{P:Fin->Shared->Prop},s.heap.get? a=some (seqObj "list" vs.toArray n)->
 (∀(out:Array Value)(E7:List Int),IntsAre out.toList E7->E7.Perm ns->E7.Pairwise (· <=·)->P (.done (.ret .none)) {s with heap:=sortedHeap s.heap a vs out})->wpAny (model prog w) A (Builtin.«list.sort» ⟨[.ref a],[]⟩) P E s
theorem qZ(hI:IntsAre vs ns)(h:vs.length<64):zw vs ns:=λho q=>list_sort_tree ho hI h q
theorem o8(K:PySem.W.KdlSrc prog w T r d n P OK)(hh:A.handled=none)(fo:OK s.heap)(hn:n<=sizeLine)
  (h:∀(vs:List Value),vs.length=n->(∀(j:Nat) v,vs[j]?=some v->P j v)->∃ns,zw vs ns/\
   ∀(h1 h':Heap)(tk:Nat)(out:Array Value)(e:Nat)(E7:List Int),IntsAre out.toList E7->E7.Perm ns->E7.Pairwise (· <=·)->(∀b o,s.heap.get? b=some o->h1.get? b=some o)->(∀b o,h1.get? b=some o->h'.get? b=some o)->h'.get? h1.objs.size=some (seqObj "list" out e)->Q (.ref h1.objs.size) {s with heap:=h',toks:=tk}):
  wpAny (model prog w) A (call (.builtin "sorted") [.ref r]) Q E s:=by
 refine Calls.call_function_entry kind_sorted plain_sorted entry_sorted (args_sorted1 _) ?_;unfold Builtin.«sorted»;refine dy (m:=checkCount "sorted" 1 1 _) (mw ?_);refine dy (PySem.W.kdu_collect (A:=A.in1) K hh fo hn λh1 tk acc hk Pu=>?_);have hl:acc.toList.length=n:=by rw[Array.length_toList];exact Pu.1
 obtain⟨ns,so,q⟩:=h acc.toList hl λj v e=>Pu.2 j v (by rw[←Array.getElem?_toList];exact e);refine dy (wpAny_newList ?_ (by rw[hl];exact hn));have ho:(h1.push (seqObj "list" acc.toList.toArray 0)).get? h1.objs.size=some (seqObj "list" acc.toList.toArray 0):=BU _ rfl;show wpAny _ _ _ _ _ {s with heap:=h1.push (seqObj "list" acc.toList.toArray 0),toks:=tk};refine dy (wpAny_holding (Jv slot_list_sort ⟨_,ho,rfl⟩ entry_list_sort (so ho λout E7 a1 a2 a3=>⟨_,rfl,?_⟩) (args_list_sort _)));refine mw ⟨_,rfl,?_⟩;obtain⟨e,he⟩:=sortedHeap_at (out:=out) ho;refine q h1 _ tk out e E7 a1 a2 a3 hk (λb o Du=>?_) he;have lb:=jv Du;rw[sortedHeap_old (Af lb) (by rw[size_push'];exact Nat.lt_succ_of_lt lb)];exact qm _ Du
end
end L2
namespace L2.Snd
open PySem PySem.Spec PyProof.Rows L2 Py
section
variable{X:Cx}{cl:Nat->Addr}{XE:Nat->St->Hp->Prop}{YE:Nat->Hp->Prop}{Φ:Nat->List D->R D}{G:List D}{m fr:Bool}{n:Nat}
theorem lK:∀{ns:List Int}{us:List Value},dj (ns.map V.int) us->IntsAre us ns
 |[],us,h=>by cases h;exact .nil
 |i::ns,us,h=>by
  cases h with
  |cons r t=>
   obtain⟨k,rfl⟩:=r;exact .cons i k (lK t)
theorem oi:∀{us:List Value}{ns:List Int},IntsAre us ns->dj (ns.map V.int) us
 |_,_,.nil=>.nil
 |_,_,.cons n t h=>.cons ⟨t,rfl⟩ (oi h)
theorem o9(long:∀{vs:List Value}{ns:List Int},IntsAre vs ns->uk ns=true->zw vs ns)(hc:X.calm=true):qh X (.builtin "sorted") (λxs H Q=>∃d kvs ks,xs=[.ref d]/\Rd H d (.dK kvs)/\kvs.map (·.1)=ks.map Sum.inl/\(ks.length<64\/uk ks=true)/\
  ∀p,H p=none->Q (.ref p) (upd H p (.ak ((sortI ks).map V.int)))):=by
 intro ae s σ H xs us Q I r h;obtain⟨d,kvs,ks,rfl,hr,hk,hl,q⟩:=h
 cases r with
 |cons r rr=>
 cases rr;cases r;obtain⟨z,y,ws,rel,dd⟩:=gQ I.fo hr;obtain⟨ep,VD⟩:=dd.dictAt;have di:kvs.length=ws.length:=rel.length;refine o8 (PySem.W.kdl_dict (knd:=fu X.prog X.w) (kvs:=ws) (ep:=ep) y) (I.ok.hd hc) VD (by omega) λus VE hP=>?_;have hv:dj (kvs.map λx=>kV x.1) us:=by
  refine lJ (P:=X.prog) (w:=X.w) (vs:=ws) (by rw[VE,di]) λj u e=>?_;obtain⟨k,x,e1,e2⟩:=hP j u e;have hj:j<kvs.length:=by have:=(List.getElem?_eq_some_iff.mp e1).1;omega
  obtain⟨w,e3,_⟩:=KV.at rel (Ai hj);rw[e1] at e3;cases e3;exact⟨_,_,Ai hj,e2⟩
 have ek:(kvs.map λx=>kV x.1)=ks.map V.int:=by
  have:(kvs.map (·.1)).map kV=(ks.map Sum.inl).map kV:=by rw[hk]
  rw[wk,wk] at this;exact this
 rw[ek] at hv;have hI:=lK hv;have MY:us.length=ks.length:=by
  have:=hv.length;simpa using this.symm
 refine⟨ks,?_,λh1 h' tk out e E7 a1 a2 a3 k1 k2 he=>?_⟩
 ·rcases hl with hl|hl
  ·exact qZ hI (by omega)
  ·exact long hI hl
 ·have es:=u8 a2 a3
  subst es;have I1:bj X ae σ H {s with heap:=h1,toks:=tk}:=I.kept k1;have hn:H h1.objs.size=none:=I1.fo.fresh (ji _);refine⟨.ref h1.objs.size,_,I1.laid (a:=h1.objs.size) (o:=.ak ((sortI ks).map V.int)) (t':=tk) k2 (ji _) ⟨?_,out.toList,e,?_,by simpa using he⟩,rfl,q _ hn⟩
  ·rw[gh,(dW ks).length_eq]
   omega
  ·exact oi a1
end
section
variable{X:Cx}{cl:Nat->Addr}{XE:Nat->St->Hp->Prop}{YE:Nat->Hp->Prop}{Φ:Nat->List D->R D}{G:List D}{m fr:Bool}{n:Nat}
theorem Ho{K:PySem.W.Frag}(h:Own K cl F H (.jt ks vs) a)(e:tabOf ks vs=some t):H a=some (.dK (yx t)):=by
 obtain⟨kvs,h1,h2,h3⟩:=h;unfold tabOf at e
 cases ei:intsOf vs with
 |none=>rw[ei] at e;cases e
 |some xs=>
  rw[ei,Jw] at e;by_cases hl:ks.length=xs.length
  ·rw[bg hl] at e
   cases e;rw[cX ei] at h3;have h4:=fY h3;rw[h1]
   congr 2
   clear h1 h3 ei
   induction ks generalizing xs kvs with
   |nil=>
    cases kvs with
    |nil=>rfl
    |cons _ _=>simp at h2
   |cons k ks ih=>
    cases kvs with
    |nil=>simp at h2
    |cons p kvs=>
     cases xs with
     |nil=>simp at hl
     |cons x xs=>
      simp only[j_,List.cons.injEq] at h2 h4;rw[ih (xs:=xs) (kvs:=kvs) h2.2 (by simpa using hl) h4.2];show p::yx (ks.zip xs)=((Sum.inl k:Key),V.int x)::yx (ks.zip xs);rw[←h2.1,←h4.1]
  ·rw[bh hl] at e;cases e
noncomputable def Pw(i f:Nat)(Φ:Nat->List D->R D)(tp tr:TE)(E:St->XK):TS:=DP (Ew (LS Φ f) E (ny (ik i) (ny tp (ny tr vv))))
theorem yA{st:Stmt}(hp:dh X cl XE Φ G false ep p)(hr:dh X cl XE Φ G false er r)(h:∀tp tr,PE X p tp->PE X r tr->PS X st (Pw i f Φ tp tr E)):yw X cl XE Φ G n (.Eh i f ep er) st:=by
 obtain⟨tp,pp,ip⟩:=hp;obtain⟨tr,pr,ir⟩:=hr;refine⟨_,h tp tr pp pr,λc_ bx F σ δ H D f0 post=>?_⟩;simp only[bp] at post;obtain⟨F1,s1,f1⟩:=f0.bf (ai false ep++ai false er);generalize QP:Py.bf (ai false ep++ai false er) δ=A3 at post f1;unfold Ek at post;split at post
 ·rename_i ks vs pi ri e0 e1 e2
  cases et:(tabOf ks vs).bind λt=>xv Φ f t pi ri with
  |none=>rw[et] at post;exact post.elim
  |some t'=>
   rw[et] at post
   cases eb:tabOf ks vs with
   |none=>rw[eb] at et;cases et
   |some t=>
    rw[eb,Jw] at et;obtain⟨a,q1,q2,q3⟩:=f1.sees.ow i _ e0;refine⟨.ref a,q1,ip F1 σ A3 H _ f1.sees ?_⟩;rw[e1];refine λF2 v H2 u2 g2=>?_;have hv:v=.int pi:=by have:=g2.got;exact Got.int this
    subst hv;have f2:=f1.to u2;refine ir F2 σ A3 H2 _ f2.sees ?_;rw[e2];refine λF3 v H3 u3 g3=>?_;have hv:v=.int ri:=by have:=g3.got;exact Got.int this
    subst hv;have f3:=f2.to u3;dsimp only[vv];obtain⟨a',y1,y2,y3⟩:=f3.sees.ow i _ e0;rw[q1] at y1;have ea:a=a':=by simpa using y1
    subst ea;refine⟨a,pi,ri,t,t',rfl,Ho y3 eb,et,λH4 z1 z2=>?_⟩;have fw:=f3.write i e0 q1 (d':=pj t') (o:=.dK (yx t')) (.inr ⟨_,rfl⟩) (Hl (cl:=cl) (K:=X.K) aC);have up:Up F3 (L2.upd H3 a (.dK (yx t'))) F3 H4:=by
     refine⟨λb o e=>?_,λ_ z=>z,λ_ z=>.inl z⟩;by_cases hb:b=a
     ·subst hb;rw[aC] at e;cases e;exact z1
     ·rw[aB hb] at e;exact z2.ot b o (by simpa using hb) e
    exact post F3 σ H4 (fw.to up)
 ·exact post.elim
theorem u9(t:AH F H)(g:Paired (Got X.K cl F H) ds vs)(h:ax X.K cl YE m false F H Q (qi (b_ .sorted) ds)):
  ∃d kvs ks,vs=[.ref d]/\Rd H d (.dK kvs)/\kvs.map (·.1)=ks.map Sum.inl/\(ks.length<64\/uk ks=true)/\∀p,H p=none->Q (.ref p) (L2.upd H p (.ak ((sortI ks).map V.int))):=by
 match ds,g,h with
 |[],_,h=>exact(show False from h).elim
 |_::_::_,_,h=>exact(show False from h).elim
 |[d],g,h=>
  obtain⟨v,rfl,gv⟩:=Paired.one g;have h:ax X.K cl YE m false F H Q (b_ .sorted d):=h
  cases d with
  |jt ks ws=>
   have h:ax X.K cl YE m false F H Q (if ks.length<64\/uk ks=true then .ok (.ak ((sortI ks).map .int)) else .bad):=h;by_cases hc:ks.length<64\/uk ks=true
   ·rw[bg hc] at h
    obtain⟨a,kvs,rfl,h1,h2,_⟩:=gv.jt;refine⟨a,kvs,ks,rfl,.inl h1,h2,hc,λp hp=>?_⟩;have u:Up F H (B9 F p) (L2.upd H p (.ak ((sortI ks).map V.int))):=(Up.alloc hp).freeze hp (by rw[aC];exact MU _);refine h (B9 F p) (.ref p) _ u (Res.gives (.vi ?_ rfl));simp only[Rep];refine⟨p,_,rfl,.inr rfl,aC,?_⟩;generalize L2.upd H p (HO.ak ((sortI ks).map V.int))=H';generalize sortI ks=l
    induction l with
    |nil=>exact bb.nil
    |cons x l ih=>exact bb.cons (by simp[Rep]) ih
   ·rw[bh hc] at h;exact(show False from h).elim
  |_=>exact(show False from h).elim
theorem boot_sorted:bootBuiltins "sorted"=some (.builtin "sorted"):=by first|exact PySem.boot_sorted|rfl|decide+kernel
theorem yB(long:∀{vs:List Value}{ns:List Int},IntsAre vs ns->uk ns=true->zw vs ns){ea:Ex}{a:Expr}{pos p:Pos}(hm:X.mg "sorted"=none)(ia:dh X cl XE Φ G true ea a)(hc:X.calm=true:=by rfl)(hg:Gl X "sorted":=by rfl)(hs:starEach (a::[]) X.env=(false,eval a X.env)::starEach [] X.env:=by rfl):
  dh X cl XE Φ G m (.b_ .sorted ea) (.Call (.Name "sorted" p) [a] [] pos):=
 cV (exs:=[ea]) (o:=qi (b_ .sorted)) OE (o9 long hc) hg hm boot_sorted (by decide) (by decide) hs rfl (bA hs ia bT) λYE F H vs ds Q t g h=>u9 t g h
end
noncomputable def Ez(K:PySem.W.Frag):TS:=Bq (Ct (ny (tC (.int 2)) vv)) (fj 5) (FC (tB (Fy (AW (xa K) (ik 4) (ik 5)) (AW (xa K) (ik 3) (tC (.int 1))))) (qj (AW (xa K) (ik 3) (tC (.int 0))) (DQ (ik 4) (ik 5) DU)) Cq)
noncomputable def LU(K:PySem.W.Frag):TS:=B3 (tB (Tf (NT (Ey K) (ny (ik 1) vv)) (tC (.int 0)))) (B2 (qj (AW (xa K) (ik 1) (tC (.int 0))) (fj 3)) (B2 (qj (Tj (Kj K) (ik 1) (IA (tC (.int 1))) Cv) (fj 1))
 (B2 (FC (tB (Fy (AW (xa K) (ik 3) (tC (.int 0))) (AW (xa K) (ik 3) (tC (.int 1))))) (qj (SK (ik 2) (tC (.int 1))) (fj 2)) Cq) (Bq (Cr K (ik 1)) (fj 4) (Ez K)))))
noncomputable abbrev r2(p:Int×Int):List Int:=[p.1,p.2]
theorem VF{K:PySem.W.Frag}{D:Ends}(h0:H a0=some (.ak [.int a,.int b]))(ho:H o=some (.ak [.int x,.int y]))(vd:o≠a0)
  (q:∀c,D.nx [x0,xL,g,some (.ref a0),some (.ref o),c] (L2.upd H o (.ak [.int (sb a b x),.int (sb a b y)]))):Ez K D [x0,xL,g,some (.ref a0),some (.ref o),c5] H:=by
 refine⟨2,rfl,by decide,by decide,?_⟩;have main:∀(i m:Nat)(σ:St)(H':Hp),(m+i=2/\∃c u v,σ=[x0,xL,g,some (.ref a0),some (.ref o),c]/\H'=L2.upd H o (.ak [.int u,.int v])/\u=(if i=0 then x else sb a b x)/\v=(if i=2 then sb a b y else y))->
   ((JX 0 (2:Int).toNat).stop i H'/\D.nx σ H')\/((JX 0 (2:Int).toNat).go i H'/\∃N:St->Hp->Prop,(∀dk H',N dk H'->∃m',m'<m/\(m'+(i+1)=2/\∃c u v,dk=[x0,xL,g,some (.ref a0),some (.ref o),c]/\H'=L2.upd H o (.ak [.int u,.int v])/\u=(if i+1=0 then x else sb a b x)/\v=(if i+1=2 then sb a b y else y)))/\∀z Ao,(JX 0 (2:Int).toNat).NH i H' z Ao->fj 5 z σ Ao λIv H2=>FC (tB (Fy (AW (xa K) (ik 4) (ik 5)) (AW (xa K) (ik 3) (tC (.int 1))))) (qj (AW (xa K) (ik 3) (tC (.int 0))) (DQ (ik 4) (ik 5) DU)) Cq {D with nx:=N,ct:=N,bk:=D.nx} Iv H2):=by
  rintro i m σ H' ⟨hm,c,u,v,e1,e2,e3,e4⟩;by_cases hi:i<2
  ·refine .inr ⟨hi,λdk H'=>∃c u v,dk=[x0,xL,g,some (.ref a0),some (.ref o),c]/\H'=L2.upd H o (.ak [.int u,.int v])/\u=(if i+1=0 then x else sb a b x)/\v=(if i+1=2 then sb a b y else y),λdk H' z=>⟨m-1,by omega,by omega,z⟩,λz Ao qQ=>?_⟩
   obtain⟨eH,ez⟩:=qQ;subst eH ez e1 e2;have B1:L2.upd H o (.ak [.int u,.int v]) o=some (.ak [.int u,.int v]):=aC;have M9:L2.upd H o (.ak [.int u,.int v]) a0=some (.ak [.int a,.int b]):=by rw[aB (kg vd)];exact h0
   have hw:i=0\/i=1:=by omega
   rcases hw with rfl|rfl
   ·simp only[cw,show¬((0:Nat)=2) by decide,dq] at e3 e4
    subst e3 e4;refine⟨.ref o,rfl,.int (0+(0:Nat)),rfl,o,_,_,.int u,rfl,rfl,.inl (.inl B1),rfl,.ref a0,rfl,a0,_,_,.int b,rfl,rfl,.inl (.inl M9),rfl,u,b,rfl,rfl,_,rfl,?_⟩;dsimp only;by_cases hb:u=b
    ·rw[bg (show decide (u=b)=true from ya hb)]
     refine⟨.ref a0,rfl,a0,_,_,.int a,rfl,rfl,.inl (.inl M9),rfl,.ref o,rfl,.int (0+(0:Nat)),rfl,o,_,_,0,rfl,rfl,B1,rfl,_,a,v,rfl,sG,?_,rfl⟩;simp[sb,hb]
    ·rw[bh (show¬decide (u=b)=true from by simpa using hb)]
     refine⟨_,u,v,rfl,rfl,?_,rfl⟩;simp[sb,hb]
   ·simp only[show¬((1:Nat)=0) by decide,show¬((1:Nat)=2) by decide,dq] at e3 e4
    subst e4;refine⟨.ref o,rfl,.int (0+(1:Nat)),rfl,o,_,_,.int v,rfl,rfl,.inl (.inl B1),rfl,.ref a0,rfl,a0,_,_,.int b,rfl,rfl,.inl (.inl M9),rfl,v,b,rfl,rfl,_,rfl,?_⟩;dsimp only;by_cases hb:v=b
    ·rw[bg (show decide (v=b)=true from ya hb)]
     refine⟨.ref a0,rfl,a0,_,_,.int a,rfl,rfl,.inl (.inl M9),rfl,.ref o,rfl,.int (0+(1:Nat)),rfl,o,_,_,1,rfl,rfl,B1,rfl,_,u,a,rfl,sG,by simpa using e3,?_⟩;simp[sb,hb]
    ·rw[bh (show¬decide (v=b)=true from by simpa using hb)]
     refine⟨_,u,v,rfl,rfl,by simpa using e3,?_⟩;simp[sb,hb]
  ·have VG:i=2:=by omega
   subst VG;simp only[show¬((2:Nat)=0) by decide,dq,cw] at e3 e4;subst e1 e2 e3 e4;exact .inl ⟨ji _,q c⟩
 refine⟨_,⟨2,rfl,c5,x,y,rfl,?_,rfl,rfl⟩,main⟩;funext z;by_cases hz:z=o
 ·subst hz;rw[aC,ho]
 ·rw[aB hz]
noncomputable abbrev CI(l:List (Int×Int)):List (List Int):=l.map r2
theorem VH{K:PySem.W.Frag}{D:Ends}(h0:H a0=some (.ak [.int a,.int b]))(hn:xi H L as (CI r))(VI:a0∉as)(WQ:a0≠L)
  (q:∀c d H',xi H' L as (CI (r.map (yg a b)))->(∀x o,x∉as->H x=some o->H' x=some o)->(∀x,H' x=none->H x=none)->D.nx [x0,some (.ref L),g,some (.ref a0),c,d] H'):
  Bq (Cr K (ik 1)) (fj 4) (Ez K) D [x0,some (.ref L),g,some (.ref a0),c4,c5] H:=by
 have len:as.length=r.length:=by have:=hn.len;simpa using this
 refine⟨.ref L,rfl,L,rfl,⟨_,.inl (.inl hn.top)⟩,λi m σ H'=>m+i=as.length/\∃c d,σ=[x0,some (.ref L),g,some (.ref a0),c,d]/\xi H' L as (CI ((r.take i).map (yg a b)++r.drop i))/\H' a0=some (.ak [.int a,.int b])/\(∀x o,x∉as->H x=some o->H' x=some o)/\(∀x,H' x=none->H x=none),
  ⟨as.length,by omega,c4,c5,rfl,by simpa using hn,h0,λ_ _ _ e=>e,λ_ e=>e⟩,λi m σ H' qQ=>?_⟩
 obtain⟨hm,c,d,e1,e2,e3,e4,e5⟩:=qQ;have sq:lj K H' L (as.map V.ref):=.inl (.inl e2.top);by_cases hi:i<as.length
 ·have Ue:i<r.length:=by omega
  have hx:(as.map V.ref)[i]?=some (.ref as[i]):=by rw[A9,Ai hi];rfl
  refine .inr ⟨⟨_,_,sq,hx⟩,λdk H'=>∃c d,dk=[x0,some (.ref L),g,some (.ref a0),c,d]/\xi H' L as (CI ((r.take (i+1)).map (yg a b)++r.drop (i+1)))/\H' a0=some (.ak [.int a,.int b])/\(∀x o,x∉as->H x=some o->H' x=some o)/\(∀x,H' x=none->H x=none),λdk H' z=>⟨m-1,by omega,by omega,z⟩,λz Ao qQ=>?_⟩;obtain⟨eH,ez⟩:=qQ;subst eH e1;have Ug:=ez _ sq;rw[hx] at Ug;cases Ug;have mem:as[i]∈as:=xk hi;have vd:as[i]≠a0:=λz=>VI (z▸mem);have split:(r.take i).map (yg a b)++r.drop i=(r.take i).map (yg a b)++r[i]::r.drop (i+1):=by rw[MP Ue]
  have VJ:((r.take i).map (yg a b)).length=i:=by simp;omega
  have Dd:Ao as[i]=some (.ak [.int r[i].1,.int r[i].2]):=by
   refine e2.row i as[i] [r[i].1,r[i].2] (Ai hi) ?_;rw[split];show(List.map r2 _)[i]?=_;rw[A9,DE (by omega),VJ,Nat.sub_self];rfl
  show Ez K _ [x0,some (.ref L),g,some (.ref a0),some (.ref as[i]),d] Ao;refine VF e3 Dd vd λc'=>⟨_,_,rfl,?_,by rw[aB (kg vd)];exact e3,λx o Uh e=>?_,λx e=>?_⟩
  ·have di:(CI ((r.take (i+1)).map (yg a b)++r.drop (i+1))).length=as.length:=by simp;omega
   refine⟨by rw[aB (λz=>e2.ne _ mem z.symm)];exact e2.top,di.symm,λj y w h1 h2=>?_,e2.nd,e2.ne⟩;have Na:((r.take (i+1)).map (yg a b)++r.drop (i+1))[j]?.map r2=some w:=by rw[←A9];exact h2
   by_cases hj:j=i
   ·subst hj
    rw[Ai hi] at h1;cases h1;rw[DF (by simp;omega),A9,List.getElem?_take_of_lt (EZ _),Ai Ue] at Na;cases Na;rw[aC];rfl
   ·have VL:y≠as[i]:=λz=>by
     subst z;exact hj ((List.getElem?_inj (List.getElem?_eq_some_iff.mp h1).1 e2.nd).mp (h1.trans (Ai hi).symm))
    rw[aB VL];refine e2.row j y w h1 ?_;show(List.map r2 _)[j]?=_;rw[A9,←Na]
    congr 1
    by_cases lq:j<i
    ·rw[DF (by simp;omega),DF (by simp;omega),A9,A9,List.getElem?_take_of_lt lq,List.getElem?_take_of_lt (by omega)]
    ·have Ui:j<r.length:=by have:=(List.getElem?_eq_some_iff.mp h1).1;omega
     rw[DE (by simp;omega),DE (by simp;omega),List.getElem?_drop,List.getElem?_drop];simp only[gh,Be]
     congr 1
     omega
  ·have QW:x≠as[i]:=λz=>Uh (z▸mem)
   rw[aB QW];exact e4 x o Uh e
  ·by_cases QW:x=as[i]
   ·subst QW;rw[aC] at e;cases e
   ·rw[aB QW] at e;exact e5 x e
 ·have AI:i=as.length:=by omega
  subst AI e1;refine .inl ⟨⟨_,sq,by simp⟩,q _ _ H' ?_ e4 e5⟩;rw[len,BV,List.drop_length,A_] at e2;exact e2
theorem VM{K:PySem.W.Frag}{D:Ends}(hn:xi H L as (CI l))(new:Addr->Prop)(KC:∀a,a=L\/a∈as->new a)(xb:∀a,H a=none->new a)
  (q:∀σ H',σ[2]?=some (some (.int (g+ah l)))->(∀x o,¬new x->H x=some o->H' x=some o)->D.nx σ H'):LU K D [x0,some (.ref L),some (.int g),c3,c4,c5] H:=by
 refine⟨λm σ H'=>∃L as l' g' a b c,m=l'.length/\σ=[x0,some (.ref L),some (.int g'),a,b,c]/\xi H' L as (CI l')/\(∀a,a=L\/a∈as->new a)/\(∀a,H' a=none->new a)/\g'+ah l'=g+ah l/\(∀x o,¬new x->H x=some o->H' x=some o),
  ⟨l.length,L,as,l,g,_,_,_,rfl,rfl,hn,KC,xb,rfl,λ_ _ _ e=>e⟩,λm σ H' qQ=>?_⟩
 obtain⟨L,as,l',g',a3,a4,a5,em,e1,e2,e3,e4,e5,e6⟩:=qQ;subst e1;have len:as.length=l'.length:=by have:=e2.len;simpa using this
 refine⟨.ref L,rfl,?_⟩;dsimp only[vv];refine⟨L,as.map V.ref,rfl,.inl (.inl (.inl e2.top)),((as.map V.ref).length:Nat),0,rfl,rfl,_,rfl,?_⟩
 cases l' with
 |nil=>
  have ha:as=[]:=List.length_eq_zero_iff.mp (by simpa using len);subst ha;rw[bh (by simp)];exact q _ H' (by rw[←e5];simp[u0]) e6
 |cons p r=>
  obtain⟨a,b⟩:=p
  cases as with
  |nil=>simp at len
  |cons a0 as=>
   rw[bg (by simp)];refine⟨λdk Ao=>∃L as l' g' a b c,l'.length=r.length/\dk=[x0,some (.ref L),some (.int g'),a,b,c]/\xi Ao L as (CI l')/\(∀a,a=L\/a∈as->new a)/\(∀a,Ao a=none->new a)/\g'+ah l'=g+ah l/\(∀x o,¬new x->H x=some o->Ao x=some o),λdk Ao ⟨L,as,l2,g2,b3,b4,b5,y0,y1,y2,y3,y4,y5,y6⟩=>⟨r.length,by rw[em];simp,L,as,l2,g2,b3,b4,b5,y0.symm,y1,y2,y3,y4,y5,y6⟩,?_⟩;have h0:H' a0=some (.ak [.int a,.int b]):=e2.row 0 a0 [a,b] rfl rfl;have nd:=e2.nd;rw[Fl] at nd;dsimp only[B2];refine⟨.ref L,rfl,L,_,_,.ref a0,rfl,rfl,.inl (.inl e2.top),jz (i:=0) rfl,?_⟩;dsimp only[fj];refine⟨.ref L,rfl,1,rfl,L,_,rfl,.inl (.inl e2.top),λM2 SM=>?_⟩;have cut:zf ((a0::as).map V.ref) (some 1) none=as.map V.ref:=wd ((a0::as).map V.ref) 0;rw[cut];have Px:a0≠M2:=aO h0 SM;have Uj:∀(j:Nat) y w,as[j]?=some y->(CI r)[j]?=some w->H' y=some (.ak (w.map V.int)):=λj y w g1 g2=>e2.row (j+1) y w (by simpa using g1) (by simpa using g2);have Uk:∀y∈as,y≠M2:=λy hy=>by
    obtain⟨j,hj,e⟩:=List.mem_iff_getElem.mp hy;have Ui:j<r.length:=by simp at len;omega
    exact aO (Uj j y (r2 r[j]) (by rw[Ai hj,e]) (by rw[A9,Ai Ui];rfl)) SM
   have N2:xi (L2.upd H' M2 (.ak (as.map V.ref))) M2 as (CI r):=by
    refine⟨aC,by simpa using len,λj y w g1 g2=>?_,nd.2,Uk⟩;rw[aB (Uk y (MS g1))];exact Uj j y w g1 g2
   have SN:L2.upd H' M2 (.ak (as.map V.ref)) a0=some (.ak [.int a,.int b]):=by rw[aB Px];exact h0
   have EA:new M2:=e4 M2 SM;have k6:∀x o,¬new x->H x=some o->L2.upd H' M2 (.ak (as.map V.ref)) x=some o:=λx o hx e=>by
    have VN:x≠M2:=by rintro rfl;exact hx EA
    rw[aB VN];exact e6 x o hx e
   have k4:∀x,L2.upd H' M2 (.ak (as.map V.ref)) x=none->new x:=λx e=>by
    by_cases hx:x=M2
    ·subst hx;exact EA
    ·rw[aB hx] at e;exact e4 x e
   have rest:∀QX:Int,QX=g'+(if a=b then 1 else 0)->Bq (Cr K (ik 1)) (fj 4) (Ez K) {D with nx:=λdk Ao=>∃L as l' g' a b c,l'.length=r.length/\dk=[x0,some (.ref L),some (.int g'),a,b,c]/\xi Ao L as (CI l')/\(∀a,a=L\/a∈as->new a)/\(∀a,Ao a=none->new a)/\g'+ah l'=g+ah l/\(∀x o,¬new x->H x=some o->Ao x=some o),ct:=λdk Ao=>∃L as l' g' a b c,l'.length=r.length/\dk=[x0,some (.ref L),some (.int g'),a,b,c]/\xi Ao L as (CI l')/\(∀a,a=L\/a∈as->new a)/\(∀a,Ao a=none->new a)/\g'+ah l'=g+ah l/\(∀x o,¬new x->H x=some o->Ao x=some o),bk:=D.nx} [x0,some (.ref M2),some (.int QX),some (.ref a0),a4,a5] (L2.upd H' M2 (.ak (as.map V.ref))):=by
    intro QX hg;refine VH SN N2 nd.1 Px λc d H4 z1 z2 z3=>⟨M2,as,r.map (yg a b),QX,_,_,_,by simp,rfl,z1,λy hy=>?_,λy hy=>k4 y (z3 y hy),?_,λx o hx e=>z2 x o (λz=>hx (e3 x (.inr (rk _ z)))) (k6 x o hx e)⟩
    ·rcases hy with hy|hy
     ·rw[hy];exact EA
     ·exact e3 y (.inr (rk _ hy))
    ·rw[←e5,aD,hg]
     split<;>simp<;>omega
   refine⟨.ref a0,rfl,a0,_,_,.int a,rfl,rfl,.inl (.inl SN),rfl,.ref a0,rfl,a0,_,_,.int b,rfl,rfl,.inl (.inl SN),rfl,a,b,rfl,rfl,_,rfl,?_⟩;dsimp only;by_cases pw:a=b
   ·rw[bg (show decide (a=b)=true from ya pw)]
    refine⟨.int g',rfl,g',1,rfl,rfl,?_⟩;exact rest (g'+1) (by rw[bg pw])
   ·rw[bh (show¬decide (a=b)=true from by simpa using pw)]
    exact rest g' (by rw[bh pw];omega)
theorem gX:∀{R:List (List Int)}{l:List (Int×Int)},jo R=some l->R=CI l
 |[],l,h=>by simp[jo] at h;subst h;rfl
 |[a,b]::R,l,h=>by
  rw[jo] at h
  cases e:jo R with
  |none=>rw[e] at h;cases h
  |some q=>rw[e] at h;cases h;rw[gX e];rfl
 |[]::R,l,h=>by simp[jo] at h
 |[_]::R,l,h=>by simp[jo] at h
 |(_::_::_::_)::R,l,h=>by simp[jo] at h
theorem six{α:Type}{σ:List α}(h:σ.length=6):∃a b c d e f,σ=[a,b,c,d,e,f]:=by
 match σ,h with
 |[a,b,c,d,e,f],_=>exact⟨a,b,c,d,e,f,rfl⟩
section
variable{X:Cx}{cl:Nat->Addr}{XE:Nat->St->Hp->Prop}{Φ:Nat->List D->R D}{G:List D}{n:Nat}
theorem Hq(h1:Pl X cl 0 1 s1)(h2:PS X s2 (qj (tC (.int 0)) (fj 2)))(h3:PS X s3 (LU X.K))(h4:PS X s4 (NG (ik 2))):si X cl XE Φ G n [.Dw] [s1,s2,s3,s4]:=by
 obtain⟨t1,p1,i1⟩:=h1;refine⟨_,bC p1 (bC h2 (bC h3 (bZ h4))),λc_ bx F σ δ H W f0 h=>?_⟩;have hx:jq X.K cl XE c_ bx W (C8 δ):=by
  simp only[av,bp] at h;cases e:C8 δ<;>rw[e] at h<;>exact h
 clear h;unfold C8 at hx
 cases e:(qy (cg δ 0)).bind jo with
 |none=>rw[e] at hx;exact hx.elim
 |some l=>
  rw[e] at hx;dsimp only at hx;by_cases hc:δ.length=6/\l.length<=900
  ·rw[bg hc] at hx
   cases er:qy (cg δ 0) with
   |none=>rw[er] at e;cases e
   |some R=>
    rw[er,Jw] at e;have eR:=gX e;subst eR;have e0:=qW er;have Pj:σ.length=6:=by rw[f0.sees.len];exact hc.1
    obtain⟨y0,y1,y2,y3,y4,y5,rfl⟩:=six Pj;show t1 _ H _;refine i1 F _ δ H _ false (CI l) f0.sees e0 (by simp;omega) λH1 L as sm fL VO nn=>?_;show LU X.K _ [y0,some (.ref L),some (.int 0),y3,y4,y5] H1;refine VM nn (λa=>H a=none) (λa ha=>?_) (λa ha=>sm.free ha) λdk H' hs hk=>?_
    ·rcases ha with rfl|ha
     ·exact fL
     ·exact VO a ha
    ·rw[Int.zero_add] at hs
     refine⟨_,hs,hx F _ H' (f0.up.trans ⟨λa o z=>hk a o (by rw[z];exact MU _) (sm _ _ z),λ_ z=>z,λ_ z=>.inl z⟩) (by simp[Rep])⟩
  ·rw[bh hc] at hx;exact hx.elim
end
section
variable{X:Cx}{cl:Nat->Addr}
theorem yC{tg iter:Expr}{body:List Stmt}{wi:TI}{g:TG}{tb:TS}{pos:Pos}(hi:PI X.yn tg iter wi)(hg:PG X.yn tg g)(hb:BP X.yn body tb)(hc:X.calm=true:=by rfl)(hs:∀x,foldedSetIterable iter X.yn.env x=pure x:=by intro _;rfl):PS X (.For tg iter body [] pos) (Bq wi g tb):=
 PS.yn (wF (X:=X.yn) PassesOwn.never hc hi hg hb hs)
theorem Hr(hc:PT X.yn c tc)(hb:BP X.yn body tb):PS X (.While c body [] pos) (B3 tc tb):=PS.yn (n6 (X:=X.yn) PassesOwn.never hc hb)
theorem lL{i:Nat}{x:Str}{e:Expr}{te:TE}{pos pos':Pos}(hN:X.N.Nodup)(he:PE X e te)(hi:X.N[i]?=some x:=by rfl)(hx:Loc X.env.scope x:=by first|exact Or.inl rfl|exact Or.inr rfl)(hs:swapsWith e (some (.Name x pos')) pos.line X.env=pure false:=by rfl)(hf:X.fn x=true\/X.env.scope.names.lookup x=some .local:=by first|exact .inl rfl|exact .inr rfl):
  PS X (.Assign [.Name x pos'] e pos) (qj te (fj i)):=p9 hN hi hx he hs hf
theorem LV{o e f:Expr}{apos gr:Pos}{td:TE}{t:TA}(hu:X.A.units+20<cLine)(ho:PE X o td)(ha:PA X [e,f] t)(mj:attributeBase o "get" X.env (eval o X.env)=eval o X.env:=by rfl)
  (DV:((backTo gr (starEach [e,f] X.env)).all (λx=>!x.1)&&(backToKw gr (keywordEach [] X.env)).all (λx=>x.1.isSome)&&decide (([e,f]:List Expr).length+([]:List Keyword).length+(if([]:List Keyword).isEmpty then 0 else 1)<30))=true:=by rfl)
  (mq:(apos.endLine==gr.line)=true:=by rfl) (hs:starEach [e,f] X.env=(false,eval e X.env)::starEach [f] X.env:=by rfl) (zg:(backTo gr (starEach [f] X.env)).any (·.1)=false:=by rfl):
  PE X (.Call (.Attribute o "get" apos) [e,f] [] gr) (SJ (Eu X.K) td t):=Pq PySem.F.slot_dict_get PySem.F.type_dict_get (Hi hu) ho ha mj DV mq hs zg
noncomputable abbrev Ne(cl:Nat->Addr):St->XK:=λσ=>M7 cl λc=>(λ_ _ _=>False:Nat->St->Hp->Prop) c σ
theorem yD{k:Nat}{f:Addr}{fd:FuncData}{ps:List Str}{sp:Sp}{x:Str}{p pos:Pos}{e:Expr}{es:List Expr}{t:TA}(Fo:u_ X.prog X.w X.K X.mg X.base (yu X.prog X.w) k f fd ps sp)(hr:mf k X.A)(hm:X.mg x=some (.ref f))(hk:PySem.W.keepIn X.K (.ref f)=true)(hb:Binds X.K fd ps [])(ha:PA X (e::es) t)
  (hg:Gl X x:=by rfl) (vx:(x==("__debug__":Str))=false:=by decide) (he:starEach (e::es) X.env=(false,eval e X.env)::starEach es X.env:=by rfl) (Ah:(backTo pos (starEach es X.env)).any (·.1)=false:=by rfl):
  PE X (.Call (.Name x p) (e::es) [] pos) (Ew sp (Ne cl) t):=oM Fo hr hg hm hk hb (λ_=>jG) ha vx he Ah
theorem jT{a b:Expr}{ta tb:TE}{pos:Pos}(ha:PE X a ta)(hb:PE X b tb)(hs:yq b:=by exact λ_ _=>rfl):PE X (.Subscript a b pos) (AW (xa X.K) ta tb):=IE Cw ha hb hs
theorem yE{i:Nat}{x:Str}{pos:Pos}(hN:X.N.Nodup)(hi:X.N[i]?=some x:=by rfl)(hx:Loc X.env.scope x:=by first|exact Or.inl rfl|exact Or.inr rfl)(hf:X.fn x=true\/X.env.scope.names.lookup x=some .local:=by first|exact .inl rfl|exact .inr rfl):PG X (.Name x pos) (fj i):=(xU (cl:=λ_=>0) hN hi hx hf).1
theorem I0(ho:PE X o to)(hi:PE X i ti)(hs:FD X t)
  (ha:∀v,assign (.Subscript o i pos) X.env v=(do
   let ov←holding [v] (eval o X.env)
   let iv←holding [v,ov] (eval i X.env)
   standAt pos
   holding [v,ov,iv] (setItem ov iv v)
   release [v,ov,iv] []):=by intro _;rfl):PG X (.Subscript o i pos) (DQ to ti t):=wC ho hi hs ha
theorem LW(he:PE X e te)(hs:swapsWith e none pos.line X.env=pure false:=by rfl):PS X (.Expr e pos) (DP te):=sH he hs
theorem I_{a:Expr}{ta:TE}{p pos:Pos}(hm:X.mg "len"=none)(ha:PE X a ta)(hg:Gl X "len":=by rfl)(hs:starEach (a::[]) X.env=(false,eval a X.env)::starEach [] X.env:=by rfl):PE X (.Call (.Name "len" p) [a] [] pos) (NT (Ey X.K) (ny ta vv)):=
 iZ eP hg hm PySem.boot_len (gz ha mh hs) (by decide) (by decide) hs rfl
theorem yF{tg a:Expr}{ta:TA}{p pos:Pos}(hm:X.mg "range"=none)(ha:PA X [a] ta)(hg:Gl X "range":=by rfl)(hs:starEach [a] X.env=[(false,eval a X.env)]:=by rfl):PI X tg (.Call (.Name "range" p) [a] [] pos) (Ct ta):=kR hg hm ha hs
end
section
variable{P:Program}{w:World}{K:PySem.W.Frag}{mg:Str->Option Value}{base:Heap}{cl:Nat->Addr}{Pg:Prog}
theorem SO{x qual:Str}{st:Stmt}{fa:Addr}{fd:FuncData}{N ps:List Str}{k:Nat}{sp:Sp}{t:XK->TS}(F:Ge K x qual st fa fd)(S:vw N ps (d_ st))(len:∀vs H Q E,sp vs H Q E->vs.length=ps.length)
  (run:∀{vs H Q E},sp vs H Q E->t E {nx:=λ_ H'=>Q .de H',rt:=Q} (start N vs) H)
  (hb:∀(cd:Value)(A:Around)(outer:List Env)(s:Shared)(H:Hp)(E:XK),mf k (A.deeper (envOfC qual (d_ st) s.heap.objs.size fa cd))->BP (T9 P w K mg base N qual (d_ st) fa cd A outer s H E) (ng st) (t E)):u_ P w K mg base (yu P w) (k+1) fa fd ps sp:=by
 obtain⟨oc,od,kV,doc,pm,an,yd,ct,J9,rfl,lk,uj⟩:=F.ex;exact Iw lk uj S len λA outer s H vs Q E hr h=>⟨t E,hb yd A outer s H E hr,run h⟩
theorem Hs(h:∀ds,bt Pg j f ds=.bad):u_ P w K mg base (yu P w) k fa fd ps (zt K cl (bt Pg j) f):=
 ⟨λvs H Q E ⟨F,ds,_,_,z⟩=>by rw[h] at z;exact z.elim,λA outer s H args us vs Q E _ _ _ _ ⟨F,ds,_,_,z⟩=>by rw[h] at z;exact z.elim⟩
end
theorem walk_law4{l:PySem.W.OpenLaw}{K:Params->PySem.W.Frag}(ht:∀ns:List Int,ns.length<=63->bt Pg j f [.ig ns]=.ok (.bl true))
  (hn:l.most=some 63) (RK:d.params.defaults=[]) (hY:∀(w:World)(h:Heap),YP w h->(K w.params).In h)
  (F:∀(w:World)(mg mb:Str->Option Value)(mean:ExcName->Option Value)(fa:Addr)(h:Heap),(K w.params).In h->Top q (PySem.W.looseW q loose) mean mg mb h->mg d.name=some (.ref fa)->
   ∃(fd:FuncData)(cl:Nat->Addr),(∀(s:Shared)(u:Value),BindsTo s fd ⟨[u],[]⟩ [("script",u)])/\∀base:Heap,(K w.params).In base->base.Ns mainGlobals mg->(∀b o,h.get? b=some o->(∀its n,o.data≠.seq its n)->base.get? b=some o)->
    u_ l.prog w (K w.params) mg base (yu l.prog w) (4*j+4) fa fd ["script"] (zt (K w.params) cl (bt Pg j) f)) (hj:j<=14):
  PySem.W.WalkO q loose XP YP l.row.toRowW d [] (λf vs=>PySem.call f vs):=by
 refine Att.Br hn RK λw fv fm mg mb fa o pm cd doc a vs ns G Y ho hd uj hmg Km hints di hg=>?_;have KX:=hY w _ Y;obtain⟨fd,cl,hb,hF⟩:=F w mg mb _ fa _ KX G.T hmg;have hr:mf (4*j+4) callerA:=by
  have r:mf 60 callerA:=⟨rfl,by decide,by decide⟩
  exact r.mono (by omega)
 exact uZ KX G.T.g G.T.b G.T.builtins G.T.nolimit hg Km hints (rm di (by decide)) hr hF hb (λH hO hS=>Lp (ht ns di) hO hS) λH e s' z=>Lq z
theorem vA(hI:IntsAre vs ns)(h:uk ns=true):zw vs ns:=nomatch h
theorem Ht(h:Pg.fns[f]?=some ⟨np,ns,[.ret (.b_ .neg (.ao .de))]⟩)(j:Nat)(ds:List D):bt Pg j f ds=.bad:=by
 cases j with
 |zero=>rfl
 |succ j=>simp only[bt,h];split<;>rfl
end L2.Snd
namespace Py
theorem cC(g:D->D):∀(xs:List D),(∀x∈xs,f x=.ok (some (g x)))->h_ f xs=.ok (xs.map g)
 |[],_=>rfl
 |x::r,h=>by
  rw[h_,h x wo,cC g r λy hy=>h y (rk _ hy)];rfl
theorem cJ(p:D->Bool)(g:D->D):∀(xs:List D),(∀x∈xs,f x=.ok (if p x then some (g x) else none))->h_ f xs=.ok ((xs.filter p).map g)
 |[],_=>rfl
 |x::r,h=>by
  rw[h_,h x wo,cJ p g r λy hy=>h y (rk _ hy)];cases e:p x<;>simp[e]
theorem lM:∀(xs:List D)(δ:Nat->iy),(∀i (h:i<xs.length),f xs[i] (δ i)=.nx (δ (i+1)))->forM f xs (δ 0)=.nx (δ xs.length)
 |[],δ,_=>rfl
 |x::r,δ,h=>by
  rw[Py.forM.eq_2,show f x (δ 0)=.nx (δ 1) from h 0 (by simp)];exact lM r (λi=>δ (i+1)) λi hi=>h (i+1) (by simpa using hi)
theorem yG(n:Nat)(δ:Nat->iy)(h:∀i,i<n->f (.int i) (δ i)=.nx (δ (i+1))):forM f (dg 0 n) (δ 0)=.nx (δ n):=by
 have:=lM (dg 0 n) δ (f:=f) λi hi=>by
  have AI:i<n:=by simpa[dg] using hi
  have e:(dg 0 n)[i]=.int i:=by simp[dg]
  rw[e];exact h i AI
 rwa[show(dg 0 n).length=n by simp[dg]] at this
theorem iI:∀(m n:Nat)(δ:Nat->iy),m<n->(∀i,i<m->c (fz (δ i))=.ok true/\b (fz (δ i))=.nx (δ (i+1)))->c (fz (δ m))=.ok false->A0 c fz b n (δ 0)=.nx (fz (δ m))
 |0,n+1,δ,_,_,he=>by rw[A0,he]
 |m+1,n+1,δ,hm,h,he=>by
  obtain⟨h1,h2⟩:=h 0 (by omega);rw[A0,h1];dsimp only;rw[h2];exact iI m n (λi=>δ (i+1)) (by omega) (λi hi=>h (i+1) (by omega)) he
noncomputable def az(xs:List Int):List D:=xs.map .int
noncomputable def af(r:List Int):D:=.ar (az r)
theorem dX(lo:Int)(n:Nat):(dg lo n).length=n:=by simp[dg]
theorem aL{n:Nat}(h:n<=1000):bo .js [.int n]=.ok (dg 0 n):=by
 have h1:(-(jj:Int))<=(n:Int)/\(n:Int)<=(jj:Int):=by
  have:(jj:Int)=100000:=rfl;omega
 show((if-(jj:Int)<=(n:Int)/\(n:Int)<=(jj:Int) then R.ok (dg 0 (n:Int).toNat) else R.bad).bind λxs=>if xs.length<=jj then R.ok xs else R.bad)=_;rw[bg h1];simp only[R.g_,BO,dX];rw[bg (show n<=jj from rm h (by decide))]
theorem bH(h:xs.length<=1000):bo .seq [.ak xs]=.ok xs:=by
 show(if xs.length<=jj then R.ok xs else R.bad)=_;rw[bg (show xs.length<=jj from rm h (by decide))]
theorem aX(h:xs.length<=1000):bo .seq [.ar xs]=.ok xs:=by
 show(if xs.length<=jj then R.ok xs else R.bad)=_;rw[bg (show xs.length<=jj from rm h (by decide))]
theorem jz{α:Type}{xs:List α}{i:Nat}(h:i<xs.length):my xs (i:Int)=some xs[i]:=by
 have h1:(0:Int)<=(i:Int):=by omega
 have h2:(i:Int)<(xs.length:Int):=by omega
 simp[my,B8,h1,h2,h]
theorem jU(h:i<n):B8 n (i:Int)=some i:=by
 have h1:(0:Int)<=(i:Int):=by omega
 have h2:(i:Int)<(n:Int):=by omega
 simp[B8,h1,h2]
theorem tM(xs:List α)(a b:Nat):cut xs (some (a:Int)) (some (b:Int))=(xs.drop a).take (b-a):=by
 have h1:¬((a:Int)<0):=by omega
 have h2:¬((b:Int)<0):=by omega
 simp only[cut,gj,bh h1,bh h2,BO];by_cases ha:a<=xs.length
 ·rw[Nat.min_eq_left ha]
  by_cases hb:b<=xs.length
  ·rw[Nat.min_eq_left hb]
  ·rw[Nat.min_eq_right (by omega)]
   rw[Jp (by rw[Ik];omega),Jp (by rw[Ik];omega)]
 ·have e1:xs.drop a=[]:=List.drop_of_length_le (by omega)
  have e2:xs.drop (min a xs.length)=[]:=List.drop_of_length_le (by omega);rw[e1,e2];simp
theorem wd(xs:List α)(a:Nat):cut xs (some (a:Int)) none=xs.drop a:=by
 have h1:¬((a:Int)<0):=by omega
 simp only[cut,gj,bh h1,BO];by_cases ha:a<=xs.length
 ·rw[Nat.min_eq_left ha,Jp (by rw[Ik];omega)]
 ·rw[Nat.min_eq_right (by omega),List.drop_of_length_le (ji _),List.drop_of_length_le (by omega)]
  simp
theorem mX(a b:List D)(h:a.length+b.length<=jj):ag .add (.ak a) (.ak b)=.ok (.ak (a++b)):=bg h
theorem jV(i j:Int)(h:(-(2^64)<i/\i<2^64)\/(-(2^64)<j/\j<2^64)):ag .mul (.int i) (.int j)=.ok (.int (i*j)):=bg h
theorem cY(i j:Int)(h:0<j):ag .mod (.int i) (.int j)=.ok (.int (i%j)):=bg h
theorem dY(i j:Int)(h:0<j/\j<1073741824):ag .fdiv (.int i) (.int j)=.ok (.int (i/j)):=bg h
theorem Pz(xs:List D)(i:Int):ag .at (.ak xs) (.int i)=wm (my xs i):=rfl
theorem Ja(xs:List D)(i:Int):ag .at (.ar xs) (.int i)=wm (my xs i):=rfl
theorem jW(xs:List D):b_ .len (.ar xs)=.ok (.int xs.length):=rfl
theorem fZ(xs:List D):b_ .list (.ak xs)=.ok (.ak xs):=rfl
theorem LX(xs:List D):b_ .list (.ar xs)=.ok (.ak xs):=rfl
theorem q9(xs:List D)(h:lg 999 xs=true):b_ .isTup (.ar xs)=.ok (.bl true):=by
 show(if dr 1000 (.ar xs) then _ else _)=_;rw[bg (by simpa[dr] using h)]
theorem pA(d:D):wm (some d)=.ok d:=rfl
theorem of_ok(a:α)(δ:iy)(f:α->Out):Out.of (.ok a) δ f=f a:=rfl
theorem KO(c:Nat)(δ:iy)(f:α->Out):Out.of (.exc c:R α) δ f=.xc c δ:=rfl
theorem aZ(a:α)(f:α->R β):(R.ok a).bind f=f a:=rfl
theorem Za(b:Bool):truth (.bl b)=.ok b:=rfl
theorem Zb(xs:List D):truth (.ak xs)=.ok (!xs.isEmpty):=rfl
theorem Zc(a:α)(δ:iy)(f:α->Out):Out.of (.ok a) δ f=f a:=rfl
theorem Zd(c:Nat)(δ:iy)(f:α->Out):Out.of (.exc c:R α) δ f=.xc c δ:=rfl
theorem Ze(d:D):wm (some d)=.ok d:=rfl
theorem Zf(a:α)(f:α->R β):(R.ok a).bind f=f a:=rfl
theorem Zg(c:Nat)(f:α->R β):(R.exc c:R α).bind f=.exc c:=rfl
theorem Zh(a:α):(R.ok a).quiet=.ok a:=rfl
theorem Zi{α:Type}{x:α}{xs:List α}{a:α}:(x::xs).set 0 a=a::xs:=rfl
theorem Zj{α:Type}{x:α}{xs:List α}{a:α}:(x::xs).set (n+1) a=x::xs.set n a:=rfl
theorem Zk{α:Type}{x:α}{xs:List α}:(x::xs)[0]?=some x:=rfl
theorem Zl{α:Type}{x:α}{xs:List α}:(x::xs)[i+1]?=xs[i]?:=rfl
theorem Zm{α β:Type}{f:α->β}{a:α}{l:List α}:(a::l).map f=f a::l.map f:=rfl
theorem Zn{α β:Type}{f:α->β}:([]:List α).map f=[]:=rfl
theorem Zo{α:Type}(l:List α):[]++l=l:=rfl
theorem Zp{α:Type}{a:α}{l r:List α}:(a::l)++r=a::(l++r):=rfl
theorem Zq{α:Type}(l:List α):l++[]=l:=A_ l
theorem Zr(b:Bool):(b&&true)=b:=Bool.and_true b
theorem Zs(b:Bool):(b&&false)=false:=Bool.and_false b
theorem Zt(b:Bool):(true&&b)=b:=rfl
theorem Zu(b:Bool):(false&&b)=false:=rfl
theorem Zv:(!true)=false:=rfl
theorem Zw:(!false)=true:=rfl
theorem Zx{α:Type}{a b:α}:(some a).getD b=a:=rfl
theorem ZA(i j:Int):ag .add (.int i) (.int j)=.ok (.int (i+j)):=rfl
theorem ZB(i j:Int):ag .sub (.int i) (.int j)=.ok (.int (i-j)):=rfl
theorem ZC(i j:Int):ag .lt (.int i) (.int j)=.ok (.bl (decide (i<j))):=rfl
theorem ZD(i j:Int):ag .le (.int i) (.int j)=.ok (.bl (decide (i<=j))):=rfl
theorem ZE(i j:Int):ag .gt (.int i) (.int j)=.ok (.bl (decide (j<i))):=rfl
theorem ZF(i j:Int):ag .ge (.int i) (.int j)=.ok (.bl (decide (j<=i))):=rfl
theorem ZG(i j:Int):ag .eq (.int i) (.int j)=.ok (.bl (i==j)):=rfl
theorem ZH(i j:Int):ag .ne (.int i) (.int j)=.ok (.bl (!(i==j))):=rfl
theorem ZI(xs:List D)(i:Int):ag .at (.ak xs) (.int i)=wm (my xs i):=rfl
theorem ZJ(xs:List D)(i:Int):ag .at (.ar xs) (.int i)=wm (my xs i):=rfl
theorem ZK(xs:List Int)(i:Int):ag .at (.ig xs) (.int i)=wm ((my xs i).map .int):=rfl
theorem ZL(xs:List D):b_ .len (.ak xs)=.ok (.int xs.length):=rfl
theorem ZM(xs:List D):b_ .len (.ar xs)=.ok (.int xs.length):=rfl
theorem ZN(xs:List Int):b_ .len (.ig xs)=.ok (.int xs.length):=rfl
theorem ZO(i:Int):b_ .neg (.int i)=.ok (.int (-i)):=rfl
theorem ZP(xs:List D):b_ .tuple (.ak xs)=.ok (.ar xs):=rfl
theorem ZQ(xs:List D):b_ .tuple (.ar xs)=.ok (.ar xs):=rfl
theorem ZR(xs:List D):b_ .list (.ak xs)=.ok (.ak xs):=rfl
theorem ZS(xs:List D):b_ .list (.ar xs)=.ok (.ak xs):=rfl
theorem ZT(i:Int):b_ .isInt (.int i)=.ok (.bl true):=rfl
theorem ZU(i:Int):b_ .isBool (.int i)=.ok (.bl false):=rfl
noncomputable def CJ:List Sm:=[(.ite (.a_ (.ag .lt (.aa 1) (.b_ .len (.aa 0)))) [(.ret (.ag .at (.aa 0) (.aa 1)))] []),(.ret (.ao (.int 0)))]
noncomputable def je(ns:List Int)(k:Nat):Int:=ns.getD k 0
section
variable{Φ:Nat->List D->R D}{G:List D}{n:Nat}
theorem yH(ns:List Int)(k:Nat):av Φ G n CJ [zs (.ig ns),zi k]=.rt (.int (je ns k)):=by
 by_cases h:k<ns.length
 ·have e:decide ((k:Int)<(ns.length:Int))=true:=ya (by omega)
  simp only[CJ,av,bp,du,ev,bf,au,ai,cj,cg,Za,Zc,Ze,Zf,Zk,Zl,Zq,cw,ZC,ZK,ZN,e,jz h,Option.map_some];simp[je,h]
 ·have e:decide ((k:Int)<(ns.length:Int))=false:=wt (by omega)
  have e2:je ns k=0:=by simp[je,Ih (by omega:ns.length<=k)]
  simp only[CJ,av,bp,du,ev,bf,au,ai,cj,cg,Za,Zc,Zf,Zk,Zl,Zq,cw,dq,gV,ZC,ZK,ZN,e,e2]
noncomputable def nj(ns:List Int)(k:Nat):Int:=if k<ns.length then je ns k else(je ns 0+7*k+3)*48271%2147483647/13
noncomputable def CK(c:Nat):List Sm:=[(.ite (.a_ (.ag .lt (.aa 1) (.b_ .len (.aa 0)))) [(.ret (.ag .at (.aa 0) (.aa 1)))] []),(.ret (.ag .fdiv (.ag .mod (.ag .mul (.ag .add (.ag .add (.call c [(.aa 0),(.ao (.int 0))]) (.ag .mul (.ao (.int 7)) (.aa 1))) (.ao (.int 3))) (.ao (.int 48271))) (.ao (.int 2147483647))) (.ao (.int 13))))]
theorem pick_run(ns:List Int)(k:Nat)(hc:Φ c [.ig ns,.int 0]=.ok (.int (je ns 0))):av Φ G n (CK c) [zs (.ig ns),zi k]=.rt (.int (nj ns k)):=by
 by_cases h:k<ns.length
 ·have e:decide ((k:Int)<(ns.length:Int))=true:=ya (by omega)
  simp only[CK,av,bp,du,ev,bf,au,ai,cj,cg,Za,Zc,Ze,Zf,Zk,Zl,Zq,cw,ZC,ZK,ZN,e,jz h,Option.map_some];simp[nj,je,h]
 ·have e:decide ((k:Int)<(ns.length:Int))=false:=wt (by omega)
  have m1:∀x:Int,ag .mul (.int 7) (.int x)=.ok (.int (7*x)):=λx=>jV _ _ (.inl (by decide));have m2:∀x:Int,ag .mul (.int x) (.int 48271)=.ok (.int (x*48271)):=λx=>jV _ _ (.inr (by decide));have m3:∀x:Int,ag .mod (.int x) (.int 2147483647)=.ok (.int (x%2147483647)):=λx=>cY _ _ (by decide);have m4:∀x:Int,ag .fdiv (.int x) (.int 13)=.ok (.int (x/13)):=λx=>dY _ _ (by decide);simp only[CK,av,bp,du,ev,ck,bf,cf,au,ai,aq,cj,cg,Za,Zc,Zf,Zk,Zl,Zq,cw,dq,gV,ZA,ZC,ZK,ZN,e,hc,m1,m2,m3,m4,nj,bh h]
end
noncomputable def gq(xs:List Nat):List D:=xs.map λk=>.int (k:Nat)
structure Pr where
 owner:List Int
 left:List Nat
 name:Nat
noncomputable def yy(pk:Nat->Int)(s:Pr):Nat:=(1+pk s.name%((s.left.length:Int)-1)).toNat
noncomputable def qz(pk:Nat->Int)(s:Pr):Pr:=
 ⟨(s.owner.set (s.left.getD 0 0) s.name).set (s.left.getD (yy pk s) 0) s.name,(s.left.drop 1).take (yy pk s-1)++s.left.drop (yy pk s+1),s.name+1⟩
noncomputable def i_(pk:Nat->Int)(s:Pr):Nat->Pr
 |0=>s
 |i+1=>qz pk (i_ pk s i)
noncomputable def zx(pk:Nat->Int)(s:Pr):Pr:=i_ pk s (s.left.length/2)
theorem rA(h:1<s.left.length):1<=yy pk s/\yy pk s<s.left.length/\(yy pk s:Int)=1+pk s.name%((s.left.length:Int)-1):=by
 have h1:(0:Int)<(s.left.length:Int)-1:=by omega
 have h2:=Int.emod_nonneg (pk s.name) (Int.ne_of_gt h1);have h3:=Int.emod_lt_of_pos (pk s.name) h1;unfold yy;omega
theorem vB(h:1<s.left.length):(qz pk s).left.length=s.left.length-2:=by
 obtain⟨h1,h2,_⟩:=rA (pk:=pk) h;simp only[qz,vm,Be,Ik];omega
theorem bP:∀i,2*i<=s.left.length->(i_ pk s i).left.length=s.left.length-2*i/\(i_ pk s i).name=s.name+i
 |0,_=>⟨by simp[i_],rfl⟩
 |i+1,h=>by
  obtain⟨h1,h2⟩:=bP (pk:=pk) (s:=s) i (by omega);refine⟨?_,?_⟩
  ·rw[i_,vB (by omega),h1];omega
  ·show(i_ pk s i).name+1=_
   rw[h2];omega
def Nb(s:Pr):Prop:=∀i∈s.left,i<s.owner.length
theorem yI(h:Nb s):Nb (qz pk s):=by
 intro i hi;simp only[qz,Cn] at hi⊢;rcases List.mem_append.mp hi with z|z
 ·exact h i (List.mem_of_mem_drop (List.mem_of_mem_take z))
 ·exact h i (List.mem_of_mem_drop z)
theorem pB(h:Nb s):∀i,Nb (i_ pk s i)
 |0=>h
 |i+1=>yI (pB h i)
theorem dZ:∀i,(i_ pk s i).owner.length=s.owner.length
 |0=>rfl
 |i+1=>by
  show((_:List Int).set _ _).length=_;rw[Cn,Cn,dZ i]
noncomputable def BB(p:Nat):List Sm:=[(.bz 8 (.ag .add (.ao (.int 1)) (.ag .mod (.call p [(.aa 0),(.ag .add (.aa 1) (.aa 7))]) (.ag .sub (.b_ .len (.aa 6)) (.ao (.int 1)))))),(.put 4 (.ag .at (.aa 6) (.ao (.int 0))) (.aa 7)),(.put 4 (.ag .at (.aa 6) (.aa 8)) (.aa 7)),(.bz 6 (.ag .add (.rq (.aa 6) (some (.ao (.int 1))) (some (.aa 8))) (.rq (.aa 6) (some (.ag .add (.aa 8) (.ao (.int 1)))) none))),(.bz 7 (.ag .add (.aa 7) (.ao (.int 1))))]
section
variable{Φ:Nat->List D->R D}{G:List D}{n:Nat}
theorem lN(h:i<xs.length):(gq xs)[i]'(by simpa[gq] using h)=.int (xs.getD i 0:Nat):=by
 simp[gq,h]
theorem pC{xs:List Nat}(h:i<xs.length):xs.getD i 0∈xs:=by
 simp[List.getD,Ai h]
theorem yJ(s:Pr)(hp:Φ p [.ig ns,.int (start+(s.name:Nat))]=.ok (.int (pk s.name)))(hl:1<s.left.length)(VP:s.left.length<=1000)(wa:Nb s):
  av Φ G n (BB p) [zs (.ig ns),zi start,zi many,c3,some (true,.ak (az s.owner)),c5,some (true,.ak (gq s.left)),zi (s.name:Nat),c8]=
  .nx [zs (.ig ns),zi start,zi many,c3,some (true,.ak (az (qz pk s).owner)),c5,some (true,.ak (gq (qz pk s).left)),zi ((qz pk s).name:Nat),zi (yy pk s:Nat)]:=by
 obtain⟨h1,h2,h3⟩:=rA (pk:=pk) hl;have di:(gq s.left).length=s.left.length:=by simp[gq]
 have e1:(0:Int)<(s.left.length:Int)-1:=by omega
 have e2:my (gq s.left) 0=some (.int (s.left.getD 0 0:Nat)):=by
  have:=jz (xs:=gq s.left) (i:=0) (by rw[di];omega);rw[lN (by omega)] at this;exact this
 have e3:my (gq s.left) (yy pk s:Nat)=some (.int (s.left.getD (yy pk s) 0:Nat)):=by
  have:=jz (xs:=gq s.left) (i:=yy pk s) (by rw[di];omega);rw[lN (by omega)] at this;exact this
 have m1:s.left.getD 0 0<s.owner.length:=wa _ (pC (by omega));have m2:s.left.getD (yy pk s) 0<s.owner.length:=wa _ (pC (by omega));have i1:B8 (az s.owner).length (s.left.getD 0 0:Nat)=some (s.left.getD 0 0):=jU (by simpa[az] using m1);have i2:B8 ((az s.owner).set (s.left.getD 0 0) (.int s.name)).length (s.left.getD (yy pk s) 0:Nat)=some (s.left.getD (yy pk s) 0):=jU (by simpa[az] using m2);have c1:cut (gq s.left) (some 1) (some (yy pk s:Nat))=gq ((s.left.drop 1).take (yy pk s-1)):=by
  have:=tM (gq s.left) 1 (yy pk s);simp only[gq,List.map_take,List.map_drop] at this⊢;exact this
 have c2:cut (gq s.left) (some ((yy pk s:Nat)+1)) none=gq (s.left.drop (yy pk s+1)):=by
  have:=wd (gq s.left) (yy pk s+1);simp only[gq,List.map_drop] at this⊢;exact this
 have l1:(gq ((s.left.drop 1).take (yy pk s-1))).length+(gq (s.left.drop (yy pk s+1))).length<=jj:=by
  simp only[gq,gh,Be,Ik];have:jj=100000:=rfl;omega
 simp only[BB,av,bp,ev,ck,CD,bf,cf,ai,aq,pf,cj,cg,Zc,KN,ba,bq,rq,Ze,Zf,Zi,Zj,Zk,Zl,Zo,Zq,cw,dq,gV,Zt,ZA,ZB,ZI,ZL,hp,di,cY _ _ e1,h3.symm,yj,putD,e2,e3,i1,i2,c1,c2,mX _ _ l1];simp[qz,az,gq,List.map_set]
end
section
variable{Φ:Nat->List D->R D}{G:List D}{n:Nat}
noncomputable def aj(x:Nat×Nat):D:=.ar [.int (x.1:Nat),.int (x.2:Nat)]
noncomputable def pz(fx:List (Nat×Nat))(o:List Int):Nat->List Int
 |0=>o
 |i+1=>((pz fx o i).set (fx.getD i (0,0)).1 i).set (fx.getD i (0,0)).2 i
noncomputable def gm(o:List Int):List Nat:=(List.range o.length).filter λk=>decide (o.getD k 0<0)
noncomputable def iw(m:Nat)(fx:List (Nat×Nat)):Pr:=⟨pz fx (List.replicate (4*m) (-1)) fx.length,gm (pz fx (List.replicate (4*m) (-1)) fx.length),fx.length⟩
noncomputable def km(m:Nat)(o:List Int):List (List Int):=(List.range m).map λk=>(o.drop (4*k)).take 4
noncomputable def CL(p:Nat):List Sm:=[(.bz 4 (.comp .js [(.ag .mul (.ao (.int 4)) (.aa 2))] [] 1 none (.b_ .neg (.ao (.int 1))))),(.loop .js [(.b_ .len (.aa 3))] [5] [(.put 4 (.ag .at (.ag .at (.aa 3) (.aa 5)) (.ao (.int 0))) (.aa 5)),(.put 4 (.ag .at (.ag .at (.aa 3) (.aa 5)) (.ao (.int 1))) (.aa 5))]),(.bz 6 (.comp .js [(.ag .mul (.ao (.int 4)) (.aa 2))] [4] 1 (some (.a_ (.ag .lt (.ag .at (.aa 1) (.aa 0)) (.ao (.int 0))))) (.aa 0))),(.bz 7 (.b_ .len (.aa 3))),(.Dx (.a_ (.ag .gt (.b_ .len (.aa 6)) (.ao (.int 1)))) (BB p)),(.ret (.comp .js [(.aa 2)] [4] 1 none (.b_ .tuple (.rq (.aa 1) (some (.ag .mul (.ao (.int 4)) (.aa 0))) (some (.ag .add (.ag .mul (.ao (.int 4)) (.aa 0)) (.ao (.int 4))))))))]
theorem LY(x:Int):ag .mul (.int 4) (.int x)=.ok (.int (4*x)):=jV _ _ (.inl (by decide))
theorem BC(x:Int):ag .mul (.int 2) (.int x)=.ok (.int (2*x)):=jV _ _ (.inl (by decide))
theorem d6{x:Int}(e:x=(m:Nat))(h:m<=1000):bo .js [.int x]=.ok (dg 0 m):=by rw[e];exact aL h
theorem gY(m:Nat):dg 0 m=gq (List.range m):=by simp[dg,gq]
theorem cZ(fx:List (Nat×Nat))(o:List Int):∀i,(pz fx o i).length=o.length
 |0=>rfl
 |i+1=>by simp[pz,cZ fx o i]
noncomputable def AJ(c:Slot):Nat->Slot
 |0=>c
 |i+1=>some (false,.int (i:Nat))
noncomputable def CM(pk:Nat->Int)(s:Pr):Nat->Slot
 |0=>none
 |i+1=>some (false,.int (yy pk (i_ pk s i):Nat))
theorem PD(hm:m<=100):
  bp Φ G n (.bz 4 (.comp .js [(.ag .mul (.ao (.int 4)) (.aa 2))] [] 1 none (.b_ .neg (.ao (.int 1))))) [zs (.ig ns),zi start,zi (m:Nat),c3,c4,c5,c6,c7,c8]=
  .nx [zs (.ig ns),zi start,zi (m:Nat),c3,some (true,.ak (az (List.replicate (4*m) (-1)))),c5,c6,c7,c8]:=by
 have h1:bo .js [.int (4*(m:Nat))]=.ok (dg 0 (4*m)):=d6 (by omega) (by omega);simp only[bp,ev,ck,Bc,bf,ai,aq,xg,cj,cg,br,ba,bq,Zf,Zi,Zj,Zk,Zl,Zq,cw,Zt,ZO,LY,h1,List.filterMap_nil];rw[cC (λ_=>.int (-1)) _ λx hx=>rfl];simp only[Zc,Zf,Zh]
 congr 1
 simp[dg,az,List.map_const',Ju]
theorem PH(hl:fx.length<=1000)(hf:∀x∈fx,x.1<o.length/\x.2<o.length):
  bp Φ G n (.loop .js [(.b_ .len (.aa 3))] [5] [(.put 4 (.ag .at (.ag .at (.aa 3) (.aa 5)) (.ao (.int 0))) (.aa 5)),(.put 4 (.ag .at (.ag .at (.aa 3) (.aa 5)) (.ao (.int 1))) (.aa 5))]) [zs (.ig ns),zi start,zi (m:Nat),zs (.ak (fx.map aj)),some (true,.ak (az o)),c5,c6,c7,c8]=
  .nx [zs (.ig ns),zi start,zi (m:Nat),zs (.ak (fx.map aj)),some (true,.ak (az (pz fx o fx.length))),AJ c5 fx.length,c6,c7,c8]:=by
 have h1:bo .js [.int ((fx.map aj).length:Nat)]=.ok (dg 0 fx.length):=by rw[gh];exact aL hl
 simp only[bp,av,bp,ev,ck,bf,cf,ai,aq,cj,cg,Zc,br,Zf,Zh,Zk,Zl,Zq,cw,dq,gV,ZL,h1];refine yG fx.length (λi=>[zs (.ig ns),zi start,zi (m:Nat),zs (.ak (fx.map aj)),some (true,.ak (az (pz fx o i))),AJ c5 i,c6,c7,c8]) λi hi=>?_;have g1:my (fx.map aj) (i:Nat)=some (aj (fx.getD i (0,0))):=by
  rw[jz (by simpa using hi)];simp[hi]
 obtain⟨b1,b2⟩:=hf (fx.getD i (0,0)) (by simp[List.getD,Ai hi]);have i1:B8 (az (pz fx o i)).length ((fx.getD i (0,0)).1:Nat)=some (fx.getD i (0,0)).1:=jU (by simpa[az,cZ] using b1);have i2:B8 ((az (pz fx o i)).set (fx.getD i (0,0)).1 (.int (i:Nat))).length ((fx.getD i (0,0)).2:Nat)=some (fx.getD i (0,0)).2:=jU (by simpa[az,cZ] using b2);have a0:∀x:Nat×Nat,my [D.int (x.1:Nat),D.int (x.2:Nat)] 0=some (.int (x.1:Nat)):=λ_=>rfl;have a1:∀x:Nat×Nat,my [D.int (x.1:Nat),D.int (x.2:Nat)] 1=some (.int (x.2:Nat)):=λ_=>rfl;simp only[Zc,Py.sets,Ze,Zf,Zi,Zj,Zk,Zl,cw,ZI,ZJ,yj,putD,g1,aj,a0,a1,i1,i2,ja,ou,jr];simp[pz,AJ,az,List.map_set]
theorem PJ(hm:m<=100)(ho:o.length=4*m):
  bp Φ G n (.bz 6 (.comp .js [(.ag .mul (.ao (.int 4)) (.aa 2))] [4] 1 (some (.a_ (.ag .lt (.ag .at (.aa 1) (.aa 0)) (.ao (.int 0))))) (.aa 0))) [zs (.ig ns),zi start,zi (m:Nat),c3,some (true,.ak (az o)),c5,c6,c7,c8]=
  .nx [zs (.ig ns),zi start,zi (m:Nat),c3,some (true,.ak (az o)),c5,some (true,.ak (gq (gm o))),c7,c8]:=by
 have h1:bo .js [.int (4*(m:Nat))]=.ok (dg 0 (4*m)):=d6 (by omega) (by omega);simp only[bp,du,ev,ck,Bc,bf,au,ai,aq,xg,cj,cg,br,eh,ba,bq,Zf,Zi,Zj,Zk,Zl,Zm,Zn,Zo,Zp,Zq,cw,dq,gV,Zt,Zx,LY,h1,List.filterMap_nil,List.filterMap_cons,Nat.reduceLT,Aj];rw[gY];have key:∀k:Nat,k<4*m->my (az o) (k:Nat)=some (.int (o.getD k 0)):=λk hk=>by
  rw[jz (by simpa[az,ho] using hk)];simp[az,ho,hk]
 rw[cJ (λx=>match x with|.int k=>decide (o.getD k.toNat 0<0)|_=>false) (λx=>x) _ λx hx=>?_]
 ·simp only[Zc,Zf,Zh,gm,ho]
  congr 1
  simp[gq,List.filter_map,Ju]
 ·obtain⟨k,hk,rfl⟩:=List.mem_map.mp hx
  have D8:k<4*m:=List.mem_range.mp hk;simp only[Za,Ze,Zf,ZC,ZI,key k D8,BO];by_cases hc:o.getD k 0<0
  ·simp only[hc,decide_true,cw]
  ·simp only[hc,decide_false,dq,gV]
theorem PK(hm:m<=100):
  bp Φ G n (.ret (.comp .js [(.aa 2)] [4] 1 none (.b_ .tuple (.rq (.aa 1) (some (.ag .mul (.ao (.int 4)) (.aa 0))) (some (.ag .add (.ag .mul (.ao (.int 4)) (.aa 0)) (.ao (.int 4)))))))) [zs (.ig ns),zi start,zi (m:Nat),c3,some (true,.ak (az o)),c5,c6,c7,c8]=
  .rt (.ak ((km m o).map af)):=by
 have h1:bo .js [.int (m:Nat)]=.ok (dg 0 m):=aL (by omega);simp only[bp,ev,ck,CD,Bc,bf,ai,aq,pf,xg,cj,cg,KN,br,eh,rq,Zf,Zk,Zl,Zm,Zn,Zo,Zp,Zq,cw,Zx,h1,List.filterMap_nil,List.filterMap_cons];rw[gY,cC (λx=>match x with|.int k=>af ((o.drop (4*k.toNat)).take 4)|_=>.de) _ λx hx=>?_]
 ·simp only[Zc,Zf,Zh]
  congr 1
  simp[gq,km,Ju]
 ·obtain⟨k,hk,rfl⟩:=List.mem_map.mp hx
  have c:cut (az o) (some (4*(k:Nat))) (some (4*(k:Nat)+4))=az ((o.drop (4*k)).take 4):=by
   have:=tM (az o) (4*k) (4*k+4);simp only[az,List.map_take,List.map_drop] at this⊢;rw[show 4*k+4-4*k=4 by omega] at this
   push_cast at this
   exact this
  simp only[Zf,ZA,ZP,LY,c,af,BO]
theorem pD(hm:m<=100)(hl:fx.length<=1000)(hf:∀x∈fx,x.1<4*m/\x.2<4*m)(hp:∀k,Φ p [.ig ns,.int (k:Nat)]=.ok (.int (nj ns k)))(hn:300<n):
  av Φ G n (CL p) [zs (.ig ns),zi (start:Nat),zi (m:Nat),zs (.ak (fx.map aj)),none,none,none,none,none]=.rt (.ak ((km m (zx (λk=>nj ns (start+k)) (iw m fx)).owner).map af)):=by
 have di:(pz fx (List.replicate (4*m) (-1)) fx.length).length=4*m:=by rw[cZ];simp
 have wa:Nb (iw m fx):=λi hi=>by
  have AI:i∈gm (pz fx (List.replicate (4*m) (-1)) fx.length):=hi;rw[gm,E1] at AI;exact List.mem_range.mp AI.1
 have VP:(iw m fx).left.length<=4*m:=by
  show(gm _).length<=_;rw[gm];refine rm (List.length_filter_le _ _) ?_;rw[List.length_range,di];exact ji _
 generalize hs:iw m fx=s at*;have so:pz fx (List.replicate (4*m) (-1)) fx.length=s.owner:=by rw[←hs];rfl
 have sl:gm (pz fx (List.replicate (4*m) (-1)) fx.length)=s.left:=by rw[←hs];rfl
 have sn:fx.length=s.name:=by rw[←hs];rfl
 let pk:Nat->Int:=λk=>nj ns (start+k)
 let st:Nat->iy:=λi=>[zs (.ig ns),zi (start:Nat),zi (m:Nat),zs (.ak (fx.map aj)),some (true,.ak (az (i_ pk s i).owner)),AJ none fx.length,some (true,.ak (gq (i_ pk s i).left)),zi ((i_ pk s i).name:Nat),CM pk s i]
 have e7:bp Φ G n (.bz 7 (.b_ .len (.aa 3))) [zs (.ig ns),zi (start:Nat),zi (m:Nat),zs (.ak (fx.map aj)),some (true,.ak (az s.owner)),AJ none fx.length,some (true,.ak (gq s.left)),none,none]=.nx (st 0):=by
  simp only[bp,ev,bf,ai,cj,cg,Zc,ba,bq,Zf,Zi,Zj,Zk,Zl,cw,Zu,ZL,gh,sn,st,i_,CM]
 have ew:bp Φ G n (.Dx (.a_ (.ag .gt (.b_ .len (.aa 6)) (.ao (.int 1)))) (BB p)) (st 0)=.nx (st (s.left.length/2)):=by
  have z:=iI (c:=du Φ G (.a_ (.ag .gt (.b_ .len (.aa 6)) (.ao (.int 1))))) (fz:=bf (au (.a_ (.ag .gt (.b_ .len (.aa 6)) (.ao (.int 1)))))) (b:=av Φ G n (BB p)) (s.left.length/2) n st (by omega) (λi hi=>⟨?_,?_⟩) ?_
  ·simpa only[bp,av,bp,du,ev,ck,CD,Bc,bf,cf,au,ai,aq,pf,xg,cj,cg,Za,Zb,Zc,Zd,Eg,KN,Py.sets,br,eh,ba,bq,rq,Ze,Zf,Zg,Zh,Zi,Zj,Zk,Zl,Zm,Zn,Zo,Zp,Zq,cw,dq,gV,Zr,Zs,Zt,Zu,Zv,Zw,Zx,ZA,ZB,ZC,ZD,ZE,ZF,ZG,ZH,ZI,ZJ,ZK,ZL,ZM,ZN,ZO,ZP,ZQ,ZR,ZS,ZT,ZU] using z
  ·have hl:=(bP (pk:=pk) (s:=s) i (by omega)).1
   have:decide ((1:Int)<(((gq (i_ pk s i).left).length:Nat):Int))=true:=ya (by simp only[gq,gh];omega);simp only[du,ev,bf,au,ai,cj,cg,Za,Zf,Zk,Zl,Zq,cw,ZE,ZL,st,this]
  ·have hl:=(bP (pk:=pk) (s:=s) i (by omega)).1
   have VQ:Φ p [.ig ns,.int ((start:Int)+((i_ pk s i).name:Nat))]=.ok (.int (pk (i_ pk s i).name)):=by
    have:=hp (start+(i_ pk s i).name)
    push_cast at this
    exact this
   have:=yJ (Φ:=Φ) (G:=G) (n:=n) (start:=(start:Nat)) (many:=(m:Nat)) (c3:=zs (.ak (fx.map aj))) (c5:=AJ none fx.length) (c8:=CM pk s i) (i_ pk s i) VQ (by omega) (by omega) (pB wa i);simpa only[av,bp,du,ev,ck,CD,Bc,bf,cf,au,ai,aq,pf,xg,cj,cg,Za,Zb,Zc,Zd,Eg,KN,Py.sets,br,eh,ba,bq,rq,Ze,Zf,Zg,Zh,Zi,Zj,Zk,Zl,Zm,Zn,Zo,Zp,Zq,cw,dq,gV,Zr,Zs,Zt,Zu,Zv,Zw,Zx,ZA,ZB,ZC,ZD,ZE,ZF,ZG,ZH,ZI,ZJ,ZK,ZL,ZM,ZN,ZO,ZP,ZQ,ZR,ZS,ZT,ZU,st,i_,CM] using this
  ·have hl:=(bP (pk:=pk) (s:=s) (s.left.length/2) (by omega)).1
   have:decide ((1:Int)<(((gq (i_ pk s (s.left.length/2)).left).length:Nat):Int))=false:=wt (by simp only[gq,gh];omega);simp only[du,ev,bf,au,ai,cj,cg,Za,Zf,Zk,Zl,Zq,cw,ZE,ZL,st,this]
 unfold CL;rw[av,PD hm];dsimp only;rw[av,PH hl (by simpa using hf)];dsimp only;rw[av,PJ hm di];dsimp only;rw[so,←so,sl,so,av,e7];dsimp only;rw[av,ew];dsimp only;rw[av,PK hm];rfl
end
structure GP(s:Pr):Prop where
 nd:s.left.Nodup
 neg:∀i∈s.left,s.owner[i]?=some (-1)
 CN:∀(i:Nat) x,s.owner[i]?=some x->i∉s.left->∃v:Nat,v<s.name/\x=(v:Int)
 two:∀v:Nat,v<s.name->s.owner.count (v:Int)=2
 sz:s.left.length+2*s.name=s.owner.length
theorem GP.big(g:GP s)(h:s.name<=v):s.owner.count (v:Int)=0:=by
 rw[Dn];intro hm;obtain⟨i,hi,e⟩:=List.getElem_of_mem hm;have e':s.owner[i]?=some (v:Int):=by rw[Ai hi,e]
 by_cases hl:i∈s.left
 ·rw[g.neg i hl] at e'
  have:(-1:Int)=(v:Int):=Aw e';omega
 ·obtain⟨u,hu,e2⟩:=g.CN i _ e' hl
  omega
theorem jX{o:List Int}(h:o[i]?=some z)(hz:z≠y):(o.set i x).count y=o.count y+(if x=y then 1 else 0):=by
 obtain⟨hi,e⟩:=List.getElem?_eq_some_iff.mp h;rw[List.count_set hi];have:(o[i]==y)=false:=by rw[e];simpa using hz
 rw[this];by_cases hx:x=y<;>simp[hx]
theorem GP.pair(g:GP ⟨o,l,nm⟩)(hp:l.Perm (a::b::(mid++tail))):GP ⟨(o.set a nm).set b nm,mid++tail,nm+1⟩:=by
 have nd:=hp.nodup_iff.mp g.nd;have na:a∉b::(mid++tail):=(List.nodup_cons.mp nd).1;have Ul:=(List.nodup_cons.mp nd).2;have nb:b∉mid++tail:=(List.nodup_cons.mp Ul).1;have VR:(mid++tail).Nodup:=(List.nodup_cons.mp Ul).2;have pw:a≠b:=λe=>na (by simp[e]);have ha:o[a]?=some (-1):=g.neg a (hp.mem_iff.mpr (by simp));have hb:o[b]?=some (-1):=g.neg b (hp.mem_iff.mpr (by simp));have IK:(o.set a (nm:Int))[b]?=some (-1):=by rw[x_ pw];exact hb
 have la:=(List.getElem?_eq_some_iff.mp ha).1;have lb:=(List.getElem?_eq_some_iff.mp hb).1;refine⟨VR,λi hi=>?_,λi x e hi=>?_,λv hv=>?_,?_⟩
 ·have h1:b≠i:=λe=>nb (e▸hi)
  have h2:a≠i:=λe=>na (by rw[e];simp[hi]);show((o.set a (nm:Int)).set b (nm:Int))[i]?=_;rw[x_ h1,x_ h2];exact g.neg i (hp.mem_iff.mpr (by simp only[qf];exact .inr (.inr hi)))
 ·have e:((o.set a (nm:Int)).set b (nm:Int))[i]?=some x:=e
  by_cases h1:b=i
  ·subst h1
   rw[BM (by simpa using lb)] at e;exact⟨nm,EZ _,(Aw e).symm⟩
  ·rw[x_ h1] at e
   by_cases h2:a=i
   ·subst h2
    rw[BM la] at e;exact⟨nm,EZ _,(Aw e).symm⟩
   ·rw[x_ h2] at e
    obtain⟨v,hv,ex⟩:=g.CN i x e λhl=>by
     have:=hp.mem_iff.mp hl;simp only[qf] at this;rcases this with z|z|z
     ·exact h2 z.symm
     ·exact h1 z.symm
     ·exact hi z
    exact⟨v,Nat.lt_succ_of_lt hv,ex⟩
 ·show((o.set a (nm:Int)).set b (nm:Int)).count (v:Int)=2
  rw[jX IK (by omega),jX ha (by omega)];by_cases VS:v=nm
  ·subst VS
   have:=g.big (v:=v) (ji _);simp only[] at this;rw[this];simp
  ·have h2:o.count (v:Int)=2:=g.two v (show v<nm by have:v<nm+1:=hv;omega)
   have vd:¬((nm:Int)=(v:Int)):=by omega
   rw[h2,bh vd]
 ·have:=g.sz
  have hl:=hp.length_eq;simp only[ja,vm,Cn] at*;omega
theorem GP.step(g:GP s)(h:1<s.left.length):GP (qz pk s):=by
 obtain⟨h1,h2,_⟩:=rA (pk:=pk) h;obtain⟨o,l,nm⟩:=s;generalize hj:yy pk ⟨o,l,nm⟩=j at*;have h2:j<l.length:=h2
 match l,h,h2 with
 |a::rest,h,h2=>
  have hb:j-1<rest.length:=by simp only[ja] at h2;omega
  have e0:(a::rest).getD j 0=rest[j-1]:=by
   obtain⟨j',rfl⟩:∃j',j=j'+1:=⟨j-1,by omega⟩
   simp only[Nat.add_sub_cancel] at hb⊢;simp[hb]
  have ed:(a::rest).drop (j+1)=rest.drop j:=by simp
  have er:rest=rest.take (j-1)++rest[j-1]::rest.drop j:=by
   have:=List.take_append_drop (j-1) rest;rw[MP hb,show j-1+1=j by omega] at this;exact this.symm
  have hp:(a::rest).Perm (a::rest[j-1]::(rest.take (j-1)++rest.drop j)):=by
   refine List.Perm.cons a ?_
   conv=>lhs;rw[er]
   exact List.perm_middle
  have:=GP.pair g hp;simp only[qz,hj,e0,ed,EX,DJ,List.getD_cons_zero];exact this
theorem GP.iter(g:GP s):∀i,2*i<=s.left.length->GP (i_ pk s i)
 |0,_=>g
 |i+1,h=>GP.step (GP.iter g i (by omega)) (by rw[(bP i (by omega)).1];omega)
structure BD(W:List Int)(N:Nat):Prop where
 js:∀x∈W,0<=x/\x<(N:Int)
 cnt:∀v:Nat,v<N->W.count (v:Int)=2
theorem GP.run(g:GP s)(hm:s.owner.length=4*m):BD (zx pk s).owner (2*m)/\(zx pk s).owner.length=4*m:=by
 have gi:=g.iter (pk:=pk) (s.left.length/2) (by omega);have hl:=bP (pk:=pk) (s:=s) (s.left.length/2) (by omega);have ho:=dZ (pk:=pk) (s:=s) (s.left.length/2);have hz:=g.sz;have e0:(i_ pk s (s.left.length/2)).left=[]:=List.eq_nil_of_length_eq_zero (by rw[hl.1];omega);have en:(i_ pk s (s.left.length/2)).name=2*m:=by rw[hl.2];omega
 refine⟨⟨λx hx=>?_,λv hv=>?_⟩,by rw[zx,ho,hm]⟩
 ·obtain⟨i,hi,e⟩:=List.getElem_of_mem hx
  obtain⟨v,hv,ex⟩:=gi.CN i x (show(zx pk s).owner[i]?=some x by rw[Ai hi,e]) (by rw[e0];simp);rw[en] at hv;omega
 ·exact gi.two v (by rw[en];exact hv)
theorem GP.Cd(m:Nat):GP (iw m []):=by
 have e1:(iw m []).owner=List.replicate (4*m) (-1):=rfl;have e2:(iw m []).left=List.range (4*m):=by
  show gm (List.replicate (4*m) (-1))=_;rw[gm,Jq];rw[List.filter_eq_self];intro k hk;have D8:k<4*m:=List.mem_range.mp hk;simp[List.getD,Ig,D8]
 have e3:(iw m []).name=0:=rfl;refine⟨by rw[e2];exact List.nodup_range,λi hi=>?_,λi x e hi=>?_,λv hv=>?_,by rw[e1,e2,e3];simp⟩
 ·rw[e2] at hi
  rw[e1,Ig,bg (List.mem_range.mp hi)]
 ·rw[e1,Ig] at e
  by_cases hc:i<4*m
  ·exact absurd (by rw[e2];exact List.mem_range.mpr hc) hi
  ·rw[bh hc] at e;cases e
 ·rw[e3] at hv;exact absurd hv (Jy _)
theorem jY:∀(xs:List D)(Q:Nat->iy->Prop),(∀i (h:i<xs.length) δ,Q i δ->∃δ',f xs[i] δ=.nx δ'/\Q (i+1) δ')->∀δ,Q 0 δ->∃δ',forM f xs δ=.nx δ'/\Q xs.length δ'
 |[],Q,_,δ,q=>⟨δ,rfl,q⟩
 |x::r,Q,h,δ,q=>by
  obtain⟨A3,e1,q1⟩:=h 0 (by simp) δ q;obtain⟨Um,e2,q2⟩:=jY r (λi=>Q (i+1)) (λi hi=>h (i+1) (by simpa using hi)) A3 q1;exact⟨Um,by rw[Py.forM.eq_2,show f x δ=.nx A3 from e1];exact e2,q2⟩
theorem vC(n:Nat)(Q:Nat->iy->Prop)(h:∀i,i<n->∀δ,Q i δ->∃δ',f (.int (i:Nat)) δ=.nx δ'/\Q (i+1) δ')(δ:iy)(q:Q 0 δ):∃δ',forM f (dg 0 n) δ=.nx δ'/\Q n δ':=by
 have:=jY (f:=f) (dg 0 n) Q (λi hi δ q=>by
  have AI:i<n:=by simpa[dg] using hi
  have e:(dg 0 n)[i]=.int (i:Nat):=by simp[dg]
  rw[e];exact h i AI δ q) δ q
 rwa[dX] at this
noncomputable def dm(Φ:Nat->List D->R D)(G:List D)(n:Nat)(tg:List Nat)(body:List Sm):D->iy->Out:=λx δ'=>match br tg.length x with
 |none=>.bad
 |some ts=>av Φ G n body (sets δ' tg ts)
theorem bD(h:(ck Φ G false its (bf (aq false its) δ)).bind (bo k)=.ok xs):bp Φ G n (.loop k its tg body) δ=forM (dm Φ G n tg body) xs (bf (aq false its) δ):=by
 simp only[bp];rw[h];rfl
theorem bM(h:(ck Φ G false its (bf (aq false its) δ)).bind (bo k)=.ok xs)(Q:Nat->iy->Prop)(q0:Q 0 (bf (aq false its) δ))
  (st:∀i (h:i<xs.length) δ,Q i δ->∃δ',dm Φ G n tg body xs[i] δ=.nx δ'/\Q (i+1) δ'):∃δ',bp Φ G n (.loop k its tg body) δ=.nx δ'/\Q xs.length δ':=by
 rw[bD h];exact jY xs Q st _ q0
theorem cD(h:(ck Φ G false its (bf (aq false its) δ)).bind (bo .js)=.ok (dg 0 m))(Q:Nat->iy->Prop)(q0:Q 0 (bf (aq false its) δ))
  (st:∀i,i<m->∀δ,Q i δ->∃δ',dm Φ G n tg body (.int (i:Nat)) δ=.nx δ'/\Q (i+1) δ'):∃δ',bp Φ G n (.loop .js its tg body) δ=.nx δ'/\Q m δ':=by
 rw[bD h];exact vC m Q st _ q0
theorem aA(h:bp Φ G n s δ=.nx δ'):av Φ G n (s::ss) δ=av Φ G n ss δ':=by rw[av,h]
theorem mY(hl:bf (ai false e) δ=δ)(he:ev Φ G false e δ=.ok v)(hi:δ[i]?=some (some (true,.ak xs)))(hx:xs.length<jj):bp Φ G n (.app i e) δ=.nx (δ.set i (some (true,.ak (xs++[v])))):=by
 simp only[bp,hl,he,of_ok,yj,hi,cw,Ej,hx]
theorem aT(hl:bf (ai false e) δ=δ)(he:ev Φ G false e δ=.ok v):bp Φ G n (.bz i e) δ=.nx (δ.set i (some (bq e&&ba v,v))):=by
 simp only[bp,hl,he,of_ok]
theorem mZ(he:ev Φ G false e (bf (ai false e) δ)=.ok v):bp Φ G n (.ret e) δ=.rt v:=by
 simp only[bp,he,of_ok]
theorem gA(xs:List Int):(az xs).all flat=true:=by simp[az,flat]
theorem lO(x:Int)(xs:List Int):isin (.int x) (.ak (az xs))=.ok (decide (x∈xs)):=by
 have h1:(flat (.int x)&&(az xs).all flat)=true:=by rw[gA];rfl
 simp only[isin,h1,cw]
 congr 1
 simp only[inD,az,List.any_map];clear h1
 induction xs with
 |nil=>rfl
 |cons y r ih=>
  simp only[Fp,Function.comp_apply,f_];rw[show(r.any ((λy=>f_ y (D.int x))∘D.int))=decide (x∈r) from ih];by_cases e:y=x
  ·subst e;simp
  ·simp[e,kg e]
theorem lQ(x:Int):∀(xs:List Int),x∈xs->zo (.int x) (az xs)=some (xs.idxOf x)
 |[],h=>by simp at h
 |y::r,h=>by
  show zo (.int x) (.int y::az r)=_;rw[zo];by_cases e:y=x
  ·subst e
   rw[bg (by simp[f_])];simp
  ·rw[bh (by simpa[f_] using e)]
   have h':x∈r:=(List.mem_cons.mp h).resolve_left (kg e);rw[lQ x r h',Jz,show(y==x)=false by simpa using e];rfl
theorem rB(x:Int)(xs:List Int)(h:x∈xs):ag .index (.ak (az xs)) (.int x)=.ok (.int (xs.idxOf x:Nat)):=by
 have h1:(flat (.int x)&&(az xs).all flat)=true:=by rw[gA];rfl
 show(if(flat (.int x)&&(az xs).all flat)=true then _ else _)=_;rw[bg h1,lQ x xs h];rfl
theorem jZ(x:Int)(xs:List Int):ag .kr (.int x) (.ak (az xs))=.ok (.bl (!decide (x∈xs))):=by
 show(isin (.int x) (.ak (az xs))).bind _=_;rw[lO];rfl
noncomputable def dd(acc:List Int):List Int->List Int
 |[]=>acc
 |x::r=>dd (if x∈acc then acc else acc++[x]) r
theorem j0(acc xs ys:List Int):dd acc (xs++ys)=dd (dd acc xs) ys:=by
 induction xs generalizing acc with
 |nil=>rfl
 |cons x r ih=>exact ih _
theorem m6(acc xs:List Int):(dd acc xs).length<=acc.length+xs.length:=by
 induction xs generalizing acc with
 |nil=>simp[dd]
 |cons x r ih=>
  rw[dd];refine rm (ih _) ?_;by_cases h:x∈acc<;>simp[h]<;>omega
theorem a9(acc xs:List Int):∀x,x∈dd acc xs↔x∈acc\/x∈xs:=by
 induction xs generalizing acc with
 |nil=>simp[dd]
 |cons y r ih=>
  intro x;rw[dd,ih];by_cases hy:y∈acc
  ·rw[bg hy]
   simp only[qf];constructor
   ·rintro(h|h)
    ·exact .inl h
    ·exact .inr (.inr h)
   ·rintro(h|rfl|h)
    ·exact .inl h
    ·exact .inl hy
    ·exact .inr h
  ·rw[bh hy]
   simp only[Bh,qf,BW,BY];constructor
   ·rintro((h|h)|h)
    ·exact .inl h
    ·exact .inr (.inl h)
    ·exact .inr (.inr h)
   ·rintro(h|h|h)
    ·exact .inl (.inl h)
    ·exact .inl (.inr h)
    ·exact .inr h
theorem eX(acc xs:List Int)(h:acc.Nodup):(dd acc xs).Nodup:=by
 induction xs generalizing acc with
 |nil=>exact h
 |cons y r ih=>
  refine ih _ ?_;by_cases hy:y∈acc
  ·rw[bg hy];exact h
  ·rw[bh hy]
   rw[List.nodup_append];refine⟨h,by simp,λa ha b hb=>?_⟩;have:b=y:=by simpa using hb
   subst this;rintro rfl;exact hy ha
noncomputable def dz(R:List (List Int)):List (List Int):=R.map λr=>r.map λx=>((dd [] R.flatten).idxOf x:Nat)
noncomputable def oj:List Sm:=[(.bz 1 (.ak [])),(.loop .seq [(.aa 0)] [2] [(.loop .seq [(.aa 2)] [3] [(.ite (.a_ (.ag .kr (.aa 3) (.aa 1))) [(.app 1 (.aa 3))] [])])]),(.bz 4 (.ak [])),(.loop .seq [(.aa 0)] [2] [(.app 4 (.b_ .tuple (.comp .seq [(.aa 2)] [1] 1 none (.ag .index (.aa 1) (.aa 0)))))]),(.ret (.b_ .tuple (.aa 4)))]
section
variable{Φ:Nat->List D->R D}{G:List D}{n:Nat}
theorem LZ{rc:List Int->D}(Nc:∀r:List Int,r.length<=1000->bo .seq [rc r]=.ok (az r)){d0:D}{c2 c3 c4:Slot}{acc r:List Int}(hl:acc.length+r.length<90000)(hr:r.length<=1000):
  ∃Nd,bp Φ G n (.loop .seq [(.aa 2)] [3] [(.ite (.a_ (.ag .kr (.aa 3) (.aa 1))) [(.app 1 (.aa 3))] [])]) [zs d0,some (true,.ak (az acc)),zs (rc r),c3,c4]=.nx [zs d0,some (true,.ak (az (dd acc r))),zs (rc r),Nd,c4]:=by
 have hi:bo .seq [rc r]=.ok (az r):=Nc r hr;have step:∀i (h:i<(az r).length) δ,(∃c,δ=[zs d0,some (true,.ak (az (dd acc (r.take i)))),zs (rc r),c,c4])->∃δ',dm Φ G n [3] [(.ite (.a_ (.ag .kr (.aa 3) (.aa 1))) [(.app 1 (.aa 3))] [])] (az r)[i] δ=.nx δ'/\∃c,δ'=[zs d0,some (true,.ak (az (dd acc (r.take (i+1))))),zs (rc r),c,c4]:=by
  rintro i h δ ⟨c,rfl⟩;have AI:i<r.length:=by simpa[az] using h
  have ex:(az r)[i]=.int r[i]:=by simp[az]
  have et:r.take (i+1)=r.take i++[r[i]]:=DD AI;have hd:dd acc (r.take (i+1))=if r[i]∈dd acc (r.take i) then dd acc (r.take i) else dd acc (r.take i)++[r[i]]:=by
   rw[et,j0];rfl
  rw[ex,hd];have di:(az (dd acc (r.take i))).length<jj:=by
   have:=m6 acc (r.take i);have h2:(r.take i).length<=r.length:=by rw[Be];omega
   have:jj=100000:=rfl;simp only[az,gh];omega
  by_cases hm:r[i]∈dd acc (r.take i)
  ·rw[bg hm]
   refine⟨_,?_,zi (r[i]),rfl⟩;simp only[dm,av,bp,du,ev,bf,cf,au,ai,cj,cg,Za,Zc,Py.sets,br,Zf,Zi,Zj,Zk,Zl,Zq,cw,dq,gV,Zv,jZ,hm,decide_true,ja,ou,jr]
  ·rw[bh hm]
   refine⟨_,?_,zi (r[i]),rfl⟩;simp only[dm,av,bp,du,ev,bf,cf,au,ai,cj,cg,Za,Zc,Py.sets,br,Zf,Zi,Zj,Zk,Zl,Zq,cw,dq,gV,Zw,jZ,hm,decide_false,ja,ou,jr,yj,Ej,di];simp[az]
 obtain⟨δ',e,Nd,rfl⟩:=bM (Φ:=Φ) (G:=G) (n:=n) (k:=.seq) (its:=[(.aa 2)]) (tg:=[3]) (body:=[(.ite (.a_ (.ag .kr (.aa 3) (.aa 1))) [(.app 1 (.aa 3))] [])]) (δ:=[some (false,d0),some (true,.ak (az acc)),some (false,rc r),c3,c4]) (xs:=az r) (by simp only[ev,ck,bf,cf,ai,aq,cj,cg,Zf,Zk,Zl,Zq,dq,gV,hi])
  (λi δ=>∃c,δ=[zs d0,some (true,.ak (az (dd acc (r.take i)))),zs (rc r),c,c4]) ⟨c3,rfl⟩ step
 refine⟨Nd,?_⟩;have SQ:(az r).length=r.length:=by simp[az]
 rw[SQ,BV] at e;exact e
theorem Hu{rc:List Int->D}(Nc:∀r:List Int,r.length<=1000->bo .seq [rc r]=.ok (az r)){names r:List Int}{c:Slot}(hr:r.length<=1000)(hs:∀x∈r,x∈names)(h2:cj δ 2=.ok (rc r))(h1:δ[1]?=some (some (true,.ak (az names)))):
  ev Φ G m (.comp .seq [(.aa 2)] [1] 1 none (.ag .index (.aa 1) (.aa 0))) δ=.ok (.ak (az (r.map λx=>(names.idxOf x:Nat)))):=by
 have hi:bo .seq [rc r]=.ok (az r):=Nc r hr;simp only[ev,ck,cw,h2,aZ,hi,eh,j_,A',h1,Option.getD_some];rw[cC (λx=>match x with|.int k=>.int (names.idxOf k:Nat)|_=>.de) _ λx hx=>?_]
 ·simp only[R.zm,aZ]
  congr 2
  simp[az,Ju]
 ·obtain⟨k,hk,rfl⟩:=List.mem_map.mp hx
  simp only[Bc,cj,br,Zf,Zk,Zl,Zm,Zn,Zo,Zp,cw,rB k names (hs k hk)]
theorem m7(Nc:∀r:List Int,r.length<=1000->bo .seq [rc r]=.ok (az r)){R:List (List Int)}(h0:bo .seq [d0]=.ok (R.map rc))(hR:∀r∈R,r.length<=1000)(hl:R.flatten.length<=80000)(hL:R.length<=1000):
  av Φ G n oj [zs d0,none,none,none,none]=.rt (.ar ((dz R).map af)):=by
 unfold oj;have e1:bp Φ G n (.bz 1 (.ak [])) [zs d0,none,none,none,none]=.nx [zs d0,some (true,.ak (az [])),none,none,none]:=by simp only[bp,ev,ck,bf,ai,aq,Zc,ba,bq,Zf,Zi,Zj,Zt];rfl
 rw[aA e1];have PM:∀i (h:i<(R.map rc).length) δ,(∃c2 c3,δ=[zs d0,some (true,.ak (az (dd [] (R.take i).flatten))),c2,c3,none])->∃δ',dm Φ G n [2] [(.loop .seq [(.aa 2)] [3] [(.ite (.a_ (.ag .kr (.aa 3) (.aa 1))) [(.app 1 (.aa 3))] [])])] (R.map rc)[i] δ=.nx δ'/\∃c2 c3,δ'=[zs d0,some (true,.ak (az (dd [] (R.take (i+1)).flatten))),c2,c3,none]:=by
  rintro i h δ ⟨c2,c3,rfl⟩;have hi:i<R.length:=by simpa using h
  have et:R.take (i+1)=R.take i++[R[i]]:=DD hi;have hr:=hR R[i] (xk hi);have VT:(R.take i).flatten.length<=R.flatten.length:=by
   conv=>rhs;rw[←List.take_append_drop i R]
   rw[DG,vm];omega
  have DY:=m6 [] (R.take i).flatten;obtain⟨Nd,e⟩:=LZ Nc (Φ:=Φ) (G:=G) (n:=n) (d0:=d0) (c2:=none) (c3:=c3) (c4:=none) (acc:=dd [] (R.take i).flatten) (r:=R[i]) (by rw[ou] at DY;omega) hr;refine⟨_,?_,zs (rc R[i]),Nd,rfl⟩;have ed:dd [] (R.take (i+1)).flatten=dd (dd [] (R.take i).flatten) R[i]:=by rw[et,DG,j0];simp
  rw[ed,Jx];simp only[dm,br,ja,ou,jr,Py.sets,Ff,Fg];rw[aA e];rfl
 obtain⟨Um,e2,c2,c3,rfl⟩:=bM (Φ:=Φ) (G:=G) (n:=n) (k:=.seq) (its:=[(.aa 0)]) (tg:=[2]) (body:=[(.loop .seq [(.aa 2)] [3] [(.ite (.a_ (.ag .kr (.aa 3) (.aa 1))) [(.app 1 (.aa 3))] [])])]) (δ:=[some (false,d0),some (true,.ak (az [])),none,none,none]) (xs:=R.map rc) (by simp only[ev,ck,bf,cf,ai,aq,cj,cg,Zf,Zk,Zq,dq,gV];exact h0)
  (λi δ=>∃c2 c3,δ=[zs d0,some (true,.ak (az (dd [] (R.take i).flatten))),c2,c3,none]) ⟨none,none,rfl⟩ PM
 rw[aA e2];rw[gh,BV];generalize Uo:dd [] R.flatten=names;have e3:bp Φ G n (.bz 4 (.ak [])) [zs d0,some (true,.ak (az names)),c2,c3,none]=.nx [zs d0,some (true,.ak (az names)),c2,c3,some (true,.ak [])]:=by simp only[bp,ev,ck,bf,ai,aq,Zc,ba,bq,Zf,Zi,Zj,Zt]
 rw[aA e3];have PN:∀i (h:i<(R.map rc).length) δ,(∃c2 c3,δ=[zs d0,some (true,.ak (az names)),c2,c3,some (true,.ak (((R.take i).map λr=>r.map λx=>((names.idxOf x:Nat):Int)).map af))])->
   ∃δ',dm Φ G n [2] [(.app 4 (.b_ .tuple (.comp .seq [(.aa 2)] [1] 1 none (.ag .index (.aa 1) (.aa 0)))))] (R.map rc)[i] δ=.nx δ'/\∃c2 c3,δ'=[zs d0,some (true,.ak (az names)),c2,c3,some (true,.ak (((R.take (i+1)).map λr=>r.map λx=>((names.idxOf x:Nat):Int)).map af))]:=by
  rintro i h δ ⟨c2,c3,rfl⟩;have hi:i<R.length:=by simpa using h
  have et:R.take (i+1)=R.take i++[R[i]]:=DD hi;have hr:=hR R[i] (xk hi);have hs:∀x∈R[i],x∈names:=λx hx=>by
   rw[←Uo,a9];exact .inr (List.mem_flatten.mpr ⟨R[i],xk hi,hx⟩)
  have di:(((R.take i).map λr=>r.map λx=>((names.idxOf x:Nat):Int)).map af).length<jj:=by
   simp only[gh,Be];have:jj=100000:=rfl;omega
  refine⟨_,?_,zs (rc R[i]),c3,rfl⟩;rw[Jx];have ec:=Hu Nc (m:=true) (Φ:=Φ) (G:=G) (names:=names) (r:=R[i]) (δ:=[zs d0,some (true,.ak (az names)),zs (rc R[i]),c3,some (true,.ak (((R.take i).map λr=>r.map λx=>((names.idxOf x:Nat):Int)).map af))]) (c:=none) hr hs rfl rfl;simp only[dm,br,ja,ou,jr,Py.sets,Ff,Fg];have SR:ev Φ G false (.b_ .tuple (.comp .seq [(.aa 2)] [1] 1 none (.ag .index (.aa 1) (.aa 0)))) [zs d0,some (true,.ak (az names)),zs (rc R[i]),c3,some (true,.ak (((R.take i).map λr=>r.map λx=>((names.idxOf x:Nat):Int)).map af))]=.ok (af (R[i].map λx=>((names.idxOf x:Nat):Int))):=by
   rw[ev,ec];rfl
  rw[aA (mY rfl SR rfl di)];simp only[av,Ff,Fg,et,wj,j_,A']
 obtain⟨WR,e4,WS,Nd,rfl⟩:=bM (Φ:=Φ) (G:=G) (n:=n) (k:=.seq) (its:=[(.aa 0)]) (tg:=[2]) (body:=[(.app 4 (.b_ .tuple (.comp .seq [(.aa 2)] [1] 1 none (.ag .index (.aa 1) (.aa 0)))))]) (δ:=[some (false,d0),some (true,.ak (az names)),c2,c3,some (true,.ak [])]) (xs:=R.map rc) (by simp only[ev,ck,bf,cf,ai,aq,cj,cg,Zf,Zk,Zq,dq,gV];exact h0)
  (λi δ=>∃c2 c3,δ=[zs d0,some (true,.ak (az names)),c2,c3,some (true,.ak (((R.take i).map λr=>r.map λx=>((names.idxOf x:Nat):Int)).map af))]) ⟨c2,c3,rfl⟩ PN
 rw[aA e4];simp only[av,bp,ev,bf,ai,cj,cg,Zc,Zf,Zk,Zl,cw,ZP,gh,BV,dz,Uo]
theorem eY{R:List (List Int)}(h0:bo .seq [d0]=.ok (R.map af))(hR:∀r∈R,r.length<=1000)(hl:R.flatten.length<=80000)(hL:R.length<=1000):
  av Φ G n oj [zs d0,none,none,none,none]=.rt (.ar ((dz R).map af)):=m7 (λr hr=>aX (by simpa[az] using hr)) h0 hR hl hL
end
theorem pE(m:Nat)(o:List Int)(h:o.length=4*m):(km m o).flatten=o:=by
 have gen:∀j,j<=m->((List.range j).map λk=>(o.drop (4*k)).take 4).flatten=o.take (4*j):=by
  intro j
  induction j with
  |zero=>simp
  |succ j ih=>
   intro hj;rw[DI,wj,DG,ih (by omega)];simp only[j_,A',Cm,List.flatten_nil,A_];have e:o.take (4*(j+1))=o.take (4*j)++(o.drop (4*j)).take 4:=by
    rw[show 4*(j+1)=4*j+4 by omega,List.take_add]
   rw[e]
 rw[km,gen m (ji m),←h,BV]
theorem j3(m:Nat)(o:List Int)(h:o.length=4*m):(km m o).length=m/\∀r∈km m o,r.length=4:=by
 refine⟨by simp[km],λr hr=>?_⟩;obtain⟨k,hk,rfl⟩:=List.mem_map.mp hr;have D8:=List.mem_range.mp hk;rw[Be,Ik];omega
theorem Hv(t:BD W N):(dd [] W).Perm ((List.range N).map λk=>((k:Nat):Int)):=by
 have n1:(dd [] W).Nodup:=eX [] W Im;have n2:((List.range N).map λk=>((k:Nat):Int)).Nodup:=by
  rw[List.nodup_iff_pairwise_ne,List.pairwise_map];exact List.Pairwise.imp (λh e=>h (by omega)) (List.nodup_iff_pairwise_ne.mp List.nodup_range)
 rw[List.perm_ext_iff_of_nodup n1 n2];intro x;rw[a9,BX];constructor
 ·rintro(h|h)
  ·simp at h
  ·obtain⟨h1,h2⟩:=t.js x h
   exact⟨x.toNat,List.mem_range.mpr (by omega),by omega⟩
 ·rintro⟨k,hk,rfl⟩
  refine .inr ?_;have:=t.cnt k (List.mem_range.mp hk);exact List.count_pos_iff.mp (by omega)
theorem rC(t:BD W N):(dd [] W).length=N:=by rw[(Hv t).length_eq];simp
theorem gB(R:List (List Int)):(dz R).flatten=R.flatten.map λx=>(((dd [] R.flatten).idxOf x:Nat):Int):=by
 rw[dz,List.map_flatten]
theorem gC:∀{l:List Int}{v:Nat}(nd:l.Nodup)(h:v<l.length),l.idxOf l[v]=v
 |a::r,0,_,_=>by simp
 |a::r,v+1,nd,h=>by
  have hv:v<r.length:=by simpa using h
  have vd:a≠r[v]:=λe=>(List.nodup_cons.mp nd).1 (by rw[e];exact xk hv);rw[List.getElem_cons_succ,Jz,show(a==r[v])=false by simpa using vd];simp only[cond_false];rw[gC (List.nodup_cons.mp nd).2 hv]
theorem tN{R:List (List Int)}(t:BD R.flatten N):BD (dz R).flatten N:=by
 have hl:=rC t;have nd:(dd [] R.flatten).Nodup:=eX [] _ Im;have mem:∀x∈R.flatten,x∈dd [] R.flatten:=λx hx=>(a9 _ _ x).mpr (.inr hx);rw[gB];refine⟨λx hx=>?_,λv hv=>?_⟩
 ·obtain⟨y,hy,rfl⟩:=List.mem_map.mp hx
  have:=List.idxOf_lt_length_iff.mpr (mem y hy);rw[hl] at this;omega
 ·have VU:v<(dd [] R.flatten).length:=by rw[hl];exact hv
  rw[List.count,List.countP_map];have e:R.flatten.countP ((λx=>x==(v:Int))∘λx=>(((dd [] R.flatten).idxOf x:Nat):Int))=R.flatten.countP (λx=>x==(dd [] R.flatten)[v]):=by
   refine List.countP_congr λx hx=>?_;simp only[Function.comp_apply,beq_iff_eq];constructor
   ·intro e
    have e':(dd [] R.flatten).idxOf x=v:=by omega
    have:=Fh (List.idxOf_lt_length_iff.mpr (mem x hx));simp only[e'] at this;exact this.symm
   ·intro e
    rw[e,gC nd]
  rw[e];have hx:(dd [] R.flatten)[v]∈R.flatten:=by
   have:=(a9 [] R.flatten _).mp (xk VU);rcases this with h|h
   ·simp at h
   ·exact h
  obtain⟨h1,h2⟩:=t.js _ hx;have:=t.cnt ((dd [] R.flatten)[v]).toNat (by omega);rw[show((((dd [] R.flatten)[v]).toNat:Nat):Int)=(dd [] R.flatten)[v] by omega] at this;exact this
theorem cE(R:List (List Int)):(dz R).length=R.length:=by simp[dz]
theorem gD{R:List (List Int)}(h:∀r∈R,r.length=k):∀r∈dz R,r.length=k:=by
 intro r hr;obtain⟨q,hq,rfl⟩:=List.mem_map.mp hr;simpa using h q hq
structure bc(Q:List (List Int))(m:Nat):Prop where
 len:Q.length=m
 four:∀r∈Q,r.length=4
 two:BD Q.flatten (2*m)
noncomputable def e_(r:List Int)(k:Nat)(line:Int)(j:Nat):List (Nat×Nat):=((List.range j).filter λe=>r.getD e 0==line).map λe=>(k,e)
noncomputable def gk(Q:List (List Int))(line:Int)(i:Nat):List (Nat×Nat):=(List.range i).flatMap λk=>e_ (Q.getD k []) k line 4
noncomputable def bw(Q:List (List Int))(line:Int):List (Nat×Nat):=gk Q line Q.length
theorem pF(r:List Int)(k:Nat)(line:Int)(h:r.length=4):(e_ r k line 4).length=r.count line:=by
 rw[e_,gh,←List.countP_eq_length_filter,List.count]
 conv=>rhs;rw[show r=(List.range 4).map λe=>r.getD e 0 from List.ext_getElem (by simp[h]) λi h1 h2=>by simp[h1]]
 rw[List.countP_map];rfl
theorem gZ(line:Int)(h:∀r∈Q,r.length=4):(bw Q line).length=Q.flatten.count line:=by
 have gen:∀i,i<=Q.length->(gk Q line i).length=(Q.take i).flatten.count line:=by
  intro i
  induction i with
  |zero=>simp[gk]
  |succ i ih=>
   intro hi;have AI:i<Q.length:=by omega
   have e1:gk Q line (i+1)=gk Q line i++e_ (Q.getD i []) i line 4:=by
    simp[gk,DI,Js]
   have e2:Q.take (i+1)=Q.take i++[Q[i]]:=DD AI;rw[e1,e2,vm,ih (by omega),DG,Dp];have:Q.getD i []=Q[i]:=by simp[AI]
   rw[this,pF _ _ _ (h _ (xk AI))];simp
 rw[bw,gen Q.length (ji _),BV]
theorem bc.places(s:bc Q m)(h:v<2*m):(bw Q (v:Int)).length=2:=by
 rw[gZ _ s.four];exact s.two.cnt v h
theorem bc.none(s:bc Q m){x:Int}(h:x<0\/(2*m:Nat)<=x):bw Q x=[]:=by
 refine List.eq_nil_of_length_eq_zero ?_;rw[gZ _ s.four,Dn];intro hm;have:=s.two.js x hm;omega
section
variable{Φ:Nat->List D->R D}{G:List D}{n:Nat}
theorem j4(h:e<r.length):my (az r) (e:Nat)=some (.int (r.getD e 0)):=by
 rw[jz (by simpa[az] using h)];simp[az,h]
theorem dH{Q:List (List Int)}(h:k<Q.length):my (Q.map af) (k:Nat)=some (af (Q.getD k [])):=by
 rw[jz (by simpa using h)];simp[h]
theorem m8(r:List Int)(k:Nat)(line:Int)(j:Nat):e_ r k line (j+1)=if r.getD j 0==line then e_ r k line j++[(k,j)] else e_ r k line j:=by
 simp only[e_,DI,List.filter_append,wj];by_cases h:(r.getD j 0==line)=true
 ·rw[bg h];simp only[List.filter_cons,h,cw,List.filter_nil,j_,A']
 ·rw[bh h];simp only[List.filter_cons,h,dq,List.filter_nil,A',A_,gV]
theorem eZ(Q:List (List Int))(line:Int)(i:Nat):gk Q line (i+1)=gk Q line i++e_ (Q.getD i []) i line 4:=by
 simp[gk,DI,Js]
theorem rD(Q:List (List Int))(line:Int)(i:Nat):(gk Q line i).length<=4*i:=by
 induction i with
 |zero=>simp[gk]
 |succ i ih=>
  rw[eZ,vm];have:(e_ (Q.getD i []) i line 4).length<=4:=by
   rw[e_,gh];exact rm (List.length_filter_le _ _) (by simp)
  omega
theorem rE(r:List Int)(k:Nat)(line:Int)(j:Nat):(e_ r k line j).length<=j:=by
 rw[e_,gh];exact rm (List.length_filter_le _ _) (by simp)
noncomputable def EB(c:Nat):List Sm:=[(.bz 2 (.ak [])),(.loop .enum [(.ag .at (.aa 0) (.ao (.int 0)))] [3,4] [(.loop .js [(.ao (.int 4))] [5] [(.ite (.a_ (.ag .eq (.ag .at (.aa 4) (.aa 5)) (.aa 1))) [(.app 2 (.ar [(.aa 3),(.aa 5)]))] [])])]),(.ite (.not (.a_ (.aa 2))) [(.yi c)] []),(.ret (.b_ .tuple (.aa 2)))]
theorem Hw(hr:r.length=4)(hl:acc.length<90000):
  ∃E8,bp Φ G n (.loop .js [(.ao (.int 4))] [5] [(.ite (.a_ (.ag .eq (.ag .at (.aa 4) (.aa 5)) (.aa 1))) [(.app 2 (.ar [(.aa 3),(.aa 5)]))] [])]) [zs d0,zi line,some (true,.ak (acc.map aj)),zi (k:Nat),zs (af r),c5]=
   .nx [zs d0,zi line,some (true,.ak ((acc++e_ r k line 4).map aj)),zi (k:Nat),zs (af r),E8]:=by
 have step:∀i,i<4->∀δ,(∃c,δ=[zs d0,zi line,some (true,.ak ((acc++e_ r k line i).map aj)),zi (k:Nat),zs (af r),c])->
   ∃δ',dm Φ G n [5] [(.ite (.a_ (.ag .eq (.ag .at (.aa 4) (.aa 5)) (.aa 1))) [(.app 2 (.ar [(.aa 3),(.aa 5)]))] [])] (.int (i:Nat)) δ=.nx δ'/\∃c,δ'=[zs d0,zi line,some (true,.ak ((acc++e_ r k line (i+1)).map aj)),zi (k:Nat),zs (af r),c]:=by
  rintro i hi δ ⟨c,rfl⟩;have ha:=j4 (r:=r) (e:=i) (by omega);have di:((acc++e_ r k line i).map aj).length<jj:=by
   have:=rE r k line i;have:jj=100000:=rfl;simp only[gh,vm];omega
  rw[m8];by_cases hm:(r.getD i 0==line)=true
  ·rw[bg hm]
   refine⟨_,?_,zi (i:Nat),rfl⟩;simp only[dm,af,av,bp,du,ev,ck,bf,cf,au,ai,aq,cj,cg,Za,Zc,Py.sets,br,Ze,Zf,Zi,Zj,Zk,Zl,Zo,Zp,Zq,cw,dq,gV,ZG,ZJ,ha,hm,ja,ou,jr,yj,Ej,di];simp[aj]
  ·rw[bh hm]
   refine⟨_,?_,zi (i:Nat),rfl⟩;simp only[dm,af,av,bp,du,ev,ck,bf,cf,au,ai,aq,cj,cg,Za,Zc,Py.sets,br,Ze,Zf,Zi,Zj,Zk,Zl,Zo,Zp,Zq,cw,dq,gV,ZG,ZJ,ha,hm,ja,ou,jr]
 obtain⟨δ',e,c,rfl⟩:=cD (Φ:=Φ) (G:=G) (n:=n) (its:=[(.ao (.int 4))]) (tg:=[5]) (body:=[(.ite (.a_ (.ag .eq (.ag .at (.aa 4) (.aa 5)) (.aa 1))) [(.app 2 (.ar [(.aa 3),(.aa 5)]))] [])]) (δ:=[some (false,d0),some (false,.int line),some (true,.ak (acc.map aj)),some (false,.int (k:Nat)),some (false,af r),c5]) (m:=4) (by simp only[ev,ck,Zf];exact aL (n:=4) (by decide))
  (λi δ=>∃c,δ=[zs d0,zi line,some (true,.ak ((acc++e_ r k line i).map aj)),zi (k:Nat),zs (af r),c]) ⟨c5,by simp[e_,bf,cf,aq,ai]⟩ step
 exact⟨c,e⟩
theorem j5:∀(xs:List D)(n i:Nat)(h:i<(iz n xs).length)(h':i<xs.length),(iz n xs)[i]=.ar [.int ((n+i:Nat):Int),xs[i]]
 |x::r,n,0,_,_=>rfl
 |x::r,n,i+1,h,h'=>by
  have:=j5 r (n+1) i (by simpa[iz] using h) (by simpa using h');rw[show n+1+i=n+(i+1) by omega] at this;exact this
theorem aP:∀(xs:List D)(n:Nat),(iz n xs).length=xs.length
 |[],_=>rfl
 |x::r,n=>by simp[iz,aP r (n+1)]
theorem yK{ah line:Int}(h4:∀r∈Q,r.length=4)(hQ:Q.length<=1000):
  (av Φ G n (EB c) [zs (.ar [.ar (Q.map af),.int ah]),zi line,none,none,none,none]).val=if bw Q line=[] then .exc c else .ok (.ar ((bw Q line).map aj)):=by
 generalize hd:D.ar [.ar (Q.map af),.int ah]=d0;unfold EB;have e1:bp Φ G n (.bz 2 (.ak [])) [zs d0,zi line,none,none,none,none]=.nx [zs d0,zi line,some (true,.ak (([]:List (Nat×Nat)).map aj)),none,none,none]:=by simp only[bp,ev,ck,bf,ai,aq,Zc,ba,bq,Zf,Zi,Zj,Zn,Zt]
 rw[aA e1];have hit:bo .enum [.ar (Q.map af)]=.ok (iz 0 (Q.map af)):=by
  show(if(iz 0 (Q.map af)).length<=jj then R.ok (iz 0 (Q.map af)) else R.bad)=_;rw[aP,gh,bg (rm hQ (by decide))]
 have a0:my [D.ar (Q.map af),.int ah] 0=some (.ar (Q.map af)):=rfl;have step:∀i (h:i<(iz 0 (Q.map af)).length) δ,(∃x3 x4 x5,δ=[zs d0,zi line,some (true,.ak ((gk Q line i).map aj)),x3,x4,x5])->
   ∃δ',dm Φ G n [3,4] [(.loop .js [(.ao (.int 4))] [5] [(.ite (.a_ (.ag .eq (.ag .at (.aa 4) (.aa 5)) (.aa 1))) [(.app 2 (.ar [(.aa 3),(.aa 5)]))] [])])] (iz 0 (Q.map af))[i] δ=.nx δ'/\∃x3 x4 x5,δ'=[zs d0,zi line,some (true,.ak ((gk Q line (i+1)).map aj)),x3,x4,x5]:=by
  rintro i h δ ⟨x3,x4,x5,rfl⟩;have hi:i<Q.length:=by simpa[aP] using h
  have hq:Q.getD i []=Q[i]:=by simp[hi]
  have hr:Q[i].length=4:=h4 _ (xk hi);have hl:=rD Q line i;obtain⟨E8,e⟩:=Hw (Φ:=Φ) (G:=G) (n:=n) (d0:=d0) (c5:=x5) (acc:=gk Q line i) (r:=Q[i]) (k:=i) (line:=line) hr (by omega);refine⟨_,?_,zi (i:Nat),zs (af Q[i]),E8,rfl⟩;rw[j5 _ 0 i h (by simpa using hi),Jx,eZ,hq];simp only[dm,br,ja,ou,jr,cw,Py.sets,Ff,Fg];rw[aA e];rfl
 obtain⟨δ',e2,x3,x4,x5,rfl⟩:=bM (Φ:=Φ) (G:=G) (n:=n) (k:=.enum) (its:=[(.ag .at (.aa 0) (.ao (.int 0)))]) (tg:=[3,4]) (body:=[(.loop .js [(.ao (.int 4))] [5] [(.ite (.a_ (.ag .eq (.ag .at (.aa 4) (.aa 5)) (.aa 1))) [(.app 2 (.ar [(.aa 3),(.aa 5)]))] [])])]) (δ:=[some (false,d0),some (false,.int line),some (true,.ak (([]:List (Nat×Nat)).map aj)),none,none,none]) (xs:=iz 0 (Q.map af))
  (by rw[←hd];simp only[ev,ck,bf,ai,aq,cj,cg,Ze,Zf,Zk,Zn,Zq,cw,ZJ,a0];exact hit) (λi δ=>∃x3 x4 x5,δ=[zs d0,zi line,some (true,.ak ((gk Q line i).map aj)),x3,x4,x5]) ⟨none,none,none,rfl⟩ step
 rw[aA e2,aP,gh];show(av Φ G n _ [zs d0,zi line,some (true,.ak ((bw Q line).map aj)),x3,x4,x5]).val=_;by_cases hp:bw Q line=[]
 ·rw[bg hp,hp]
  simp only[av,bp,du,ev,bf,au,ai,cj,cg,Zb,Zc,Zf,Zk,Zl,Zn,cw,Zv,Zw,List.isEmpty_nil];rfl
 ·rw[bh hp]
  have:((bw Q line).map aj).isEmpty=false:=by
   cases e:bw Q line with
   |nil=>exact absurd e hp
   |cons _ _=>rfl
  simp only[av,bp,du,ev,bf,au,ai,cj,cg,Zb,Zc,Zf,Zk,Zl,cw,dq,gV,Zv,Zw,ZP,this];rfl
end
section
variable{Φ:Nat->List D->R D}{G:List D}{n:Nat}
noncomputable def Ce:List Sm:=[(.ret (.and (.b_ .isInt (.aa 0)) (.not (.b_ .isBool (.aa 0)))))]
theorem vD(x:Int):av Φ G n Ce [zi x]=.rt (.bl true):=by
 simp only[Ce,av,bp,ev,bf,ai,cj,cg,Zc,Eg,Zf,Zk,Zq,cw,Zw,ZT,ZU]
end
noncomputable def p_(ks:List Int):D:=.jt ks (gq (List.range ks.length))
theorem lR:∀(ks:List Int)(vs:List D)(x:Int),x∈ks->vs.length=ks.length->nh ks vs x=vs[ks.idxOf x]?
 |[],_,x,h,_=>by simp at h
 |k::ks,[],x,_,hl=>by simp at hl
 |k::ks,v::vs,x,h,hl=>by
  rw[nh];by_cases e:k=x
  ·subst e;simp
  ·rw[bh e]
   have h':x∈ks:=(List.mem_cons.mp h).resolve_left (kg e);rw[lR ks vs x h' (by simpa using hl),Jz,show(k==x)=false by simpa using e];simp
theorem yL(h:x∈ks):nh ks (gq (List.range ks.length)) x=some (.int (ks.idxOf x:Nat)):=by
 rw[lR ks _ x h (by simp[gq])];have:=List.idxOf_lt_length_iff.mpr h;simp[gq,this]
theorem L5(acc xs:List Int):∃more,dd acc xs=acc++more:=by
 induction xs generalizing acc with
 |nil=>exact⟨[],by simp[dd]⟩
 |cons x r ih=>
  rw[dd];obtain⟨m,e⟩:=ih (if x∈acc then acc else acc++[x]);by_cases h:x∈acc
  ·rw[bg h] at e⊢;exact⟨m,e⟩
  ·rw[bh h] at e⊢;exact⟨x::m,by rw[e];simp⟩
theorem tP:∀{a b:List Int}{x:Int},x∈a->(a++b).idxOf x=a.idxOf x
 |[],_,_,h=>by simp at h
 |y::a,b,x,h=>by
  rw[E0,Jz,Jz];by_cases e:y=x
  ·subst e;simp
  ·rw[show(y==x)=false by simpa using e]
   simp only[cond_false];rw[tP ((List.mem_cons.mp h).resolve_left (kg e))]
theorem yM(h:x∈acc):(dd acc xs).idxOf x=acc.idxOf x:=by
 obtain⟨m,e⟩:=L5 acc xs;rw[e,tP h]
noncomputable def L6:List Sm:=[(.new 2),(.bz 3 (.ak [])),(.loop .seq [(.aa 0)] [4] [(.loop .seq [(.aa 4)] [5] [(.ite (.a_ (.Ef true (.aa 5) (.aa 2))) [(.dput 2 (.aa 5) (.yh (.aa 2)))] [])]),(.app 3 (.b_ .tuple (.comp .seq [(.aa 4)] [2] 1 none (.sf (.aa 1) (.aa 0)))))]),(.ret (.ar [(.b_ .tuple (.aa 3)),(.aa 1)]))]
section
variable{Φ:Nat->List D->R D}{G:List D}{n:Nat}
theorem vE(k:Nat):gq (List.range k)++[.int (k:Nat)]=gq (List.range (k+1)):=by simp[gq,DI]
theorem PQ(hl:acc.length+r.length<90000)(hr:r.length<=1000):
  ∃E8,bp Φ G n (.loop .seq [(.aa 4)] [5] [(.ite (.a_ (.Ef true (.aa 5) (.aa 2))) [(.dput 2 (.aa 5) (.yh (.aa 2)))] [])]) [zs d0,zs d1,some (true,p_ acc),c3,zs (af r),c5]=.nx [zs d0,zs d1,some (true,p_ (dd acc r)),c3,zs (af r),E8]:=by
 have hi:bo .seq [af r]=.ok (az r):=aX (by simpa[az] using hr);have step:∀i (h:i<(az r).length) δ,(∃c,δ=[zs d0,zs d1,some (true,p_ (dd acc (r.take i))),c3,zs (af r),c])->∃δ',dm Φ G n [5] [(.ite (.a_ (.Ef true (.aa 5) (.aa 2))) [(.dput 2 (.aa 5) (.yh (.aa 2)))] [])] (az r)[i] δ=.nx δ'/\∃c,δ'=[zs d0,zs d1,some (true,p_ (dd acc (r.take (i+1)))),c3,zs (af r),c]:=by
  rintro i h δ ⟨c,rfl⟩;have AI:i<r.length:=by simpa[az] using h
  have ex:(az r)[i]=.int r[i]:=by simp[az]
  have et:r.take (i+1)=r.take i++[r[i]]:=DD AI;have hd:dd acc (r.take (i+1))=if r[i]∈dd acc (r.take i) then dd acc (r.take i) else dd acc (r.take i)++[r[i]]:=by
   rw[et,j0];rfl
  rw[ex,hd];have di:(dd acc (r.take i)).length<jj:=by
   have:=m6 acc (r.take i);have h2:(r.take i).length<=r.length:=by rw[Be];omega
   have:jj=100000:=rfl;omega
  generalize dd acc (r.take i)=ks at*;by_cases hm:r[i]∈ks
  ·rw[bg hm]
   refine⟨_,?_,zi (r[i]),rfl⟩;simp only[dm,p_,av,bp,du,ev,bf,au,ai,cj,cg,Za,Zc,Py.sets,br,Zf,Zi,Zj,Zk,Zl,Zq,cw,dq,gV,Zv,hm,decide_true,ja,ou,jr]
  ·rw[bh hm]
   refine⟨_,?_,zi (r[i]),rfl⟩;simp only[dm,p_,av,bp,du,ev,bf,au,ai,cj,cg,Za,Zc,Py.sets,br,Zf,Zi,Zj,Zk,Zl,Zq,cw,dq,Zw,hm,decide_false,ja,ou,jr,Gr,CF,di,vE,vm]
 obtain⟨δ',e,c,rfl⟩:=bM (Φ:=Φ) (G:=G) (n:=n) (k:=.seq) (its:=[(.aa 4)]) (tg:=[5]) (body:=[(.ite (.a_ (.Ef true (.aa 5) (.aa 2))) [(.dput 2 (.aa 5) (.yh (.aa 2)))] [])]) (δ:=[some (false,d0),some (false,d1),some (true,p_ acc),c3,some (false,af r),c5]) (xs:=az r) (by simp only[ev,ck,bf,cf,ai,aq,cj,cg,Zf,Zk,Zl,Zq,dq,gV,hi])
  (λi δ=>∃c,δ=[zs d0,zs d1,some (true,p_ (dd acc (r.take i))),c3,zs (af r),c]) ⟨c5,rfl⟩ step
 refine⟨c,?_⟩;have SQ:(az r).length=r.length:=by simp[az]
 rw[SQ,BV] at e;exact e
theorem L7{names r:List Int}(hr:r.length<=1000)(hs:∀x∈r,x∈names)(h2:cj δ 4=.ok (af r))(h1:δ[2]?=some (some (true,p_ names))):
  ev Φ G m (.comp .seq [(.aa 4)] [2] 1 none (.sf (.aa 1) (.aa 0))) δ=.ok (.ak (az (r.map λx=>(names.idxOf x:Nat)))):=by
 have hi:bo .seq [af r]=.ok (az r):=aX (by simpa[az] using hr);simp only[ev,ck,cw,h2,aZ,hi,eh,j_,A',h1,Option.getD_some];rw[cC (λx=>match x with|.int k=>.int (names.idxOf k:Nat)|_=>.de) _ λx hx=>?_]
 ·simp only[R.zm,aZ]
  congr 2
  simp[az,Ju]
 ·obtain⟨k,hk,rfl⟩:=List.mem_map.mp hx
  simp only[Bc,cj,br,Ze,Zf,Zk,Zl,Zm,Zn,Zo,Zp,cw,p_,yL (hs k hk)]
theorem yN{ah:Int}{R:List (List Int)}(h0:bo .seq [d0]=.ok (R.map af))(hR:∀r∈R,r.length<=1000)(hl:R.flatten.length<=80000)(hL:R.length<=1000):
  av Φ G n L6 [zs d0,zi ah,none,none,none,none]=.rt (.ar [.ar ((dz R).map af),.int ah]):=by
 unfold L6;have e1:bp Φ G n (.new 2) [zs d0,zi ah,none,none,none,none]=.nx [zs d0,zi ah,some (true,p_ []),none,none,none]:=by simp only[bp,Zi,Zj];rfl
 have e2:bp Φ G n (.bz 3 (.ak [])) [zs d0,zi ah,some (true,p_ []),none,none,none]=.nx [zs d0,zi ah,some (true,p_ []),some (true,.ak []),none,none]:=by simp only[bp,ev,ck,bf,ai,aq,Zc,ba,bq,Zf,Zi,Zj,Zt]
 rw[aA e1,aA e2];have step:∀i (h:i<(R.map af).length) δ,(∃c4 c5,δ=[zs d0,zi ah,some (true,p_ (dd [] (R.take i).flatten)),some (true,.ak (((R.take i).map λr=>r.map λx=>(((dd [] R.flatten).idxOf x:Nat):Int)).map af)),c4,c5])->
   ∃δ',dm Φ G n [4] [(.loop .seq [(.aa 4)] [5] [(.ite (.a_ (.Ef true (.aa 5) (.aa 2))) [(.dput 2 (.aa 5) (.yh (.aa 2)))] [])]),(.app 3 (.b_ .tuple (.comp .seq [(.aa 4)] [2] 1 none (.sf (.aa 1) (.aa 0)))))] (R.map af)[i] δ=.nx δ'/\∃c4 c5,δ'=[zs d0,zi ah,some (true,p_ (dd [] (R.take (i+1)).flatten)),some (true,.ak (((R.take (i+1)).map λr=>r.map λx=>(((dd [] R.flatten).idxOf x:Nat):Int)).map af)),c4,c5]:=by
  rintro i h δ ⟨c4,c5,rfl⟩;have hi:i<R.length:=by simpa using h
  have et:R.take (i+1)=R.take i++[R[i]]:=DD hi;have hr:=hR R[i] (xk hi);have VT:(R.take i).flatten.length<=R.flatten.length:=by
   conv=>rhs;rw[←List.take_append_drop i R]
   rw[DG,vm];omega
  have DY:=m6 [] (R.take i).flatten;have ed:dd [] (R.take (i+1)).flatten=dd (dd [] (R.take i).flatten) R[i]:=by rw[et,DG,j0];simp
  have Jb:dd [] R.flatten=dd (dd [] (R.take (i+1)).flatten) (R.drop (i+1)).flatten:=by
   rw[←j0,←DG,List.take_append_drop]
  have hs:∀x∈R[i],x∈dd [] (R.take (i+1)).flatten:=λx hx=>by
   rw[ed,a9];exact .inr hx
  have Dd:(R[i].map λx=>((dd [] (R.take (i+1)).flatten).idxOf x:Nat))=(R[i].map λx=>((dd [] R.flatten).idxOf x:Nat)):=by
   refine Ae λx hx=>?_;rw[Jb,yM (hs x hx)]
  obtain⟨E8,e⟩:=PQ (Φ:=Φ) (G:=G) (n:=n) (d0:=d0) (d1:=.int ah) (c3:=some (true,.ak (((R.take i).map λr=>r.map λx=>(((dd [] R.flatten).idxOf x:Nat):Int)).map af))) (c5:=c5) (acc:=dd [] (R.take i).flatten) (r:=R[i]) (by rw[ou] at DY;omega) hr;have di:(((R.take i).map λr=>r.map λx=>(((dd [] R.flatten).idxOf x:Nat):Int)).map af).length<jj:=by
   simp only[gh,Be];have:jj=100000:=rfl;omega
  rw[←ed] at e;have ec:=L7 (m:=true) (Φ:=Φ) (G:=G) (names:=dd [] (R.take (i+1)).flatten) (r:=R[i]) (δ:=[zs d0,zi ah,some (true,p_ (dd [] (R.take (i+1)).flatten)),some (true,.ak (((R.take i).map λr=>r.map λx=>(((dd [] R.flatten).idxOf x:Nat):Int)).map af)),zs (af R[i]),E8]) hr hs rfl rfl;have SR:ev Φ G false (.b_ .tuple (.comp .seq [(.aa 4)] [2] 1 none (.sf (.aa 1) (.aa 0)))) [zs d0,zi ah,some (true,p_ (dd [] (R.take (i+1)).flatten)),some (true,.ak (((R.take i).map λr=>r.map λx=>(((dd [] R.flatten).idxOf x:Nat):Int)).map af)),zs (af R[i]),E8]=.ok (af (R[i].map λx=>(((dd [] R.flatten).idxOf x:Nat):Int))):=by
   rw[ev,ec];have:(R[i].map λx=>(((dd [] (R.take (i+1)).flatten).idxOf x:Nat):Int))=(R[i].map λx=>(((dd [] R.flatten).idxOf x:Nat):Int)):=by
    refine Ae λx hx=>?_;rw[Jb,yM (hs x hx)]
   rw[this];rfl
  refine⟨_,?_,zs (af R[i]),E8,rfl⟩;rw[Jx];simp only[dm,br,ja,ou,jr,Py.sets,Ff,Fg];rw[aA e,aA (mY rfl SR rfl di)];simp only[av,Ff,Fg,et,wj,j_,A']
 obtain⟨δ',e3,c4,c5,rfl⟩:=bM (Φ:=Φ) (G:=G) (n:=n) (k:=.seq) (its:=[(.aa 0)]) (tg:=[4]) (body:=[(.loop .seq [(.aa 4)] [5] [(.ite (.a_ (.Ef true (.aa 5) (.aa 2))) [(.dput 2 (.aa 5) (.yh (.aa 2)))] [])]),(.app 3 (.b_ .tuple (.comp .seq [(.aa 4)] [2] 1 none (.sf (.aa 1) (.aa 0)))))]) (δ:=[some (false,d0),some (false,.int ah),some (true,p_ []),some (true,.ak []),none,none]) (xs:=R.map af) (by simp only[ev,ck,bf,cf,ai,aq,cj,cg,Zf,Zk,Zq,dq,gV];exact h0)
  (λi δ=>∃c4 c5,δ=[zs d0,zi ah,some (true,p_ (dd [] (R.take i).flatten)),some (true,.ak (((R.take i).map λr=>r.map λx=>(((dd [] R.flatten).idxOf x:Nat):Int)).map af)),c4,c5]) ⟨none,none,rfl⟩ step
 rw[aA e3];simp only[av,bp,ev,ck,bf,cf,ai,aq,cj,cg,Zc,Zf,Zk,Zl,Zo,Zq,cw,dq,gV,ZP,gh,BV,dz]
theorem pG(n:Nat)(r:List Int):lg n (az r)=true:=by
 induction r with
 |nil=>rfl
 |cons x r ih=>exact ih
theorem bQ(n:Nat)(Q:List (List Int)):lg (n+1) (Q.map af)=true:=by
 induction Q with
 |nil=>rfl
 |cons r Q ih=>
  show(dr (n+1) (af r)&&lg (n+1) (Q.map af))=true;rw[ih];show((decide (0<n+1)&&lg n (az r))&&true)=true;rw[pG];simp
theorem vF(r:List Int):b_ .isTup (af r)=.ok (.bl true):=q9 _ (pG 999 r)
theorem rF(Q:List (List Int)):b_ .isTup (.ar (Q.map af))=.ok (.bl true):=q9 _ (bQ 998 Q)
theorem g5(Q:List (List Int))(g:Int):b_ .isTup (.ar [.ar (Q.map af),.int g])=.ok (.bl true):=by
 refine q9 _ ?_;show(dr 999 (.ar (Q.map af))&&true)=true;show((decide (0<999)&&lg 998 (Q.map af))&&true)=true;rw[bQ 997];rfl
end
noncomputable def da(Q:List (List Int))(g:Int):D:=.ar [.ar (Q.map af),.int g]
theorem iJ{R:List (List Int)}(h4:∀r∈R,r.length=4):R.flatten.length<=4*R.length:=by
 induction R with
 |nil=>simp
 |cons r R ih=>
  have:=ih λx hx=>h4 x (rk _ hx);have h:=h4 r wo;simp only[Cm,vm,ja];omega
theorem lh{r:List Int}(h:r.length=4):∃a b c d,r=[a,b,c,d]:=by
 match r,h with
 |[a,b,c,d],_=>exact⟨a,b,c,d,rfl⟩
section
variable{Φ:Nat->List D->R D}{G:List D}{n:Nat}
theorem j6{α:Type}{a:α->D}{xs:List α}(f:α->D)(h:(ck Φ G true its δ).bind (bo k)=.ok (xs.map a))(hf:∀x∈xs,ev Φ G false elt (zs (a x)::eh δ caps)=.ok (f x)):
  ev Φ G m (.comp k its caps 1 none elt) δ=.ok (.ak (xs.map f)):=by
 rw[ev]
 cases e:ck Φ G true its δ with
 |ok ss=>
  rw[e] at h;have h:bo k ss=.ok (xs.map a):=h;rw[aZ,h,aZ];have key:∀ys:List α,(∀x∈ys,x∈xs)->h_ (λx=>match br 1 x with
    |none=>.bad
    |some ts=>(Bc Φ G none (ts.map (λt=>some (false,t))++eh δ caps)).bind λb=>if b then(ev Φ G false elt (ts.map (λt=>some (false,t))++eh δ caps)).bind λy=>.ok (some y) else .ok none) (ys.map a)=.ok (ys.map f):=by
   intro ys
   induction ys with
   |nil=>intro _;rfl
   |cons y ys ih=>
    intro hs;have e1:=hf y (hs y wo);rw[j_,h_,ih λx hx=>hs x (rk _ hx)];simp only[br,Bc,aZ,j_,A',E0,Bg,cw,e1]
  exact congrArg (λz:R (List D)=>(R.quiet z).bind λys=>R.ok (D.ak ys)) (key xs λ_ h=>h)
 |exc c=>rw[e] at h;cases h
 |bad=>rw[e] at h;cases h
theorem aI(h:bp Φ G n s δ=.rt d):av Φ G n (s::ss) δ=.rt d:=by rw[av,h]
theorem iK(h:bp Φ G n s δ=.xc c δ'):av Φ G n (s::ss) δ=.xc c δ':=by rw[av,h]
end
theorem pI(a b:α):my [a,b] 0=some a:=rfl
theorem lS(a b:α):my [a,b] 1=some b:=rfl
noncomputable def EC(l:List (Nat×Nat)):Nat×Nat:=l.getLastD (0,0)
noncomputable def aw(Q:List (List Int))(line:Int):Nat×Nat:=EC (bw Q line)
theorem e8(h:p∈bw Q line):p.1<Q.length/\p.2<4/\(Q.getD p.1 []).getD p.2 0=line:=by
 simp only[bw,gk,e_,Fj,DK,BX,E1] at h;obtain⟨k,hk,e,⟨he,hv⟩,rfl⟩:=h;exact⟨hk,he,by simpa using hv⟩
theorem bc.vk(s:bc Q m)(h:bw Q x≠[]):(0<=x/\x<(2*m:Nat))/\∃a b,bw Q x=[a,b]:=by
 by_cases hr:x<0\/(2*m:Nat)<=x
 ·exact absurd (s.none hr) h
 ·refine⟨by omega,?_⟩
  have:=s.places (v:=x.toNat) (by omega);rw[show((x.toNat:Nat):Int)=x by omega] at this
  match bw Q x,this with
  |[a,b],_=>exact⟨a,b,rfl⟩
theorem bc.in_of(s:bc Q m){x:Int}(h:0<=x/\x<(2*m:Nat)):bw Q x≠[]:=λe=>by
 have:=s.places (v:=x.toNat) (by omega);rw[show((x.toNat:Nat):Int)=x by omega,e] at this;cases this
theorem aY(h:bw Q x≠[]):(aw Q x).1<Q.length/\(aw Q x).2<4:=by
 have:aw Q x∈bw Q x:=by
  rw[aw,EC]
  cases e:bw Q x with
  |nil=>exact absurd e h
  |cons a l=>
   rw[List.getLastD_cons]
   cases l with
   |nil=>simp
   |cons b l=>rw[List.getLastD_cons,List.getLastD_eq_getLast?];cases e:l.getLast? with
    |none=>simp
    |some y=>simp;exact .inr (.inr (List.mem_of_getLast? e))
 exact⟨(e8 this).1,(e8 this).2.1⟩
noncomputable def dn(Q:List (List Int))(p:Nat×Nat)(v:Int):List (List Int):=Q.set p.1 ((Q.getD p.1 []).set p.2 v)
theorem aH(Q:List (List Int))(p:Nat×Nat)(v:Int):(dn Q p v).length=Q.length:=by simp[dn]
theorem aE(h4:∀r∈Q,r.length=4):∀r∈dn Q p v,r.length=4:=by
 intro r hr;by_cases hp:p.1<Q.length
 ·rcases List.mem_or_eq_of_mem_set hr with h|h
  ·exact h4 r h
  ·rw[h,Cn]
   have:Q.getD p.1 []=Q[p.1]:=by simp[hp]
   rw[this];exact h4 _ (xk hp)
 ·rw[dn,List.set_eq_of_length_le (by omega)] at hr
  exact h4 r hr
section
variable{Φ:Nat->List D->R D}{G:List D}{n:Nat}
noncomputable def zy:List Sm:=[(.bz 3 (.b_ .list (.aa 0))),(.bz 4 (.ag .at (.aa 3) (.ag .at (.aa 1) (.ao (.int 0))))),(.put 3 (.ag .at (.aa 1) (.ao (.int 0))) (.ag .add (.ag .add (.rq (.aa 4) none (some (.ag .at (.aa 1) (.ao (.int 1))))) (.ar [(.aa 2)])) (.rq (.aa 4) (some (.ag .add (.ag .at (.aa 1) (.ao (.int 1))) (.ao (.int 1)))) none))),(.ret (.aa 3))]
theorem pJ(hl:b_ .list d0=.ok (.ak (Q.map af)))(h4:∀r∈Q,r.length=4)(h1:p.1<Q.length)(h2:p.2<4):
  av Φ G n zy [zs d0,zs (aj p),zi v,none,none]=.rt (.ak ((dn Q p v).map af)):=by
 have a0:ag .at (aj p) (.int 0)=.ok (.int (p.1:Nat)):=rfl;have hq:Q.getD p.1 []=Q[p.1]:=by simp[h1]
 have hr:(Q.getD p.1 []).length=4:=by rw[hq];exact h4 _ (xk h1)
 have Dd:=dH h1;have SS:(dn Q p v).map af=(Q.map af).set p.1 (af ((Q.getD p.1 []).set p.2 v)):=by rw[dn,List.map_set]
 have i1:B8 (Q.map af).length (p.1:Nat)=some p.1:=jU (by simpa using h1);rw[SS];generalize Q.getD p.1 []=r,Q.map af=X at*;unfold zy;have e1:bp Φ G n (.bz 3 (.b_ .list (.aa 0))) [zs d0,zs (aj p),zi v,none,none]=.nx [zs d0,zs (aj p),zi v,some (true,.ak X),none]:=by
  simp only[bp,ev,bf,ai,cj,cg,Zc,ba,bq,Zf,Zi,Zj,Zk,cw,Zt,hl]
 have e2:bp Φ G n (.bz 4 (.ag .at (.aa 3) (.ag .at (.aa 1) (.ao (.int 0))))) [zs d0,zs (aj p),zi v,some (true,.ak X),none]=.nx [zs d0,zs (aj p),zi v,some (true,.ak X),zs (af r)]:=by
  simp only[bp,ev,bf,ai,cj,cg,Zc,ba,bq,Ze,Zf,Zi,Zj,Zk,Zl,Zq,cw,Zu,ZI,a0,Dd]
 have c3:ev Φ G false (.ag .add (.ag .add (.rq (.aa 4) none (some (.ag .at (.aa 1) (.ao (.int 1))))) (.ar [(.aa 2)])) (.rq (.aa 4) (some (.ag .add (.ag .at (.aa 1) (.ao (.int 1))) (.ao (.int 1)))) none)) [zs d0,zs (aj p),zi v,some (true,.ak X),zs (af r)]=.ok (af (r.set p.2 v)):=by
  obtain⟨a,b,c,d,rfl⟩:=lh hr;obtain⟨p1,p2⟩:=p;have:p2=0\/p2=1\/p2=2\/p2=3:=by simp only at h2;omega
  rcases this with rfl|rfl|rfl|rfl<;>rfl
 have e3:bp Φ G n (.put 3 (.ag .at (.aa 1) (.ao (.int 0))) (.ag .add (.ag .add (.rq (.aa 4) none (some (.ag .at (.aa 1) (.ao (.int 1))))) (.ar [(.aa 2)])) (.rq (.aa 4) (some (.ag .add (.ag .at (.aa 1) (.ao (.int 1))) (.ao (.int 1)))) none))) [zs d0,zs (aj p),zi v,some (true,.ak X),zs (af r)]=.nx [zs d0,zs (aj p),zi v,some (true,.ak (X.set p.1 (af (r.set p.2 v)))),zs (af r)]:=by
  rw[bp];show(Out.of (ev Φ G false _ [zs d0,zs (aj p),zi v,some (true,.ak X),zs (af r)]) _ λx=>_)=_;rw[c3,of_ok];simp only[ev,bf,cf,ai,aq,pf,cj,cg,Zc,Zf,Zi,Zj,Zk,Zl,Zo,Zq,cw,dq,gV,a0,putD,yj,i1]
 rw[aA e1,aA e2,aA e3];simp only[av,bp,ev,bf,cf,ai,cj,cg,Zc,Zi,Zj,Zk,Zl,dq,gV]
end
def lr(m:Nat)(p:Nat×Nat):Prop:=p.1<m/\p.2<4
noncomputable def ay(Q:List (List Int))(p:Nat×Nat):Int:=(Q.getD p.1 []).getD p.2 0
noncomputable def fe(p:Nat×Nat):Nat×Nat:=(p.1,(p.2+2)%4)
noncomputable def gf(Q:List (List Int))(p:Nat×Nat):Nat×Nat:=match bw Q (ay Q p) with
 |[a,b]=>if a=p then b else a
 |_=>p
theorem bI(h:lr m p):lr m (fe p):=⟨h.1,Nat.mod_lt _ (by decide)⟩
theorem rG(h:lr m p):fe p≠p:=λe=>by
 have:(p.2+2)%4=p.2:=congrArg Prod.snd e;have:=h.2;omega
theorem dI(h:lr m p):fe (fe p)=p:=by
 have:=h.2;refine Prod.ext rfl ?_;show((p.2+2)%4+2)%4=p.2;omega
theorem qa:p∈bw Q line↔lr Q.length p/\ay Q p=line:=by
 constructor
 ·intro h
  obtain⟨a,b,c⟩:=e8 h;exact⟨⟨a,b⟩,c⟩
 ·rintro⟨⟨h1,h2⟩,h3⟩
  simp only[bw,gk,e_,Fj,DK,BX,E1];exact⟨p.1,h1,p.2,⟨h2,by simpa[ay] using h3⟩,rfl⟩
theorem m9(Q:List (List Int))(line:Int):(bw Q line).Nodup:=by
 unfold bw gk List.Nodup;rw[List.pairwise_flatMap];constructor
 ·intro k _
  unfold e_;rw[List.pairwise_map];refine List.Pairwise.imp ?_ (List.Pairwise.filter _ List.nodup_range);intro a b pw e;exact pw (congrArg Prod.snd e)
 ·refine List.Pairwise.imp ?_ List.nodup_range
  intro a b pw x hx y hy e;unfold e_ at hx hy;obtain⟨_,_,rfl⟩:=List.mem_map.mp hx;obtain⟨_,_,rfl⟩:=List.mem_map.mp hy;exact pw (congrArg Prod.fst e)
theorem bc.pair(s:bc Q m)(h:lr m p):∃q,gf Q p=q/\q≠p/\lr m q/\ay Q q=ay Q p/\(bw Q (ay Q p)=[p,q]\/bw Q (ay Q p)=[q,p]):=by
 have hp:p∈bw Q (ay Q p):=qa.mpr ⟨by rw[s.len];exact h,rfl⟩;obtain⟨_,a,b,pw⟩:=s.vk (λe=>by rw[e] at hp;cases hp);have nd:=m9 Q (ay Q p);have ma:a∈bw Q (ay Q p):=by rw[pw];simp
 have mb:b∈bw Q (ay Q p):=by rw[pw];simp
 have ka:=qa.mp ma;have kb:=qa.mp mb;rw[s.len] at ka kb;rw[pw] at hp nd;have ne:a≠b:=by
  have:=List.pairwise_cons.mp nd;exact this.1 b (by simp)
 have e:gf Q p=if a=p then b else a:=by unfold gf;rw[pw]
 by_cases QY:a=p
 ·rw[bg QY] at e
  subst QY;exact⟨b,e,ne.symm,kb.1,kb.2,.inl pw⟩
 ·rw[bh QY] at e
  have hb:p=b:=by
   rcases List.mem_cons.mp hp with h|h
   ·exact absurd h.symm QY
   ·exact List.mem_singleton.mp h
  subst hb;exact⟨a,e,ne,ka.1,ka.2,.inr pw⟩
section
variable{Q:List (List Int)}{m:Nat}(s:bc Q m)
include s
theorem bc.yz(h:lr m p):lr m (gf Q p):=by obtain⟨q,e,_,h2,_⟩:=s.pair h;rw[e];exact h2
theorem bc.y_(h:lr m p):gf Q p≠p:=by obtain⟨q,e,h1,_⟩:=s.pair h;rw[e];exact h1
theorem bc.r_(h:lr m p):ay Q (gf Q p)=ay Q p:=by obtain⟨q,e,_,_,h3,_⟩:=s.pair h;rw[e];exact h3
theorem bc.om(h:lr m p)(hq:lr m q)(e:ay Q q=ay Q p):q=p\/q=gf Q p:=by
 obtain⟨r,er,_,_,_,hr⟩:=s.pair h;have:q∈bw Q (ay Q p):=qa.mpr ⟨by rw[s.len];exact hq,e⟩;rw[er];rcases hr with h|h<;>rw[h] at this<;>simp at this<;>rcases this with h|h<;>simp[h]
theorem bc.l_(h:lr m p):gf Q (gf Q p)=p:=by
 have h1:=s.yz h;rcases s.om h1 h (s.r_ h).symm with e|e
 ·exact absurd e.symm (s.y_ h)
 ·exact e.symm
omit s in
noncomputable def DA(Q:List (List Int))(p:Nat×Nat):Nat×Nat:=gf Q (fe p)
omit s in
noncomputable def gu(Q:List (List Int))(p:Nat×Nat):Nat->Nat×Nat
 |0=>p
 |j+1=>DA Q (gu Q p j)
omit s in
theorem aQ(p:Nat×Nat):∀j,gu Q p (j+1)=gu Q (DA Q p) j
 |0=>rfl
 |j+1=>by rw[gu,aQ p j];rfl
theorem bc.BE(h:lr m p):lr m (DA Q p):=s.yz (bI h)
theorem bc.qb(h:lr m p):∀j,lr m (gu Q p j)
 |0=>h
 |j+1=>s.BE (bc.qb h j)
theorem bc.L8(hp:lr m p)(hq:lr m q)(e:DA Q p=DA Q q):p=q:=by
 have:=congrArg (gf Q) e;unfold DA at this;rw[s.l_ (bI hp),s.l_ (bI hq)] at this;rw[←dI hp,this,dI hq]
end
theorem lU{α:Type}[DecidableEq α]:∀{l l':List α},l.Nodup->(∀x∈l,x∈l')->l.length<=l'.length
 |[],_,_,_=>E3 _
 |a::t,l',nd,h=>by
  have QZ:=List.nodup_cons.mp nd;have ha:=h a (by simp);have:=lU (l:=t) (l':=l'.erase a) QZ.2 λx hx=>(List.mem_erase_of_ne (λe=>QZ.1 (by rw[←show x=a from e];exact hx))).mpr (h x (by simp[hx]));rw[List.length_erase_of_mem ha] at this;have:0<l'.length:=List.length_pos_of_mem ha;simp only[ja];omega
theorem least{P:Nat->Prop}:∀j,P j->∃i,i<=j/\P i/\∀k,k<i->¬P k:=λj=>by
 induction j using Nat.strongRecOn with
 |ind j ih=>
  intro h;by_cases c:∃k,k<j/\P k
  ·obtain⟨k,hk,pk⟩:=c
   obtain⟨i,a,b,d⟩:=ih k hk pk;exact⟨i,by omega,b,d⟩
  ·exact⟨j,ji _,h,λk hk pk=>c ⟨k,hk,pk⟩⟩
noncomputable def De(m:Nat):List (Nat×Nat):=(List.range m).flatMap λk=>(List.range 4).map λe=>(k,e)
theorem yO(h:lr m p):p∈De m:=by
 simp only[De,Fj,DK,BX];exact⟨p.1,h.1,p.2,h.2,rfl⟩
theorem yP(m:Nat):(De m).length=4*m:=by
 induction m with
 |zero=>rfl
 |succ m ih=>
  rw[De,show List.range (m+1)=List.range m++[m] from DI,Js,vm];rw[De] at ih;rw[ih];simp;omega
theorem bc.back(s:bc Q m)(h:lr m p):∃t,t<4*m/\gu Q p (t+1)=p/\∀j,j<t->gu Q p (j+1)≠p:=by
 have hit:∃j,j<4*m/\gu Q p (j+1)=p:=by
  refine Ie λhc=>?_;have inj:∀i d,gu Q p i=gu Q p (i+d)->gu Q p d=p:=by
   intro i
   induction i with
   |zero=>intro d e;rw[jr] at e;exact e.symm
   |succ i ih=>
    intro d e;refine ih d (s.L8 (s.qb h i) (s.qb h (i+d)) ?_);rw[show i+1+d=(i+d)+1 by omega] at e;exact e
  have nd:((List.range (4*m+1)).map (gu Q p)).Nodup:=by
   unfold List.Nodup;rw[List.pairwise_map];refine List.Pairwise.imp_of_mem ?_ List.pairwise_lt_range;intro a b ha hb pw e;have IK:=List.mem_range.mp hb;have:=inj a (b-a) (by rw[show a+(b-a)=b by omega];exact e);exact hc ⟨b-a-1,by omega,by rw[show b-a-1+1=b-a by omega];exact this⟩
  have:=lU nd (l':=De m) λx hx=>by
   obtain⟨j,_,rfl⟩:=List.mem_map.mp hx;exact yO (s.qb h j)
  rw[yP,gh,List.length_range] at this;omega
 obtain⟨j,hj,e⟩:=hit;obtain⟨t,ht,e',hm⟩:=least (P:=λj=>gu Q p (j+1)=p) j e;exact⟨t,by omega,e',hm⟩
noncomputable def q_(Q:List (List Int))(a:Nat×Nat)(j:Nat):Nat×Nat:=gu Q (fe a) (j+1)
structure ED(Q:List (List Int))(m:Nat)(a c:Nat×Nat)(t:Nat):Prop where
 hit:q_ Q a t=c
 Df:c.1=a.1
 first:∀j,j<t->(q_ Q a j).1≠a.1
theorem bc.ret(s:bc Q m)(h:lr m a):∃t c,t<4*m/\ED Q m a c t:=by
 obtain⟨t,ht,e,_⟩:=s.back (bI h);obtain⟨i,hi,hp,hm⟩:=least (P:=λj=>(q_ Q a j).1=a.1) t (by show(gu Q (fe a) (t+1)).1=a.1;rw[e];rfl);exact⟨i,_,by omega,rfl,hp,hm⟩
theorem ED.uniq(r:ED Q m a c t)(r':ED Q m a c' t'):c=c':=by
 have:t=t':=by
  rcases Nat.lt_trichotomy t t' with h|h|h
  ·exact absurd (by rw[r.hit];exact r.Df) (r'.first t h)
  ·exact h
  ·exact absurd (by rw[r'.hit];exact r'.Df) (r.first t' h)
 rw[←r.hit,←r'.hit,this]
theorem bc.EF(s:bc Q m)(h:lr m a):q_ Q a 0=gf Q a:=by
 show gf Q (fe (fe a))=_;rw[dI h]
theorem bc.L9(s:bc Q m)(h:lr m a)(j:Nat):lr m (q_ Q a j):=s.qb (bI h) _
theorem bc.BF(s:bc Q m):∀(j:Nat){p:Nat×Nat},lr m p->gu Q p j≠fe p
 |0,p,h=>λe=>rG h e.symm
 |1,p,h=>λe=>s.y_ (bI h) e
 |j+2,p,h=>λe=>by
  have h':=s.BE h;refine bc.BF s j h' ?_;have e:gf Q (fe (gu Q (DA Q p) j))=fe p:=by rw[←e,aQ];rfl
  have:=congrArg (gf Q) e;rw[s.l_ (bI (s.qb h' j))] at this;have:=congrArg fe this;rw[dI (s.qb h' j)] at this;exact this
theorem bc.L_(s:bc Q m)(h:lr m a)(r:ED Q m a c t):c≠a:=by
 rw[←r.hit];have:=s.BF (t+1) (bI h);rw[dI h] at this;exact this
noncomputable def uo(e:Nat):Int:=if e=3 then 1 else if e=1 then-1 else 0
theorem Hx{l:List Int}(hx:x∈l)(hy:y∈l)(e:l.idxOf x=l.idxOf y):x=y:=by
 have h1:=List.idxOf_lt_length_of_mem hx;have h2:=List.idxOf_lt_length_of_mem hy;have a:l[l.idxOf x]=x:=Fh h1;have b:l[l.idxOf y]=y:=Fh h2;rw[←a,←b];simp only[e]
structure JS where
 left:List (List Int)
 g:Int
 w:List (List Int)
noncomputable def Ap(s:JS):JS:=match s.w with
 |(a::b::_)::ps=>⟨s.left.map (vf b a),if a=b then s.g+1 else s.g,ps.map (vf b a)⟩
 |_=>s
noncomputable def jf(s:JS):Nat->JS
 |0=>s
 |k+1=>Ap (jf s k)
noncomputable def gx(L:List (List Int))(g:Int)(P:List (List Int)):List (List Int)×Int:=((jf ⟨L,g,P⟩ P.length).left,(jf ⟨L,g,P⟩ P.length).g)
theorem cK(old new:Int)(r:List Int):(vf old new r).length=r.length:=by simp[vf]
structure EG(c np k:Nat)(s:JS):Prop where
 len:s.left.length=c
 four:∀r∈s.left,r.length=4
 wl:s.w.length=np-k
 two:∀r∈s.w,r.length=2
theorem EG.head(h:EG c np k s)(hk:k<np):∃a b ps,s.w=[a,b]::ps/\Ap s=⟨s.left.map (vf b a),if a=b then s.g+1 else s.g,ps.map (vf b a)⟩/\EG c np (k+1) (Ap s):=by
 match hw:s.w with
 |[]=>have:=h.wl;rw[hw] at this;simp at this;omega
 |q::ps=>
  have h2:=h.two q (by rw[hw];simp)
  match q,h2 with
  |[a,b],_=>
   have e:Ap s=⟨s.left.map (vf b a),if a=b then s.g+1 else s.g,ps.map (vf b a)⟩:=by unfold Ap;rw[hw]
   refine⟨a,b,ps,rfl,e,?_⟩;rw[e];refine⟨by simp[h.len],λr hr=>?_,?_,λr hr=>?_⟩
   ·obtain⟨q,hq,rfl⟩:=List.mem_map.mp hr
    rw[cK];exact h.four q hq
   ·have:=h.wl
    rw[hw] at this;simp only[ja,gh] at this⊢;omega
   ·obtain⟨q,hq,rfl⟩:=List.mem_map.mp hr
    rw[cK];exact h.two q (by rw[hw];exact rk _ hq)
theorem EG.iter(h:EG c np 0 s):∀k,k<=np->EG c np k (jf s k)
 |0,_=>h
 |k+1,hk=>by
  obtain⟨_,_,_,_,_,z⟩:=(EG.iter h k (by omega)).head (by omega);exact z
theorem EG.start(g:Int)(h4:∀r∈L,r.length=4)(h2:∀r∈P,r.length=2):EG L.length P.length 0 ⟨L,g,P⟩:=⟨rfl,h4,rfl,h2⟩
theorem yQ(h4:∀r∈L,r.length=4)(h2:∀r∈P,r.length=2):(gx L g P).1.length=L.length/\∀r∈(gx L g P).1,r.length=4:=by
 have:=(EG.start g h4 h2).iter P.length (ji _);exact⟨this.len,this.four⟩
theorem lV:∀r:List Int,ku (az r)=some r
 |[]=>rfl
 |x::r=>by
  show(ku (az r)).map (x::·)=_;rw[lV r];rfl
theorem lW:∀R:List (List Int),kh (R.map af)=some R
 |[]=>rfl
 |r::R=>by
  show(ku (az r)).bind (λq=>(kh (R.map af)).map (q::·))=_;rw[lV,lW R];rfl
section
variable{Φ:Nat->List D->R D}{G:List D}{n:Nat}
noncomputable def z_:List Sm:=[(.ret (.comp .seq [(.aa 0)] [2,1] 1 none (.b_ .tuple (.comp .seq [(.aa 0)] [1,2] 1 none (.ite (.a_ (.ag .eq (.aa 0) (.aa 2))) (.aa 1) (.aa 0))))))]
theorem pK{R:List (List Int)}(hR:R.length<=1000)(hr:∀r∈R,r.length<=1000):av Φ G n z_ [zs (.ak (R.map af)),zi old,zi new]=.rt (.ak ((R.map (vf old new)).map af)):=by
 unfold z_;refine aI (mZ ?_);have e:=j6 (Φ:=Φ) (G:=G) (m:=false) (k:=.seq) (its:=[(.aa 0)]) (caps:=[2,1]) (elt:=(.b_ .tuple (.comp .seq [(.aa 0)] [1,2] 1 none (.ite (.a_ (.ag .eq (.aa 0) (.aa 2))) (.aa 1) (.aa 0))))) (δ:=[zs (.ak (R.map af)),zi old,zi new]) (a:=af) (xs:=R) (λr=>af (vf old new r))
  (by simp only[ev,ck,cj,cg,Zf,Zk,cw];exact bH (by simpa using hR)) λr h=>?_
 ·rw[wk];exact e
 ·have e2:=j6 (Φ:=Φ) (G:=G) (m:=true) (k:=.seq) (its:=[(.aa 0)]) (caps:=[1,2]) (elt:=(.ite (.a_ (.ag .eq (.aa 0) (.aa 2))) (.aa 1) (.aa 0))) (δ:=[zs (af r),zi new,zi old]) (a:=D.int) (xs:=r) (λx=>.int (if x=old then new else x))
   (by simp only[ev,ck,cj,cg,Zf,Zk,cw];exact aX (by simpa[az] using hr r h)) λx _=>?_
  ·rw[ev]
   show(ev Φ G true _ [zs (af r),zi new,zi old]).bind _=_;rw[e2];show Py.R.ok _=_;rw[af,vf,az,wk];rfl
  ·by_cases hc:x=old
   ·have q:(x==old)=true:=by simpa using hc
    simp only[du,ev,cj,cg,Za,eh,Zf,Zk,Zl,Zm,Zn,cw,dq,gV,Zx,ZG,q,bg hc]
   ·have q:(x==old)=false:=by simpa using hc
    simp only[du,ev,cj,cg,Za,eh,Zf,Zk,Zl,Zm,Zn,cw,dq,gV,Zx,ZG,q,bh hc]
noncomputable def xj(r:Nat):List Sm:=[(.bz 5 (.ag .at (.ag .at (.aa 4) (.ao (.int 0))) (.ao (.int 0)))),(.bz 6 (.ag .at (.ag .at (.aa 4) (.ao (.int 0))) (.ao (.int 1)))),(.ite (.a_ (.ag .eq (.aa 5) (.aa 6))) [(.bz 1 (.ag .add (.aa 1) (.ao (.int 1))))] []),(.bz 3 (.call r [(.aa 3),(.aa 6),(.aa 5)])),(.bz 4 (.call r [(.rq (.aa 4) (some (.ao (.int 1))) none),(.aa 6),(.aa 5)]))]
noncomputable def A6(r q:Nat):List Sm:=[(.bz 3 (.b_ .list (.aa 0))),(.bz 4 (.b_ .list (.aa 2))),(.Dx (.a_ (.aa 4)) (xj r)),(.ret (.call q [(.aa 3),(.aa 1)]))]
theorem vG{lf ps:List (List Int)}(hr:∀(R:List (List Int))(old new:Int),R.length<=1000->(∀x∈R,x.length<=1000)->Φ r [.ak (R.map af),.int old,.int new]=.ok (.ak ((R.map (vf old new)).map af)))
  (l1:lf.length<=1000) (l2:∀x∈lf,x.length<=1000) (l3:ps.length<=1000) (l4:∀x∈ps,x.length<=1000):
  av Φ G n (xj r) [zs d0,zi g,zs d2,some (o3,.ak (lf.map af)),some (o4,.ak (([a,b]::ps).map af)),c5,c6]=
  .nx [zs d0,zi (if a=b then g+1 else g),zs d2,zs (.ak ((lf.map (vf b a)).map af)),zs (.ak ((ps.map (vf b a)).map af)),zi a,zi b]:=by
 have h1:=hr lf b a l1 l2;have h2:=hr ps b a l3 l4;have a0:∀(x:D)(y:List D),my (x::y) 0=some x:=λx y=>jz (xs:=x::y) (i:=0) (by simp);have a1:∀(x y:D),my [x,y] 1=some y:=λx y=>rfl;have c1:∀(x:D)(y:List D),cut (x::y) (some 1) none=y:=λx y=>wd (x::y) 1;generalize lf.map af=X,(lf.map (vf b a)).map af=X' at*;rw[j_];generalize ps.map af=Y,(ps.map (vf b a)).map af=Y' at*;have er:af [a,b]=.ar [.int a,.int b]:=rfl;unfold xj;by_cases hc:a=b
 ·have q:(a==b)=true:=by simpa using hc
  cases o3<;>cases o4<;>simp only[av,bp,du,ev,ck,CD,bf,cf,au,ai,aq,pf,cj,cg,Za,Zc,KN,ba,bq,rq,Ze,Zf,Zi,Zj,Zk,Zl,Zo,Zp,Zq,cw,dq,gV,Zt,Zu,ZA,ZG,ZI,ZJ,er,a0,a1,q,h1,h2,c1,bg hc]
 ·have q:(a==b)=false:=by simpa using hc
  cases o3<;>cases o4<;>simp only[av,bp,du,ev,ck,CD,bf,cf,au,ai,aq,pf,cj,cg,Za,Zc,KN,ba,bq,rq,Ze,Zf,Zi,Zj,Zk,Zl,Zo,Zp,Zq,cw,dq,gV,Zt,Zu,ZA,ZG,ZI,ZJ,er,a0,a1,q,h1,h2,c1,bh hc]
noncomputable def Hy(f:Nat)(s:JS):Nat->Slot
 |0=>none
 |i+1=>some (false,.int (((jf s i).w.getD 0 []).getD f 0))
theorem rH(hr:∀(R:List (List Int))(old new:Int),R.length<=1000->(∀x∈R,x.length<=1000)->Φ r [.ak (R.map af),.int old,.int new]=.ok (.ak ((R.map (vf old new)).map af)))
  (hq:∀(R:List (List Int))(g:Int),(∀x∈R,x.length=4)->R.length<=50->Φ q [.ak (R.map af),.int g]=.ok (da (dz R) g)) (h4:∀r∈L,r.length=4) (h2:∀r∈P,r.length=2) (hL:L.length<=50) (hP:P.length<=50) (hn:100<n):
  av Φ G n (A6 r q) [zs (.ak (L.map af)),zi g,zs (.ak (P.map af)),none,none,none,none]=.rt (da (dz (gx L g P).1) (gx L g P).2):=by
 obtain⟨j1,j2⟩:=yQ h4 h2 (g:=g);have st:=EG.start g h4 h2;unfold A6;have e1:bp Φ G n (.bz 3 (.b_ .list (.aa 0))) [zs (.ak (L.map af)),zi g,zs (.ak (P.map af)),none,none,none,none]=.nx [zs (.ak (L.map af)),zi g,zs (.ak (P.map af)),some (true,.ak (L.map af)),none,none,none]:=by simp only[bp,ev,bf,ai,cj,cg,Zc,ba,bq,Zf,Zi,Zj,Zk,cw,Zt,ZR]
 have e2:bp Φ G n (.bz 4 (.b_ .list (.aa 2))) [zs (.ak (L.map af)),zi g,zs (.ak (P.map af)),some (true,.ak (L.map af)),none,none,none]=.nx [zs (.ak (L.map af)),zi g,zs (.ak (P.map af)),some (true,.ak (L.map af)),some (true,.ak (P.map af)),none,none]:=by simp only[bp,ev,bf,ai,cj,cg,Zc,ba,bq,Zf,Zi,Zj,Zk,Zl,cw,Zt,ZR]
 let d:Nat->iy:=λi=>[zs (.ak (L.map af)),zi ((jf ⟨L,g,P⟩ i).g),zs (.ak (P.map af)),some (decide (i=0),.ak ((jf ⟨L,g,P⟩ i).left.map af)),some (decide (i=0),.ak ((jf ⟨L,g,P⟩ i).w.map af)),Hy 0 ⟨L,g,P⟩ i,Hy 1 ⟨L,g,P⟩ i]
 have ew:bp Φ G n (.Dx (.a_ (.aa 4)) (xj r)) (d 0)=.nx (d P.length):=by
  have z:=iI (c:=du Φ G (.a_ (.aa 4))) (fz:=bf (au (.a_ (.aa 4)))) (b:=av Φ G n (xj r)) P.length n d (by omega) (λi hi=>?_) ?_
  ·simpa only[bp,au,ai,bf,cw] using z
  ·have ok:=st.iter i (by omega)
   obtain⟨a,b,ps,hw,es,WT⟩:=ok.head hi;refine⟨?_,?_⟩
   ·simp only[du,ev,bf,au,ai,cj,cg,Zb,Zf,Zk,Zl,Zm,cw,d,hw]
    rfl
   ·have WU:ps.length<=50:=by have:=ok.wl;rw[hw] at this;simp only[ja] at this;omega
    have t:=vG (Φ:=Φ) (G:=G) (n:=n) (r:=r) (d0:=.ak (L.map af)) (d2:=.ak (P.map af)) (lf:=(jf ⟨L,g,P⟩ i).left) (ps:=ps) (a:=a) (b:=b) (g:=(jf ⟨L,g,P⟩ i).g) (o3:=decide (i=0)) (o4:=decide (i=0)) (c5:=Hy 0 ⟨L,g,P⟩ i) (c6:=Hy 1 ⟨L,g,P⟩ i) hr
     (by rw[ok.len];omega) (λx hx=>by rw[ok.four x hx];decide) (by omega) (λx hx=>by rw[ok.two x (by rw[hw];exact rk _ hx)];decide)
    have ed:d (i+1)=[zs (.ak (L.map af)),zi (if a=b then(jf ⟨L,g,P⟩ i).g+1 else(jf ⟨L,g,P⟩ i).g),zs (.ak (P.map af)),zs (.ak (((jf ⟨L,g,P⟩ i).left.map (vf b a)).map af)),zs (.ak ((ps.map (vf b a)).map af)),zi a,zi b]:=by
     show[_,zi ((Ap (jf ⟨L,g,P⟩ i)).g),_,some (decide (i+1=0),.ak ((Ap (jf ⟨L,g,P⟩ i)).left.map af)),some (decide (i+1=0),.ak ((Ap (jf ⟨L,g,P⟩ i)).w.map af)),Hy 0 ⟨L,g,P⟩ (i+1),Hy 1 ⟨L,g,P⟩ (i+1)]=_;rw[es];simp only[Hy,hw];rfl
    rw[ed,←t];show av Φ G n (xj r) (d i)=_;simp only[d,hw]
  ·have ok:=st.iter P.length (ji _)
   have e0:(jf ⟨L,g,P⟩ P.length).w=[]:=List.eq_nil_of_length_eq_zero (by rw[ok.wl];omega);simp only[du,ev,bf,au,ai,cj,cg,Zb,Zf,Zk,Zl,Zn,cw,d,e0];rfl
 rw[aA e1,aA e2];show av Φ G n _ (d 0)=_;rw[aA ew];have Q1:=hq (gx L g P).1 (gx L g P).2 j2 (by omega);have ef:d P.length=[zs (.ak (L.map af)),zi ((gx L g P).2),zs (.ak (P.map af)),some (decide (P.length=0),.ak ((gx L g P).1.map af)),some (decide (P.length=0),.ak ((jf ⟨L,g,P⟩ P.length).w.map af)),Hy 0 ⟨L,g,P⟩ P.length,Hy 1 ⟨L,g,P⟩ P.length]:=rfl;rw[ef];generalize decide (P.length=0)=o;cases o<;>simp only[av,bp,ev,ck,bf,cf,ai,aq,cj,cg,Zc,Zf,Zi,Zj,Zk,Zl,Zo,Zp,Zq,dq,gV,Q1]
end
noncomputable def bu(Q:List (List Int))(ks:List Int):List (List Int):=((List.range Q.length).filter λ(k:Nat)=>!decide (((k:Nat):Int)∈ks)).map λ(k:Nat)=>Q.getD k []
theorem vH(xs:List D):iz 0 xs=(List.range xs.length).map λk=>.ar [.int (k:Nat),xs.getD k .de]:=by
 refine List.ext_getElem (by simp[aP]) λi h1 h2=>?_;have h:i<xs.length:=by simpa[aP] using h1
 rw[j5 xs 0 i h1 h];simp[h]
theorem yR(x:Int)(xs:List Int):isin (.int x) (.ar (az xs))=.ok (decide (x∈xs)):=lO x xs
theorem vI(x:Int)(xs:List Int):ag .kr (.int x) (.ar (az xs))=.ok (.bl (!decide (x∈xs))):=by
 show(isin (.int x) (.ar (az xs))).bind _=_;rw[yR];rfl
theorem g6(Q:List (List Int))(ks:List Int):(bu Q ks).length<=Q.length:=by
 unfold bu;rw[gh];exact rm (List.length_filter_le _ _) (by simp)
theorem bE(h4:∀r∈Q,r.length=4):∀r∈bu Q ks,r.length=4:=by
 intro r hr;obtain⟨k,hk,rfl⟩:=List.mem_map.mp hr;have D8:k<Q.length:=List.mem_range.mp (List.mem_filter.mp hk).1;have:Q.getD k []=Q[k]:=by simp[D8]
 rw[this];exact h4 _ (xk D8)
section
variable{Φ:Nat->List D->R D}{G:List D}{n:Nat}
noncomputable def Aa:List Sm:=[(.ret (.comp .enum [(.aa 0)] [1] 2 (some (.a_ (.ag .kr (.aa 0) (.aa 2)))) (.aa 1)))]
theorem pL(hQ:Q.length<=1000):av Φ G n Aa [zs (.ar (Q.map af)),zs (.ar (az ks))]=.rt (.ak ((bu Q ks).map af)):=by
 unfold Aa;have hit:bo .enum [.ar (Q.map af)]=.ok (iz 0 (Q.map af)):=by
  show(if(iz 0 (Q.map af)).length<=jj then R.ok (iz 0 (Q.map af)) else R.bad)=_;rw[aP,gh,bg (rm hQ (by decide))]
 have e:ev Φ G false (.comp .enum [(.aa 0)] [1] 2 (some (.a_ (.ag .kr (.aa 0) (.aa 2)))) (.aa 1)) [zs (.ar (Q.map af)),zs (.ar (az ks))]=.ok (.ak ((bu Q ks).map af)):=by
  rw[ev];simp only[ck,ev,cw,cj,List.getElem?_cons_zero,aZ,hit];rw[vH,gh,cJ (λx=>match x with|.ar [.int k,_]=>!decide (k∈ks)|_=>false) (λx=>match x with|.ar [_,d]=>d|_=>.de) _ λx hx=>?_]
  ·simp only[Py.R.zm,aZ]
   congr 2
   unfold bu;rw[List.filter_map,wk,wk];refine Ae λk hk=>?_;have D8:k<Q.length:=List.mem_range.mp (List.mem_filter.mp hk).1;simp[D8]
  ·obtain⟨k,hk,rfl⟩:=List.mem_map.mp hx
   have ni:=vI (k:Nat) ks;simp only[du,ev,Bc,cj,cg,Za,br,eh,Zf,Zk,Zl,Zm,Zn,Zo,Zp,cw,dq,gV,Zx,ja,ou,Nat.reduceAdd,jr,ni];by_cases hc:((k:Nat):Int)∈ks
   ·simp[hc]
   ·simp[hc]
 exact aI (mZ e)
noncomputable def SU(c:Nat):List Sm:=[(.ite (.or (.a_ (.ag .lt (.aa 1) (.ao (.int 0)))) (.a_ (.ag .ge (.aa 1) (.b_ .len (.ag .at (.aa 0) (.ao (.int 0))))))) [(.yi c)] []),(.ret (.ag .at (.ag .at (.aa 0) (.ao (.int 0))) (.aa 1)))]
theorem Ma:(av Φ G n (SU c) [zs (da Q g),zi x]).val=if x<0\/(Q.length:Int)<=x then .exc c else .ok (af (Q.getD x.toNat [])):=by
 have a0:ag .at (da Q g) (.int 0)=.ok (.ar (Q.map af)):=rfl;unfold SU;by_cases h1:x<0
 ·have q:decide (x<0)=true:=ya h1
  rw[bg (.inl h1)];simp only[av,bp,du,ev,bf,au,ai,cj,cg,Za,Zc,Zf,Zk,Zl,Zq,cw,ZC,q];rfl
 ·have q:decide (x<0)=false:=wt h1
  by_cases h2:(Q.length:Int)<=x
  ·have q2:decide ((Q.length:Int)<=x)=true:=ya h2
   rw[bg (.inr h2)];simp only[av,bp,du,ev,bf,au,ai,cj,cg,Za,Zc,Zf,Zk,Zl,Zq,cw,dq,gV,ZC,ZF,ZM,q,a0,gh,q2];rfl
  ·have q2:decide ((Q.length:Int)<=x)=false:=wt h2
   rw[bh (by omega)];have ha:=dH (Q:=Q) (k:=x.toNat) (by omega);rw[show((x.toNat:Nat):Int)=x by omega] at ha;simp only[av,bp,du,ev,bf,au,ai,cj,cg,Za,Zc,Ze,Zf,Zk,Zl,Zq,cw,dq,gV,ZC,ZF,ZJ,ZM,q,a0,gh,q2,ha];rfl
end
theorem g7(m:Nat)(fx:List (Nat×Nat)):(iw m fx).owner.length=4*m:=by
 show(pz fx (List.replicate (4*m) (-1)) fx.length).length=_;rw[cZ];simp
theorem vJ(pk:Nat->Int)(m:Nat)(fx:List (Nat×Nat)):(zx pk (iw m fx)).owner.length=4*m:=by
 rw[zx,dZ,g7]
theorem rJ:∀(xs acc:List Int),(∀u∈acc++xs,∀v∈acc++xs,f u=f v->u=v)->dd (acc.map f) (xs.map f)=(dd acc xs).map f
 |[],acc,_=>rfl
 |x::r,acc,h=>by
  have e:f x∈acc.map f↔x∈acc:=by
   constructor
   ·intro hm
    obtain⟨u,hu,e⟩:=List.mem_map.mp hm;rw[←h u (by simp[hu]) x (by simp) e];exact hu
   ·exact λhm=>List.mem_map.mpr ⟨x,hm,rfl⟩
  rw[j_,dd,dd];by_cases hx:x∈acc
  ·rw[bg hx,bg (e.mpr hx)]
   exact rJ r acc λu hu v hv=>h u (by
    rcases List.mem_append.mp hu with z|z<;>simp[z]) v (by
    rcases List.mem_append.mp hv with z|z<;>simp[z])
  ·rw[bh hx,bh λz=>hx (e.mp z)]
   have:=rJ (f:=f) r (acc++[x]) λu hu v hv=>h u (by simpa using hu) v (by simpa using hv);rw[wj] at this;exact this
theorem lX{f:Int->Int}:∀{l:List Int},(∀u∈l,f u=f x->u=x)->(l.map f).idxOf (f x)=l.idxOf x
 |[],_=>rfl
 |y::l,h=>by
  rw[j_,Jz,Jz];by_cases e:y=x
  ·subst e;simp
  ·have:(f y==f x)=false:=by simpa using λz=>e (h y (by simp) z)
   rw[this,show(y==x)=false by simpa using e];simp only[cond_false];rw[lX λu hu=>h u (rk _ hu)]
theorem yS{R:List (List Int)}(h:∀u∈R.flatten,∀v∈R.flatten,f u=f v->u=v):dz (R.map λr=>r.map f)=dz R:=by
 have ef:(R.map λr=>r.map f).flatten=R.flatten.map f:=by rw[List.map_flatten]
 have ed:dd [] (R.flatten.map f)=(dd [] R.flatten).map f:=rJ R.flatten [] (by simpa using h);unfold dz;rw[ef,ed,wk];refine Ae λr hr=>?_;show(r.map f).map _=_;rw[wk];refine Ae λx hx=>?_;have VV:x∈R.flatten:=List.mem_flatten.mpr ⟨r,hr,hx⟩;show(((((dd [] R.flatten).map f).idxOf (f x):Nat)):Int)=_;rw[lX λu hu e=>h u (((a9 _ _ u).mp hu).resolve_left (by simp)) x VV e]
theorem bV(R:List (List Int)):dz (dz R)=dz R:=by
 have:dz R=R.map λr=>r.map λx=>(((dd [] R.flatten).idxOf x:Nat):Int):=rfl
 conv=>lhs;rw[this]
 refine yS λu hu v hv e=>?_;exact Hx ((a9 [] _ u).mpr (.inr hu)) ((a9 [] _ v).mpr (.inr hv)) (by omega)
theorem GP.free(g:GP ⟨o,l,nm⟩):GP ⟨o,gm o,nm⟩:=by
 have C7:∀i,i∈gm o↔i∈l:=by
  intro i;rw[gm,E1,DK];constructor
  ·rintro⟨hi,hn⟩
   have hn:o.getD i 0<0:=of_decide_eq_true hn;by_cases hl:i∈l
   ·exact hl
   ·have hs:o[i]?=some o[i]:=Ai hi
    obtain⟨v,_,ev⟩:=g.CN i o[i] hs hl;have:o.getD i 0=o[i]:=by simp[hi]
    omega
  ·intro hl
   have:=g.neg i hl;have hi:i<o.length:=(List.getElem?_eq_some_iff.mp this).1;refine⟨hi,ya ?_⟩;have e:o.getD i 0= -1:=by
    have e2:o[i]?=some (-1):=this;simp[List.getD,e2]
   omega
 have Uq:(gm o).Nodup:=List.Pairwise.filter _ List.nodup_range;have hp:(gm o).Perm l:=(List.perm_ext_iff_of_nodup Uq g.nd).mpr C7;refine⟨Uq,λi hi=>g.neg i ((C7 i).mp hi),λi x e hi=>g.CN i x e λz=>hi ((C7 i).mpr z),g.two,?_⟩;have:=g.sz;show(gm o).length+_=_;rw[hp.length_eq];exact this
theorem GP.pairF(g:GP ⟨o,gm o,nm⟩)(ha:o[a]?=some (-1))(hb:o[b]?=some (-1))(pw:a≠b):GP ⟨(o.set a nm).set b nm,gm ((o.set a nm).set b nm),nm+1⟩:=by
 have Ur:∀i,o[i]?=some (-1)->i∈gm o:=λi h=>by
  rw[gm,E1,DK];exact⟨(List.getElem?_eq_some_iff.mp h).1,ya (by simp[List.getD,h])⟩
 have h1:(gm o).Perm (a::(gm o).erase a):=List.perm_cons_erase (Ur a ha);have IK:b∈(gm o).erase a:=(List.mem_erase_of_ne (kg pw)).mpr (Ur b hb);have h2:((gm o).erase a).Perm (b::((gm o).erase a).erase b):=List.perm_cons_erase IK;have hp:(gm o).Perm (a::b::(((gm o).erase a).erase b++[])):=by
  rw[A_];exact h1.trans (List.Perm.cons a h2)
 exact(g.pair hp).free
theorem nA:∀i,(∀j,j<i->(fx.getD j (0,0)).1≠c/\(fx.getD j (0,0)).2≠c)->(pz fx o i)[c]?=o[c]?
 |0,_=>rfl
 |i+1,h=>by
  rw[pz,x_ (h i (by omega)).2,x_ (h i (by omega)).1];exact nA i λj hj=>h j (by omega)
theorem GP.Mb(hr:∀x∈fx,x.1<4*m/\x.2<4*m)(vd:∀x∈fx,x.1≠x.2)(hd:∀i j,i<j->j<fx.length->((fx.getD i (0,0)).1≠(fx.getD j (0,0)).1/\(fx.getD i (0,0)).2≠(fx.getD j (0,0)).1)/\((fx.getD i (0,0)).1≠(fx.getD j (0,0)).2/\(fx.getD i (0,0)).2≠(fx.getD j (0,0)).2)):GP (iw m fx):=by
 have key:∀i,i<=fx.length->GP ⟨pz fx (List.replicate (4*m) (-1)) i,gm (pz fx (List.replicate (4*m) (-1)) i),i⟩:=by
  intro i
  induction i with
  |zero=>intro _;exact GP.Cd m
  |succ i ih=>
   intro hi;have hl:i<fx.length:=by omega
   have hm:fx.getD i (0,0)∈fx:=by simp[List.getD,Ai hl]
   have r:=hr _ hm;have g:=ih (by omega);exact g.pairF (by rw[nA i λj hj=>(hd j i hj hl).1,Ig,bg r.1]) (by rw[nA i λj hj=>(hd j i hj hl).2,Ig,bg r.2]) (vd _ hm)
 exact key fx.length (ji _)
theorem pM(g:GP (iw m fx)):bc (dz (km m (zx pk (iw m fx)).owner)) m:=by
 have g:=g.run (pk:=pk) (m:=m) (g7 m fx);obtain⟨c1,c2⟩:=j3 m _ g.2;refine⟨by rw[cE,c1],gD c2,tN ?_⟩;rw[pE m _ g.2];exact g.1
noncomputable def x4(r:List Int):X4:=(r.getD 0 0,r.getD 1 0,r.getD 2 0,r.getD 3 0)
theorem Mc(f:Int->Int)(h:r.length=4):x4 (r.map f)=Et f (x4 r):=by
 obtain⟨a,b,c,d,rfl⟩:=lh h;rfl
theorem iL(f:Int->Int){R:List (List Int)}(h:∀r∈R,r.length=4):(R.map λr=>r.map f).map x4=(R.map x4).map (Et f):=by
 rw[wk,wk];exact Ae λr hr=>Mc f (h r hr)
theorem yT{R:List (List Int)}(h:∀r∈R,r.length=4):∀r∈R.map (vf b a),r.length=4:=λr hr=>by
 obtain⟨q,hq,rfl⟩:=List.mem_map.mp hr;rw[cK];exact h q hq
theorem PR{R:List (List Int)}(h:∀r∈R,r.length=4)(g:Nat):zv ((dz R).map x4) g=zv (R.map x4) g:=by
 have wa:∀x∈(R.map x4).flatMap Pm,x∈dd [] R.flatten:=λx hx=>by
  simp only[Fj,BX] at hx;obtain⟨_,⟨r,hr,rfl⟩,hx⟩:=hx;obtain⟨a,b,c,d,rfl⟩:=lh (h r hr);exact(a9 _ _ _).mpr (.inr (List.mem_flatten.mpr ⟨_,hr,hx⟩))
 unfold dz;rw[iL _ h];refine Hc _ _ g λx hx y hy e=>?_;have e:(dd [] R.flatten).idxOf x=(dd [] R.flatten).idxOf y:=by omega
 rw[←Fh (List.idxOf_lt_length_iff.mpr (wa x hx)),←Fh (List.idxOf_lt_length_iff.mpr (wa y hy))];simp only[e]
theorem pN(s:Int):∀(row:List Int)(q:Int)(t:List (Int×Int))(i:Int),val (qx s row q t) i=val t i+s*cc row q i
 |[],q,t,i=>by simp[qx,cc]
 |x::xs,q,t,i=>by
  rw[qx,pN s xs,xZ,cc,Int.mul_add];by_cases h:i=q
  ·rw[bg h.symm,bg h,Int.mul_comm x];omega
  ·rw[bh λe=>h e.symm,bh h];simp
theorem tQ(s:Int):∀(row:List Int)(q:Int)(t:List (Int×Int)),gn t->gn (qx s row q t)
 |[],q,t,h=>h
 |x::xs,q,t,h=>tQ s xs _ _ (tK h _ _)
theorem tR(hd:d=2/\q=2\/d=4/\q=1)(s:Int):∀(row:List Int)(e:Nat)(t:List (Int×Int)),LQ d a c t->e+q*row.length<c+q->LQ d a c (qx s row (a-d*e) t)
 |[],e,t,h,_=>h
 |x::xs,e,t,h,hl=>by
  simp only[ja,Nat.mul_add] at hl;have:=tR hd s xs (e+q) _ (Hf (n:=x*s) h ⟨e,by omega,rfl⟩) (by omega);rw[qx,show a-d*(e:Int)-4=a-d*((e+q:Nat):Int) by rcases hd with⟨rfl,rfl⟩|⟨rfl,rfl⟩<;>omega];exact this
theorem nB:∀(n:Nat)(l:List (Int×Int)),Dw n l<=n
 |0,_=>by simp[Dw]
 |_+1,[]=>by simp[Dw]
 |n+1,(a,b)::r=>by
  have:=nB n (r.map (yg a b));rw[Dw];split<;>omega
theorem cL:∀(X:List X4)(w:List Int),(dw X w).length<=2*X.length
 |[],_=>by simp[dw]
 |_::_,[]=>by simp[dw]
 |r::X,w::ws=>by
  have:=cL X ws;have:(BA r w).length=2:=by unfold BA;split<;>rfl
  simp only[dw,vm,ja];omega
theorem j7:∀(n:Nat)(w:List Int),w∈df n->∃e:Nat,e<=n/\w.sum=e
 |0,w,h=>⟨0,ji _,by simp[df] at h;simp[h]⟩
 |n+1,w,h=>by
  simp only[df,Bh,BX] at h;rcases h with⟨v,hv,rfl⟩|⟨v,hv,rfl⟩<;>obtain⟨e,h1,h2⟩:=j7 n v hv
  ·exact⟨e,by omega,by simp[h2]⟩
  ·exact⟨e+1,by omega,by simp[h2]⟩
noncomputable def ltN(X:List X4)(g:Nat)(w:List Int):Nat:=g+ah (dw X w)
noncomputable def EH(X:List X4)(g:Nat)(t:List (Int×Int))(w:List Int):List (Int×Int):=qx (sg (ltN X g w)) (we (ltN X g w)) (X.length-2*w.sum+2*ltN X g w) t
noncomputable def ltV(X:List X4)(g:Nat):List (Int×Int):=(df X.length).foldl (EH X g) []
def Md(X:List X4)(g:Nat)(t:List (Int×Int)):Prop:=gn t/\LQ 2 (X.length+2*(g+2*X.length:Nat)) (X.length+2*(g+2*X.length)+1) t
theorem yU(h:Md X g t)(hw:w∈df X.length):Md X g (EH X g t w):=by
 obtain⟨e,h1,h2⟩:=j7 _ _ hw;have h3:=nB (dw X w).length (dw X w);have h4:=cL X w;have h5:ltN X g w<=g+2*X.length:=Jr (rm h3 h4) g;refine⟨tQ _ _ _ _ h.1,?_⟩;have:=tR (.inl ⟨rfl,rfl⟩) (sg (ltN X g w)) (we (ltN X g w)) (e+(g+2*X.length-ltN X g w)) t h.2 (by rw[mW];omega);unfold EH;rw[h2,show(X.length:Int)-2*(e:Int)+2*(ltN X g w:Nat)=X.length+2*(g+2*X.length:Nat)-2*((e+(g+2*X.length-ltN X g w):Nat):Int) by omega];exact this
theorem yV:∀(l:List (List Int))(t:List (Int×Int)),(∀w∈l,w∈df X.length)->Md X g t->Md X g (l.foldl (EH X g) t)/\∀i,val (l.foldl (EH X g) t) i=val t i+sumF (λw=>zu (g+ah (dw X w)) (mono (X.length-2*w.sum)) i) l
 |[],t,_,h=>⟨h,λi=>by simp[sumF]⟩
 |w::l,t,hl,h=>by
  have q:=yV l _ (λv hv=>hl v (rk _ hv)) (yU h (hl w wo));refine⟨q.1,λi=>?_⟩;rw[List.foldl_cons,q.2,EH,pN,aR,qY];simp only[ltN];omega
theorem rK(X:List X4)(g:Nat):Md X g (ltV X g)/\val (ltV X g)=zv X g:=by
 have:=yV (X:=X) (g:=g) (df X.length) [] (λ_ h=>h) ⟨Im,x8 _ _ _⟩;refine⟨this.1,funext λi=>(this.2 i).trans ?_⟩;show 0+_=_;rw[Int.zero_add];rfl
noncomputable def Jc(t:List (Int×Int)):Bool:=decide (t.length<64)||uk (t.map (·.1))
section
variable{Φ:Nat->List D->R D}{G:List D}{n:Nat}{s:Sm}{ss:List Sm}{δ δ':iy}{v:R D}
theorem c9(h:bp Φ G n s δ=.nx δ')(k:(av Φ G n ss δ').val=v):(av Φ G n (s::ss) δ).val=v:=by rw[aA h];exact k
theorem bN(h:bp Φ G n s δ=.nx δ')(k:av Φ G n ss δ'=o):av Φ G n (s::ss) δ=o:=by rw[aA h];exact k
theorem Me(h:av Φ G n body (δ.set i (zs d))=o):dm Φ G n [i] body d δ=o:=h
theorem d7(ha:ev Φ G true a δ=.ok x)(hb:ev Φ G true b δ=.ok y)(h:ag o x y=v):ev Φ G m (.ag o a b) δ=v:=by rw[ev,ha,aZ,hb,aZ,h]
theorem gE(a b:List D)(h:a.length+b.length<=5000):ag .add (.ak a) (.ak b)=.ok (.ak (a++b)):=mX a b (rm h (by decide))
theorem rM(h:(ck Φ G false its (bf (aq false its) δ)).bind (bo .js)=.ok (dg 0 m))(Q:Nat->iy->Prop)(q0:Q 0 (bf (aq false its) δ))
  (st:∀i,i<m->∀δ,Q i δ->∃δ',dm Φ G n tg body (.int (i:Nat)) δ=.nx δ'/\Q (i+1) δ') (k:∀δ',Q m δ'->(av Φ G n ss δ').val=v):(av Φ G n (.loop .js its tg body::ss) δ).val=v:=by
 obtain⟨δ',e,q⟩:=cD h Q q0 st;exact c9 e (k δ' q)
noncomputable def Jd(Φ:Nat->List D->R D)(G:List D)(ntg:Nat)(cond:Option Tx)(elt:Ex)(cp:iy)(x:D):R (Option D):=match br ntg x with
 |none=>.bad
 |some ts=>(Bc Φ G cond (ts.map (λt=>some (false,t))++cp)).bind λb=>if b then(ev Φ G false elt (ts.map (λt=>some (false,t))++cp)).bind λy=>.ok (some y) else .ok none
theorem yW{α:Type}{cond:Option Tx}{a:α->D}{xs:List α}(p:α->Bool)(f:α->D)(h:(ck Φ G true its δ).bind (bo k)=.ok (xs.map a))(hf:∀x∈xs,Jd Φ G ntg cond elt (eh δ caps) (a x)=.ok (if p x then some (f x) else none)):
  ev Φ G m (.comp k its caps ntg cond elt) δ=.ok (.ak ((xs.filter p).map f)):=by
 rw[ev]
 cases e:ck Φ G true its δ with
 |ok ss=>
  rw[e] at h;have h:bo k ss=.ok (xs.map a):=h;rw[aZ,h,aZ];have key:∀ys:List α,(∀x∈ys,x∈xs)->h_ (Jd Φ G ntg cond elt (eh δ caps)) (ys.map a)=.ok ((ys.filter p).map f):=by
   intro ys
   induction ys with
   |nil=>intro _;rfl
   |cons y ys ih=>
    intro hs;rw[j_,h_,ih λx hx=>hs x (rk _ hx),hf y (hs y wo)];cases e:p y<;>simp[e]
  exact congrArg (λz:R (List D)=>(R.quiet z).bind λys=>R.ok (D.ak ys)) (key xs λ_ h=>h)
 |exc c=>rw[e] at h;cases h
 |bad=>rw[e] at h;cases h
noncomputable def qc(p:Int×Int):D:=.ar [.int p.1,.int p.2]
theorem j8:∀l:List (Int×Int),jo (l.map λp=>[p.1,p.2])=some l
 |[]=>rfl
 |p::l=>by
  show(jo (l.map λp=>[p.1,p.2])).map _=_;rw[j8 l];rfl
theorem Hz{α β:Type}{f:β->α->β}{b:β}{l:List α}(h:i<l.length):(l.take (i+1)).foldl f b=f ((l.take i).foldl f b) l[i]:=by
 rw[DD h,List.foldl_append];rfl
theorem g8:∀(Q:List (List Int))(w:List Int)(j:Nat),j<Q.length->j<w.length->dw ((Q.take (j+1)).map x4) (w.take (j+1))=dw ((Q.take j).map x4) (w.take j)++BA (x4 (Q.getD j [])) (w.getD j 0)
 |r::Q,v::w,0,_,_=>by simp[dw]
 |r::Q,v::w,j+1,h1,h2=>by
  have:=g8 Q w j (by simpa using h1) (by simpa using h2);show BA (x4 r) v++dw ((Q.take (j+1)).map x4) (w.take (j+1))=_;rw[this,←ql];rfl
 |[],_,_,h,_=>by cases h
 |_,[],_,_,h=>by cases h
theorem j9:∀(n:Nat)(w:List Int),w∈df n->(az w).all xf=true
 |0,w,h=>by simp[df] at h;simp[h,az]
 |n+1,w,h=>by
  simp only[df,Bh,BX] at h;rcases h with⟨v,hv,rfl⟩|⟨v,hv,rfl⟩<;>(have:=j9 n v hv;simp only[az,wj,List.all_append,oy] at this⊢;exact⟨this,by decide⟩)
theorem e9(h:du Φ G c (bf (au c) δ)=.ok t)(k:av Φ G n (if t then a else b) (bf (au c) δ)=o):bp Φ G n (.ite c a b) δ=o:=by
 rw[bp,h,of_ok,←k];cases t<;>rfl
theorem vK(t:List (Int×Int)):tabOf (t.map (·.1)) (t.map λx=>.int x.2)=some t:=by
 have h:∀t:List (Int×Int),intsOf (t.map λx=>.int x.2)=some (t.map (·.2)):=by
  intro t
  induction t with
  |nil=>rfl
  |cons x t ih=>show(intsOf (t.map λx=>.int x.2)).map _=_;rw[ih];rfl
 unfold tabOf;rw[h,Jw,bg (by simp)]
 congr 1
 induction t with
 |nil=>rfl
 |cons x t ih=>simp[ih]
theorem yX(hf:bf (ai false p++ai false r) δ=δ')(hi:δ'[i]?=some (some (true,pj t)))(hp:ev Φ G false p δ'=.ok (.int pv))(hr:ev Φ G false r δ'=.ok (.int rv))(hl:xv Φ f t pv rv=some t'):bp Φ G n (.Eh i f p r) δ=.nx (δ'.set i (some (true,pj t'))):=by
 rw[bp,hf,hp,hr];unfold Ek;rw[hi];show(match(tabOf (t.map (·.1)) (t.map λx=>.int x.2)).bind λt=>xv Φ f t pv rv with
  |some t=>Out.nx (δ'.set i (some (true,pj t)))
  |none=>.bad)=_
 rw[vK,Jw,hl]
theorem g9:∀l:List Int,intsOf (az l)=some l
 |[]=>rfl
 |x::l=>by show(intsOf (az l)).map _=_;rw[g9 l];rfl
theorem HA(ch:Φ f [.int (ltN X g w:Nat)]=.ok (.ak (az (we (ltN X g w)))))(ok:Md X g t)(Q2:Md X g (EH X g t w))(hp:p=X.length-2*w.sum)(hb:X.length+g+2*X.length<=1000)(hn:ltN X g w<=900):xv Φ f t p (ltN X g w:Nat)=some (EH X g t w):=by
 have l:=x9 (.inl rfl) Q2.1 Q2.2;unfold xv;rw[ch];show(intsOf (az (we (ltN X g w)))).bind _=_;rw[g9,Jw,hp];exact bg ⟨ok.1,by rw[mW];omega,rm l (by omega)⟩
theorem pO:∀{t:List (Int×Int)}{i:Int},gn t->i∈t.map (·.1)->nh (t.map (·.1)) (t.map λx=>.int x.2) i=some (.int (val t i))
 |(a,n)::t,i,nd,h=>by
  simp only[gn,j_,Fl] at nd;rw[oY];show(if a=i then some (D.int n) else nh (t.map (·.1)) (t.map λx=>.int x.2) i)=_;by_cases e:a=i
  ·subst e
   rw[bg rfl,bg rfl,jP nd.1,Int.add_zero]
  ·rw[bh e,bh e,pO nd.2 ((List.mem_cons.mp h).resolve_left λh=>e h.symm),Int.zero_add]
theorem tS(x:Int):∀l,(ins x l).length=l.length+1
 |[]=>rfl
 |y::r=>by unfold ins;split<;>simp[tS x r]
theorem pP:∀l,(sortI l).length=l.length
 |[]=>rfl
 |x::r=>(tS x (sortI r)).trans (congrArg (· +1) (pP r))
theorem yY:∀{l:List Int},x∉l->l.Pairwise (· <·)->(ins x l).Pairwise (· <·)
 |[],_,_=>by simp[ins]
 |y::r,h,p=>by
  simp only[qf,not_or] at h;unfold ins;split
  ·rename_i hx
   rw[Jt];refine⟨λz hz=>?_,p⟩;rcases List.mem_cons.mp hz with rfl|hz
   ·exact hx
   ·exact Int.lt_trans hx ((List.pairwise_cons.mp p).1 z hz)
  ·rw[Jt] at p⊢
   refine⟨λz hz=>?_,yY h.2 p.2⟩;rcases(iH x z r).mp hz with rfl|hz
   ·omega
   ·exact p.1 z hz
theorem gF:∀{l:List Int},l.Nodup->(sortI l).Pairwise (· <·)
 |[],_=>List.Pairwise.nil
 |x::r,h=>by
  rw[Fl] at h;exact yY (λe=>h.1 ((dG x r).mp e)) (gF h.2)
noncomputable def Ab(t:List (Int×Int)):List (Int×Int):=told (val t) (sortI (t.map (·.1)))
theorem Mf(h:Jc t=true):t.length<=128:=by
 unfold Jc uk at h;simp only[Bool.or_false,DH] at h;omega
theorem rN(h:Jc t=true):b_ .sorted (pj t)=.ok (.ak ((sortI (t.map (·.1))).map .int))/\bo .seq [.ak ((sortI (t.map (·.1))).map .int)]=.ok ((sortI (t.map (·.1))).map .int):=by
 have l:=Mf h;refine⟨bg ?_,bH (by rw[gh,pP,gh];omega)⟩;unfold Jc at h;simpa using h
theorem yZ{cond:Tx}(f:Int×Int->D)(nd:gn t)(h:Jc t=true)(hi:ev Φ G true it δ=.ok (pj t))(hc:∀i,i∈t.map (·.1)->du Φ G cond (zi i::eh δ caps)=.ok (decide (val t i≠0)))(he:∀i,i∈t.map (·.1)->ev Φ G false elt (zi i::eh δ caps)=.ok (f (i,val t i))):
  ev Φ G m (.comp .seq [.b_ .sorted it] caps 1 (some cond) elt) δ=.ok (.ak ((Ab t).map f)):=by
 obtain⟨s1,s2⟩:=rN h;have:=yW (Φ:=Φ) (G:=G) (δ:=δ) (m:=m) (k:=.seq) (its:=[.b_ .sorted it]) (caps:=caps) (ntg:=1) (cond:=some cond) (elt:=elt) (a:=D.int) (xs:=sortI (t.map (·.1))) (λi=>decide (val t i≠0)) (λi=>f (i,val t i)) (by rw[ck,ev,hi,aZ,s1,aZ];exact s2) λi hm=>by
  have hm:=(dG i _).mp hm;show(du Φ G cond (zi i::eh δ caps)).bind (λb=>if b then(ev Φ G false elt (zi i::eh δ caps)).bind λy=>.ok (some y) else .ok none)=_;rw[hc i hm,aZ];cases decide (val t i≠0)
  ·rfl
  ·rw[he i hm];rfl
 rw[this,Ab,told,wk];rfl
theorem tT(nd:gn t)(hm:i∈t.map (·.1))(ha:ev Φ G true a δ=.ok (pj t))(hb:ev Φ G true b δ=.ok (.int i)):ev Φ G m (.sf a b) δ=.ok (.int (val t i)):=by
 rw[ev,ha,aZ,hb,aZ];show wm (nh (t.map (·.1)) (t.map λx=>.int x.2) i)=_;rw[pO nd hm];rfl
theorem Mg(ha:ev Φ G true a δ=.ok (.int x)):du Φ G (.a_ (.ag .ne a (.ao (.int 0)))) δ=.ok (decide (x≠0)):=by
 rw[du,d7 ha rfl rfl];show R.ok (!(x==0))=_
 congr 1
 by_cases h:x=0<;>simp[h]
theorem HB(ha:ev Φ G false a δ=.ok x)(hb:ev Φ G false b δ=.ok y):ev Φ G m (.ar [a,b]) δ=.ok (.ar [x,y]):=by
 rw[ev,ck,ha,ck,hb,ck];rfl
end
theorem lY(h:∀x∈names l,∀y∈names l,f x=f y↔g x=g y):ah (l.map (mp f))=ah (l.map (mp g)):=by
 let u:Int->Int:=λz=>if e:∃x∈names l,f x=z then g e.choose else z
 have e:∀x∈names l,u (f x)=g x:=λx hx=>by
  have q:∃y∈names l,f y=f x:=⟨x,hx,rfl⟩
  show(if e:∃y∈names l,f y=f x then g e.choose else f x)=_;rw[dif_pos q];exact(h _ q.choose_spec.1 x hx).1 q.choose_spec.2
 have m:∀z∈names (l.map (mp f)),∃x∈names l,f x=z:=λz hz=>by
  simp only[names,Fj,BX,qf,BW,BY] at hz⊢;obtain⟨_,⟨p,hp,rfl⟩,e|e⟩:=hz
  ·exact⟨p.1,⟨p,hp,.inl rfl⟩,e.symm⟩
  ·exact⟨p.2,⟨p,hp,.inr rfl⟩,e.symm⟩
 have:=dF u _ (l.map (mp f)) rfl λx hx y hy q=>by
  obtain⟨a,ha,rfl⟩:=m x hx;obtain⟨b,hb,rfl⟩:=m y hy;rw[e a ha,e b hb] at q;exact(h a ha b hb).2 q
 rw[←this,wk]
 congr 1
 refine Ae λp hp=>?_;have q:=b8 hp;show(u (f p.1),u (f p.2))=mp g p;rw[e _ q.1,e _ q.2];rfl
theorem Mh(a b x y:Int):sb a b x=sb a b y↔sb b a x=sb b a y:=by unfold sb;grind
theorem aW(a b:Int)(l:List (Int×Int)):ah ((a,b)::l)=ah ((b,a)::l):=by
 rw[aD,aD];simp only[eq_comm (a:=b)]
 congr 1
 exact lY λx _ y _=>Mh a b x y
theorem cQ(a b c d:Int)(l:List (Int×Int)):ah ((a,b)::(c,d)::l)=ah ((c,d)::(a,b)::l):=by
 rw[aD,aD,j_,j_];show _+ah ((sb a b c,sb a b d)::_)=_+ah ((sb c d a,sb c d b)::_);rw[aD,aD,←Nat.add_assoc,←Nat.add_assoc,wk,wk]
 congr 1
 ·unfold sb;grind
 ·exact lY (f:=sb (sb a b c) (sb a b d)∘sb a b) (g:=sb (sb c d a) (sb c d b)∘sb c d) λx _ y _=>by simp only[Function.comp];unfold sb;grind
theorem aS(h:l.Perm l'):ah l=ah l':=by
 have key:∀(n:Nat)(l l':List (Int×Int)),l.length=n->l.Perm l'->ah l=ah l':=by
  intro n
  induction n with
  |zero=>intro l l' hn h;rw[List.length_eq_zero_iff.1 hn] at h⊢;rw[h.symm.eq_nil]
  |succ n ih=>
   have c:∀(p:Int×Int)(l l':List (Int×Int)),l.length=n->l.Perm l'->ah (p::l)=ah (p::l'):=λp l l' hn h=>by
    rw[show p=(p.1,p.2) from rfl,aD,aD,ih _ _ (by rw[gh];exact hn) (h.map _)]
   have g:∀{l l':List (Int×Int)},l.Perm l'->l.length=n+1->ah l=ah l':=λ{l l'} h=>by
    induction h with
    |nil=>intro h;simp at h
    |cons p h _=>exact λhn=>c p _ _ (by simpa using hn) h
    |swap p q l=>exact λ_=>cQ _ _ _ _ _
    |trans h _ i1 i2=>exact λhn=>(i1 hn).trans (i2 (h.length_eq▸hn))
   exact λl l' hn h=>g h hn
 exact key _ _ _ rfl h
theorem bW(p:Int)(l:List (Int×Int)):ah ((p,p)::l)=1+ah l:=by
 rw[aD,bg rfl]
 congr 2
 refine(Ae λq _=>?_).trans (List.map_id l);unfold yg sb
 ext<;>dsimp<;>split<;>simp[*]
theorem Mi(h:p∉names l):l.map (yg a p)=l:=by
 refine(Ae λq hq=>?_).trans (List.map_id l);have:=b8 hq;unfold yg sb;rw[bh λe:q.1=p=>h (e▸this.1),bh λe:q.2=p=>h (e▸this.2)];rfl
theorem lZ(ha:a≠p)(hb:b≠p)(h:p∉names l):ah ((a,p)::(p,b)::l)=ah ((a,b)::l):=by
 rw[aD,bh ha,j_,Mi h,jr];simp only[yg,sb,cw,bh hb]
theorem tU:p∉names ((a,b)::L)↔p≠a/\p≠b/\p∉names L:=by simp[names]
theorem Mj(e1 e2:Int×Int)(h:l.Perm (e1::e2::L))(h1:e1=(a,p)\/e1=(p,a))(h2:e2=(p,b)\/e2=(b,p))(ha:p≠a)(hb:p≠b)(hL:p∉names L):ah l=ah ((a,b)::L):=by
 have g:∀e,ah ((a,p)::e::L)=ah (e::(a,p)::L):=λe=>aS (.swap _ _ _);rw[aS h];have k:ah (e1::e2::L)=ah ((a,p)::e2::L):=by rcases h1 with rfl|rfl;rfl;exact aW _ _ _
 rw[k,g];have k:ah (e2::(a,p)::L)=ah ((p,b)::(a,p)::L):=by rcases h2 with rfl|rfl;rfl;exact aW _ _ _
 rw[k,←g];exact lZ ha.symm hb.symm hL
noncomputable def m2(v:Nat->Int)(x:Nat×Nat):Int×Int:=(v x.1,v x.2)
noncomputable def tk(p:Nat):List (Nat×Nat)->Option (Nat×List (Nat×Nat))
 |[]=>none
 |x::r=>if x.1=p then some (x.2,r) else if x.2=p then some (x.1,r) else(tk p r).map λy=>(y.1,x::y.2)
noncomputable def okN(p:Nat)(q:List (Nat×Nat)):Bool:=q.all λx=>decide (p<x.1)&&decide (p<x.2)
noncomputable def Mk:Nat->Nat->List (Nat×Nat)->Nat×List (Nat×Nat)
 |0,_,P=>(0,P)
 |k+1,p,P=>match tk p P with
  |none=>(9,[])
  |some (a,q)=>if a=p then(if okN p q then((Mk k (p+1) q).1+1,(Mk k (p+1) q).2) else(9,[])) else match tk p q with
   |none=>(9,[])
   |some (b,r)=>if okN p ((a,b)::r) then Mk k (p+1) ((a,b)::r) else(9,[])
noncomputable def Nf:List (Nat×Nat)->List (Nat×Nat)->Bool
 |[],B=>B.isEmpty
 |x::A,B=>if x∈B then Nf A (B.erase x) else decide ((x.2,x.1)∈B)&&Nf A (B.erase (x.2,x.1))
section
variable{v:Nat->Int}{L:List (Int×Int)}
theorem l7(x:Int×Int)(A:List (Int×Int))(L:List (Int×Int)):ah (A++x::L)=ah (x::(A++L)):=aS List.perm_middle
theorem HE:∀{P:List (Nat×Nat)}{a:Nat}{q:List (Nat×Nat)},tk p P=some (a,q)->∀L,ah (P.map (m2 v)++L)=ah ((v p,v a)::(q.map (m2 v)++L))
 |[],_,_,h,_=>nomatch h
 |x::r,a,q,h,L=>by
  unfold tk at h;by_cases h1:x.1=p
  ·rw[bg h1] at h;cases h;rw[←h1];rfl
  by_cases h2:x.2=p
  ·rw[bh h1,bg h2] at h;cases h;rw[←h2];exact aW _ _ _
  rw[bh h1,bh h2,Option.map_eq_some_iff] at h;obtain⟨y,hy,e⟩:=h;cases e;exact(l7 _ _ _).symm.trans ((HE hy _).trans ((l7 _ (_::_) _).trans (cQ _ _ _ _ _)))
theorem Je:∀{A B:List (Nat×Nat)},Nf A B=true->∀L,ah (A.map (m2 v)++L)=ah (B.map (m2 v)++L)
 |[],[],_,_=>rfl
 |[],_::_,h,_=>nomatch h
 |x::A,B,h,L=>by
  have e:∀y∈B,ah (B.map (m2 v)++L)=ah (m2 v y::((B.erase y).map (m2 v)++L)):=λy hy=>aS (EW L ((List.perm_cons_erase hy).map (m2 v)));have c:∀{B'}(y:Int×Int),Nf A B'=true->ah (y::(A.map (m2 v)++L))=ah (y::(B'.map (m2 v)++L)):=λy hs=>(l7 _ _ _).symm.trans ((Je hs _).trans (l7 _ _ _));unfold Nf at h;by_cases h1:x∈B
  ·rw[bg h1] at h
   exact(c _ h).trans (e _ h1).symm
  ·rw[bh h1,Bool.and_eq_true_iff,decide_eq_true_iff] at h
   exact(c _ h.2).trans ((aW _ _ _).trans (e _ h.1).symm)
theorem y7(hv:∀i,p<i->v p≠v i):∀{q:List (Nat×Nat)},okN p q=true->v p∉names L->v p∉names (q.map (m2 v)++L)
 |[],_,h=>h
 |x::q,ho,h=>by
  unfold okN at ho;rw[Fq,Bool.and_eq_true_iff,Bool.and_eq_true_iff,decide_eq_true_iff,decide_eq_true_iff] at ho;exact tU.2 ⟨hv _ ho.1.1,hv _ ho.1.2,y7 hv ho.2 h⟩
theorem y8:∀{k p n:Nat}{P Q:List (Nat×Nat)},(∀j,p<=j->j<p+k->v j∉names L/\∀i,j<i->v j≠v i)->Mk k p P=(n,Q)->n<9->ah (P.map (m2 v)++L)=n+ah (Q.map (m2 v)++L)
 |0,_,_,_,_,_,h,_=>by cases h;exact(jr _).symm
 |k+1,p,n,P,Q,hv,h,h9=>by
  have h0:=hv p (ji _) (by omega);have hs:∀j,p+1<=j->j<p+1+k->v j∉names L/\∀i,j<i->v j≠v i:=λj a b=>hv j (by omega) (by omega);unfold Mk at h
  cases e1:tk p P with
  |none=>rw[e1] at h;cases h;exact absurd h9 (by decide)
  |some x=>
   obtain⟨a,q⟩:=x;rw[e1] at h;dsimp only at h;by_cases ha:a=p
   ·rw[bg ha] at h
    by_cases ho:okN p q=true
    ·rw[bg ho] at h
     cases h;rw[HE e1,ha,bW,y8 hs rfl (by omega)];omega
    ·rw[bh ho] at h;cases h;exact absurd h9 (by decide)
   ·rw[bh ha] at h
    cases e2:tk p q with
    |none=>rw[e2] at h;cases h;exact absurd h9 (by decide)
    |some y=>
     obtain⟨b,r⟩:=y;rw[e2] at h;dsimp only at h;by_cases ho:okN p ((a,b)::r)=true
     ·rw[bg ho] at h
      rw[←y8 hs h h9,HE e1,←l7,HE e2];have no:=y7 (L:=L) h0.2 ho h0.1;have:=tU.1 no;exact(l7 (v p,v a) ((v p,v b)::r.map (m2 v)) L).trans ((aW _ _ _).trans (lZ this.1.symm this.2.1.symm this.2.2))
     ·rw[bh ho] at h;cases h;exact absurd h9 (by decide)
noncomputable def HF(k n:Nat)(P B:List (Nat×Nat)):Bool:=decide ((Mk k 0 P).1=n)&&(decide (n<9)&&Nf (Mk k 0 P).2 B)
theorem y9(k n:Nat)(P B:List (Nat×Nat))(hv:∀j<k,v j∉names L/\∀i,j<i->v j≠v i)(h:HF k n P B=true):ah (P.map (m2 v)++L)=n+ah (B.map (m2 v)++L):=by
 rw[HF,Bool.and_eq_true_iff,Bool.and_eq_true_iff,decide_eq_true_iff,decide_eq_true_iff] at h;rw[←Je h.2.2];exact y8 (λj _ b=>hv j (by omega)) (Prod.ext h.1 rfl) h.2.1
theorem zA(k:Nat)(P B:List (Nat×Nat))(hv:∀j<k,v j∉names L/\∀i,j<i->v j≠v i)(h:HF k 0 P B=true):ah (P.map (m2 v)++L)=ah (B.map (m2 v)++L):=(y9 k 0 P B hv h).trans (jr _)
end
theorem Jf{V:List Int}(h:l∉d::V)(i:Nat):l≠V.getD i d:=λe=>h (by
 rw[e,Fc]
 cases hi:V[i]? with
 |none=>exact wo
 |some x=>exact rk _ (MS hi))
theorem SV(hp:p≠l/\p≠m/\p≠x/\p≠y/\p≠q)(hq:q≠l/\q≠m/\q≠x/\q≠y)(fp:p∉names L)(fq:q∉names L):
  (ah ((l,p)::(q,x)::(q,p)::(m,y)::L)=ah ((l,x)::(m,y)::L)/\ah ((l,p)::(q,x)::(q,y)::(p,m)::L)=ah ((l,m)::(x,y)::L)/\ah ((l,p)::(q,x)::(q,m)::(p,y)::L)=ah ((l,y)::(m,x)::L))/\
  (ah ((l,x)::(p,q)::(q,p)::(m,y)::L)=1+ah ((l,x)::(m,y)::L)/\ah ((l,x)::(p,q)::(q,y)::(p,m)::L)=ah ((l,x)::(m,y)::L)/\ah ((l,x)::(p,q)::(q,m)::(p,y)::L)=ah ((l,x)::(m,y)::L))/\
  ah ((l,q)::(p,x)::(q,p)::(m,y)::L)=ah ((l,x)::(m,y)::L)/\ah ((l,q)::(p,x)::(q,y)::(p,m)::L)=ah ((l,y)::(m,x)::L)/\ah ((l,q)::(p,x)::(q,m)::(p,y)::L)=ah ((l,m)::(x,y)::L):=by
 have hv:∀j<2,(λi=>[p,q,l,m,x].getD i y) j∉names L/\∀i,j<i->(λi=>[p,q,l,m,x].getD i y) j≠(λi=>[p,q,l,m,x].getD i y) i:=λj hj=>by
  match j,hj with
  |0,_=>exact⟨fp,fun|i+1,_=>Jf (V:=[q,l,m,x]) (by simp[hp]) i⟩
  |1,_=>exact⟨fq,fun|i+2,_=>Jf (V:=[l,m,x]) (by simp[hq]) i⟩
 have c:=λP B h=>zA (L:=L) 2 P B hv h;exact⟨⟨c [(2,0),(1,4),(1,0),(3,5)] [(2,4),(3,5)] rfl,c [(2,0),(1,4),(1,5),(0,3)] [(2,3),(4,5)] rfl,c [(2,0),(1,4),(1,3),(0,5)] [(2,5),(3,4)] rfl⟩,
  ⟨y9 (L:=L) 2 1 [(2,4),(0,1),(1,0),(3,5)] [(2,4),(3,5)] hv rfl,c [(2,4),(0,1),(1,5),(0,3)] [(2,4),(3,5)] rfl,c [(2,4),(0,1),(1,3),(0,5)] [(2,4),(3,5)] rfl⟩,
  c [(2,1),(0,4),(1,0),(3,5)] [(2,4),(3,5)] rfl,c [(2,1),(0,4),(1,5),(0,3)] [(2,5),(3,4)] rfl,c [(2,1),(0,4),(1,3),(0,5)] [(2,3),(4,5)] rfl⟩
noncomputable def p3(r:X4)(w:Int):List (Int×Int):=if w=2 then[(r.1,r.2.2.1),(r.2.1,r.2.2.2)] else BA r w
noncomputable def jb:List X4->List Int->List (Int×Int)
 |r::rs,w::ws=>p3 r w++jb rs ws
 |_,_=>[]
noncomputable def R3(X:List X4)(ws:List Int):Nat:=ah (jb X ws)
theorem Ml(f:Int->Int)(r:X4)(w:Int):(p3 r w).map (mp f)=p3 (Et f r) w:=by
 unfold p3;split
 ·rfl
 ·exact tH f r w
theorem iM(f:Int->Int):∀(rs:List X4)(ws:List Int),(jb rs ws).map (mp f)=jb (rs.map (Et f)) ws
 |[],_=>rfl
 |_::_,[]=>rfl
 |r::rs,w::ws=>by
  show(p3 r w++jb rs ws).map (mp f)=p3 (Et f r) w++jb (rs.map (Et f)) ws;rw[wj,Ml,iM f rs ws]
theorem nD:∀{X:List X4}{ws:List Int}(Y:List X4)(us:List Int),X.length=ws.length->jb (X++Y) (ws++us)=jb X ws++jb Y us
 |[],[],_,_,_=>rfl
 |r::X,w::ws,Y,us,h=>by
  show p3 r w++jb (X++Y) (ws++us)=(p3 r w++jb X ws)++_;rw[nD Y us (by simpa using h),ql]
theorem nE:∀(n:Nat)(w:List Int),w∈df n->∀x∈w,x=0\/x=1
 |0,w,h,x,hx=>by rw[MV.1 h] at hx;simp at hx
 |n+1,w,h,x,hx=>by
  simp only[df,Bh,BX] at h;rcases h with⟨v,hv,rfl⟩|⟨v,hv,rfl⟩<;>rcases Bh.1 hx with e|e
  ·exact nE n v hv x e
  ·exact .inl (MV.1 e)
  ·exact nE n v hv x e
  ·exact .inr (MV.1 e)
theorem zB:∀(X:List X4)(ws:List Int),(∀x∈ws,x=0\/x=1)->jb X ws=dw X ws
 |[],_,_=>rfl
 |_::_,[],_=>rfl
 |r::X,w::ws,h=>by
  show p3 r w++jb X ws=BA r w++dw X ws;rw[zB X ws λx hx=>h x (rk _ hx),p3,bh (by have:=h w wo;omega)]
noncomputable def y'(n:Nat):List Int:=List.replicate n 2
noncomputable def one(n i:Nat)(u:Int):List Int:=(y' n).set i u
noncomputable def tw(X:List X4):Int:=sumF (λi=>(R3 X (one X.length i 0):Int)-R3 X (one X.length i 1)) (List.range X.length)
noncomputable def st(X:List X4):Nat:=R3 X (y' X.length)
theorem bL(n:Nat):(y' n).length=n:=by simp[y']
theorem dJ(n i:Nat)(u:Int):(one n i u).length=n:=by simp[one,y']
theorem cF(n:Nat):y' (n+1)=y' n++[2]:=by simp[y',List.replicate_succ']
theorem fC(u:Int)(h:i<n):one (n+1) i u=one n i u++[2]:=by
 unfold one;rw[cF,List.set_append_left _ _ (by simpa[y'] using h)]
theorem iN(n:Nat)(u:Int):one (n+1) n u=y' n++[u]:=by
 unfold one;rw[cF,List.set_append_right _ _ (by simp[y'])];simp[y']
theorem EI(X:List X4)(g:Nat)(i:Int):zv X g i=sumF (λw=>zu (g+R3 X w) (mono (X.length-2*w.sum)) i) (df X.length):=
 aG λw hw=>by rw[R3,zB X w (nE _ w hw)]
theorem fG(c:Int)(f:α->Int):∀l:List α,sumF (λx=>c*f x) l=c*sumF f l
 |[]=>by simp[sumF]
 |x::l=>by rw[aR,aR,fG c f l,Int.mul_add]
theorem gG(n:Nat)(f:List Int->Int):sumF f (df (n+1))=sumF (λw=>f (w++[0])+f (w++[1])) (df n):=by
 rw[df,b9,bU,bU,jJ]
theorem nI(n:Nat)(s i:Int):zu (n+1) (mono s) i= -zu n (mono (s+2)) i-zu n (mono (s-2)) i:=by
 show tr (zu n (mono s)) i=_;rw[jK s 2,show s-2=s+ -2 from rfl,jK s (-2),iG,iG];rfl
theorem iO(n:Nat)(s k i:Int):zu n (mono (s+k)) i=zu n (mono s) (i-k):=by rw[jK,iG];rfl
def G1(X Y:List X4)(e:Int):Prop:=Y.length=X.length+1/\∀ws:List Int,ws.length=X.length->∀u:Int,u=0\/u=1\/u=2->R3 Y (ws++[u])=(if u=e then 1 else 0)+R3 X ws
theorem G1.st(h:G1 X Y e)(he:e=0\/e=1):Py.st Y=Py.st X:=by
 unfold Py.st;rw[h.1,cF,h.2 _ (bL _) 2 (by simp),bh (by omega),jr]
theorem G1.tw(h:G1 X Y e)(he:e=0\/e=1):Py.tw Y=Py.tw X+(1-2*e):=by
 unfold Py.tw;rw[h.1,DI,b9]
 congr 1
 ·refine aG λi hi=>?_
  have hi:=DK.1 hi;rw[fC _ hi,fC _ hi,h.2 _ (dJ _ _ _) 2 (by simp),h.2 _ (dJ _ _ _) 2 (by simp),bh (by omega),jr,jr]
 ·rw[aR,jI,iN,iN,h.2 _ (bL _) 0 (by simp),h.2 _ (bL _) 1 (by simp)]
  rcases he with rfl|rfl<;>simp<;>omega
theorem G1.zv(h:G1 X Y e)(he:e=0\/e=1)(g:Nat)(i:Int):Py.zv Y g i= -Py.zv X g (i-3*(1-2*e)):=by
 rw[EI,EI,h.1,gG,show∀x:Int,-x= -1*x from λx=>by omega,←fG];refine aG λw hw=>?_;have l:=cA _ w hw;rw[h.2 w l 0 (by simp),h.2 w l 1 (by simp),List.sum_append,List.sum_append];simp only[List.sum_cons,List.sum_nil];generalize w.sum=s;generalize R3 X w=r;generalize X.length=n;rcases he with rfl|rfl
 ·rw[bg rfl,bh (by decide),show g+(1+r)=g+r+1 by omega,jr,nI,show((n+1:Nat):Int)-2*(s+(0+0))+2=(n-2*s)+3 by omega,iO,show((n+1:Nat):Int)-2*(s+(0+0))-2=((n+1:Nat):Int)-2*(s+(1+0)) by omega,show i-3*(1-2*0)=i-3 by omega]
  omega
 ·rw[bg rfl,bh (by decide),show g+(1+r)=g+r+1 by omega,jr,nI,show((n+1:Nat):Int)-2*(s+(1+0))+2=((n+1:Nat):Int)-2*(s+(0+0)) by omega,show((n+1:Nat):Int)-2*(s+(1+0))-2=(n-2*s)+ -3 by omega,iO,show i-3*(1-2*1)=i- -3 by omega]
  omega
def G2(X Y:List X4)(e f:Int):Prop:=Y.length=X.length+2/\∀ws:List Int,ws.length=X.length->∃E F:Nat,
 (R3 Y (ws++[e,e])=E/\R3 Y (ws++[e,f])=R3 X ws/\R3 Y (ws++[e,2])=F)/\(R3 Y (ws++[f,e])=1+E/\R3 Y (ws++[f,f])=E/\R3 Y (ws++[f,2])=E)/\R3 Y (ws++[2,e])=E/\R3 Y (ws++[2,f])=F/\R3 Y (ws++[2,2])=R3 X ws
theorem G2.st(h:G2 X Y e f):Py.st Y=Py.st X:=by
 obtain⟨_,_,_,_,_,_,q⟩:=h.2 _ (bL X.length);unfold Py.st;rw[h.1,cF,cF,ql];exact q
theorem G2.tw(h:G2 X Y e f)(he:e=0/\f=1\/e=1/\f=0):Py.tw Y=Py.tw X:=by
 unfold Py.tw;rw[h.1,DI,DI,b9,b9,aR,jI,aR,jI];obtain⟨E,F,⟨_,_,a⟩,⟨_,_,b⟩,c,d,_⟩:=h.2 _ (bL X.length);have o:sumF (λi=>(R3 Y (one (X.length+2) i 0):Int)-R3 Y (one (X.length+2) i 1)) (List.range X.length)=sumF (λi=>(R3 X (one X.length i 0):Int)-R3 X (one X.length i 1)) (List.range X.length):=aG λi hi=>by
  have hi:=DK.1 hi;have q:∀u,R3 Y (one (X.length+2) i u)=R3 X (one X.length i u):=λu=>by
   obtain⟨_,_,_,_,_,_,q⟩:=h.2 _ (dJ X.length i u);rw[fC _ (by omega),fC _ hi,ql];exact q
  rw[q,q]
 have n1:∀u,one (X.length+2) X.length u=y' X.length++[u,2]:=λu=>by rw[fC _ (by omega),iN,ql];rfl
 have n2:∀u,one (X.length+2) (X.length+1) u=y' X.length++[2,u]:=λu=>by rw[iN,cF,ql];rfl
 rw[o,n1,n1,n2,n2];rcases he with⟨rfl,rfl⟩|⟨rfl,rfl⟩<;>omega
theorem G2.zv(h:G2 X Y e f)(he:e=0/\f=1\/e=1/\f=0)(g:Nat)(i:Int):Py.zv Y g i=Py.zv X g i:=by
 rw[EI,EI,h.1,gG,gG];refine aG λw hw=>?_;have l:=cA _ w hw;obtain⟨E,F,⟨a,b,_⟩,⟨c,d,_⟩,_⟩:=h.2 w l;have k:∀u v:Int,w++[u]++[v]=w++[u,v]:=λu v=>by simp
 have s2:∀u v:Int,(w++[u,v]).sum=w.sum+(u+v):=λu v=>by simp
 simp only[k,s2];generalize w.sum=s;generalize R3 X w=r,X.length=n at*;have t:=nI (g+E) (n-2*s) i;have q1:((n+2:Nat):Int)-2*(s+(0+0))=n-2*s+2:=by omega
 have q2:((n+2:Nat):Int)-2*(s+(0+1))=n-2*s:=by omega
 have q3:((n+2:Nat):Int)-2*(s+(1+0))=n-2*s:=by omega
 have q4:((n+2:Nat):Int)-2*(s+(1+1))=n-2*s-2:=by omega
 have q5:g+(1+E)=g+E+1:=by omega
 rcases he with⟨rfl,rfl⟩|⟨rfl,rfl⟩<;>rw[q1,q2,q3,q4,a,b,c,d,q5]<;>omega
noncomputable def jw(kept new loop:Int)(w:Nat):List Int:=if w=0 then[loop,loop,kept,new] else if w=1 then[kept,loop,loop,new] else if w=2 then[loop,loop,new,kept] else[new,loop,loop,kept]
theorem gH(a b c:Int)(w:Nat):(jw a b c w).length=4:=by
 unfold jw;split
 ·rfl
 split
 ·rfl
 split<;>rfl
noncomputable def BS(s0 s1 l x f:Int)(w:Nat):List (List Int):=if w<2 then[[l,f,f+1,s0],[f+1,f,x,s1]] else[[l,s0,f+1,f],[f+1,s1,x,f]]
noncomputable def BG(u N:Int)(w:Nat):Int:=if w%2=0 then u else N
noncomputable def BH(u N:Int)(w:Nat):Int:=if w%2=0 then N else u
theorem zC(s0 s1 l x f:Int)(w:Nat):∀r∈BS s0 s1 l x f w,r.length=4:=by
 intro r hr;unfold BS at hr;split at hr<;>simp at hr<;>rcases hr with rfl|rfl<;>rfl
theorem tV(s0 s1 l x f:Int)(w:Nat):(BS s0 s1 l x f w).length=2:=by
 unfold BS;split<;>rfl
theorem dA(he:e<4):∀{Q:List (List Int)}{k:Nat},(∀r∈Q,r.length=4)->k<Q.length->(dn Q (k,e) v).flatten=Q.flatten.set (4*k+e) v/\Q.flatten[4*k+e]?=some (ay Q (k,e))
 |[],k,_,hk=>by simp at hk
 |r::Q,0,h4,_=>by
  have hr:=h4 r wo;refine⟨?_,?_⟩
  ·show r.set e v++Q.flatten=(r++Q.flatten).set (4*0+e) v
   rw[List.set_append,bg (by omega),show 4*0+e=e by omega]
  ·show(r++Q.flatten)[4*0+e]?=some (r.getD e 0)
   rw[DF (by omega),show 4*0+e=e by omega];simp[show e<r.length by omega]
 |r::Q,k+1,h4,hk=>by
  have hr:=h4 r wo;obtain⟨i1,i2⟩:=dA he (Q:=Q) (k:=k) (λx hx=>h4 x (rk _ hx)) (by simpa using hk);refine⟨?_,?_⟩
  ·show r++(dn Q (k,e) v).flatten=(r++Q.flatten).set (4*(k+1)+e) v
   rw[List.set_append,bh (by omega),i1,show 4*(k+1)+e-r.length=4*k+e by omega]
  ·show(r++Q.flatten)[4*(k+1)+e]?=some (ay Q (k,e))
   rw[DE (by omega),show 4*(k+1)+e-r.length=4*k+e by omega,i2]
theorem pQ(t:BD W N)(h:(N:Int)<=v):W.count v=0:=Dn.2 λhm=>by have:=t.js v hm;omega
theorem fH:∀{o:List Int}{i:Nat}{x z:Int},o[i]?=some z->(z::o.set i x).Perm (x::o)
 |a::o,0,x,z,h=>by cases h;exact .swap _ _ _
 |a::o,i+1,x,z,h=>(List.Perm.swap _ _ _).trans (((fH (o:=o) h).cons a).trans (.swap _ _ _))
theorem fI(t:BD W N)(h:W'.Perm ([(N:Int),N,N+1,N+1]++W)):BD W' (N+2):=by
 refine⟨λv hv=>?_,λv hv=>?_⟩
 ·rcases Bh.1 (h.mem_iff.1 hv) with c|c
  ·simp only[qf,BW,BY] at c
   omega
  ·have:=t.js v c;omega
 ·rw[h.count_eq,Dp]
  rcases(by omega:v<N\/v=N\/v=N+1) with c|rfl|rfl
  ·rw[t.cnt v c,Dn.2 (by simp only[qf,BW,BY];omega)]
  ·rw[pQ t (by omega),MT,MT,Dn.2 (by simp only[qf,BW,BY];omega)]
  ·have e:((N:Nat):Int)≠((N+1:Nat):Int):=by omega
   rw[pQ t (by omega),List.count_cons_of_ne e,List.count_cons_of_ne e,Int.natCast_add];show List.count ((N:Int)+1) [(N:Int)+1,(N:Int)+1]+0=2;rw[MT,MT];rfl
theorem zD(h4:∀r∈Q,r.length=4)(t:BD Q.flatten N)(hp:pl.1<Q.length/\pl.2<4)(hx:ay Q pl=x):BD (dn Q pl (N:Nat)++[jw x (N:Nat) ((N:Nat)+1) w]).flatten (N+2):=by
 obtain⟨a,b⟩:=pl;obtain⟨s1,s2⟩:=dA (v:=(N:Nat)) hp.2 h4 hp.1;rw[hx] at s2;have c:(jw x (N:Nat) ((N:Nat)+1) w).Perm [x,N,N+1,N+1]:=by
  unfold jw;generalize ((N:Nat):Int)=n;generalize n+1=q;split
  ·exact za (l₁:=[q,q])
  split
  ·exact(za (l₁:=[q,q]) (l₂:=[n])).cons x
  split
  ·exact(za (l₁:=[q,q]) (l₂:=[n,x])).trans (.swap _ _ _)
  ·exact(za (l₁:=[n,q,q]) (l₂:=[x]))
 refine fI t ?_;rw[DG,Cm,List.flatten_nil,A_,s1];exact(c.append_left _).trans ((List.perm_middle.trans ((fH s2).append_right _)).trans za|>.trans List.perm_middle)
theorem zE(h4:∀r∈Q,r.length=4)(t:BD Q.flatten N)(hu:pu.1<Q.length/\pu.2<4)(hl:pl.1<Q.length/\pl.2<4)(hn:pl≠pu)(eu:ay Q pu=u)(el:ay Q pl=l):BD (dn (dn Q pu (N:Nat)) pl ((N:Nat)+1)++BS (BG u (N:Nat) w) (BH u (N:Nat) w) l ((N:Nat)+1) ((N:Nat)+2) w).flatten (N+4):=by
 obtain⟨a,b⟩:=pu;obtain⟨c,d⟩:=pl;obtain⟨s1,s2⟩:=dA (v:=(N:Nat)) hu.2 h4 hu.1;obtain⟨q1,_⟩:=dA (v:=((N:Nat):Int)+1) hl.2 (aE (p:=(a,b)) (v:=(N:Nat)) h4) (k:=c) (by rw[aH];exact hl.1);obtain⟨_,q2⟩:=dA (v:=(N:Nat)) hl.2 h4 hl.1;rw[eu] at s2;rw[el] at q2;have vd:4*a+b≠4*c+d:=λe=>hn (by
  have h1:b<4:=hu.2;have h2:d<4:=hl.2;have:a=c/\b=d:=by omega
  rw[this.1,this.2])
 have o:(BS (BG u (N:Nat) w) (BH u (N:Nat) w) l ((N:Nat)+1) ((N:Nat)+2) w).flatten.Perm (l::u::[(N:Int),N+1,N+2,N+2,N+2+1,N+2+1]):=by
  unfold BS BG BH;generalize ((N:Nat):Int)=n;generalize n+2+1=r;generalize n+2=q;generalize n+1=p;refine List.perm_iff_count.2 λz=>?_;split<;>split<;>· simp only[Cm,List.flatten_nil,A_,E0,Bg,Ax];generalize (if(l==z)=true then 1 else 0)=a1;generalize (if(u==z)=true then 1 else 0)=a2;generalize (if(n==z)=true then 1 else 0)=a3;generalize (if(p==z)=true then 1 else 0)=a4;generalize (if(q==z)=true then 1 else 0)=a5;generalize (if(r==z)=true then 1 else 0)=a6;omega
 refine fI (N:=N+2) (W:=[(N:Int),N,N+1,N+1]++Q.flatten) (fI t (.refl _)) ?_;rw[DG,q1,s1];have g:=fH (x:=((N:Nat):Int)+1) (show(Q.flatten.set (4*a+b) (N:Nat))[4*c+d]?=some l by rw[x_ vd];exact q2);have f:=fH (x:=((N:Nat):Int)) s2;generalize Q.flatten=W at*;generalize (W.set (4*a+b) (N:Nat))=V at*;generalize V.set (4*c+d) ((N:Nat)+1)=U at*;refine(o.append_left U).trans (List.perm_middle.trans ((g.append_right _).trans ((List.perm_middle.cons _).trans (((f.append_right _).cons _).trans ?_))));rw[show((N+2:Nat):Int)=N+2 by omega];generalize ((N:Nat):Int)=n;generalize n+2+1=r;generalize n+2=q;generalize n+1=p;refine List.perm_iff_count.2 λz=>?_;simp only[E0,Bg,Dp,Ax,List.count_nil];generalize (if(n==z)=true then 1 else 0)=a3;generalize (if(p==z)=true then 1 else 0)=a4;generalize (if(q==z)=true then 1 else 0)=a5;generalize (if(r==z)=true then 1 else 0)=a6;omega
theorem kA{R:List (List Int)}(hl:R.length=m)(h4:∀r∈R,r.length=4)(t:BD R.flatten (2*m)):bc (dz R) m:=⟨by rw[cE,hl],gD h4,tN t⟩
theorem aN(h:bw Q x≠[]):ay Q (aw Q x)=x:=by
 have:aw Q x∈bw Q x:=by
  rw[aw,EC]
  cases e:bw Q x with
  |nil=>exact absurd e h
  |cons a l=>
   rw[List.getLastD_cons]
   cases l with
   |nil=>simp
   |cons b l=>rw[List.getLastD_cons,List.getLastD_eq_getLast?];cases e:l.getLast? with
    |none=>simp
    |some y=>simp;exact .inr (.inr (List.mem_of_getLast? e))
 exact(e8 this).2.2
noncomputable def nk(Q:List (List Int))(u l:Int)(w:Nat):List (List Int):=dn (dn Q (aw Q u) (2*Q.length:Nat)) (aw Q l) ((2*Q.length:Nat)+1)++BS (BG u (2*Q.length:Nat) w) (BH u (2*Q.length:Nat) w) l ((2*Q.length:Nat)+1) ((2*Q.length:Nat)+2) w
theorem gI(h4:∀r∈Q,r.length=4):∀r∈nk Q u l w,r.length=4:=by
 intro r hr;rcases List.mem_append.mp hr with h|h
 ·exact aE (aE h4) r h
 ·exact zC _ _ _ _ _ _ r h
theorem kB(Q:List (List Int))(u l:Int)(w:Nat):(nk Q u l w).length=Q.length+2:=by
 rw[nk,vm,aH,aH,tV]
noncomputable def yk(Q:List (List Int))(x:Int)(w:Nat):List (List Int):=dn Q (aw Q x) (2*Q.length:Nat)++[jw x (2*Q.length:Nat) ((2*Q.length:Nat)+1) w]
theorem l8(h4:∀r∈Q,r.length=4):∀r∈yk Q x w,r.length=4:=by
 intro r hr;rcases List.mem_append.mp hr with h|h
 ·exact aE h4 r h
 ·simp only[qf,BW,BY] at h
  subst h;exact gH _ _ _ _
theorem pR(Q:List (List Int))(x:Int)(w:Nat):(yk Q x w).length=Q.length+1:=by
 rw[yk,vm,aH];rfl
theorem bc.yk(s:bc Q m){x:Int}(hx:0<=x/\x<(2*m:Nat)):bc (dz (yk Q x w)) (m+1):=by
 have h:=s.in_of hx;have t:BD (Py.yk Q x w).flatten (2*(m+1)):=by
  unfold Py.yk;rw[s.len];exact zD s.four s.two (aY h) (aN h)
 exact kA (by rw[pR,s.len]) (l8 s.four) t
theorem bc.laid(s:bc Q m){u l:Int}(hu:0<=u/\u<(2*m:Nat))(hl:0<=l/\l<(2*m:Nat))(hn:l≠u):bc (dz (nk Q u l w)) (m+2):=by
 have h:=s.in_of hu;have k:=s.in_of hl;have ne:aw Q l≠aw Q u:=λe=>hn (by rw[←aN h,←aN k,e]);have t:BD (nk Q u l w).flatten (2*(m+2)):=by
  unfold nk;rw[s.len];exact zE s.four s.two (aY h) (aY k) ne (aN h) (aN k)
 exact kA (by rw[kB,s.len]) (gI s.four) t
theorem kC(h1:p.1<Q.length)(h2:(Q.getD p.1 [])[p.2]?=some a)(hv:v∉Q.flatten):(dn Q p v).map (λr=>r.map (sb a v))=Q:=by
 have Us:∀r∈Q,r.map (sb a v)=r:=λr hr=>by
  refine(Ae λx hx=>?_).trans (List.map_id r);unfold sb;rw[bh λe:x=v=>hv (e▸List.mem_flatten.2 ⟨r,hr,hx⟩)];rfl
 have hr:Q.getD p.1 []=Q[p.1]:=by simp[h1]
 rw[hr] at h2;obtain⟨hi,hz⟩:=List.getElem?_eq_some_iff.1 h2;have hs:Q[p.1].set p.2 a=Q[p.1]:=by rw[←hz];exact List.set_getElem_self ..
 unfold dn;rw[hr,List.map_set,List.map_set,Us _ (xk h1),show sb a v v=a from bg rfl,hs,(Ae λr h=>Us r h:Q.map (λr=>r.map (sb a v))=Q.map id),List.map_id,List.set_getElem_self]
theorem bF:∀{R:List (List Int)}{ws:List Int}{x:Int},(∀r∈R,r.length=4)->x∈names (jb (R.map x4) ws)->x∈R.flatten
 |[],_,x,_,h=>by simp[jb,names] at h
 |_::_,[],x,_,h=>by simp[jb,names] at h
 |r::R,w::ws,x,h4,h=>by
  have h':x∈names (p3 (x4 r) w)\/x∈names (jb (R.map x4) ws):=by simpa[jb,names,Js] using h
  rw[Cm,Bh];rcases h' with h|h
  ·left
   obtain⟨a,b,c,d,rfl⟩:=lh (h4 r wo);unfold p3 BA at h;split at h
   ·simp[names,x4] at h;simp;grind
   split at h<;>· simp[names,x4] at h;simp;grind
  ·exact .inr (bF (λr hr=>h4 r (rk _ hr)) h)
theorem rO{R:List (List Int)}(h:∀r∈R,r.length=4)(ws:List Int):R3 ((dz R).map x4) ws=R3 (R.map x4) ws:=by
 unfold R3 dz;rw[iL _ h,←iM];refine dF _ _ _ rfl λx hx y hy e=>?_;have wa:∀x∈names (jb (R.map x4) ws),x∈dd [] R.flatten:=λx hx=>(a9 _ _ _).mpr (.inr (bF h hx));have e:(dd [] R.flatten).idxOf x=(dd [] R.flatten).idxOf y:=by omega
 rw[←Fh (List.idxOf_lt_length_iff.mpr (wa x hx)),←Fh (List.idxOf_lt_length_iff.mpr (wa y hy))];simp only[e]
theorem zF(e1 e2:Int×Int)(h1:e1=(a,q)\/e1=(q,a))(h2:e2=(q,n)\/e2=(n,q))(ha:q≠a)(hb:q≠n)(hL:q∉names L):ah (e1::e2::L)=0+ah ((a,n)::L)/\ah (e2::e1::L)=0+ah ((a,n)::L):=by
 rw[jr];exact⟨Mj e1 e2 (.refl _) h1 h2 ha hb hL,Mj e1 e2 (.swap _ _ _) h1 h2 ha hb hL⟩
theorem kD(hw:w<4)(hu:u=0\/u=1\/u=2)(h1:q≠a)(h2:q≠n)(hq:q∉names L):ah (p3 (x4 (jw a n q w)) u++L)=(if u=((w%2:Nat):Int) then 1 else 0)+ah ((a,n)::L):=by
 have r:=bW q ((a,n)::L);rcases(by omega:w=0\/w=1\/w=2\/w=3) with rfl|rfl|rfl|rfl<;>rcases hu with rfl|rfl|rfl<;>
  first
  |exact r
  |exact(zF _ _ (by first|exact .inl rfl|exact .inr rfl) (by first|exact .inl rfl|exact .inr rfl) h1 h2 hq).1
  |exact(zF _ _ (by first|exact .inl rfl|exact .inr rfl) (by first|exact .inl rfl|exact .inr rfl) h1 h2 hq).2
  |exact(cQ _ _ _ _ _).trans r
  |exact(aW _ _ _).trans ((cQ _ _ _ _ _).trans r)
  |exact(cQ _ _ _ _ _).trans ((bW _ _).trans (congrArg _ (aW _ _ _)))
  |exact(bW _ _).trans (congrArg _ (aW _ _ _))
theorem nJ(h4:∀r∈Q,r.length=4)(h:p.1<Q.length/\p.2<4):(Q.getD p.1 [])[p.2]?=some (ay Q p):=by
 have hr:Q.getD p.1 []=Q[p.1]:=by simp[h.1]
 have:=h4 _ (xk h.1);unfold ay;rw[hr,Ai (by omega)];simp[show p.2<Q[p.1].length by omega]
theorem nK{R Q:List (List Int)}(h4:∀r∈R,r.length=4)(e:R.map (λr=>r.map (sb a v))=Q)(ws:List Int):(jb (R.map x4) ws).map (yg a v)=jb (Q.map x4) ws:=by
 rw[←e,iL _ h4,←iM];rfl
theorem bc.Jg(s:bc Q m)(h:((2*m:Nat):Int)<=v):v∉Q.flatten:=λhm=>by have:=s.two.js v hm;omega
theorem iP(h:x∉Q.flatten)(hx:x≠v):x∉(dn Q p v).flatten:=λhm=>by
 obtain⟨r,hr,C4⟩:=List.mem_flatten.1 hm;rcases List.mem_or_eq_of_mem_set hr with hr|rfl
 ·exact h (List.mem_flatten.2 ⟨r,hr,C4⟩)
 ·rcases List.mem_or_eq_of_mem_set C4 with k|k
  ·by_cases hp:p.1<Q.length
   ·rw[show Q.getD p.1 []=Q[p.1] by simp[hp]] at k
    exact h (List.mem_flatten.2 ⟨_,xk hp,k⟩)
   ·rw[show Q.getD p.1 []=[] by simp[Nat.not_lt.1 hp]] at k;simp at k
  ·exact hx k
theorem bc.g1(s:bc Q m){x:Int}(hx:0<=x/\x<(2*m:Nat))(hw:w<4):G1 (Q.map x4) ((dz (Py.yk Q x w)).map x4) ((w%2:Nat):Int):=by
 have hi:=s.in_of hx;have hp:=aY hi;have hl:=aN hi;refine⟨by simp[cE,pR],λws HG u hu=>?_⟩;rw[gh] at HG;have f4:=aE (p:=aw Q x) (v:=(2*Q.length:Nat)) s.four;rw[rO (l8 s.four)];unfold Py.yk R3;rw[wj,nD _ _ (by rw[gh,aH,HG]),aS za];show ah ((p3 (x4 (jw x _ _ w)) u++[])++_)=_;rw[A_,kD hw hu (by rw[s.len];omega) (by omega) λh=>iP (s.Jg (by rw[s.len];omega)) (by omega) (bF f4 h),aD,bh (show¬x=((2*Q.length:Nat):Int) by rw[s.len];omega),jr,
  nK f4 (kC hp.1 (by rw[nJ s.four hp,hl]) (s.Jg (by rw[s.len];omega)))]
theorem Dg(A:List (Int×Int))(b c:Int)(L:List (Int×Int)):ah (A++(b,c)::L)=ah (A++(c,b)::L):=by
 rw[aS List.perm_middle,aW,←aS List.perm_middle]
theorem PU(a d:Int×Int)(b c e f:Int)(L:List (Int×Int)):ah (a::(b,c)::d::(e,f)::L)=ah (a::(c,b)::d::(f,e)::L):=(Dg [a] b c _).trans (Dg [a,(c,b),d] e f L)
theorem bc.g2(s:bc Q m){u l:Int}(hu:0<=u/\u<(2*m:Nat))(hl:0<=l/\l<(2*m:Nat))(hn:l≠u):∃e f:Int,(e=0/\f=1\/e=1/\f=0)/\G2 (Q.map x4) ((dz (nk Q u l w)).map x4) e f:=by
 have iu:=s.in_of hu;have il:=s.in_of hl;have pu:=aY iu;have pl:=aY il;have lu:=aN iu;have ll:=aN il;have ne:aw Q l≠aw Q u:=λe=>hn (by rw[←lu,←ll,e]);have Jg:∀v:Int,((2*m:Nat):Int)<=v->v∉Q.flatten:=λv h=>s.Jg h;have hN:2*Q.length=2*m:=by rw[s.len]
 have f4:=aE (p:=aw Q u) (v:=(2*m:Nat)) s.four;have g4:=aE (p:=aw Q l) (v:=((2*m:Nat):Int)+1) f4;have b1:=kC (v:=((2*m:Nat):Int)) pu.1 (by rw[nJ s.four pu,lu]) (Jg _ (Int.le_refl _));have b2:=kC (Q:=dn Q (aw Q u) (2*m:Nat)) (p:=aw Q l) (v:=((2*m:Nat):Int)+1) (a:=l) (by rw[aH];exact pl.1) (by
  unfold dn;by_cases h:(aw Q l).1=(aw Q u).1
  ·have h2:(aw Q u).2≠(aw Q l).2:=λe=>ne (Prod.ext h e.symm)
   rw[h,show(Q.set (aw Q u).1 ((Q.getD (aw Q u).1 []).set (aw Q u).2 ((2*m:Nat):Int))).getD (aw Q u).1 []=(Q.getD (aw Q u).1 []).set (aw Q u).2 ((2*m:Nat):Int) by simp[pu.1],x_ h2,←h,nJ s.four pl,ll]
  ·rw[show(Q.set (aw Q u).1 ((Q.getD (aw Q u).1 []).set (aw Q u).2 ((2*m:Nat):Int))).getD (aw Q l).1 []=Q.getD (aw Q l).1 [] by simp[x_ (λe=>h e.symm)],nJ s.four pl,ll]) (iP (Jg _ (by omega)) (by omega))
 have key:∀ws:List Int,ws.length=(Q.map x4).length->∀i j,R3 ((dz (nk Q u l w)).map x4) (ws++[i,j])=ah (jb ((BS (BG u (2*m:Nat) w) (BH u (2*m:Nat) w) l ((2*m:Nat)+1) ((2*m:Nat)+2) w).map x4) [i,j]++jb ((dn (dn Q (aw Q u) (2*m:Nat)) (aw Q l) ((2*m:Nat)+1)).map x4) ws):=λws HG i j=>by
  rw[gh] at HG;rw[rO (gI s.four)];unfold nk R3;rw[hN,wj,nD _ _ (by rw[gh,aH,aH,HG]),aS za]
 have old:∀ws,ah ((l,((2*m:Nat):Int)+1)::(BG u (2*m:Nat) w,BH u (2*m:Nat) w)::jb ((dn (dn Q (aw Q u) (2*m:Nat)) (aw Q l) ((2*m:Nat)+1)).map x4) ws)=R3 (Q.map x4) ws:=λws=>by
  have q:ah ((l,((2*m:Nat):Int)+1)::(u,((2*m:Nat):Int))::jb ((dn (dn Q (aw Q u) (2*m:Nat)) (aw Q l) ((2*m:Nat)+1)).map x4) ws)=R3 (Q.map x4) ws:=by
   rw[aD,bh (by omega),jr,j_,nK g4 b2];simp only[yg,sb,bh (show¬u=((2*m:Nat):Int)+1 by omega),bh (show¬((2*m:Nat):Int)=((2*m:Nat):Int)+1 by omega)];rw[aD,bh (by omega),jr,nK f4 b1];rfl
  unfold BG BH;split
  ·exact q
  ·exact(Dg [_] _ _ _).trans q
 have fr:∀ws v,((2*m:Nat):Int)+2<=v->v∉names (jb ((dn (dn Q (aw Q u) (2*m:Nat)) (aw Q l) ((2*m:Nat)+1)).map x4) ws):=λws v hv h=>iP (iP (Jg v (by omega)) (by omega)) (by omega) (bF g4 h);have sd:(BG u (2*m:Nat) w=u\/BG u (2*m:Nat) w=(2*m:Nat))/\(BH u (2*m:Nat) w=u\/BH u (2*m:Nat) w=(2*m:Nat)):=by unfold BG BH;split<;>simp
 have R:=λws=>SV (l:=l) (m:=((2*m:Nat):Int)+1) (x:=BG u (2*m:Nat) w) (y:=BH u (2*m:Nat) w) (p:=((2*m:Nat):Int)+2) (q:=((2*m:Nat):Int)+2+1) (L:=jb ((dn (dn Q (aw Q u) (2*m:Nat)) (aw Q l) ((2*m:Nat)+1)).map x4) ws) (by omega) (by omega) (fr ws _ (by omega)) (fr ws _ (by omega));have di:((dz (nk Q u l w)).map x4).length=(Q.map x4).length+2:=by simp[cE,kB]
 by_cases h:w<2
 ·refine⟨0,1,.inl ⟨rfl,rfl⟩,di,λws HG=>?_⟩
  obtain⟨⟨a,b,c⟩,⟨d,e,f⟩,g,i,j⟩:=R ws;have o:=old ws;have k:=key ws HG;unfold BS at k;rw[bg h] at k;exact⟨_,_,⟨(k 0 0).trans a,(k 0 1).trans (b.trans o),(k 0 2).trans c⟩,⟨(k 1 0).trans d,(k 1 1).trans e,(k 1 2).trans f⟩,(k 2 0).trans g,(k 2 1).trans i,(k 2 2).trans (j.trans o)⟩
 ·refine⟨1,0,.inr ⟨rfl,rfl⟩,di,λws HG=>?_⟩
  obtain⟨⟨a,b,c⟩,⟨d,e,f⟩,g,i,j⟩:=R ws;have o:=old ws;have k:=key ws HG;unfold BS at k;rw[bh h] at k;have z:=PU;exact⟨_,_,⟨(k 1 1).trans ((z ..).trans a),(k 1 0).trans ((z ..).trans (b.trans o)),(k 1 2).trans ((z ..).trans c)⟩,⟨(k 0 1).trans ((z ..).trans d),(k 0 0).trans ((z ..).trans e),(k 0 2).trans ((z ..).trans f)⟩,(k 2 1).trans ((z ..).trans g),(k 2 0).trans ((z ..).trans i),(k 2 2).trans ((z ..).trans (j.trans o))⟩
noncomputable def ox(v:Nat×Nat):Nat×Nat:=(v.1,v.2%2)
noncomputable def A7(Q:List (List Int))(k:Nat×Nat):Int×Int:=(ay Q k,ay Q (k.1,k.2+2))
theorem l9(v:Nat×Nat):ox (fe v)=ox v:=by unfold ox fe;ext<;>dsimp;omega
theorem zG(hu:lr m u)(hv:lr m v)(h:ox u=ox v):u=v\/u=fe v:=by
 obtain⟨a,b⟩:=u;obtain⟨c,d⟩:=v;have h1:a=c:=congrArg Prod.fst h;have h2:b%2=d%2:=congrArg Prod.snd h;have hb:b<4:=hu.2;have hd:d<4:=hv.2;rcases(by omega:b=d\/b=(d+2)%4) with e|e
 ·exact .inl (by rw[h1,e])
 ·exact .inr (by rw[h1,e];rfl)
theorem Mm(h:lr m v):A7 Q (ox v)=(ay Q v,ay Q (fe v))\/A7 Q (ox v)=(ay Q (fe v),ay Q v):=by
 obtain⟨a,b⟩:=v;have hb:b<4:=h.2;rcases(by omega:b=0\/b=1\/b=2\/b=3) with rfl|rfl|rfl|rfl
 ·exact .inl rfl
 ·exact .inl rfl
 ·exact .inr (by simp[A7,ox,fe])
 ·exact .inr (by simp[A7,ox,fe])
def Q3(m:Nat)(L:List (Nat×Nat)):Prop:=∀k∈L,k.1<m/\k.2<2
theorem zH(h:Q3 m L)(ha:a∈names (L.map (A7 Q))):∃v,lr m v/\ox v∈L/\ay Q v=a:=by
 simp only[names,Fj,BX,qf,BW,BY] at ha;obtain⟨_,⟨k,hk,rfl⟩,e⟩:=ha;have h1:=h k hk;rcases e with e|e
 ·exact⟨k,⟨h1.1,by omega⟩,by rwa[show ox k=k from Prod.ext rfl (Nat.mod_eq_of_lt h1.2)],e.symm⟩
 ·exact⟨(k.1,k.2+2),⟨h1.1,by show k.2+2<4;omega⟩,by rwa[show ox (k.1,k.2+2)=k from Prod.ext rfl (by show(k.2+2)%2=k.2;omega)],e.symm⟩
theorem Mn:a∈names (A++B)↔a∈names A\/a∈names B:=by simp[names,Js]
structure E9(Q:List (List Int))(m:Nat)(L0 L:List (Nat×Nat))(s0 w:Nat×Nat):Prop where
 sub:∀k∈L,k∈L0
 nd:L.Nodup
 ok:lr m w
 i1:ox (gf Q w)∉L
 i2:gf Q w=s0\/ox (gf Q w)∈L0
 c:∀v,lr m v->ox v∈L0->ox v∉L->gf Q v=s0\/(ox (gf Q v)∈L0/\ox (gf Q v)∉L)\/gf Q v=w
 i4:ox w∈L0->ox w∈L
section
variable{Q:List (List Int)}{m:Nat}(s:bc Q m){L0 L:List (Nat×Nat)}{s0 w:Nat×Nat}(hs:ox s0∉L0)
include s hs
theorem E9.step(F:E9 Q m L0 L s0 w)(h:ox w∈L):E9 Q m L0 (L.erase (ox w)) s0 (DA Q w):=by
 have oo:=bI F.ok;have mm:gf Q (DA Q w)=fe w:=s.l_ oo;have me:∀k,k∈L.erase (ox w)↔k≠ox w/\k∈L:=λk=>F.nd.mem_erase_iff;refine⟨λk hk=>F.sub k ((me k).1 hk).2,F.nd.erase _,s.BE F.ok,?_,.inr ?_,λv hv h0 h1=>?_,λh0=>?_⟩
 ·rw[mm,l9,me];exact λz=>z.1 rfl
 ·rw[mm,l9];exact F.sub _ h
 ·by_cases e:ox v=ox w
  ·rcases zG hv F.ok e with rfl|rfl
   ·rcases F.i2 with q|q
    ·exact .inl q
    ·exact .inr (.inl ⟨q,λz=>F.i1 ((me _).1 z).2⟩)
   ·exact .inr (.inr rfl)
  ·rcases F.c v hv h0 (λz=>h1 ((me _).2 ⟨e,z⟩)) with q|q|q
   ·exact .inl q
   ·exact .inr (.inl ⟨q.1,λz=>q.2 ((me _).1 z).2⟩)
   ·rw[q];exact .inr (.inl ⟨F.sub _ h,λz=>((me _).1 z).1 rfl⟩)
 ·refine(me _).2 ⟨λe=>?_,Ie λz=>?_⟩
  ·rcases zG (s.BE F.ok) F.ok e with q|q
   ·have:=F.i1
    rw[show gf Q w=fe w by rw[←mm,q],l9] at this;exact this h
   ·exact s.y_ oo q
  ·rcases F.c _ (s.BE F.ok) h0 z with q|q|q
   ·rw[mm] at q;exact hs (by rw[←q,l9];exact F.sub _ h)
   ·rw[mm,l9] at q;exact q.2 h
   ·rw[mm] at q;exact rG F.ok q
def Mo(Q:List (List Int))(m:Nat)(L0:List (Nat×Nat))(s0:Nat×Nat)(x:Int)(M:List (Int×Int)):Prop:=∀n,n=x\/n∈names M->∃v,lr m v/\ox v∉L0/\v≠s0/\ay Q v=n
theorem E9.cut(h0:Q3 m L0)(F:E9 Q m L0 L s0 w)(h:ox w∈L)(o:Mo Q m L0 s0 x M):ah ((x,ay Q w)::(M++L.map (A7 Q)))=ah ((x,ay Q (DA Q w))::(M++(L.erase (ox w)).map (A7 Q))):=by
 have oo:=bI F.ok;have hb:ay Q (DA Q w)=ay Q (fe w):=s.r_ oo;have only:∀v,lr m v->ay Q v=ay Q w->v=w\/v=gf Q w:=λv hv e=>s.om F.ok hv e;have no:∀n,n=x\/n∈names M->ay Q w≠n:=λn hn e=>by
  obtain⟨v,hv,h1,h2,h3⟩:=o n hn;rcases only v hv (h3.trans e.symm) with rfl|q
  ·exact h1 (F.sub _ h)
  ·rcases F.i2 with z|z
   ·exact h2 (q.trans z)
   ·exact h1 (q▸z)
 rw[hb];refine Mj (p:=ay Q w) (a:=x) (b:=ay Q (fe w)) (x,ay Q w) (A7 Q (ox w)) (.cons _ ((Ii M ((List.perm_cons_erase h).map _)).trans List.perm_middle)) (.inl rfl) (Mm F.ok) (no x (.inl rfl)) (λe=>?_) λhm=>?_
 ·rcases only _ oo e.symm with q|q
  ·exact rG F.ok q
  ·exact F.i1 (by rw[←q,l9];exact h)
 ·rcases Mn.1 hm with hm|hm
  ·exact no _ (.inr hm) rfl
  ·obtain⟨v,hv,h1,h2⟩:=zH (λk hk=>h0 k (F.sub k (List.mem_of_mem_erase hk))) hm
   have me:=F.nd.mem_erase_iff.1 h1;rcases only v hv h2 with rfl|rfl
   ·exact me.1 rfl
   ·exact F.i1 me.2
theorem Mp(h0:Q3 m L0):∀(n:Nat)(L:List (Nat×Nat))(w:Nat×Nat),L.length=n->E9 Q m L0 L s0 w->∃t L',(∀j,j<t->ox (gu Q w j)∈L)/\ox (gu Q w t)∉L0/\E9 Q m L0 L' s0 (gu Q w t)/\
  (∀x M,Mo Q m L0 s0 x M->ah ((x,ay Q w)::(M++L.map (A7 Q)))=ah ((x,ay Q (gu Q w t))::(M++L'.map (A7 Q))))/\∀k,k∈L'↔k∈L/\∀j,j<t->k≠ox (gu Q w j):=by
 intro n
 induction n with
 |zero=>exact λL w hn F=>⟨0,L,λj hj=>absurd hj (Jy _),λz=>by have:=F.i4 z;rw[List.length_eq_zero_iff.1 hn] at this;simp at this,F,λ_ _ _=>rfl,λk=>⟨λz=>⟨z,λj hj=>absurd hj (Jy _)⟩,λz=>z.1⟩⟩
 |succ n ih=>
  intro L w hn F;by_cases h:ox w∈L
  ·obtain⟨t,L',a,b,c,d,e⟩:=ih _ _ (by rw[List.length_erase_of_mem h];omega) (F.step s hs h)
   have me:∀k,k∈L.erase (ox w)↔k≠ox w/\k∈L:=λk=>F.nd.mem_erase_iff;refine⟨t+1,L',λj hj=>?_,by rwa[aQ],by rwa[aQ],λx M o=>by rw[F.cut s hs h0 h o,aQ];exact d x M o,λk=>?_⟩
   ·cases j with
    |zero=>exact h
    |succ j=>rw[aQ];exact((me _).1 (a j (by omega))).2
   ·rw[e,me]
    refine⟨λz=>⟨z.1.2,λj hj=>?_⟩,λz=>⟨⟨z.2 0 (by omega),z.1⟩,λj hj=>?_⟩⟩
    ·cases j with
     |zero=>exact z.1.1
     |succ j=>rw[aQ];exact z.2 j (by omega)
    ·have:=z.2 (j+1) (by omega);rwa[aQ] at this
  ·exact⟨0,L,λj hj=>absurd hj (Jy _),λz=>h (F.i4 z),F,λ_ _ _=>rfl,λk=>⟨λz=>⟨z,λj hj=>absurd hj (Jy _)⟩,λz=>z.1⟩⟩
end
noncomputable def two(k:Nat):List (Nat×Nat):=[(k,0),(k,1)]
noncomputable def CN(m i:Nat):List (Nat×Nat):=((List.range m).filter (· ≠i)).flatMap two
theorem nM{L:List Nat}:v∈L.flatMap two↔v.1∈L/\v.2<2:=by
 simp only[Fj,two,qf,BW,BY];refine⟨?_,λ⟨a,b⟩=>⟨v.1,a,?_⟩⟩
 ·rintro⟨k,hk,rfl|rfl⟩
  ·exact⟨hk,Nat.zero_lt_succ _⟩
  ·exact⟨hk,EZ _⟩
 ·rcases(by omega:v.2=0\/v.2=1) with e|e
  ·exact .inl (Prod.ext rfl e)
  ·exact .inr (Prod.ext rfl e)
theorem zI:∀{L:List Nat},L.Nodup->(L.flatMap two).Nodup
 |[],_=>Im
 |k::L,h=>by
  have:=Fl.1 h;have z:∀e,(k,e)∉L.flatMap two:=λe q=>this.1 (nM.1 q).1;rw[Ij];show((k,0)::(k,1)::L.flatMap two).Nodup;refine Fl.2 ⟨λq=>?_,Fl.2 ⟨z 1,zI this.2⟩⟩;rcases qf.1 q with e|e
  ·exact absurd (congrArg Prod.snd e) (by simp)
  ·exact z 0 e
theorem PX{m:Nat}{L:List Nat}:ox v∈L.flatMap two↔v.1∈L:=by
 rw[nM];exact⟨λh=>h.1,λh=>⟨h,Nat.mod_lt _ (by decide)⟩⟩
theorem E9.first(s:bc Q m)(h:lr m s0)(hs:ox s0∉L0)(nd:L0.Nodup):E9 Q m L0 L0 s0 (gf Q s0):=
 ⟨λ_ z=>z,nd,s.yz h,by rw[s.l_ h];exact hs,.inl (s.l_ h),λv _ a b=>absurd a b,λz=>z⟩
theorem Jh(p:Int×Int)(b c:Int)(L:List (Int×Int)):ah (p::(b,c)::L)=ah (p::(c,b)::L):=Dg [p] b c L
theorem bc.Cf(s:bc Q m)(hi:i<m)(r:ED Q m (i,2) c t):
  uo c.2=(ah (p3 (x4 (Q.getD i [])) 0++(CN m i).map (A7 Q)):Int)-ah (p3 (x4 (Q.getD i [])) 1++(CN m i).map (A7 Q)):=by
 have ok:∀e,e<4->lr m (i,e):=λe he=>⟨hi,he⟩
 have o2:=ok 2 (by decide);have out:∀v:Nat×Nat,v.1=i->ox v∉CN m i:=λv e h=>by
  have:=(PX (m:=m)).1 h;simp[e] at this
 have h0:Q3 m (CN m i):=λk hk=>by
  have:=nM.1 hk;simp at this;exact⟨this.1.1,this.2⟩
 obtain⟨t',L',a,b,F,d,e⟩:=Mp s (out (i,2) rfl) h0 _ _ _ rfl (E9.first s o2 (out _ rfl) (zI (List.nodup_range.filter _)));have Ay:∀j,q_ Q (i,2) j=gu Q (gf Q (i,2)) j:=λj=>by
  show gu Q (fe (i,2)) (j+1)=_;rw[aQ,DA,dI o2]
 have Df:(gu Q (gf Q (i,2)) t').1=i:=Ie λh=>b ((PX (m:=m)).2 (by simp[h,F.ok.1]));have r':ED Q m (i,2) (gu Q (gf Q (i,2)) t') t':=⟨Ay t',Df,λj hj h=>by
  rw[Ay] at h;exact out _ h (a j hj)⟩
 have ec:=r.uniq r';have ne:=s.L_ o2 r;rw[←ec] at F d;have cl:c.1=i:=r.Df
 --the row
 have l:∀e,ay Q (i,e)=(Q.getD i []).getD e 0:=λe=>rfl;have O:∀x y z:Nat,x<4->y<4->z<4->x≠2->y≠2->z≠2->Mo Q m (CN m i) (i,2) (ay Q (i,x)) [(ay Q (i,y),ay Q (i,z))]:=λx y z hx hy hz h1 h2 h3 n hn=>by
  have:n=ay Q (i,x)\/n=ay Q (i,y)\/n=ay Q (i,z):=by simpa[names] using hn
  rcases this with rfl|rfl|rfl
  ·exact⟨_,ok x hx,out _ rfl,λz=>h1 (congrArg Prod.snd z),rfl⟩
  ·exact⟨_,ok y hy,out _ rfl,λz=>h2 (congrArg Prod.snd z),rfl⟩
  ·exact⟨_,ok z hz,out _ rfl,λz=>h3 (congrArg Prod.snd z),rfl⟩
 have lm:ay Q (gf Q (i,2))=ay Q (i,2):=s.r_ o2;have n0:ah (p3 (x4 (Q.getD i [])) 0++(CN m i).map (A7 Q))=ah ((ay Q (i,3),ay Q c)::(ay Q (i,0),ay Q (i,1))::L'.map (A7 Q)):=by
  have:=d _ _ (O 3 0 1 (by decide) (by decide) (by decide) (by decide) (by decide) (by decide));rw[lm] at this;refine Eq.trans ?_ this;exact(cQ _ _ _ _ _).trans (aW _ _ _)
 have n1:ah (p3 (x4 (Q.getD i [])) 1++(CN m i).map (A7 Q))=ah ((ay Q (i,1),ay Q c)::(ay Q (i,0),ay Q (i,3))::L'.map (A7 Q)):=by
  have:=d _ _ (O 1 0 3 (by decide) (by decide) (by decide) (by decide) (by decide) (by decide));rw[lm] at this;refine Eq.trans ?_ this;exact cQ _ _ _ _ _
 have hc:∀e,e<4->e≠2->c≠(i,e)->ay Q c≠ay Q (i,e):=λe he h2 h q=>by
  rcases s.om F.ok (ok e he) q.symm with z|z
  ·exact h z.symm
  ·rcases F.i2 with y|y
   ·exact h2 (congrArg Prod.snd (z.trans y))
   ·exact out _ rfl (z▸y)
 have hL:ay Q c∉names (L'.map (A7 Q)):=λh=>by
  obtain⟨v,hv,h1,h2⟩:=zH (λk hk=>h0 k (F.sub k hk)) h;rcases s.om F.ok hv h2 with z|z
  ·exact out c cl (z▸F.sub _ h1)
  ·exact F.i1 (z▸h1)
 rw[n0,n1];obtain⟨c1,c2⟩:=c;dsimp only at cl;subst cl;have c4:c2<4:=F.ok.2;have WV:c2≠2:=λz=>ne (by rw[z]);rcases(by omega:c2=0\/c2=1\/c2=3) with rfl|rfl|rfl
 ·rw[lZ (hc 3 (by decide) (by decide) (by simp)).symm (hc 1 (by decide) (by decide) (by simp)).symm hL,lZ (hc 1 (by decide) (by decide) (by simp)).symm (hc 3 (by decide) (by decide) (by simp)).symm hL,aW]
  simp[uo]
 ·rw[Jh (ay Q (c1,3),ay Q (c1,1)),lZ (hc 3 (by decide) (by decide) (by simp)).symm (hc 0 (by decide) (by decide) (by simp)).symm hL,bW,aW]
  simp[uo];omega
 ·rw[bW,Jh (ay Q (c1,1),ay Q (c1,3)),lZ (hc 1 (by decide) (by decide) (by simp)).symm (hc 0 (by decide) (by decide) (by simp)).symm hL,aW]
  simp[uo]
theorem zJ{α β:Type}{f g:α->List β}{l:List α}(h:∀x∈l,f x=g x):l.flatMap f=l.flatMap g:=by
 rw[List.flatMap_def,List.flatMap_def,Ae h]
theorem zK:∀{Q:List (List Int)}{ws:List Int},ws.length=Q.length->jb (Q.map x4) ws=(List.range Q.length).flatMap λk=>p3 (x4 (Q.getD k [])) (ws.getD k 0)
 |[],[],_=>rfl
 |r::Q,w::ws,h=>by
  rw[ja,List.range_succ_eq_map,Ij,List.flatMap_map];show p3 (x4 r) w++jb (Q.map x4) ws=_;rw[zK (by simpa using h)];rfl
theorem HI(Q:List (List Int))(L:List Nat):(L.flatMap λk=>p3 (x4 (Q.getD k [])) 2)=(L.flatMap two).map (A7 Q):=by
 rw[List.map_flatMap];rfl
theorem Mq(hi:i<Q.length)(u:Int):R3 (Q.map x4) (one Q.length i u)=ah (p3 (x4 (Q.getD i [])) u++(CN Q.length i).map (A7 Q)):=by
 unfold R3;rw[zK (dJ _ _ _)];have hm:=DK.2 hi;refine aS ((List.Perm.flatMap_right _ (List.perm_cons_erase hm)).trans ?_);rw[List.nodup_range.erase_eq_filter,Ij];have e1:(one Q.length i u).getD i 0=u:=by simp[one,y',hi]
 have e2:(((List.range Q.length).filter (·!=i)).flatMap λk=>p3 (x4 (Q.getD k [])) ((one Q.length i u).getD k 0))=((List.range Q.length).filter (·!=i)).flatMap λk=>p3 (x4 (Q.getD k [])) 2:=by
  refine zJ λk hk=>?_;simp only[E1,DK,bne_iff_ne] at hk;have:(one Q.length i u).getD k 0=2:=by unfold one y';rw[Fc,x_ (kg hk.2)];simp[hk.1]
  rw[this]
 rw[e1,e2,HI];have:(List.range Q.length).filter (·!=i)=(List.range Q.length).filter (· ≠i):=List.filter_congr λk _=>by by_cases h:k=i<;>simp[h]
 rw[this];exact .refl _
theorem bc.PY(s:bc Q m)(f:Nat->Nat×Nat)(t:Nat->Nat)(h:∀i,i<m->ED Q m (i,2) (f i) (t i)):((List.range m).map λi=>uo (f i).2).sum=tw (Q.map x4):=by
 unfold tw;rw[gh,s.len];refine aG (g:=λi=>uo (f i).2) λi hi=>?_;have hi:=DK.1 hi;have:=s.Cf hi (h i hi);have e:=λu=>Mq (Q:=Q) (i:=i) (by rw[s.len];exact hi) u;rw[s.len] at e;rw[e,e];exact this
def Kp(X Y:List X4):Prop:=st Y=st X/\∃d:Int,tw Y=tw X+d/\∀g i,zv Y g (i+3*d)=(1-2*(d%2))*zv X g i
theorem Kp.refl(X:List X4):Kp X X:=⟨rfl,0,by omega,λg i=>by simp⟩
theorem Kp.trans(a:Kp X Y)(b:Kp Y Z):Kp X Z:=by
 obtain⟨a1,d,a2,a3⟩:=a;obtain⟨b1,e,b2,b3⟩:=b;refine⟨b1.trans a1,d+e,by omega,λg i=>?_⟩;rw[show i+3*(d+e)=i+3*d+3*e by omega,b3,a3,←Int.mul_assoc]
 congr 1
 rcases Fm d with h|h<;>rcases Fm e with k|k<;>rw[h,k]<;>omega
theorem G1.kp(h:G1 X Y e)(he:e=0\/e=1):Kp X Y:=⟨h.st he,1-2*e,h.tw he,λg i=>by
 rw[h.zv he,show i+3*(1-2*e)-3*(1-2*e)=i by omega,show(1-2*e)%2=1 by omega];omega⟩
theorem G2.kp(h:G2 X Y e f)(he:e=0/\f=1\/e=1/\f=0):Kp X Y:=⟨h.st,0,by rw[h.tw he];omega,λg i=>by rw[h.zv he];simp⟩
theorem bc.PZ(s:bc Q m){x:Int}(hx:0<=x/\x<(2*m:Nat))(hw:w<4):Kp (Q.map x4) ((dz (Py.yk Q x w)).map x4):=(s.g1 hx hw).kp (by omega)
theorem bc.P0(s:bc Q m){u l:Int}(hu:0<=u/\u<(2*m:Nat))(hl:0<=l/\l<(2*m:Nat))(hn:l≠u):Kp (Q.map x4) ((dz (nk Q u l w)).map x4):=by
 obtain⟨e,f,h,k⟩:=s.g2 (w:=w) hu hl hn;exact k.kp h
theorem rP(hc:c=1\/c= -1)(h:∀i,u (i+d)=c*v i)(s:List Int):told u (s.map (· +d))=(told v s).map λx=>(x.1+d,c*x.2):=by
 unfold told;rw[List.filter_map,wk,wk];have e:s.filter ((λi=>decide (u i≠0))∘(· +d))=s.filter λi=>decide (v i≠0):=List.filter_congr λi _=>by
  show decide (u (i+d)≠0)=_;rw[h];rcases hc with rfl|rfl
  ·rw[Int.one_mul]
  ·exact decide_eq_decide.2 (by omega)
 rw[e];exact Ae λi _=>by show(i+d,u (i+d))=(i+d,c*v i);rw[h]
theorem vL(nd:gn t)(QZ:gn t')(hc:c=1\/c= -1)(h:∀i,val t' (i+d)=c*val t i):Ab t'=(Ab t).map λx=>(x.1+d,c*x.2):=by
 have nz:∀{t:List (Int×Int)}{i:Int},val t i≠0->i∈sortI (t.map (·.1)):=λ{t i} z=>(dG i _).2 (Ie λq=>z (jP q));have r:(sortI (t.map (·.1))).Pairwise (· <·):=gF nd;unfold Ab;rw[←rP (v:=val t) (u:=val t') hc h];refine x6 (gF QZ) ?_ (λi z=>nz z) λi z=>?_
 ·exact List.pairwise_map.2 (r.imp λh=>by omega)
 ·refine BX.2 ⟨i-d,nz λq=>z ?_,by omega⟩
  have:=h (i-d);rw[q,show i-d+d=i by omega] at this;rw[this];omega
theorem pS(Q:List (List Int)):jb (Q.map x4) (y' Q.length)=Q.flatMap λr=>p3 (x4 r) 2:=by
 induction Q with
 |nil=>rfl
 |cons r Q ih=>exact congrArg (p3 (x4 r) 2++·) ih
noncomputable def tp(P:List (Int×Int))(c:Int)(X:List X4)(g:Nat)(i:Int):Int:=sumF (λw=>zu (g+ah (P++jb X w)) (mono (c+X.length-2*w.sum)) i) (df X.length)
theorem zL(X:List X4)(g:Nat)(c i:Int):tp [] c X g i=zv X g (i-c):=by
 rw[EI];refine aG λw _=>?_;rw[show c+(X.length:Int)-2*w.sum=(X.length-2*w.sum)+c by omega,iO];rfl
theorem aJ(P:List (Int×Int))(c:Int)(r:X4)(X:List X4)(g:Nat)(i:Int):tp P c (r::X) g i=tp (P++p3 r 0) (c+1) X g i+tp (P++p3 r 1) (c-1) X g i:=by
 unfold tp;rw[ja,fW]
 congr 1<;>refine aG λw _=>?_
 ·show zu (g+ah (P++(p3 r 0++jb X w))) _ i=_
  rw[ql,sum_cons,show c+((X.length+1:Nat):Int)-2*(0+w.sum)=c+1+X.length-2*w.sum by omega]
 ·show zu (g+ah (P++(p3 r 1++jb X w))) _ i=_
  rw[ql,sum_cons,show c+((X.length+1:Nat):Int)-2*(1+w.sum)=c-1+X.length-2*w.sum by omega]
theorem kE(hl:X.length=Y.length)(h:∀w,w.length=X.length->ah (P++jb X w)=k+ah (P'++jb Y w))(c:Int)(g:Nat)(i:Int):tp P c X g i=tp P' c Y (g+k) i:=by
 unfold tp;rw[hl];exact aG λw hw=>by rw[h w ((cA _ w hw).trans hl.symm),Nat.add_assoc]
theorem HJ(h:X.Perm Y):∀(P:List (Int×Int))(c:Int)(g:Nat)(i:Int),tp P c X g i=tp P c Y g i:=by
 induction h with
 |nil=>exact λ_ _ _ _=>rfl
 |cons r _ ih=>exact λP c g i=>by rw[aJ,aJ,ih,ih]
 |swap r s X=>
  intro P c g i;have e:∀a b c,tp (P++p3 s a++p3 r b) c X g i=tp (P++p3 r b++p3 s a) c X g i:=λa b c=>kE (k:=0) rfl (λw _=>by
   rw[jr];exact aS (EW _ (by rw[ql,ql];exact Ii _ za))) c g i
  rw[aJ,aJ,aJ,aJ,aJ,aJ,e,e,e,e];rw[show c+1-1=c-1+1 by omega];omega
 |trans _ _ a b=>exact λP c g i=>(a P c g i).trans (b P c g i)
noncomputable def tq(X:List X4):List (Int×Int):=X.flatMap (p3 · 2)
theorem cM(X:List X4):jb X (y' X.length)=tq X:=by
 induction X with
 |nil=>rfl
 |cons r X ih=>exact congrArg (p3 r 2++·) ih
theorem hG(X:List X4):st X=ah (tq X):=by unfold st R3;rw[cM]
noncomputable def wg(P:List (Int×Int)):List X4->Int
 |[]=>0
 |r::X=>(ah (P++(p3 r 0++tq X)):Int)-ah (P++(p3 r 1++tq X))+wg (P++p3 r 2) X
theorem nN:∀(X:List X4)(P:List (Int×Int)),sumF (λi=>(ah (P++jb X (one X.length i 0)):Int)-ah (P++jb X (one X.length i 1))) (List.range X.length)=wg P X
 |[],P=>rfl
 |r::X,P=>by
  rw[ja,List.range_succ_eq_map,aR,bU,wg,←nN X (P++p3 r 2)];have e0:∀u,jb (r::X) (one (X.length+1) 0 u)=p3 r u++tq X:=λu=>by rw[←cM];rfl
  rw[e0,e0]
  congr 1
  refine aG λi _=>?_;have e1:∀u,P++jb (r::X) (one (X.length+1) (i+1) u)=P++p3 r 2++jb X (one X.length i u):=λu=>by rw[ql];rfl
  show((ah (P++jb (r::X) (one (X.length+1) (i+1) 0)):Nat):Int)-(ah (P++jb (r::X) (one (X.length+1) (i+1) 1)):Nat)=_;rw[e1,e1]
theorem bX(X:List X4):tw X=wg [] X:=nN X []
theorem d9:∀{X Y:List X4},X.length=Y.length->(∀w,w.length=X.length->ah (P++jb X w)=k+ah (P'++jb Y w))->wg P X=wg P' Y:=by
 intro X Y hl h;rw[←nN,←nN,hl];refine aG λi _=>?_;rw[h _ ((dJ _ _ _).trans hl.symm),h _ ((dJ _ _ _).trans hl.symm)];omega
theorem zM(h:X.Perm Y):∀P:List (Int×Int),wg P X=wg P Y:=by
 induction h with
 |nil=>exact λ_=>rfl
 | @cons r X Y h ih=>
  intro P;have e:∀u,ah (P++(p3 r u++tq X))=ah (P++(p3 r u++tq Y)):=λu=>aS (Ii _ (Ii _ (h.flatMap_right _)));rw[wg,wg,ih,e,e]
 |swap r s X=>
  intro P;have e:∀a b,ah (P++p3 s a++(p3 r b++tq X))=ah (P++(p3 r b++(p3 s a++tq X))):=λa b=>aS (by
   rw[ql];exact Ii _ (by rw[←ql,←ql];exact EW _ za))
  have e':∀a b,ah (P++p3 r a++(p3 s b++tq X))=ah (P++(p3 s b++(p3 r a++tq X))):=λa b=>aS (by
   rw[ql];exact Ii _ (by rw[←ql,←ql];exact EW _ za))
  have q:wg (P++p3 s 2++p3 r 2) X=wg (P++p3 r 2++p3 s 2) X:=d9 (k:=0) rfl λw _=>by
   rw[jr];exact aS (EW _ (by rw[ql,ql];exact Ii _ za))
  rw[wg,wg,wg,wg,q,e,e,e',e'];show((ah (P++(p3 s 0++(p3 r 2++tq X))):Nat):Int)-(ah (P++(p3 s 1++(p3 r 2++tq X))):Nat)+((ah (P++(p3 r 0++(p3 s 2++tq X))):Nat)-(ah (P++(p3 r 1++(p3 s 2++tq X))):Nat)+_)=(ah (P++(p3 r 0++(p3 s 2++tq X))):Nat)-(ah (P++(p3 r 1++(p3 s 2++tq X))):Nat)+((ah (P++(p3 s 0++(p3 r 2++tq X))):Nat)-(ah (P++(p3 s 1++(p3 r 2++tq X))):Nat)+_);omega
 |trans _ _ a b=>exact λP=>(a P).trans (b P)
theorem HK(h:X.Perm Y):st X=st Y:=by rw[hG,hG];exact aS (h.flatMap_right _)
theorem zN{Q:List (List Int)}(h4:∀r∈Q,r.length=4):Q.flatten.length=4*Q.length:=by
 induction Q with
 |nil=>rfl
 |cons r Q ih=>
  have:=ih λx hx=>h4 x (rk _ hx);have:=h4 r wo;rw[Cm,vm,ja];omega
def E_(W:List Int):Prop:=∀v∈W,W.count v=2
theorem mB:∀(W ns:List Int),ns.Nodup->(∀x∈W,x∈ns)->W.length=(ns.map λv=>W.count v).sum
 |[],ns,_,_=>by
  have:∀ns:List Int,(ns.map λv=>([]:List Int).count v).sum=0:=by intro ns;induction ns<;>simp_all
  rw[this];rfl
 |x::W,ns,nd,h=>by
  rw[ja,mB W ns nd λy hy=>h y (rk _ hy)];have key:∀ns:List Int,ns.Nodup->(ns.map λv=>(x::W).count v).sum=(ns.map λv=>W.count v).sum+if x∈ns then 1 else 0:=by
   intro ns
   induction ns with
   |nil=>intro _;simp
   |cons y ns ih=>
    intro nd;rw[Fl] at nd;rw[j_,j_,List.sum_cons,List.sum_cons,ih nd.2,Ax];by_cases e:x=y
    ·subst e
     rw[bh nd.1,bg (by simp),bg (by simp)];omega
    ·have:(x∈y::ns)↔x∈ns:=by simp[e]
     simp only[this,show(x==y)=false by simpa using e,gV,dq];omega
  rw[key ns nd,bg (h x wo)]
theorem vM(h:E_ W):W.length=2*(dd [] W).length:=by
 rw[mB W (dd [] W) (eX [] W Im) λx hx=>(a9 _ _ _).mpr (.inr hx)];have:∀ns:List Int,(∀v∈ns,W.count v=2)->(ns.map λv=>W.count v).sum=2*ns.length:=by
  intro ns
  induction ns with
  |nil=>intro _;rfl
  |cons y ns ih=>
   intro k;rw[j_,List.sum_cons,ih λv hv=>k v (rk _ hv),k y wo,ja];omega
 exact this _ λv hv=>h v (((a9 _ _ _).mp hv).resolve_left (by simp))
theorem idx_eq{l:List Int}(hx:x∈l)(hy:y∈l)(e:l.idxOf x=l.idxOf y):x=y:=by
 rw[←Fh (List.idxOf_lt_length_iff.mpr hx),←Fh (List.idxOf_lt_length_iff.mpr hy)];simp only[e]
theorem gJ{R:List (List Int)}(h4:∀r∈R,r.length=4)(h:E_ R.flatten):bc (dz R) R.length/\(dd [] R.flatten).length=2*R.length:=by
 have l:=vM h;have fl:=zN h4;have N:(dd [] R.flatten).length=2*R.length:=by omega
 refine⟨⟨cE R,gD h4,?_,?_⟩,N⟩
 ·intro x hx
  rw[gB] at hx;obtain⟨y,hy,rfl⟩:=List.mem_map.mp hx;have:=List.idxOf_lt_length_iff.mpr ((a9 [] R.flatten y).mpr (.inr hy));omega
 ·intro v hv
  have hd:v<(dd [] R.flatten).length:=by omega
  have hm:(dd [] R.flatten)[v]∈R.flatten:=((a9 _ _ _).mp (xk hd)).resolve_left (by simp);rw[gB];have ev:((v:Nat):Int)=(((dd [] R.flatten).idxOf (dd [] R.flatten)[v]:Nat):Int):=by rw[gC (eX [] _ Im) hd]
  rw[ev,←h _ hm];have key:∀(W:List Int)(y:Int),y∈R.flatten->(∀x∈W,x∈R.flatten)->(W.map λx=>(((dd [] R.flatten).idxOf x:Nat):Int)).count (((dd [] R.flatten).idxOf y:Nat):Int)=W.count y:=by
   intro W y hy
   induction W with
   |nil=>intro _;rfl
   |cons x W ih=>
    intro hW;rw[j_,Ax,Ax,ih λz hz=>hW z (rk _ hz)]
    congr 1
    by_cases e:x=y
    ·subst e;simp
    ·have:¬(((dd [] R.flatten).idxOf x:Nat):Int)=(((dd [] R.flatten).idxOf y:Nat):Int):=λz=>e (idx_eq (l:=dd [] R.flatten) ((a9 _ _ _).mpr (.inr (hW x wo))) ((a9 _ _ _).mpr (.inr hy)) (by omega))
     simp[e,this]
  exact key _ _ hm λ_ h=>h
theorem mC(s:JS):∀k,jf s (k+1)=jf (Ap s) k
 |0=>rfl
 |k+1=>by show Ap (jf s (k+1))=_;rw[mC s k];rfl
theorem vN(L P:List (List Int))(g a b:Int):gx L g ([a,b]::P)=gx (L.map (vf b a)) (if a=b then g+1 else g) (P.map (vf b a)):=by
 unfold gx;rw[ja,mC,gh];rfl
theorem vk{r:List Int}(h:r.length=2):∃a b,r=[a,b]:=by
 match r,h with
 |[a,b],_=>exact⟨a,b,rfl⟩
theorem pT(f:Int->Int)(L:List (List Int)):(L.map λr=>r.map f).flatten=L.flatten.map f:=by
 induction L with
 |nil=>rfl
 |cons r L ih=>rw[j_,Cm,ih,Cm,wj]
theorem mD(pw:a≠b)(v:Int):∀W:List Int,(W.map λx=>if x=b then a else x).count v=if v=b then 0 else if v=a then W.count a+W.count b else W.count v
 |[]=>by simp
 |x::W=>by
  rw[j_,Ax,mD pw v W,Ax,Ax,Ax];simp only[beq_iff_eq];by_cases h1:v=b
  ·subst h1
   rw[bg rfl,bg rfl];split<;>first|rfl|rw[bh (by omega)]
  ·rw[bh h1,bh h1]
   by_cases h2:v=a
   ·subst h2
    rw[bg rfl,bg rfl];by_cases h3:x=b
    ·rw[bg h3,bg rfl,bh (by omega),bg h3];omega
    ·rw[bh h3,bh h3];omega
   ·rw[bh h2,bh h2]
    by_cases h3:x=b
    ·rw[bg h3,bh (by omega),bh (by omega)]
    ·rw[bh h3]
theorem HL(v:Int):(W++([a,b]++X)).count v=(W++X).count v+(if a=v then 1 else 0)+if b=v then 1 else 0:=by
 simp only[Dp,Ax,List.count_nil,beq_iff_eq];omega
noncomputable def P1(r:List Int):Int×Int:=(r.getD 0 0,r.getD 1 0)
theorem HM{P:List (List Int)}(h:∀r∈P,r.length=2):(P.map (vf b a)).map P1=(P.map P1).map (yg a b):=by
 rw[wk,wk];refine Ae λr hr=>?_;obtain⟨x,y,rfl⟩:=vk (h r hr);rfl
theorem nO:∀(P L:List (List Int))(g:Int),(∀r∈L,r.length=4)->(∀r∈P,r.length=2)->E_ (L.flatten++P.flatten)->
  ∃k:Nat,(gx L g P).2=g+k/\(gx L g P).1.length=L.length/\(∀r∈(gx L g P).1,r.length=4)/\E_ (gx L g P).1.flatten/\∀ws,ah (P.map P1++jb (L.map x4) ws)=k+R3 ((gx L g P).1.map x4) ws
 |[],L,g,h4,h2,ht=>⟨0,by simp[gx,jf],rfl,h4,by show E_ L.flatten;simpa using ht,λws=>by rw[jr];rfl⟩
 |r::P,L,g,h4,h2,ht=>by
  obtain⟨a,b,rfl⟩:=vk (h2 r wo);have Na:∀r∈P,r.length=2:=λq hq=>h2 q (rk _ hq);have hc:∀v,(L.flatten++([a,b]::P).flatten).count v=(L.flatten++P.flatten).count v+(if a=v then 1 else 0)+if b=v then 1 else 0:=λv=>by
   rw[Cm];exact HL v
  have ma:a∈L.flatten++([a,b]::P).flatten:=by simp
  have mb:b∈L.flatten++([a,b]::P).flatten:=by simp
  have mem:∀x,x∈L.flatten++P.flatten->x∈L.flatten++([a,b]::P).flatten:=λx h=>by
   rw[←Fi] at h⊢;rw[hc];omega
  have VW:∀r∈P.map (vf b a),r.length=2:=λq hq=>by
   obtain⟨r,hr,rfl⟩:=BX.1 hq;rw[cK];exact Na r hr
  have fl:(L.map (vf b a)).flatten++(P.map (vf b a)).flatten=(L.flatten++P.flatten).map (sb a b):=by
   rw[wj,←pT,←pT];rfl
  have VX:E_ ((L.map (vf b a)).flatten++(P.map (vf b a)).flatten):=by
   rw[fl];by_cases pw:a=b
   ·subst pw
    have na:a∉L.flatten++P.flatten:=λh=>by
     have:=hc a;rw[ht a ma,bg rfl] at this;have:=List.count_pos_iff.mpr h;omega
    rw[show(L.flatten++P.flatten).map (sb a a)=L.flatten++P.flatten from(Ae λx _=>by unfold sb;split<;>simp[*]).trans (List.map_id _)];intro v hv;have:=hc v;rw[ht v (mem v hv),bh (show¬a=v from λe=>na (e▸hv))] at this;omega
   ·intro v hv
    have cr:=mD pw v (L.flatten++P.flatten);have cp:=List.count_pos_iff.mpr hv;show((L.flatten++P.flatten).map λx=>if x=b then a else x).count v=2;have cp:0<((L.flatten++P.flatten).map λx=>if x=b then a else x).count v:=cp;rw[cr] at cp⊢;have h1:=hc a;have h3:=hc b;rw[ht a ma,bg rfl,bh (λe=>pw e.symm)] at h1;rw[ht b mb,bg rfl,bh pw] at h3;by_cases e1:v=b
    ·rw[bg e1] at cp;omega
    ·rw[bh e1] at cp⊢
     by_cases e2:v=a
     ·rw[bg e2];omega
     ·rw[bh e2] at cp⊢
      have:=hc v;rw[ht v (mem v (List.count_pos_iff.mp cp)),bh (λe=>e2 e.symm),bh (λe=>e1 e.symm)] at this;omega
  obtain⟨k,e1,e2,e3,e4,e5⟩:=nO (P.map (vf b a)) (L.map (vf b a)) (if a=b then g+1 else g) (yT h4) VW VX;rw[vN];refine⟨(if a=b then 1 else 0)+k,by rw[e1];split<;>simp<;>omega,by rw[e2,gh],e3,e4,λws=>?_⟩;show ah ((a,b)::(P.map P1++jb (L.map x4) ws))=_;rw[aD,wj,←HM Na,Nat.add_assoc,←e5 ws]
  congr 3
  rw[show L.map (vf b a)=L.map λr=>r.map (sb a b) from rfl,iL _ h4,←iM];rfl
termination_by P=>P.length
def Kq(X:List X4)(g:Nat)(Y:List X4)(h:Nat):Prop:=st Y+h=st X+g/\∃d:Int,tw Y=tw X+d/\∀i,zv Y h (i+3*d)=(1-2*(d%2))*zv X g i
theorem Kq.refl(X:List X4)(g:Nat):Kq X g X g:=⟨rfl,0,by omega,λi=>by simp⟩
theorem Kq.trans(a:Kq X g Y h)(b:Kq Y h Z k):Kq X g Z k:=by
 obtain⟨a1,d,a2,a3⟩:=a;obtain⟨b1,e,b2,b3⟩:=b;refine⟨b1.trans a1,d+e,by omega,λi=>?_⟩;rw[show i+3*(d+e)=i+3*d+3*e by omega,b3,a3,←Int.mul_assoc]
 congr 1
 rcases Fm d with h|h<;>rcases Fm e with k|k<;>rw[h,k]<;>omega
theorem Kq.symm(a:Kq X g Y h):Kq Y h X g:=by
 obtain⟨a1,d,a2,a3⟩:=a;refine⟨a1.symm,-d,by omega,λi=>?_⟩;have:=a3 (i+3* -d);rw[show i+3* -d+3*d=i by omega] at this;rw[this,←Int.mul_assoc];rcases Fm d with h|h
 ·rw[h,show-d%2=0 by omega];omega
 ·rw[h,show-d%2=1 by omega];omega
theorem Kq.perm(h:X.Perm Y)(g:Nat):Kq X g Y g:=⟨by rw[HK h],0,by rw[bX,bX,zM h];omega,λi=>by
 have e:∀X,zv X g i=tp [] 0 X g i:=λX=>by rw[zL];congr 1;omega
 rw[show i+3*0=i by omega,e,e,HJ h];simp⟩
theorem Kq.num{R:List (List Int)}(h4:∀r∈R,r.length=4)(g:Nat):Kq (R.map x4) g ((dz R).map x4) g:=by
 have e:=rO h4;have hl:((dz R).map x4).length=(R.map x4).length:=by simp[cE]
 refine⟨by unfold st;rw[hl,e],0,?_,λi=>by rw[PR h4,show i+3*0=i by omega];simp⟩;rw[bX,bX,d9 (k:=0) (P:=[]) (P':=[]) hl λw _=>by rw[jr];exact e w];omega
theorem fJ(P:List (Int×Int))(c:Int)(X:List X4)(g:Nat)(i:Int):tp P c X g i=tp P 0 X g (i-c):=by
 refine aG λw _=>?_;rw[show c+(X.length:Int)-2*w.sum=(0+X.length-2*w.sum)+c by omega,iO]
theorem iQ(P:List (Int×Int))(X:List X4)(g:Nat)(i:Int):tp P 0 X (g+1) i= -tp P 0 X g (i-2)-tp P 0 X g (i+2):=by
 have:tp P 0 X (g+1) i=sumF (λw=> -1*zu (g+ah (P++jb X w)) (mono (0+X.length-2*w.sum)) (i-2)+ -1*zu (g+ah (P++jb X w)) (mono (0+X.length-2*w.sum)) (i+2)) (df X.length):=aG λw _=>by
  rw[Nat.add_right_comm];show tr _ i=_;unfold tr;omega
 rw[this,jJ,fG,fG];show-1*tp P 0 X g (i-2)+ -1*tp P 0 X g (i+2)=_;omega
theorem eC(X:List X4)(g:Nat)(i:Int):zv X g i=tp [] 0 X g i:=by rw[zL];congr 1;omega
theorem EJ(he:e=0\/e=1)(hl:L.length=J.length)(h:∀w,w.length=L.length->∀u,u=0\/u=1\/u=2->ah (p3 c u++jb L w)=((if u=e then 1 else 0)+k)+ah ([]++jb J w))(g:Nat):Kq J (g+k) (c::L) g:=by
 refine⟨?_,1-2*e,?_,λi=>?_⟩
 ·have:=h _ (bL _) 2 (by simp)
  rw[cM,bh (by omega),hl,Bg,cM] at this;rw[hG,hG];show ah (p3 c 2++tq L)+g=_;omega
 ·have a:=h _ (bL _) 0 (by simp)
  have b:=h _ (bL _) 1 (by simp);rw[cM] at a b;rw[bX,bX,wg];have q:wg ([]++p3 c 2) L=wg [] J:=d9 (k:=k) hl λw hw=>by
   have:=h w hw 2 (by simp);rw[bh (by omega),jr] at this;exact this
  rw[q,Bg,Bg,a,b];rcases he with rfl|rfl<;>simp<;>omega
 ·rw[eC,eC,aJ,Bg,Bg,kE (k:=(if(0:Int)=e then 1 else 0)+k) hl λw hw=>h w hw 0 (by simp),kE (k:=(if(1:Int)=e then 1 else 0)+k) hl λw hw=>h w hw 1 (by simp),fJ,fJ [] (0-1)]
  rcases he with rfl|rfl
  ·rw[bg rfl,bh (by decide),show g+(1+k)=g+k+1 by omega,jr,iQ,show i+3*(1-2*0)-(0+1)-2=i by omega,show i+3*(1-2*0)-(0+1)+2=i+3*(1-2*0)-(0-1) by omega]
   simp
  ·rw[bg rfl,bh (by decide),show g+(1+k)=g+k+1 by omega,jr,iQ,show i+3*(1-2*1)-(0-1)+2=i by omega,show i+3*(1-2*1)-(0-1)-2=i+3*(1-2*1)-(0+1) by omega]
   simp;omega
theorem fK{Q:List (List Int)}{ks:List Nat}(nd:ks.Nodup)(h:∀k∈ks,k<Q.length):Q.Perm (ks.map (λk=>Q.getD k [])++bu Q (ks.map λ(k:Nat)=>(k:Int))):=by
 have e:(List.range Q.length).map (λk=>Q.getD k [])=Q:=List.ext_getElem (by simp) λi h1 h2=>by simp[h2]
 have p:((List.range Q.length).filter λ(k:Nat)=>decide ((k:Int)∈ks.map λ(k:Nat)=>(k:Int))).Perm ks:=(List.perm_ext_iff_of_nodup (List.nodup_range.filter _) nd).2 λa=>by
  simp only[E1,DK,BX,DH];constructor
  ·rintro⟨_,b,hb,e⟩
   rwa[show a=b by omega]
  ·exact λha=>⟨h a ha,a,ha,rfl⟩
 have q:=((List.filter_append_perm (λ(k:Nat)=>decide ((k:Int)∈ks.map λ(k:Nat)=>(k:Int))) (List.range Q.length)).symm.map λk=>Q.getD k [])
 rw[e,wj] at q;exact q.trans (EW _ (p.map _))
noncomputable def CO(r:List Int):Option Nat:=if r.getD 0 0=r.getD 1 0 then some 0 else if r.getD 1 0=r.getD 2 0 then some 1 else if r.getD 2 0=r.getD 3 0 then some 2 else if r.getD 3 0=r.getD 0 0 then some 3 else none
noncomputable def Dh(r:List Int)(e:Nat):List Int:=[r.getD ((e+2)%4) 0,r.getD ((e+3)%4) 0]
theorem bc.HN(s:bc Q m)(h:v∈Q.flatten):Q.flatten.count v=2:=by
 have:=s.two.js v h;have:=s.two.cnt v.toNat (by omega);rwa[show((v.toNat:Nat):Int)=v by omega] at this
theorem vO(h4:r.length=4)(he:CO r=some e):∃q a n:Int,Dh r e=[a,n]/\r.Perm [q,q,a,n]/\∀L:List (Int×Int),q≠a->q≠n->q∉names L->∀u,u=0\/u=1\/u=2->ah (p3 (x4 r) u++L)=(if u=((e%2:Nat):Int) then 1 else 0)+ah ((a,n)::L):=by
 obtain⟨a,b,c,d,rfl⟩:=lh h4;have he:(if a=b then some 0 else if b=c then some 1 else if c=d then some 2 else if d=a then some 3 else Option.none)=some e:=he;have fin:∀{q x y:Int}{L:List (Int×Int)}{e1 e2:Int×Int},q≠x->q≠y->q∉names L->(e1=(x,q)\/e1=(q,x))->(e2=(q,y)\/e2=(y,q))->ah (e1::e2::L)=0+ah ((x,y)::L)/\ah (e2::e1::L)=0+ah ((x,y)::L):=λh1 h2 h3 h4 h5=>zF _ _ h4 h5 h1 h2 h3;split at he
 ·rename_i hh;cases he;subst hh
  refine⟨a,c,d,rfl,.refl _,λL h1 h2 hq u hu=>?_⟩;rcases hu with rfl|rfl|rfl
  ·exact bW _ _
  ·exact(fin h1 h2 hq (.inr rfl) (.inl rfl)).2
  ·exact(fin h1 h2 hq (.inr rfl) (.inl rfl)).1
 split at he
 ·rename_i hh;cases he;subst hh
  refine⟨b,d,a,rfl,(za (l₁:=[a]) (l₂:=[b,b,d])),λL h1 h2 hq u hu=>?_⟩;rcases hu with rfl|rfl|rfl
  ·exact(fin h1 h2 hq (.inr rfl) (.inr rfl)).2
  ·exact(cQ _ _ _ _ _).trans ((bW _ _).trans (congrArg _ (aW _ _ _)))
  ·exact(fin h1 h2 hq (.inr rfl) (.inr rfl)).2
 split at he
 ·rename_i hh;cases he;subst hh
  refine⟨c,a,b,rfl,za (l₁:=[a,b]),λL h1 h2 hq u hu=>?_⟩;rcases hu with rfl|rfl|rfl
  ·exact(cQ _ _ _ _ _).trans (bW _ _)
  ·exact(fin h1 h2 hq (.inl rfl) (.inr rfl)).1
  ·exact(fin h1 h2 hq (.inl rfl) (.inr rfl)).1
 split at he
 ·rename_i hh;cases he;subst hh
  refine⟨d,b,c,rfl,((za (l₁:=[b,c]) (l₂:=[d])).cons d),λL h1 h2 hq u hu=>?_⟩;rcases hu with rfl|rfl|rfl
  ·exact(fin h1 h2 hq (.inr rfl) (.inr rfl)).1
  ·exact bW _ _
  ·exact(fin h1 h2 hq (.inl rfl) (.inl rfl)).2
 ·cases he
def HP(Q:List (List Int))(m:Nat)(g:Nat)(ks:List Int)(P:List (List Int)):Prop:=∃k:Nat,(gx (bu Q ks) g P).2=((g+k:Nat):Int)/\bc (dz (gx (bu Q ks) g P).1) (m-ks.length)/\Kq (Q.map x4) g ((dz (gx (bu Q ks) g P).1).map x4) (g+k)
theorem bc.unq(s:bc Q m)(hx:x<m)(g:Nat)(he:CO (Q.getD x [])=some e):HP Q m g [(x:Int)] [Dh (Q.getD x []) e]:=by
 have hl:x<Q.length:=by rw[s.len];exact hx
 have pm:=fK (Q:=Q) (ks:=[x]) (by simp) (by simpa using hl);have w4:∀r∈bu Q [(x:Int)],r.length=4:=bE s.four;have pm:Q.Perm (Q.getD x []::bu Q [(x:Int)]):=pm;obtain⟨q,a,n,eo,pr,hR⟩:=vO (s.four _ (pm.mem_iff.2 wo)) he;have cnt:∀v,Q.flatten.count v=[q,q,a,n].count v+(bu Q [(x:Int)]).flatten.count v:=λv=>by
  rw[pm.flatten.count_eq,Cm,Dp,pr.count_eq]
 have two:∀v,v∈(bu Q [(x:Int)]).flatten++[a,n]->Q.flatten.count v=2:=λv hv=>s.HN (by
  rw[←Fi,cnt];rcases Bh.1 hv with h|h
  ·have:=Fi.2 h;omega
  ·have:v∈[q,q,a,n]:=rk _ (rk _ h)
   have:=Fi.2 this;omega)
 have c4:∀v,[q,q,a,n].count v=(if q=v then 2 else 0)+[a,n].count v:=λv=>by
  rw[Ax,Ax];by_cases h:q=v<;>simp[h];omega
 have hq:[a,n].count q=0/\(bu Q [(x:Int)]).flatten.count q=0:=by
  have h1:=cnt q;have h2:=s.HN (v:=q) (by rw[←Fi,h1,c4,bg rfl];omega);rw[c4,bg rfl] at h1;omega
 have hn:=Dn.1 hq.1;have ht:E_ ((bu Q [(x:Int)]).flatten++[Dh (Q.getD x []) e].flatten):=by
  rw[eo];show E_ (_++[a,n]);intro v hv;have h1:=cnt v;rw[two v hv,c4,bh] at h1
  ·rw[Dp];omega
  ·rintro rfl
   have:=Fi.2 hv;rw[Dp] at this;omega
 obtain⟨k,e1,e2,e3,e4,e5⟩:=nO [Dh (Q.getD x []) e] _ (g:Int) w4 (by rw[eo];simp) ht;have hm:=pm.length_eq;rw[s.len,ja] at hm;have sh:=(gJ e3 e4).1;rw[e2,show(bu Q [(x:Int)]).length=m-[(x:Int)].length by rw[hm];rfl] at sh;refine⟨k,by rw[e1];omega,sh,?_⟩;refine(Kq.perm (pm.map x4) g).trans (Kq.symm ?_);refine((Kq.num e3 (g+k)).symm.symm).symm.trans ?_;rw[j_];refine EJ (e:=((e%2:Nat):Int)) (by omega) (by rw[gh,gh,e2]) (λw hw u hu=>?_) g;rw[hR _ (λz=>hn (by simp[z])) (λz=>hn (by simp[z])) (λz=>Dn.1 hq.2 (bF w4 z)) u hu,Nat.add_assoc]
 congr 1
 have:=e5 w;rw[show List.map P1 [Dh (Q.getD x []) e]=[(a,n)] by rw[eo];rfl] at this;exact this
theorem Kq.ex(hl:X.length=Y.length)(h:∀w,w.length=X.length->R3 X w=R3 Y w)(g:Nat):Kq X g Y g:=by
 have h':∀w,w.length=X.length->ah ([]++jb X w)=0+ah ([]++jb Y w):=λw hw=>by rw[jr];exact h w hw
 refine⟨by unfold st;rw[←hl,h _ (bL _)],0,by rw[bX,bX,d9 hl h'];omega,λi=>?_⟩;rw[show i+3*0=i by omega,eC,eC,kE hl h'];simp
def C2(c1 c2:X4)(e f:Int)(PE PF PO:List (Int×Int))(L:List (Int×Int)):Prop:=
 (ah (p3 c1 e++(p3 c2 e++L))=ah (PE++L)/\ah (p3 c1 e++(p3 c2 f++L))=ah (PO++L)/\ah (p3 c1 e++(p3 c2 2++L))=ah (PF++L))/\
 (ah (p3 c1 f++(p3 c2 e++L))=1+ah (PE++L)/\ah (p3 c1 f++(p3 c2 f++L))=ah (PE++L)/\ah (p3 c1 f++(p3 c2 2++L))=ah (PE++L))/\
 ah (p3 c1 2++(p3 c2 e++L))=ah (PE++L)/\ah (p3 c1 2++(p3 c2 f++L))=ah (PF++L)/\ah (p3 c1 2++(p3 c2 2++L))=ah (PO++L)
theorem Mr(he:e=0/\f=1\/e=1/\f=0)(hl:L.length=J.length)(h:∀w,w.length=L.length->C2 c1 c2 e f PE PF PO (jb L w))(hO:∀w,ah (PO++jb L w)=k+ah ([]++jb J w))(g:Nat):Kq J (g+k) (c1::c2::L) g:=by
 have T:=h _ (bL _);obtain⟨⟨_,_,t1⟩,⟨_,_,t2⟩,t3,t4,t5⟩:=T;have o:=hO (y' L.length);rw[cM] at t1 t2 t3 t4 t5 o;rw[hl,Bg,cM] at o;refine⟨?_,0,?_,λi=>?_⟩
 ·rw[hG,hG]
  show ah (p3 c1 2++(p3 c2 2++tq L))+g=_;omega
 ·rw[bX,bX,wg,wg]
  have q:wg ([]++p3 c1 2++p3 c2 2) L=wg [] J:=d9 (k:=k) hl λw hw=>by
   obtain⟨_,_,_,_,z⟩:=h w hw;rw[Bg,ql,z,hO w]
  rw[q];show((ah (p3 c1 0++(p3 c2 2++tq L)):Nat):Int)-(ah (p3 c1 1++(p3 c2 2++tq L)):Nat)+((ah (p3 c1 2++(p3 c2 0++tq L)):Nat)-(ah (p3 c1 2++(p3 c2 1++tq L)):Nat)+_)=_;rcases he with⟨rfl,rfl⟩|⟨rfl,rfl⟩<;>omega
 ·have T:∀(a b:Int)(P':List (Int×Int))(Y:List X4)(n:Nat)(c:Int),L.length=Y.length->(∀w,w.length=L.length->ah (p3 c1 a++(p3 c2 b++jb L w))=n+ah (P'++jb Y w))->tp ([]++p3 c1 a++p3 c2 b) c L g i=tp P' 0 Y (g+n) (i-c):=λa b P' Y n c hy hw=>by
   rw[kE (k:=n) hy (λw hl=>by rw[Bg,ql];exact hw w hl),fJ]
  have a:=λc=>T e e PE L 0 c rfl λw hw=>by rw[jr];exact(h w hw).1.1
  have b:=λc=>T e f [] J k c hl λw hw=>by rw[(h w hw).1.2.1,hO]
  have c:=λc=>T f e PE L 1 c rfl λw hw=>(h w hw).2.1.1;have d:=λc=>T f f PE L 0 c rfl λw hw=>by rw[jr];exact(h w hw).2.1.2.1
  rw[show i+3*0=i by omega,eC,eC,aJ,aJ,aJ];rcases he with⟨rfl,rfl⟩|⟨rfl,rfl⟩<;>rw[a,b,c,d,iQ,show(0:Int)+1+1=2 by rfl,show(0:Int)+1-1=0 by rfl,show(0:Int)-1+1=0 by rfl,show(0:Int)-1-1= -2 by rfl,show i- -2=i+2 by omega,show i-0=i by omega]<;>simp<;>omega
noncomputable def r2(r:List Int):List Int:=r.drop 2++r.take 2
noncomputable def kz(x y:List Int):Option (List (List Int)):=if x.getD 2 0=y.getD 0 0 then(if x.getD 1 0=y.getD 1 0 then some [[x.getD 0 0,y.getD 2 0],[x.getD 3 0,y.getD 3 0]] else if x.getD 3 0=y.getD 3 0 then some [[x.getD 0 0,y.getD 2 0],[x.getD 1 0,y.getD 1 0]] else none) else none
noncomputable def AK(r s:List Int):Option (List (List Int)):=match kz r s with
 |some P=>some P
 |none=>match kz r (r2 s) with
  |some P=>some P
  |none=>match kz (r2 r) s with
   |some P=>some P
   |none=>kz (r2 r) (r2 s)
theorem vP(hX:X.length=4)(hY:Y.length=4)(h:kz X Y=some P):∃l m x y p q:Int,P=[[l,m],[x,y]]/\(X++Y).Perm ([p,p,q,q]++[l,m,x,y])/\∃e f:Int,(e=0/\f=1\/e=1/\f=0)/\
  ∀L,(p≠l/\p≠m/\p≠x/\p≠y/\p≠q)->(q≠l/\q≠m/\q≠x/\q≠y)->p∉names L->q∉names L->C2 (x4 X) (x4 Y) e f [(l,x),(m,y)] [(l,y),(m,x)] [(l,m),(x,y)] L:=by
 obtain⟨a,b,c,d,rfl⟩:=lh hX;obtain⟨a',b',c',d',rfl⟩:=lh hY;replace h:(if c=a' then(if b=b' then some [[a,c'],[d,d']] else if d=d' then some [[a,c'],[b,b']] else none) else none)=some P:=h;split at h
 ·rename_i hc
  subst hc;split at h
  ·rename_i hb
   subst hb;cases h;refine⟨a,c',d,d',b,c,rfl,?_,0,1,.inl ⟨rfl,rfl⟩,λL hp hq fp fq=>SV hp hq fp fq⟩;refine List.perm_iff_count.2 λz=>?_;simp only[E0,Bg,Ax];omega
  ·split at h
   ·rename_i hd
    subst hd;cases h;refine⟨a,c',b,b',d,c,rfl,?_,1,0,.inr ⟨rfl,rfl⟩,λL hp hq fp fq=>?_⟩
    ·refine List.perm_iff_count.2 λz=>?_
     simp only[E0,Bg,Ax];omega
    ·obtain⟨⟨a1,a2,a3⟩,⟨b1,b2,b3⟩,g1,g2,g3⟩:=SV (L:=L) hp hq fp fq
     have z:=PU;exact⟨⟨(z ..).trans a1,(z ..).trans a2,(z ..).trans a3⟩,⟨(z ..).trans b1,(z ..).trans b2,(z ..).trans b3⟩,(z ..).trans g1,(z ..).trans g2,(z ..).trans g3⟩
   ·cases h
 ·cases h
theorem zO(p:Int×Int)(b c:Int)(L:List (Int×Int)):ah (p::(b,c)::L)=ah (p::(c,b)::L):=Dg [p] b c L
theorem SW(h:r.length=4)(u:Int)(L:List (Int×Int)):ah (p3 (x4 (r2 r)) u++L)=ah (p3 (x4 r) u++L):=by
 obtain⟨a,b,c,d,rfl⟩:=lh h;show ah (p3 (c,d,a,b) u++L)=ah (p3 (a,b,c,d) u++L);unfold p3 BA;split
 ·exact(aW _ _ _).trans (zO _ _ _ _)
 split
 ·exact cQ _ _ _ _ _
 ·exact(cQ _ _ _ _ _).trans ((aW _ _ _).trans (zO _ _ _ _))
theorem tW(r:List Int):(r2 r).Perm r:=by
 unfold r2;exact List.perm_append_comm.trans (by rw[List.take_append_drop])
theorem zP(h:r.length=4)(hX:X=r\/X=r2 r):X.length=4/\X.Perm r/\∀u L,ah (p3 (x4 X) u++L)=ah (p3 (x4 r) u++L):=by
 rcases hX with rfl|rfl
 ·exact⟨h,.refl _,λ_ _=>rfl⟩
 ·exact⟨(tW r).length_eq.trans h,tW r,SW h⟩
theorem bc.apart1(s:bc Q m)(hi:i<m)(hj:j<m)(Ng:i≠j)(g:Nat)(hX:X=Q.getD i []\/X=r2 (Q.getD i []))(hY:Y=Q.getD j []\/Y=r2 (Q.getD j []))(h:kz X Y=some P):HP Q m g [(i:Int),(j:Int)] P:=by
 have pm:=fK (Q:=Q) (ks:=[i,j]) (by simpa using Ng) (by rw[s.len];simp[hi,hj]);have w4:∀r∈bu Q [(i:Int),(j:Int)],r.length=4:=bE s.four;have pm:Q.Perm (Q.getD i []::Q.getD j []::bu Q [(i:Int),(j:Int)]):=pm;obtain⟨SX,xp,xr⟩:=zP (s.four _ (pm.mem_iff.2 (by simp))) hX;obtain⟨VY,yp,yr⟩:=zP (s.four _ (pm.mem_iff.2 (by simp))) hY;obtain⟨l,n,x,y,p,q,rfl,pr,e,f,VZ,hR⟩:=vP SX VY h;generalize hW:bu Q [(i:Int),(j:Int)]=W at*;have c8:∀v,([p,p,q,q]++[l,n,x,y]).count v=(if p=v then 2 else 0)+(if q=v then 2 else 0)+[l,n,x,y].count v:=λv=>by
  rw[Dp]
  congr 1
  simp only[Ax,List.count_nil];by_cases a:p=v<;>by_cases b:q=v<;>simp[a,b]
 have cnt:∀v,Q.flatten.count v=(if p=v then 2 else 0)+(if q=v then 2 else 0)+[l,n,x,y].count v+W.flatten.count v:=λv=>by
  have:=pr.count_eq v;rw[Dp,xp.count_eq,yp.count_eq,c8] at this;rw[pm.flatten.count_eq,Cm,Cm,Dp,Dp];omega
 have two:∀v,0<(if p=v then 2 else 0)+(if q=v then 2 else 0)+[l,n,x,y].count v+W.flatten.count v->Q.flatten.count v=2:=λv hv=>s.HN (by rw[←Fi,cnt];exact hv);have hp:=two p (by rw[bg rfl];omega);have hq:=two q (by rw[bg (rfl:q=q)];omega);rw[cnt,bg rfl] at hp;rw[cnt,bg (rfl:q=q)] at hq;have pq:p≠q:=λz=>by rw[bg z.symm] at hp;omega
 have op:=Dn.1 (show[l,n,x,y].count p=0 by omega);have oq:=Dn.1 (show[l,n,x,y].count q=0 by omega);have wp:=Dn.1 (show W.flatten.count p=0 by omega);have wq:=Dn.1 (show W.flatten.count q=0 by omega);simp only[qf,BW,BY,not_or] at op oq;have ht:E_ (W.flatten++[[l,n],[x,y]].flatten):=by
  show E_ (W.flatten++[l,n,x,y]);intro v hv;have hv:=Fi.2 hv;rw[Dp] at hv⊢;have h2:=two v (by omega);have h3:=cnt v;have:p≠v/\q≠v:=⟨λz=>by subst z;omega,λz=>by subst z;omega⟩
  rw[bh this.1,bh this.2] at h3;omega
 obtain⟨k,e1,e2,e3,e4,e5⟩:=nO [[l,n],[x,y]] W (g:Int) w4 (by simp) ht;have hm:=pm.length_eq;rw[s.len,ja,ja] at hm;have sh:=(gJ e3 e4).1;rw[e2,show W.length=m-[(i:Int),(j:Int)].length by rw[hm];rfl] at sh;unfold HP;rw[hW];refine⟨k,by rw[e1];omega,sh,?_⟩;refine(Kq.perm (pm.map x4) g).trans (Kq.trans (Y:=x4 X::x4 Y::W.map x4) (Kq.ex (by simp) (λw hw=>?_) g) (Kq.symm ((Kq.num e3 (g+k)).symm.trans (Mr VZ (by rw[gh,gh,e2]) (λw _=>hR _ ⟨op.1,op.2.1,op.2.2.1,op.2.2.2,pq⟩ oq (λz=>wp (bF w4 z)) λz=>wq (bF w4 z)) (λw=>e5 w) g))))
 match w,hw with
 |u::v::w,_=>
  show ah (p3 (x4 (Q.getD i [])) u++(p3 (x4 (Q.getD j [])) v++jb (W.map x4) w))=ah (p3 (x4 X) u++(p3 (x4 Y) v++jb (W.map x4) w));rw[xr,aS (za (l₁:=p3 (x4 (Q.getD i [])) u)),aS (za (l₁:=p3 (x4 (Q.getD i [])) u)),ql,ql,yr]
theorem bc.Ms(s:bc Q m)(hi:i<m)(hj:j<m)(Ng:i≠j)(g:Nat)(h:AK (Q.getD i []) (Q.getD j [])=some P):HP Q m g [(i:Int),(j:Int)] P:=by
 unfold AK at h;split at h
 ·rename_i z;cases h;exact s.apart1 hi hj Ng g (.inl rfl) (.inl rfl) z
 split at h
 ·rename_i z;cases h;exact s.apart1 hi hj Ng g (.inl rfl) (.inr rfl) z
 split at h
 ·rename_i z;cases h;exact s.apart1 hi hj Ng g (.inr rfl) (.inl rfl) z
 ·exact s.apart1 hi hj Ng g (.inr rfl) (.inr rfl) h
noncomputable def Q4(a b c d:Nat):Nat->List (Nat×Nat)
 |0=>[(a,c),(b,d)]
 |1=>[(a,d),(b,c)]
 |_=>[(a,b),(c,d)]
noncomputable def kd(e f:Int):Nat->Int
 |0=>e
 |1=>f
 |_=>2
noncomputable def f3(a b c:Nat):List (Nat×Nat):=Q4 1 5 0 3 a++(Q4 2 7 4 0 b++Q4 2 8 1 6 c)
def C3(c1 c2 c3:X4)(e f:Int)(v:Nat->Int)(L:List (Int×Int)):Prop:=
 (∀j<3,v j∉names L/\∀i,j<i->v j≠v i)/\∀a b c,ah (p3 c1 (kd e f a)++(p3 c2 (kd e f b)++(p3 c3 (kd e f c)++L)))=ah ((f3 a b c).map (m2 v)++L)
noncomputable def fD:List (Nat×Nat):=[(7,4),(5,3),(8,6)]
noncomputable def fA:List (Nat×Nat):=[(7,8),(4,6),(5,3)]
noncomputable def fB:List (Nat×Nat):=[(5,7),(3,4),(8,6)]
noncomputable def fE:List (Nat×Nat):=[(5,7),(4,6),(3,8)]
noncomputable def fF:List (Nat×Nat):=[(3,8),(5,6),(7,4)]
noncomputable def fT:List (Nat×Nat):=[(5,6),(3,4),(7,8)]
section
variable{c1 c2 c3:X4}{L:List X4}{e f:Int}{v:Nat->Int}
theorem C3.at{L:List (Int×Int)}(h:C3 c1 c2 c3 e f v L)(a b c n:Nat)(B:List (Nat×Nat))(k:HF 3 n (f3 a b c) B=true):ah (p3 c1 (kd e f a)++(p3 c2 (kd e f b)++(p3 c3 (kd e f c)++L)))=n+ah (B.map (m2 v)++L):=(h.2 a b c).trans (y9 3 n _ B h.1 k)
theorem P2(he:e=0/\f=1\/e=1/\f=0)(h:∀w,C3 c1 c2 c3 e f v (jb L w))(g:Nat)(i:Int):
  zv (c1::c2::c3::L) g i=tp (fD.map (m2 v)) 0 L g (i-(e-f))+tp (fA.map (m2 v)) 0 L g (i-(f-e))+tp (fB.map (m2 v)) 0 L g (i-(f-e))+tp (fE.map (m2 v)) 0 L g (i-(e-f))+tp (fF.map (m2 v)) 0 L g (i-3*(e-f)):=by
 have T:∀(a b d n:Nat)(B:List (Nat×Nat))(c:Int),HF 3 n (f3 a b d) B=true->tp ([]++p3 c1 (kd e f a)++p3 c2 (kd e f b)++p3 c3 (kd e f d)) c L g i=tp (B.map (m2 v)) 0 L (g+n) (i-c):=λa b d n B c k=>by
  rw[kE (k:=n) (P':=B.map (m2 v)) (Y:=L) rfl (λw hl=>by rw[Bg,ql,ql];exact(h w).at a b d n B k),fJ]
 have s3:∀c,tp ([]++p3 c1 e++p3 c2 f++p3 c3 e) c L g i= -tp (fD.map (m2 v)) 0 L g (i-(c+2))-tp (fD.map (m2 v)) 0 L g (i-(c-2)):=λc=>by
  rw[show i-(c+2)=i-c-2 by omega,show i-(c-2)=i-c+2 by omega,←iQ];exact T 0 1 0 1 fD c rfl
 have s1:∀c,tp ([]++p3 c1 e++p3 c2 e++p3 c3 e) c L g i=tp (fD.map (m2 v)) 0 L g (i-c):=λc=>T 0 0 0 0 fD c rfl;have s2:∀c,tp ([]++p3 c1 e++p3 c2 e++p3 c3 f) c L g i=tp (fA.map (m2 v)) 0 L g (i-c):=λc=>T 0 0 1 0 fA c rfl;have s4:∀c,tp ([]++p3 c1 e++p3 c2 f++p3 c3 f) c L g i=tp (fD.map (m2 v)) 0 L g (i-c):=λc=>T 0 1 1 0 fD c rfl;have s5:∀c,tp ([]++p3 c1 f++p3 c2 e++p3 c3 e) c L g i=tp (fB.map (m2 v)) 0 L g (i-c):=λc=>T 1 0 0 0 fB c rfl;have s6:∀c,tp ([]++p3 c1 f++p3 c2 e++p3 c3 f) c L g i=tp (fE.map (m2 v)) 0 L g (i-c):=λc=>T 1 0 1 0 fE c rfl;have s7:∀c,tp ([]++p3 c1 f++p3 c2 f++p3 c3 e) c L g i=tp (fD.map (m2 v)) 0 L g (i-c):=λc=>T 1 1 0 0 fD c rfl;have s8:∀c,tp ([]++p3 c1 f++p3 c2 f++p3 c3 f) c L g i=tp (fF.map (m2 v)) 0 L g (i-c):=λc=>T 1 1 1 0 fF c rfl;clear T h;rw[eC,aJ,aJ,aJ,aJ,aJ,aJ,aJ];rcases he with⟨rfl,rfl⟩|⟨rfl,rfl⟩<;>rw[s1,s2,s3,s4,s5,s6,s7,s8]<;>clear s1 s2 s3 s4 s5 s6 s7 s8<;>generalize tp (fD.map (m2 v)) 0 L g=D<;>generalize tp (fA.map (m2 v)) 0 L g=A<;>generalize tp (fB.map (m2 v)) 0 L g=B<;>generalize tp (fE.map (m2 v)) 0 L g=E<;>generalize tp (fF.map (m2 v)) 0 L g=F<;>simp only[Int.reduceAdd,Int.reduceSub,Int.reduceMul]<;>omega
theorem Ut(he:e=0/\f=1\/e=1/\f=0)(h:∀w,C3 c1 c2 c3 e f v (jb L w)):
  tw (c1::c2::c3::L)=(f-e)*((ah (fA.map (m2 v)++tq L):Int)-ah ([(5,4),(3,6),(7,8)].map (m2 v)++tq L)+ah ([(5,6),(3,7),(4,8)].map (m2 v)++tq L)-ah (fF.map (m2 v)++tq L)+ah (fB.map (m2 v)++tq L)-ah ([(5,8),(3,4),(7,6)].map (m2 v)++tq L))+wg (fT.map (m2 v)) L:=by
 have T:=h (y' L.length);rw[cM] at T;have a1:=T.at 0 2 2 0 fA rfl;have a2:=T.at 1 2 2 0 _ (rfl:HF 3 0 _ [(5,4),(3,6),(7,8)]=true);have a3:=T.at 2 0 2 0 _ (rfl:HF 3 0 _ [(5,6),(3,7),(4,8)]=true);have a4:=T.at 2 1 2 0 fF rfl;have a5:=T.at 2 2 0 0 fB rfl;have a6:=T.at 2 2 1 0 _ (rfl:HF 3 0 _ [(5,8),(3,4),(7,6)]=true);have q:wg ([]++p3 c1 2++p3 c2 2++p3 c3 2) L=wg (fT.map (m2 v)) L:=d9 (k:=0) rfl λw _=>by
  rw[Bg,ql,ql];exact(h w).at 2 2 2 0 fT rfl
 rw[bX,wg,wg,wg,q];show((ah (p3 c1 0++(p3 c2 2++(p3 c3 2++tq L))):Nat):Int)-(ah (p3 c1 1++(p3 c2 2++(p3 c3 2++tq L))):Nat)+((ah (p3 c1 2++(p3 c2 0++(p3 c3 2++tq L))):Nat)-(ah (p3 c1 2++(p3 c2 1++(p3 c3 2++tq L))):Nat)+(((ah ((p3 c1 2++p3 c2 2)++(p3 c3 0++tq L)):Nat)-(ah ((p3 c1 2++p3 c2 2)++(p3 c3 1++tq L)):Nat))+_))=_;rw[ql,ql];clear h T q;rw[jr] at a1 a2 a3 a4 a5 a6;rcases he with⟨rfl,rfl⟩|⟨rfl,rfl⟩<;>simp only[kd] at a1 a2 a3 a4 a5 a6<;>rw[a1,a2,a3,a4,a5,a6]<;>clear a1 a2 a3 a4 a5 a6<;>omega
theorem NJ(h:∀w,C3 c1 c2 c3 e f v (jb L w)):st (c1::c2::c3::L)=ah (fT.map (m2 v)++tq L):=by
 have T:=h (y' L.length);rw[cM] at T;rw[hG,←jr (ah (fT.map _++_))];exact T.at 2 2 2 0 fT rfl
end
noncomputable def vl(a b c:Int)(V:List Int)(s:Nat):Nat->Int
 |0=>a
 |1=>b
 |2=>c
 |i+3=>V.getD (i%6^^^s) 0
theorem Mt(he:e=0/\f=1\/e=1/\f=0)
  (h:∀w,C3 c1 c2 c3 e f (vl a b c [T,U,M,N,B,C] 0) (jb X w)) (k:∀w,C3 d1 d2 d3 e f (vl a b c [T,U,M,N,B,C] 1) (jb X w)) (g:Nat):Kq (c1::c2::c3::X) g (d1::d2::d3::X) g:=by
 have q:∀(P Q:List (Nat×Nat)),HF 0 0 P Q=true->∀L,ah (P.map (m2 (vl a b c [T,U,M,N,B,C] 0))++L)=ah (Q.map (m2 (vl a b c [T,U,M,N,B,C] 0))++L):=λP Q h L=>zA 0 P Q (λj hj=>nomatch hj) h;have t:∀{P P':List (Int×Int)},(∀L,ah (P++L)=ah (P'++L))->tp P 0 X g=tp P' 0 X g:=λ{P P'} hh=>funext λi=>kE (k:=0) rfl (λw _=>by rw[jr];exact hh _) 0 g i;have qA:∀L,ah (fA.map (m2 (vl a b c [T,U,M,N,B,C] 1))++L)=ah (fA.map (m2 (vl a b c [T,U,M,N,B,C] 0))++L):=q [(8,7),(3,5),(6,4)] fA rfl;have qB:∀L,ah (fB.map (m2 (vl a b c [T,U,M,N,B,C] 1))++L)=ah (fB.map (m2 (vl a b c [T,U,M,N,B,C] 0))++L):=q [(6,8),(4,3),(7,5)] fB rfl;have qF:∀L,ah (fF.map (m2 (vl a b c [T,U,M,N,B,C] 1))++L)=ah (fF.map (m2 (vl a b c [T,U,M,N,B,C] 0))++L):=q [(4,7),(6,5),(8,3)] fF rfl;have qT:∀L,ah (fT.map (m2 (vl a b c [T,U,M,N,B,C] 1))++L)=ah (fT.map (m2 (vl a b c [T,U,M,N,B,C] 0))++L):=q [(6,5),(4,3),(8,7)] fT rfl;have q2:∀L,ah ([(5,4),(3,6),(7,8)].map (m2 (vl a b c [T,U,M,N,B,C] 1))++L)=ah ([(5,4),(3,6),(7,8)].map (m2 (vl a b c [T,U,M,N,B,C] 0))++L):=q [(6,3),(4,5),(8,7)] _ rfl;have q3:∀L,ah ([(5,6),(3,7),(4,8)].map (m2 (vl a b c [T,U,M,N,B,C] 1))++L)=ah ([(5,6),(3,7),(4,8)].map (m2 (vl a b c [T,U,M,N,B,C] 0))++L):=q [(6,5),(4,8),(3,7)] _ rfl;have q6:∀L,ah ([(5,8),(3,4),(7,6)].map (m2 (vl a b c [T,U,M,N,B,C] 1))++L)=ah ([(5,8),(3,4),(7,6)].map (m2 (vl a b c [T,U,M,N,B,C] 0))++L):=q [(6,7),(4,3),(8,5)] _ rfl;refine⟨by rw[NJ h,NJ k,qT],0,?_,λi=>?_⟩
 ·rw[Ut he h,Ut he k,qA,qB,qF,q2,q3,q6,d9 (k:=0) (P:=fT.map (m2 (vl a b c [T,U,M,N,B,C] 1))) (P':=fT.map (m2 (vl a b c [T,U,M,N,B,C] 0))) rfl λw _=>by rw[jr];exact qT _]
  exact(Int.add_zero _).symm
 ·rw[show i+3*0=i from Int.add_zero i,P2 he h,P2 he k,t qA,t qB,t qF,t (P:=fD.map (m2 (vl a b c [T,U,M,N,B,C] 1))) (q [(8,3),(6,4),(7,5)] fE rfl),t (P:=fE.map (m2 (vl a b c [T,U,M,N,B,C] 1))) (q [(6,8),(3,5),(4,7)] fD rfl)]
  generalize tp (fD.map _) 0 X g (i-(e-f))=x;generalize tp (fE.map _) 0 X g (i-(e-f))=y;simp;omega
noncomputable def put3(Q:List (List Int))(x y z:Nat)(a b c:List Int):List (List Int):=((Q.set x a).set y b).set z c
theorem bB{Q:List (List Int)}(h:k≠l):(Q.set k r).getD l []=Q.getD l []:=by
 rw[Fc,Fc,x_ h]
theorem dB{Q:List (List Int)}(h:k<Q.length):(Q.set k r).getD k []=r:=by
 rw[Fc,BM h];rfl
theorem cG{r:List Int}(r4:r.length=4)(hi:i=1\/i=3)(he:e=0\/e=2)(v:Int):r.count v=[r.getD i 0,r.getD ((i+2)%4) 0,r.getD e 0,r.getD ((e+2)%4) 0].count v:=by
 obtain⟨a,b,c,d,rfl⟩:=lh r4;rcases hi with rfl|rfl<;>rcases he with rfl|rfl
 ·show _=[b,d,a,c].count v
  simp only[Ax,List.count_nil];omega
 ·show _=[b,d,c,a].count v
  simp only[Ax,List.count_nil];omega
 ·show _=[d,b,a,c].count v
  simp only[Ax,List.count_nil];omega
 ·show _=[d,b,c,a].count v
  simp only[Ax,List.count_nil];omega
noncomputable def nr(i e:Nat)(a b c d:Int):List Int:=(((List.replicate 4 (0:Int)).set i a).set ((i+2)%4) b|>.set e c).set ((e+2)%4) d
theorem rQ(hi:i=1\/i=3)(he:e=0\/e=2)(a b c d:Int):(nr i e a b c d).length=4/\(nr i e a b c d).getD i 0=a/\(nr i e a b c d).getD ((i+2)%4) 0=b/\(nr i e a b c d).getD e 0=c/\(nr i e a b c d).getD ((e+2)%4) 0=d:=by
 rcases hi with rfl|rfl<;>rcases he with rfl|rfl<;>exact⟨rfl,rfl,rfl,rfl,rfl⟩
noncomputable def sk(r:List Int)(a b:Nat)(t:Int):Option Nat:=if r.getD a 0=t then some a else if r.getD b 0=t then some b else none
noncomputable def ft(c g h:List Int)(low step:Nat):Option (List Nat):=match sk g 1 3 (c.getD ((low+step)%4) 0) with
 |none=>none
 |some j=>match sk h 0 2 (g.getD ((j+step)%4) 0) with
  |none=>none
  |some q=>if h.getD ((q+step)%4) 0=c.getD low 0 then some [low,(low+step)%4,j,(j+step)%4,q,(q+step)%4] else none
noncomputable def jk(Q L:List (List Int))(a b:Nat×Nat):List (List Int):=dn (dn (dn (dn L a (ay Q (fe b))) b (ay Q (fe a))) (fe a) (ay Q a)) (fe b) (ay Q a)
noncomputable def rf(Q:List (List Int))(x y z p i j r q o:Nat):List (List Int):=jk Q (jk Q (jk Q Q (x,i) (y,j)) (x,p) (z,o)) (y,r) (z,q)
noncomputable def Cg:List (Option (List Nat))->Option (List Nat)
 |[]=>none
 |some f::_=>some f
 |none::r=>Cg r
noncomputable def se(c g h:List Int):Option (List Nat):=Cg [ft c g h 0 1,ft c g h 2 1,ft c g h 0 3,ft c g h 2 3]
noncomputable def AL(Q:List (List Int))(x y z:Nat):List Nat->List (List Int)
 |[p,i,j,r,q,o]=>rf Q x y z p i j r q o
 |_=>[]
section
variable{Q:List (List Int)}{x y z:Nat}{a b c:List Int}
theorem Mu(hx:x<Q.length)(zk:x≠y)(DB:x≠z)(e:Nat)(v:Int):dn (put3 Q x y z a b c) (x,e) v=put3 Q x y z (a.set e v) b c:=by
 unfold dn put3;have g1:(((Q.set x a).set y b).set z c).getD x []=a:=by
  rw[Fc,x_ (kg DB),x_ (kg zk),BM hx];rfl
 show(((Q.set x a).set y b).set z c).set x (((((Q.set x a).set y b).set z c).getD x []).set e v)=_;rw[g1,List.set_comm _ _ DB.symm,List.set_comm _ _ zk.symm,List.set_set]
theorem Mw(hy:y<Q.length)(DC:y≠z)(e:Nat)(v:Int):dn (put3 Q x y z a b c) (y,e) v=put3 Q x y z a (b.set e v) c:=by
 unfold dn put3;have g1:(((Q.set x a).set y b).set z c).getD y []=b:=by
  rw[Fc,x_ (kg DC),BM (by rw[Cn];exact hy)];rfl
 show(((Q.set x a).set y b).set z c).set y (((((Q.set x a).set y b).set z c).getD y []).set e v)=_;rw[g1,List.set_comm _ _ DC.symm,List.set_set]
theorem Mx(hz:z<Q.length)(e:Nat)(v:Int):dn (put3 Q x y z a b c) (z,e) v=put3 Q x y z a b (c.set e v):=by
 unfold dn put3;have g1:(((Q.set x a).set y b).set z c).getD z []=c:=by
  rw[Fc,BM (by rw[Cn,Cn];exact hz)];rfl
 show(((Q.set x a).set y b).set z c).set z (((((Q.set x a).set y b).set z c).getD z []).set e v)=_;rw[g1,List.set_set]
theorem vQ(hx:x<Q.length)(hy:y<Q.length)(hz:z<Q.length):put3 Q x y z (Q.getD x []) (Q.getD y []) (Q.getD z [])=Q:=by
 have h:∀{R:List (List Int)}{k:Nat},k<R.length->R.set k (R.getD k [])=R:=λ{R k} hk=>by
  have:R.getD k []=R[k]:=by simp[hk]
  rw[this,List.set_getElem_self]
 unfold put3;rw[h hx,h hy,h hz]
end
noncomputable def P4(c g h:List Int):List Nat->List Int
 |[p,i,j,r,q,o]=>(((c.set ((i+2)%4) (c.getD i 0)).set i (g.getD ((j+2)%4) 0)).set ((p+2)%4) (c.getD p 0)).set p (h.getD ((o+2)%4) 0)
 |_=>[]
noncomputable def P5(c g h:List Int):List Nat->List Int
 |[p,i,j,r,q,o]=>(((g.set j (c.getD ((i+2)%4) 0)).set ((j+2)%4) (c.getD i 0)).set ((r+2)%4) (g.getD r 0)).set r (h.getD ((q+2)%4) 0)
 |_=>[]
noncomputable def P6(c g h:List Int):List Nat->List Int
 |[p,i,j,r,q,o]=>(((h.set o (c.getD ((p+2)%4) 0)).set ((o+2)%4) (c.getD p 0)).set q (g.getD ((r+2)%4) 0)).set ((q+2)%4) (g.getD r 0)
 |_=>[]
def SY(f:List Nat):Prop:=∃s p j q:Nat,(s=1\/s=3)/\(p=0\/p=2)/\(j=1\/j=3)/\(q=0\/q=2)/\f=[p,(p+s)%4,j,(j+s)%4,q,(q+s)%4]
theorem zQ(h4:∀r∈Q,r.length=4)(hx:x<Q.length)(hy:y<Q.length)(hz:z<Q.length)(zk:x≠y)(DB:x≠z)(DC:y≠z)(hf:SY f):
  AL Q x y z f=put3 Q x y z (P4 (Q.getD x []) (Q.getD y []) (Q.getD z []) f) (P5 (Q.getD x []) (Q.getD y []) (Q.getD z []) f) (P6 (Q.getD x []) (Q.getD y []) (Q.getD z []) f):=by
 have e0:∀A B:Nat×Nat,jk Q Q A B=jk Q (put3 Q x y z (Q.getD x []) (Q.getD y []) (Q.getD z [])) A B:=λA B=>by rw[vQ hx hy hz]
 have r4:∀{k:Nat},k<Q.length->(Q.getD k []).length=4:=λ{k} hk=>by
  have:Q.getD k []=Q[k]:=by simp[hk]
  rw[this];exact h4 _ (xk hk)
 have lx:∀e,ay Q (x,e)=(Q.getD x []).getD e 0:=λ_=>rfl;have ly:∀e,ay Q (y,e)=(Q.getD y []).getD e 0:=λ_=>rfl;have lz:∀e,ay Q (z,e)=(Q.getD z []).getD e 0:=λ_=>rfl;have op:∀a e:Nat,fe (a,e)=(a,(e+2)%4):=λ_ _=>rfl;have q1:=r4 hx;have q2:=r4 hy;have q3:=r4 hz;obtain⟨s,p,j,q,hs,hp,hj,hq,rfl⟩:=hf;show rf Q x y z p ((p+s)%4) j ((j+s)%4) q ((q+s)%4)=_;unfold rf;rw[e0];simp only[jk,op,lx,ly,lz];generalize Q.getD x []=c,Q.getD y []=g,Q.getD z []=h at*;simp only[Mu hx zk DB,Mw hy DC,Mx hz];obtain⟨c0,c1,c2,c3,rfl⟩:=lh q1;obtain⟨g0,g1,g2,g3,rfl⟩:=lh q2;obtain⟨h0,h1,h2,h3,rfl⟩:=lh q3;clear e0;rcases hs with rfl|rfl<;>rcases hp with rfl|rfl<;>rcases hj with rfl|rfl<;>rcases hq with rfl|rfl<;>rfl
theorem fM(h:sk r a b t=some e):(e=a\/e=b)/\r.getD e 0=t:=by
 unfold sk at h;by_cases h1:r.getD a 0=t
 ·rw[bg h1] at h
  cases h;exact⟨.inl rfl,h1⟩
 ·rw[bh h1] at h
  by_cases h2:r.getD b 0=t
  ·rw[bg h2] at h
   cases h;exact⟨.inr rfl,h2⟩
  ·rw[bh h2] at h;cases h
theorem rR(e:ft c g h low step=some f):∃j q:Nat,(j=1\/j=3)/\(q=0\/q=2)/\f=[low,(low+step)%4,j,(j+step)%4,q,(q+step)%4]/\g.getD j 0=c.getD ((low+step)%4) 0/\h.getD q 0=g.getD ((j+step)%4) 0/\h.getD ((q+step)%4) 0=c.getD low 0:=by
 unfold ft at e
 cases e1:sk g 1 3 (c.getD ((low+step)%4) 0) with
 |none=>rw[e1] at e;cases e
 |some j=>
  rw[e1] at e;dsimp only at e
  cases e2:sk h 0 2 (g.getD ((j+step)%4) 0) with
  |none=>rw[e2] at e;cases e
  |some q=>
   rw[e2] at e;dsimp only at e;by_cases h3:h.getD ((q+step)%4) 0=c.getD low 0
   ·rw[bg h3] at e
    cases e;exact⟨j,q,(fM e1).1,(fM e2).1,rfl,(fM e1).2,(fM e2).2,h3⟩
   ·rw[bh h3] at e;cases e
theorem pU(e:se c g h=some f):∃low step:Nat,(low=0\/low=2)/\(step=1\/step=3)/\ft c g h low step=some f:=by
 unfold se at e
 cases e1:ft c g h 0 1 with
 |some f'=>rw[e1] at e;cases e;exact⟨0,1,.inl rfl,.inl rfl,e1⟩
 |none=>
  rw[e1] at e
  cases e2:ft c g h 2 1 with
  |some f'=>rw[e2] at e;cases e;exact⟨2,1,.inr rfl,.inl rfl,e2⟩
  |none=>
   rw[e2] at e
   cases e3:ft c g h 0 3 with
   |some f'=>rw[e3] at e;cases e;exact⟨0,3,.inl rfl,.inr rfl,e3⟩
   |none=>
    rw[e3] at e
    cases e4:ft c g h 2 3 with
    |some f'=>rw[e4] at e;cases e;exact⟨2,3,.inr rfl,.inr rfl,e4⟩
    |none=>rw[e4] at e;cases e
theorem P7(h:∀L,ah (B++L)=ah (B'++L))(A M:List (Int×Int)):ah (A++(B++M))=ah (A++(B'++M)):=by
 have e:∀B:List (Int×Int),ah (A++(B++M))=ah (B++(A++M)):=λB=>aS (by rw[←ql,←ql];exact EW _ za);rw[e,e,h]
theorem P8(h4:r.length=4)(hp:p=0\/p=2)(ht:t=1\/t=3)(he:t=1/\e=0/\f=1\/t=3/\e=1/\f=0)(ga:r.getD p 0=a)(gb:r.getD ((p+2)%4) 0=b)(gc:r.getD ((p+t)%4) 0=c)(gd:r.getD (((p+t)%4+2)%4) 0=d)(L:List (Int×Int)):
  ah (p3 (x4 r) e++L)=ah ([(a,c),(b,d)]++L)/\ah (p3 (x4 r) f++L)=ah ([(a,d),(b,c)]++L)/\ah (p3 (x4 r) 2++L)=ah ([(a,b),(c,d)]++L):=by
 subst ga gb gc gd;obtain⟨a,b,c,d,rfl⟩:=lh h4;have w:=cQ;have s:=aW;have z:=Dg;rcases hp with rfl|rfl<;>rcases he with⟨rfl,rfl,rfl⟩|⟨rfl,rfl,rfl⟩
 ·exact⟨rfl,z [(a,d)] b c L,rfl⟩
 ·exact⟨z [(a,d)] b c L,rfl,z [(a,c)] b d L⟩
 ·exact⟨w ..,(w ..).trans (s ..),(s ..).trans (z [(c,a)] b d L)⟩
 ·exact⟨(w ..).trans (s ..),w ..,s ..⟩
theorem Nh(p t:Nat):((p+2)%4+t)%4=((p+t)%4+2)%4:=by omega
theorem Mz(h:p<4):((p+2)%4+2)%4=p:=by omega
theorem Uu(ht:t=1\/t=3):((j+t)%4+t)%4=(j+2)%4:=by omega
theorem Ji(hj:j=1\/j=3)(ht:t=1\/t=3):(j+t)%4=0\/(j+t)%4=2:=by omega
theorem Jj(hp:p=0\/p=2)(ht:t=1\/t=3):(p+t)%4=1\/(p+t)%4=3:=by omega
theorem pV(hp:p=0\/p=2):p<4/\((p+2)%4=0\/(p+2)%4=2):=by omega
theorem tY(hp:p=1\/p=3):p<4/\((p+2)%4=1\/(p+2)%4=3):=by omega
theorem tZ(hX:X.length=4)(hY:Y.length=4)(hZ:Z.length=4)(ht:t=1\/t=3)(hp:p=0\/p=2)(hj:j=1\/j=3)(hq:q=0\/q=2)
  (x1:X.getD p 0=v 1) (x2:X.getD ((p+2)%4) 0=v 5) (x3:X.getD ((p+t)%4) 0=v 0) (SX:X.getD (((p+t)%4+2)%4) 0=v 3)
  (y1:Y.getD ((j+t)%4) 0=v 2) (y2:Y.getD (((j+t)%4+2)%4) 0=v 7) (y3:Y.getD j 0=v 0) (y4:Y.getD ((j+2)%4) 0=v 4)
  (z1:Z.getD q 0=v 2) (z2:Z.getD ((q+2)%4) 0=v 8) (z3:Z.getD ((q+t)%4) 0=v 1) (z4:Z.getD (((q+t)%4+2)%4) 0=v 6)
  (he:t=1/\e=0/\f=1\/t=3/\e=1/\f=0) (hv:∀j<3,v j∉names L/\∀i,j<i->v j≠v i):C3 (x4 X) (x4 Y) (x4 Z) e f v L:=by
 have S:∀{r:List Int}{p:Nat}{a b c d:Nat},r.length=4->(p=0\/p=2)->r.getD p 0=v a->r.getD ((p+2)%4) 0=v b->r.getD ((p+t)%4) 0=v c->r.getD (((p+t)%4+2)%4) 0=v d->∀s L,ah (p3 (x4 r) (kd e f s)++L)=ah ((Q4 a b c d s).map (m2 v)++L):=λh1 h2 ga gb gc gd s L=>by
  have R:=P8 h1 h2 ht he ga gb gc gd L
  match s with
  |0=>exact R.1
  |1=>exact R.2.1
  |_+2=>exact R.2.2
 have RY:=S (a:=2) (b:=7) (c:=4) (d:=0) hY (Ji hj ht) y1 y2 (by rw[Uu ht];exact y4) (by rw[Uu ht,Mz (by omega)];exact y3);refine⟨hv,λa b c=>?_⟩;rw[f3,wj,wj,ql,ql,S hX hp x1 x2 x3 SX,P7 (RY b),←ql,P7 (S hZ hq z1 z2 z3 z4 c),ql]
theorem pW:bu (put3 Q x y z a b c) [(x:Int),(y:Int),(z:Int)]=bu Q [(x:Int),(y:Int),(z:Int)]:=by
 unfold bu;rw[show(put3 Q x y z a b c).length=Q.length by simp[put3]];refine Ae λk hk=>?_;have h:¬((k:Int)∈[(x:Int),(y:Int),(z:Int)]):=by
  have:=(E1.1 hk).2;simpa using this
 simp only[qf,BW,BY,not_or] at h;unfold put3;rw[bB (by omega),bB (by omega),bB (by omega)]
theorem zR(hc:c.length=4)(hg:g.length=4)(hh:h.length=4)(ht:t=1\/t=3)(hp:p=0\/p=2)(hj:j=1\/j=3)(hq:q=0\/q=2):
  P4 c g h [p,(p+t)%4,j,(j+t)%4,q,(q+t)%4]=nr ((p+t)%4) p (g.getD ((j+2)%4) 0) (c.getD ((p+t)%4) 0) (h.getD (((q+t)%4+2)%4) 0) (c.getD p 0)/\
  P5 c g h [p,(p+t)%4,j,(j+t)%4,q,(q+t)%4]=nr j ((j+t)%4) (c.getD (((p+t)%4+2)%4) 0) (c.getD ((p+t)%4) 0) (h.getD ((q+2)%4) 0) (g.getD ((j+t)%4) 0)/\
  P6 c g h [p,(p+t)%4,j,(j+t)%4,q,(q+t)%4]=nr ((q+t)%4) q (c.getD ((p+2)%4) 0) (c.getD p 0) (g.getD (((j+t)%4+2)%4) 0) (g.getD ((j+t)%4) 0):=by
 refine⟨?_,?_,?_⟩
 ·obtain⟨c0,c1,c2,c3,rfl⟩:=lh hc
  rcases ht with rfl|rfl<;>rcases hp with rfl|rfl<;>rfl
 ·obtain⟨c0,c1,c2,c3,rfl⟩:=lh hg
  rcases ht with rfl|rfl<;>rcases hj with rfl|rfl<;>rfl
 ·obtain⟨c0,c1,c2,c3,rfl⟩:=lh hh
  rcases ht with rfl|rfl<;>rcases hq with rfl|rfl<;>rfl
theorem dL{a b:List Int}(h:∀v,a.count v=b.count v):a.Perm b:=List.perm_iff_count.2 h
theorem MA{l:List Int}(h:v∈l->l.count v=2):l.count v<=2:=by
 by_cases hv:v∈l
 ·rw[h hv];exact ji 2
 ·rw[Dn.2 hv];decide
theorem Uv(a b c T U M N B C:Int)(I:List Nat)(h:I.Perm [3,0,5,1,4,0,7,2,8,2,6,1]):(I.map λi=>[a,b,c,T,U,M,N,B,C].getD i 0).Perm [T,a,M,b,U,a,B,c,C,c,N,b]:=h.map λi=>[a,b,c,T,U,M,N,B,C].getD i 0
theorem zS(lx:x<Q.length)(ly:y<Q.length)(lz:z<Q.length)(zk:x≠y)(DB:x≠z)(DC:y≠z):(put3 Q x y z a b c).Perm (a::b::c::bu Q [(x:Int),(y:Int),(z:Int)])/\(put3 Q x y z a b c).length=Q.length:=by
 have hl:(put3 Q x y z a b c).length=Q.length:=by simp[put3]
 have pn:=fK (Q:=put3 Q x y z a b c) (ks:=[x,y,z]) (by simp[zk,DB,DC]) (by rw[hl];simp[lx,ly,lz]);simp only[j_,A',E0,Bg,pW] at pn;rw[show(put3 Q x y z a b c).getD x []=a by unfold put3;rw[bB DB.symm,bB zk.symm,dB lx],
  show(put3 Q x y z a b c).getD y []=b by unfold put3;rw[bB DC.symm,dB (by rw[Cn];exact ly)],
  show(put3 Q x y z a b c).getD z []=c by unfold put3;rw[dB (by rw[Cn,Cn];exact lz)]] at pn
 exact⟨pn,hl⟩
theorem dbl{M:List Int}(h:∀v,(l::l::M).count v<=2):l∉M/\∀v,M.count v<=2:=
 ⟨λhm=>by have:=h l;rw[MT,MT] at this;have:=Fi.2 hm;omega,λv=>rm (rm List.count_le_count_cons List.count_le_count_cons) (h v)⟩
theorem S0{W:List Int}(h:∀v,([T,a,M,b,U,a,B,c,C,c,N,b]++W).count v<=2):a≠b/\a≠c/\b≠c/\(a∉[T,U,M,N,B,C]/\b∉[T,U,M,N,B,C]/\c∉[T,U,M,N,B,C])/\a∉W/\b∉W/\c∉W:=by
 have p:([T,a,M,b,U,a,B,c,C,c,N,b]++W).Perm (a::a::b::b::c::c::[T,U,M,N,B,C]++W):=EW W ((by decide:[3,0,5,1,4,0,7,2,8,2,6,1].Perm [0,0,1,1,2,2,3,4,5,6,7,8]).map λi=>[a,b,c,T,U,M,N,B,C].getD i 0);obtain⟨n1,h1⟩:=dbl λv=>(p.count_eq v)▸h v;obtain⟨n2,h2⟩:=dbl h1;obtain⟨n3,h3⟩:=dbl h2;have n1:=not_or.1 (mt qf.2 n1);have m1:=not_or.1 (mt qf.2 (not_or.1 (mt qf.2 n1.2)).2);have k1:=not_or.1 (mt Bh.2 (not_or.1 (mt qf.2 m1.2)).2);have m2:=not_or.1 (mt qf.2 n2);have k2:=not_or.1 (mt Bh.2 (not_or.1 (mt qf.2 m2.2)).2);have k3:=not_or.1 (mt Bh.2 n3);exact⟨n1.1,m1.1,m2.1,⟨k1.1,k2.1,k3.1⟩,k1.2,k2.2,k3.2⟩
theorem Jk(hV:V.length=6)(hs:s<2)(h1:a≠b)(h2:a≠c)(h3:b≠c)(o:a∉V/\b∉V/\c∉V)(f:a∉names L/\b∉names L/\c∉names L):∀j<3,vl a b c V s j∉names L/\∀i,j<i->vl a b c V s j≠vl a b c V s i:=by
 have g:∀{l},l∉V->∀i:Nat,l≠V.getD (i%6^^^s) 0:=λ{l} h i e=>h (by
  have:i%6^^^s<V.length:=hV▸(by decide:∀s<2,∀k<6,k^^^s<6) s hs (i%6) (Nat.mod_lt _ (by decide));rw[e,Fc,Ai this];exact xk this)
 intro j hj
 match j,hj with
 |0,_=>exact⟨f.1,fun|1,_=>h1|2,_=>h2|i+3,_=>g o.1 i⟩
 |1,_=>exact⟨f.2.1,fun|2,_=>h3|i+3,_=>g o.2.1 i⟩
 |2,_=>exact⟨f.2.2,fun|i+3,_=>g o.2.2 i⟩
theorem bc.P9(s:bc Q m)(hx:x<m)(hy:y<m)(hz:z<m)(zk:x≠y)(DB:x≠z)(DC:y≠z)(h:se (Q.getD x []) (Q.getD y []) (Q.getD z [])=some f)(g:Nat):
  bc (dz (AL Q x y z f)) m/\Kq (Q.map x4) g ((dz (AL Q x y z f)).map x4) g:=by
 obtain⟨p,t,hp,ht,h⟩:=pU h;obtain⟨j,q,hj,hq,rfl,e1,e2,e3⟩:=rR h;have lx:x<Q.length:=by rw[s.len];exact hx
 have ly:y<Q.length:=by rw[s.len];exact hy
 have lz:z<Q.length:=by rw[s.len];exact hz
 rw[zQ s.four lx ly lz zk DB DC ⟨t,p,j,q,ht,hp,hj,hq,rfl⟩];have pm:Q.Perm (Q.getD x []::Q.getD y []::Q.getD z []::bu Q [(x:Int),(y:Int),(z:Int)]):=fK (ks:=[x,y,z]) (by simp[zk,DB,DC]) (by simp[lx,ly,lz]);have hi:=Jj hp ht;have hr:=Ji hj ht;have ho:=Jj hq ht;have w4:∀r∈bu Q [(x:Int),(y:Int),(z:Int)],r.length=4:=bE s.four;have fx:=s.four _ (pm.mem_iff.2 wo:Q.getD x []∈Q);have fy:=s.four _ (pm.mem_iff.2 (rk _ wo):Q.getD y []∈Q);have fz:=s.four _ (pm.mem_iff.2 (rk _ (rk _ wo)):Q.getD z []∈Q);obtain⟨nC,nG,nH⟩:=zR fx fy fz ht hp hj hq;rw[nC,nG,nH];have P:=λa b c=>zS (Q:=Q) (a:=a) (b:=b) (c:=c) lx ly lz zk DB DC;have Uw:∀v,v∈Q.flatten->Q.flatten.count v=2:=λv hv=>s.HN hv;have hm:=s.len;generalize bu Q [(x:Int),(y:Int),(z:Int)]=W,Q.getD x []=X,Q.getD y []=Y,Q.getD z []=Z at*;clear h s nC nG nH hx hy hz lx ly lz zk DB DC;have cx:=cG fx hi hp;have cy:=cG fy hj hr;have cz:=cG fz ho hq;rw[e1] at cy;rw[e2,e3] at cz;generalize h1:X.getD ((p+t)%4) 0=l1 at*;generalize h2:X.getD p 0=l2 at*;generalize h3:Y.getD ((j+t)%4) 0=l3 at*;generalize h4:X.getD (((p+t)%4+2)%4) 0=T at*;generalize h5:X.getD ((p+2)%4) 0=M at*;generalize h6:Y.getD ((j+2)%4) 0=U at*;generalize h7:Y.getD (((j+t)%4+2)%4) 0=B at*;generalize h8:Z.getD (((q+t)%4+2)%4) 0=N at*;generalize h9:Z.getD ((q+2)%4) 0=C at*;obtain⟨a4,a1,a2,a3,a5⟩:=rQ hi hp U l1 N l2;obtain⟨b4,b1,b2,b3,b5⟩:=rQ hj hr T l1 C l3;obtain⟨c4,c1,c2,c3,c5⟩:=rQ ho hq M l2 B l3;have ux:=cG a4 hi hp;have uy:=cG b4 hj hr;have uz:=cG c4 ho hq;rw[a1,a2,a3,a5] at ux;rw[b1,b2,b3,b5] at uy;rw[c1,c2,c3,c5] at uz;obtain⟨pn,di⟩:=P (nr ((p+t)%4) p U l1 N l2) (nr j ((j+t)%4) T l1 C l3) (nr ((q+t)%4) q M l2 B l3);clear P;generalize nr ((p+t)%4) p U l1 N l2=X',nr j ((j+t)%4) T l1 C l3=Y',nr ((q+t)%4) q M l2 B l3=Z' at*;generalize put3 Q x y z X' Y' Z'=R at*;have cq:Q.flatten.Perm ([T,l1,M,l2,U,l1,B,l3,C,l3,N,l2]++W.flatten):=pm.flatten.trans ?cq;have cr:R.flatten.Perm ([T,l1,M,l2,U,l1,B,l3,C,l3,N,l2]++W.flatten):=pn.flatten.trans ?cr
 case cq=>exact(((dL cx).append ((dL cy).append ((dL cz).append_right W.flatten)))).trans ((List.Perm.of_eq rfl).trans (EW W.flatten (Uv l1 l2 l3 T U M N B C [0,3,1,5,0,4,2,7,1,6,2,8] (by decide))))
 case cr=>exact(((dL ux).append ((dL uy).append ((dL uz).append_right W.flatten)))).trans ((List.Perm.of_eq rfl).trans (EW W.flatten (Uv l1 l2 l3 T U M N B C [4,0,6,1,3,0,8,2,5,1,7,2] (by decide))))
 obtain⟨Ux,Uy,Uz,o,w⟩:=S0 (λv=>by rw[←cq.count_eq];exact MA (Uw v));have n4:∀r∈R,r.length=4:=λr hr=>by
  rcases qf.1 (pn.mem_iff.1 hr) with rfl|hr
  ·exact a4
  rcases qf.1 hr with rfl|hr
  ·exact b4
  rcases qf.1 hr with rfl|hr
  ·exact c4
  ·exact w4 r hr
 have sh:=(gJ n4 λv hv=>by rw[(cr.trans cq.symm).count_eq];exact Uw v ((cr.trans cq.symm).mem_iff.1 hv)).1;rw[di,hm] at sh;refine⟨sh,(Kq.perm (pm.map x4) g).trans (Kq.trans ?_ ((Kq.perm (pn.map x4) g).symm.trans (Kq.num n4 g)))⟩;obtain⟨e,f,he⟩:∃e f:Int,t=1/\e=0/\f=1\/t=3/\e=1/\f=0:=by
  rcases ht with rfl|rfl
  ·exact⟨0,1,.inl ⟨rfl,rfl,rfl⟩⟩
  ·exact⟨1,0,.inr ⟨rfl,rfl,rfl⟩⟩
 have F:∀ws,l1∉names (jb (W.map x4) ws)/\l2∉names (jb (W.map x4) ws)/\l3∉names (jb (W.map x4) ws):=λws=>⟨λz=>w.1 (bF w4 z),λz=>w.2.1 (bF w4 z),λz=>w.2.2 (bF w4 z)⟩
 exact Mt (he.imp And.right And.right)
  (λws=>tZ (v:=vl l1 l2 l3 [T,U,M,N,B,C] 0) fx fy fz ht hp hj hq h2 h5 h1 h4 h3 h7 e1 h6 e2 h9 e3 h8 he (Jk rfl (by decide) Ux Uy Uz o (F ws)))
  (λws=>tZ (v:=vl l1 l2 l3 [T,U,M,N,B,C] 1) (p:=(p+2)%4) (j:=(j+2)%4) (q:=(q+2)%4) a4 b4 c4 ht (pV hp).2 (tY hj).2 (pV hq).2 a5 (by rw[Mz (pV hp).1];exact a3) (by rw[Nh];exact a2) (by rw[Nh,Mz (tY hi).1];exact a1) (by rw[Nh];exact b5) (by rw[Nh,Mz (pV hr).1];exact b3) b2 (by rw[Mz (tY hj).1];exact b1) c5 (by rw[Mz (pV hq).1];exact c3) (by rw[Nh];exact c2) (by rw[Nh,Mz (tY ho).1];exact c1) he (Jk rfl (by decide) Ux Uy Uz o (F ws))) g
theorem Kp.q(h:Kp X Y)(g:Nat):Kq X g Y g:=by
 obtain⟨a,d,b,c⟩:=h;exact⟨by rw[a],d,b,c g⟩
theorem bc.P_(s:bc Q m)(hw:w<4)(g:Nat):bc (dz (Q++[jw (2*m:Nat) (2*m:Nat) ((2*m:Nat)+1) w])) (m+1)/\Kq (Q.map x4) (g+1) ((dz (Q++[jw (2*m:Nat) (2*m:Nat) ((2*m:Nat)+1) w])).map x4) g:=by
 have c4:=gH (2*m:Nat) (2*m:Nat) ((2*m:Nat)+1) w;have h4:∀r∈Q++[jw (2*m:Nat) (2*m:Nat) ((2*m:Nat)+1) w],r.length=4:=λr hr=>by
  rcases Bh.1 hr with h|h
  ·exact s.four r h
  ·rw[MV.1 h];exact c4
 have cp:(jw (2*m:Nat) (2*m:Nat) ((2*m:Nat)+1) w).Perm [((2*m:Nat):Int),(2*m:Nat),(2*m:Nat)+1,(2*m:Nat)+1]:=by
  unfold jw;generalize ((2*m:Nat):Int)=n;generalize n+1=q;split
  ·exact za (l₁:=[q,q])
  split
  ·exact(za (l₁:=[q,q]) (l₂:=[n])).cons n
  split
  ·exact za (l₁:=[q,q])
  ·exact(za (l₁:=[q,q]) (l₂:=[n])).cons n
 have t:BD (Q++[jw (2*m:Nat) (2*m:Nat) ((2*m:Nat)+1) w]).flatten (2*(m+1)):=fI s.two (by
  rw[DG,Cm,List.flatten_nil,A_];exact(Ii _ cp).trans za)
 refine⟨kA (by simp[s.len]) h4 t,Kq.trans ?_ ((Kq.perm (((za (l₁:=Q)).map x4)) g).symm.trans (Kq.num h4 g))⟩;have QL:w=0\/w=1\/w=2\/w=3:=by omega
 refine EJ (c:=x4 (jw (2*m:Nat) (2*m:Nat) ((2*m:Nat)+1) w)) (L:=Q.map x4) (J:=Q.map x4) (k:=1) (e:=((w%2:Nat):Int)) (by omega) rfl (λu hu v hv=>?_) g;rw[kD hw hv (by omega) (by omega) λz=>s.Jg (by omega) (bF s.four z),bW,Nat.add_assoc];rfl
end Py
namespace L
open Py
noncomputable def MB:List Sm:=[(.bz 2 (.ak [])),(.loop .enum [(.ag .at (.aa 0) (.ao (.int 0)))] [3,4] [(.loop .js [(.ao (.int 4))] [5] [(.ite (.a_ (.ag .eq (.ag .at (.aa 4) (.aa 5)) (.aa 1))) [(.app 2 (.ar [(.aa 3),(.aa 5)]))] [])])]),(.ite (.not (.a_ (.aa 2))) [(.yi 1)] []),(.ret (.b_ .tuple (.aa 2)))]
noncomputable def kP:List Sm:=[(.ite (.or (.a_ (.ag .lt (.aa 1) (.ao (.int 0)))) (.a_ (.ag .ge (.aa 1) (.b_ .len (.ag .at (.aa 0) (.ao (.int 0))))))) [(.yi 1)] []),(.ret (.ag .at (.ag .at (.aa 0) (.ao (.int 0))) (.aa 1)))]
noncomputable def zT:List Sm:=[(.ret (.ag .add (.rq (.aa 0) (some (.aa 1)) none) (.rq (.aa 0) none (some (.aa 1)))))]
noncomputable def gK:List Sm:=[(.ret (.ag .at (.ag .at (.aa 0) (.ag .at (.aa 1) (.ao (.int 0)))) (.ag .at (.aa 1) (.ao (.int 1)))))]
noncomputable def eD:List Sm:=[(.ret (.ar [(.ag .at (.aa 0) (.ao (.int 0))),(.ag .mod (.ag .add (.ag .at (.aa 0) (.ao (.int 1))) (.ao (.int 2))) (.ao (.int 4)))]))]
noncomputable def rS:List Sm:=[(.new 2),(.bz 3 (.ak [])),(.loop .seq [(.aa 0)] [4] [(.loop .seq [(.aa 4)] [5] [(.ite (.a_ (.Ef true (.aa 5) (.aa 2))) [(.dput 2 (.aa 5) (.yh (.aa 2)))] [])]),(.app 3 (.b_ .tuple (.comp .seq [(.aa 4)] [2] 1 none (.sf (.aa 1) (.aa 0)))))]),(.ret (.ar [(.b_ .tuple (.aa 3)),(.aa 1)]))]
noncomputable def vR:List Sm:=[(.ret (.comp .enum [(.aa 0)] [1] 2 (some (.a_ (.ag .kr (.aa 0) (.aa 2)))) (.aa 1)))]
noncomputable def zU:List Sm:=[(.bz 3 (.b_ .list (.aa 0))),(.bz 4 (.b_ .list (.aa 2))),(.Dx (.a_ (.aa 4)) [(.bz 5 (.ag .at (.ag .at (.aa 4) (.ao (.int 0))) (.ao (.int 0)))),(.bz 6 (.ag .at (.ag .at (.aa 4) (.ao (.int 0))) (.ao (.int 1)))),(.ite (.a_ (.ag .eq (.aa 5) (.aa 6))) [(.bz 1 (.ag .add (.aa 1) (.ao (.int 1))))] []),(.bz 3 (.call 8 [(.aa 3),(.aa 6),(.aa 5)])),(.bz 4 (.call 8 [(.rq (.aa 4) (some (.ao (.int 1))) none),(.aa 6),(.aa 5)]))]),(.ret (.call 5 [(.aa 3),(.aa 1)]))]
noncomputable def vS:List Sm:=[(.ret (.comp .seq [(.aa 0)] [2,1] 1 none (.b_ .tuple (.comp .seq [(.aa 0)] [1,2] 1 none (.ite (.a_ (.ag .eq (.aa 0) (.aa 2))) (.aa 1) (.aa 0))))))]
noncomputable def kF:List Sm:=[(.bz 3 (.b_ .list (.ag .at (.aa 0) (.ao (.int 0))))),(.bz 4 (.ag .mul (.ao (.int 2)) (.b_ .len (.aa 3)))),(.bz 5 (.and (.ag .eq (.aa 1) (.aa 4)) (.ag .gt (.ag .at (.aa 0) (.ao (.int 1))) (.ao (.int 0))))),(.ite (.and (.not (.a_ (.aa 5))) (.or (.a_ (.ag .lt (.aa 1) (.ao (.int 0)))) (.a_ (.ag .ge (.aa 1) (.aa 4))))) [(.yi 1)] []),(.ite (.a_ (.ag .ge (.b_ .len (.aa 3)) (.glob 0))) [(.yi 0)] []),(.ite (.a_ (.aa 5)) [(.ret (.call 5 [(.ag .add (.aa 3) (.ak [(.call 10 [(.aa 4),(.aa 4),(.ag .add (.aa 4) (.ao (.int 1))),(.aa 2)])])),(.ag .sub (.ag .at (.aa 0) (.ao (.int 1))) (.ao (.int 1)))]))] []),(.bz 6 (.call 20 [(.aa 3),(.ag .at (.call 0 [(.aa 0),(.aa 1)]) (.ao (.int 1))),(.aa 4)])),(.ret (.call 5 [(.ag .add (.aa 6) (.ak [(.call 10 [(.aa 1),(.aa 4),(.ag .add (.aa 4) (.ao (.int 1))),(.aa 2)])])),(.ag .at (.aa 0) (.ao (.int 1)))]))]
noncomputable def kG:List Sm:=[(.ite (.a_ (.ag .ge (.aa 3) (.ao (.int 2)))) [(.ret (.call 10 [(.aa 1),(.aa 0),(.aa 2),(.ag .sub (.aa 3) (.ao (.int 2)))]))] []),(.ite (.a_ (.ag .eq (.aa 3) (.ao (.int 0)))) [(.ret (.ar [(.aa 2),(.aa 2),(.aa 0),(.aa 1)]))] []),(.ret (.ar [(.aa 0),(.aa 2),(.aa 2),(.aa 1)]))]
noncomputable def eF:List Sm:=[(.bz 2 (.call 1 [(.aa 0),(.aa 1)])),(.loop .js [(.ao (.int 4))] [3] [(.ite (.a_ (.ag .eq (.ag .at (.aa 2) (.aa 3)) (.ag .at (.aa 2) (.ag .mod (.ag .add (.aa 3) (.ao (.int 1))) (.ao (.int 4)))))) [(.bz 4 (.ar [(.ag .at (.aa 2) (.ag .mod (.ag .add (.aa 3) (.ao (.int 2))) (.ao (.int 4)))),(.ag .at (.aa 2) (.ag .mod (.ag .add (.aa 3) (.ao (.int 3))) (.ao (.int 4))))])),(.ret (.call 7 [(.call 6 [(.ag .at (.aa 0) (.ao (.int 0))),(.ar [(.aa 1)])]),(.ag .at (.aa 0) (.ao (.int 1))),(.ak [(.aa 4)])]))] [])]),(.yi 2)]
noncomputable def dC:List Sm:=[(.bz 4 (.ag .at (.call 0 [(.aa 0),(.aa 1)]) (.ao (.int 1)))),(.bz 5 (.ag .at (.call 0 [(.aa 0),(.aa 2)]) (.ao (.int 1)))),(.ite (.a_ (.ag .eq (.aa 1) (.aa 2))) [(.yi 2)] []),(.ite (.a_ (.ag .gt (.b_ .len (.ag .at (.aa 0) (.ao (.int 0)))) (.ag .sub (.glob 0) (.ao (.int 2))))) [(.yi 0)] []),(.bz 6 (.ag .mul (.ao (.int 2)) (.b_ .len (.ag .at (.aa 0) (.ao (.int 0)))))),(.bz 7 (.call 20 [(.call 20 [(.ag .at (.aa 0) (.ao (.int 0))),(.aa 4),(.aa 6)]),(.aa 5),(.ag .add (.aa 6) (.ao (.int 1)))])),(.ite (.a_ (.ag .eq (.ag .mod (.aa 3) (.ao (.int 2))) (.ao (.int 0)))) [(.bz 8 (.ar [(.aa 1),(.aa 6)]))] [(.bz 8 (.ar [(.aa 6),(.aa 1)]))]),(.ret (.call 5 [(.ag .add (.aa 7) (.call 13 [(.aa 8),(.ar [(.aa 2),(.ag .add (.aa 6) (.ao (.int 1)))]),(.ag .add (.aa 6) (.ao (.int 2))),(.aa 3)])),(.ag .at (.aa 0) (.ao (.int 1)))]))]
noncomputable def gL:List Sm:=[(.bz 4 (.aa 2)),(.bz 5 (.ag .add (.aa 2) (.ao (.int 1)))),(.ite (.a_ (.ag .lt (.aa 3) (.ao (.int 2)))) [(.ret (.ak [(.ar [(.ag .at (.aa 1) (.ao (.int 0))),(.aa 4),(.aa 5),(.ag .at (.aa 0) (.ao (.int 0)))]),(.ar [(.aa 5),(.aa 4),(.ag .at (.aa 1) (.ao (.int 1))),(.ag .at (.aa 0) (.ao (.int 1)))])]))] []),(.ret (.ak [(.ar [(.ag .at (.aa 1) (.ao (.int 0))),(.ag .at (.aa 0) (.ao (.int 0))),(.aa 5),(.aa 4)]),(.ar [(.aa 5),(.ag .at (.aa 0) (.ao (.int 1))),(.ag .at (.aa 1) (.ao (.int 1))),(.aa 4)])]))]
noncomputable def b6:List Sm:=[(.bz 3 (.call 1 [(.aa 0),(.aa 1)])),(.bz 4 (.call 1 [(.aa 0),(.aa 2)])),(.ite (.a_ (.ag .eq (.aa 1) (.aa 2))) [(.yi 2)] []),(.loop .seq [(.glob 1)] [5] [(.bz 6 (.call 15 [(.call 2 [(.aa 3),(.ag .at (.aa 5) (.ao (.int 0)))]),(.call 2 [(.aa 4),(.ag .at (.aa 5) (.ao (.int 1)))])])),(.ite (.a_ (.b_ .isNotNone (.aa 6))) [(.ret (.call 7 [(.call 6 [(.ag .at (.aa 0) (.ao (.int 0))),(.ar [(.aa 1),(.aa 2)])]),(.ag .at (.aa 0) (.ao (.int 1))),(.aa 6)]))] [])]),(.yi 2)]
noncomputable def eG:List Sm:=[(.ite (.a_ (.ag .ne (.ag .at (.aa 0) (.ao (.int 2))) (.ag .at (.aa 1) (.ao (.int 0))))) [(.ret (.ao .de))] []),(.loop .seq [(.ar [(.ao (.int 1)),(.ao (.int 3))])] [2] [(.ite (.a_ (.ag .eq (.ag .at (.aa 0) (.aa 2)) (.ag .at (.aa 1) (.aa 2)))) [(.ret (.ak [(.ar [(.ag .at (.aa 0) (.ao (.int 0))),(.ag .at (.aa 1) (.ao (.int 2)))]),(.ar [(.ag .at (.aa 0) (.ag .sub (.ao (.int 4)) (.aa 2))),(.ag .at (.aa 1) (.ag .sub (.ao (.int 4)) (.aa 2)))])]))] [])]),(.ret (.ao .de))]
noncomputable def rT:List Sm:=[(.bz 4 (.Am (.ar [(.aa 1),(.aa 2),(.aa 3)]) [0] 1 [(.aa 1),(.aa 0)])),(.ite (.or (.a_ (.ag .eq (.aa 1) (.aa 2))) (.or (.a_ (.ag .eq (.aa 1) (.aa 3))) (.a_ (.ag .eq (.aa 2) (.aa 3))))) [(.yi 2)] []),(.loop .seq [(.ar [(.ao (.int 1)),(.ao (.int 3))])] [5] [(.loop .seq [(.ar [(.ao (.int 0)),(.ao (.int 2))])] [6] [(.bz 7 (.call 17 [(.aa 4),(.aa 6),(.aa 5)])),(.ite (.a_ (.b_ .isNotNone (.aa 7))) [(.ret (.call 5 [(.call 19 [(.ag .at (.aa 0) (.ao (.int 0))),(.ar [(.aa 1),(.aa 2),(.aa 3)]),(.aa 7)]),(.ag .at (.aa 0) (.ao (.int 1)))]))] [])])]),(.yi 2)]
noncomputable def cN:List Sm:=[(.bz 3 (.ag .mod (.ag .add (.aa 1) (.aa 2)) (.ao (.int 4)))),(.bz 4 (.call 18 [(.ag .at (.aa 0) (.ao (.int 1))),(.ar [(.ao (.int 1)),(.ao (.int 3))]),(.ag .at (.ag .at (.aa 0) (.ao (.int 0))) (.aa 3))])),(.ite (.a_ (.b_ .isNone (.aa 4))) [(.ret (.ao .de))] []),(.bz 5 (.ag .mod (.ag .add (.aa 4) (.aa 2)) (.ao (.int 4)))),(.bz 6 (.call 18 [(.ag .at (.aa 0) (.ao (.int 2))),(.ar [(.ao (.int 0)),(.ao (.int 2))]),(.ag .at (.ag .at (.aa 0) (.ao (.int 1))) (.aa 5))])),(.ite (.a_ (.b_ .isNone (.aa 6))) [(.ret (.ao .de))] []),(.bz 7 (.ag .mod (.ag .add (.aa 6) (.aa 2)) (.ao (.int 4)))),(.ite (.a_ (.ag .ne (.ag .at (.ag .at (.aa 0) (.ao (.int 2))) (.aa 7)) (.ag .at (.ag .at (.aa 0) (.ao (.int 0))) (.aa 1)))) [(.ret (.ao .de))] []),(.ret (.ar [(.ar [(.aa 1),(.aa 3)]),(.ar [(.aa 4),(.aa 5)]),(.ar [(.aa 6),(.aa 7)])]))]
noncomputable def bY:List Sm:=[(.loop .seq [(.aa 1)] [3] [(.ite (.a_ (.ag .eq (.ag .at (.aa 0) (.aa 3)) (.aa 2))) [(.ret (.aa 3))] [])]),(.ret (.ao .de))]
noncomputable def kH:List Sm:=[(.bz 3 (.ar [(.ar [(.ar [(.ag .at (.aa 1) (.ao (.int 0))),(.ag .at (.ag .at (.aa 2) (.ao (.int 0))) (.ao (.int 1)))]),(.ar [(.ag .at (.aa 1) (.ao (.int 1))),(.ag .at (.ag .at (.aa 2) (.ao (.int 1))) (.ao (.int 0)))])]),(.ar [(.ar [(.ag .at (.aa 1) (.ao (.int 0))),(.ag .at (.ag .at (.aa 2) (.ao (.int 0))) (.ao (.int 0)))]),(.ar [(.ag .at (.aa 1) (.ao (.int 2))),(.ag .at (.ag .at (.aa 2) (.ao (.int 2))) (.ao (.int 1)))])]),(.ar [(.ar [(.ag .at (.aa 1) (.ao (.int 1))),(.ag .at (.ag .at (.aa 2) (.ao (.int 1))) (.ao (.int 1)))]),(.ar [(.ag .at (.aa 1) (.ao (.int 2))),(.ag .at (.ag .at (.aa 2) (.ao (.int 2))) (.ao (.int 0)))])])])),(.bz 4 (.b_ .list (.aa 0))),(.loop .seq [(.aa 3)] [5,6] [(.bz 7 (.call 3 [(.aa 0),(.aa 5)])),(.bz 4 (.call 20 [(.aa 4),(.aa 5),(.call 3 [(.aa 0),(.call 4 [(.aa 6)])])])),(.bz 4 (.call 20 [(.aa 4),(.aa 6),(.call 3 [(.aa 0),(.call 4 [(.aa 5)])])])),(.bz 4 (.call 20 [(.aa 4),(.call 4 [(.aa 5)]),(.aa 7)])),(.bz 4 (.call 20 [(.aa 4),(.call 4 [(.aa 6)]),(.aa 7)]))]),(.ret (.aa 4))]
noncomputable def vT:List Sm:=[(.bz 3 (.b_ .list (.aa 0))),(.bz 4 (.ag .at (.aa 3) (.ag .at (.aa 1) (.ao (.int 0))))),(.put 3 (.ag .at (.aa 1) (.ao (.int 0))) (.ag .add (.ag .add (.rq (.aa 4) none (some (.ag .at (.aa 1) (.ao (.int 1))))) (.ar [(.aa 2)])) (.rq (.aa 4) (some (.ag .add (.ag .at (.aa 1) (.ao (.int 1))) (.ao (.int 1)))) none))),(.ret (.aa 3))]
noncomputable def kQ:List Sm:=[(.ite (.a_ (.ag .lt (.aa 1) (.b_ .len (.aa 0)))) [(.ret (.ag .at (.aa 0) (.aa 1)))] []),(.ret (.ao (.int 0)))]
noncomputable def rV:List Sm:=[(.ite (.a_ (.ag .lt (.aa 1) (.b_ .len (.aa 0)))) [(.ret (.ag .at (.aa 0) (.aa 1)))] []),(.ret (.ag .fdiv (.ag .mod (.ag .mul (.ag .add (.ag .add (.call 21 [(.aa 0),(.ao (.int 0))]) (.ag .mul (.ao (.int 7)) (.aa 1))) (.ao (.int 3))) (.ao (.int 48271))) (.ao (.int 2147483647))) (.ao (.int 13))))]
noncomputable def rW:List Sm:=[(.bz 4 (.comp .js [(.ag .mul (.ao (.int 4)) (.aa 2))] [] 1 none (.b_ .neg (.ao (.int 1))))),(.loop .js [(.b_ .len (.aa 3))] [5] [(.put 4 (.ag .at (.ag .at (.aa 3) (.aa 5)) (.ao (.int 0))) (.aa 5)),(.put 4 (.ag .at (.ag .at (.aa 3) (.aa 5)) (.ao (.int 1))) (.aa 5))]),(.bz 6 (.comp .js [(.ag .mul (.ao (.int 4)) (.aa 2))] [4] 1 (some (.a_ (.ag .lt (.ag .at (.aa 1) (.aa 0)) (.ao (.int 0))))) (.aa 0))),(.bz 7 (.b_ .len (.aa 3))),(.Dx (.a_ (.ag .gt (.b_ .len (.aa 6)) (.ao (.int 1)))) [(.bz 8 (.ag .add (.ao (.int 1)) (.ag .mod (.call 22 [(.aa 0),(.ag .add (.aa 1) (.aa 7))]) (.ag .sub (.b_ .len (.aa 6)) (.ao (.int 1)))))),(.put 4 (.ag .at (.aa 6) (.ao (.int 0))) (.aa 7)),(.put 4 (.ag .at (.aa 6) (.aa 8)) (.aa 7)),(.bz 6 (.ag .add (.rq (.aa 6) (some (.ao (.int 1))) (some (.aa 8))) (.rq (.aa 6) (some (.ag .add (.aa 8) (.ao (.int 1)))) none))),(.bz 7 (.ag .add (.aa 7) (.ao (.int 1))))]),(.ret (.comp .js [(.aa 2)] [4] 1 none (.b_ .tuple (.rq (.aa 1) (some (.ag .mul (.ao (.int 4)) (.aa 0))) (some (.ag .add (.ag .mul (.ao (.int 4)) (.aa 0)) (.ao (.int 4))))))))]
noncomputable def kI:List Sm:=[(.bz 1 (.ak [])),(.loop .seq [(.aa 0)] [2] [(.loop .seq [(.aa 2)] [3] [(.ite (.a_ (.ag .kr (.aa 3) (.aa 1))) [(.app 1 (.aa 3))] [])])]),(.bz 4 (.ak [])),(.loop .seq [(.aa 0)] [2] [(.app 4 (.b_ .tuple (.comp .seq [(.aa 2)] [1] 1 none (.ag .index (.aa 1) (.aa 0)))))]),(.ret (.b_ .tuple (.aa 4)))]
noncomputable def pX:List Sm:=[(.ret (.and (.b_ .isInt (.aa 0)) (.not (.b_ .isBool (.aa 0)))))]
noncomputable def cO:List Sm:=[(.ite (.or (.not (.a_ (.b_ .isTup (.aa 0)))) (.or (.a_ (.ag .ne (.b_ .len (.aa 0)) (.ao (.int 2)))) (.not (.a_ (.b_ .isTup (.ag .at (.aa 0) (.ao (.int 0)))))))) [(.ret (.ao (.bl false)))] []),(.ite (.or (.not (.a_ (.call 25 [(.ag .at (.aa 0) (.ao (.int 1)))]))) (.or (.a_ (.ag .lt (.ag .at (.aa 0) (.ao (.int 1))) (.ao (.int 0)))) (.a_ (.ag .gt (.b_ .len (.ag .at (.aa 0) (.ao (.int 0)))) (.ao (.int 10)))))) [(.ret (.ao (.bl false)))] []),(.bz 1 (.ak [])),(.loop .seq [(.ag .at (.aa 0) (.ao (.int 0)))] [2] [(.ite (.or (.not (.a_ (.b_ .isTup (.aa 2)))) (.a_ (.ag .ne (.b_ .len (.aa 2)) (.ao (.int 4))))) [(.ret (.ao (.bl false)))] []),(.bz 1 (.ag .add (.aa 1) (.b_ .list (.aa 2))))]),(.loop .seq [(.aa 1)] [3] [(.ite (.or (.not (.a_ (.call 25 [(.aa 3)]))) (.a_ (.ag .ne (.ag .count (.aa 1) (.aa 3)) (.ao (.int 2))))) [(.ret (.ao (.bl false)))] [])]),(.ret (.ag .eq (.ag .at (.aa 0) (.ao (.int 0))) (.call 24 [(.ag .at (.aa 0) (.ao (.int 0)))])))]
noncomputable def b7:List Sm:=[(.bz 4 (.ag .add (.ao (.int 1)) (.ag .mul (.ao (.int 2)) (.ag .mod (.aa 3) (.ao (.int 2)))))),(.bz 5 (.ag .mul (.ao (.int 2)) (.ag .mod (.ag .fdiv (.aa 3) (.ao (.int 2))) (.ao (.int 2))))),(.bz 6 (.ag .add (.ao (.int 1)) (.ag .mul (.ao (.int 2)) (.ag .mod (.ag .fdiv (.aa 3) (.ao (.int 4))) (.ao (.int 2)))))),(.bz 7 (.ag .mul (.ao (.int 2)) (.ag .mod (.ag .fdiv (.aa 3) (.ao (.int 8))) (.ao (.int 2))))),(.bz 8 (.ar [(.ag .add (.ag .mul (.ao (.int 4)) (.aa 0)) (.ag .mod (.ag .add (.aa 5) (.aa 4)) (.ao (.int 4)))),(.ag .add (.ag .mul (.ao (.int 4)) (.aa 1)) (.aa 6))])),(.bz 9 (.ar [(.ag .add (.ag .mul (.ao (.int 4)) (.aa 1)) (.ag .mod (.ag .add (.aa 6) (.aa 4)) (.ao (.int 4)))),(.ag .add (.ag .mul (.ao (.int 4)) (.aa 2)) (.aa 7))])),(.ret (.ak [(.aa 8),(.aa 9),(.ar [(.ag .add (.ag .mul (.ao (.int 4)) (.aa 2)) (.ag .mod (.ag .add (.aa 7) (.aa 4)) (.ao (.int 4)))),(.ag .add (.ag .mul (.ao (.int 4)) (.aa 0)) (.aa 5))])]))]
noncomputable def gy:List Sm:=[(.bz 2 (.ag .mod (.call 21 [(.aa 0),(.ao (.int 1))]) (.ao (.int 3)))),(.bz 3 (.ag .mod (.call 21 [(.aa 0),(.ao (.int 2))]) (.ao (.int 16)))),(.bz 4 (.ag .mod (.call 21 [(.aa 0),(.ao (.int 0))]) (.ag .add (.aa 1) (.ao (.int 1))))),(.bz 5 (.ak [])),(.ite (.a_ (.ag .eq (.aa 2) (.ao (.int 1)))) [(.bz 4 (.ag .max (.ao (.int 2)) (.aa 4))),(.bz 6 (.ag .mul (.ao (.int 2)) (.ag .mod (.aa 3) (.ao (.int 2))))),(.bz 7 (.ag .mul (.ao (.int 2)) (.ag .mod (.ag .fdiv (.aa 3) (.ao (.int 2))) (.ao (.int 2))))),(.bz 8 (.ag .add (.ao (.int 1)) (.ag .mul (.ao (.int 2)) (.ag .mod (.ag .fdiv (.aa 3) (.ao (.int 4))) (.ao (.int 2)))))),(.bz 5 (.ak [(.ar [(.ag .mod (.ag .add (.aa 6) (.ao (.int 2))) (.ao (.int 4))),(.ag .add (.ao (.int 4)) (.aa 7))]),(.ar [(.ag .mod (.ag .add (.aa 6) (.aa 8)) (.ao (.int 4))),(.ag .add (.ao (.int 4)) (.ag .mod (.ag .add (.aa 7) (.aa 8)) (.ao (.int 4))))])]))] []),(.ite (.and (.a_ (.ag .eq (.aa 2) (.ao (.int 2)))) (.a_ (.ag .gt (.aa 1) (.ao (.int 2))))) [(.bz 4 (.ao (.int 3))),(.bz 5 (.call 27 [(.ao (.int 0)),(.ao (.int 1)),(.ao (.int 2)),(.aa 3)]))] []),(.ret (.ar [(.call 24 [(.call 23 [(.aa 0),(.ao (.int 4)),(.aa 4),(.aa 5)])]),(.ag .mod (.call 21 [(.aa 0),(.ao (.int 3))]) (.ao (.int 3)))]))]
noncomputable def eI:List Sm:=[(.bz 2 (.ag .at (.ag .at (.aa 0) (.ag .at (.aa 1) (.ao (.int 0)))) (.ag .at (.aa 1) (.ao (.int 1))))),(.loop .js [(.b_ .len (.aa 0))] [3] [(.loop .js [(.ao (.int 4))] [4] [(.ite (.and (.a_ (.ag .eq (.ag .at (.ag .at (.aa 0) (.aa 3)) (.aa 4)) (.aa 2))) (.a_ (.ag .ne (.ar [(.aa 3),(.aa 4)]) (.aa 1)))) [(.ret (.ar [(.aa 3),(.aa 4)]))] [])])]),(.ret (.aa 1))]
noncomputable def dD:List Sm:=[(.bz 1 (.ao (.int 0))),(.loop .js [(.b_ .len (.aa 0))] [2] [(.bz 3 (.call 29 [(.aa 0),(.ar [(.aa 2),(.ao (.int 2))])])),(.Dx (.a_ (.ag .ne (.ag .at (.aa 3) (.ao (.int 0))) (.aa 2))) [(.bz 3 (.call 29 [(.aa 0),(.ar [(.ag .at (.aa 3) (.ao (.int 0))),(.ag .mod (.ag .add (.ag .at (.aa 3) (.ao (.int 1))) (.ao (.int 2))) (.ao (.int 4)))])]))]),(.ite (.a_ (.ag .eq (.ag .at (.aa 3) (.ao (.int 1))) (.ao (.int 3)))) [(.bz 1 (.ag .add (.aa 1) (.ao (.int 1))))] []),(.ite (.a_ (.ag .eq (.ag .at (.aa 3) (.ao (.int 1))) (.ao (.int 1)))) [(.bz 1 (.ag .sub (.aa 1) (.ao (.int 1))))] [])]),(.ret (.aa 1))]
noncomputable def pY:List Sm:=[.Dw]
noncomputable def kJ:List Sm:=[(.bz 1 (.ak [(.ak [])])),(.loop .js [(.aa 0)] [2] [(.bz 1 (.ag .add (.comp .seq [(.aa 1)] [] 1 none (.ag .add (.aa 0) (.ak [(.ao (.int 0))]))) (.comp .seq [(.aa 1)] [] 1 none (.ag .add (.aa 0) (.ak [(.ao (.int 1))])))))]),(.ret (.aa 1))]
noncomputable def dO:List Sm:=[(.bz 1 (.ak [(.ao (.int 1))])),(.loop .js [(.aa 0)] [2] [(.bz 3 (.ak [(.ao (.int 1))])),(.loop .js [(.ag .sub (.b_ .len (.aa 1)) (.ao (.int 1)))] [4] [(.app 3 (.ag .add (.ag .at (.aa 1) (.aa 4)) (.ag .at (.aa 1) (.ag .add (.aa 4) (.ao (.int 1))))))]),(.bz 1 (.ag .add (.aa 3) (.ak [(.ao (.int 1))])))]),(.ret (.aa 1))]
noncomputable def vU:List Sm:=[(.ret (.b_ .neg (.ao .de)))]
noncomputable def hJ:List Sm:=[(.new 2),(.loop .seq [(.call 32 [(.b_ .len (.aa 0))])] [3] [(.bz 4 (.ak [])),(.loop .js [(.b_ .len (.aa 0))] [5] [(.bz 6 (.ag .at (.aa 0) (.aa 5))),(.ite (.a_ (.ag .eq (.ag .at (.aa 3) (.aa 5)) (.ao (.int 0)))) [(.bz 4 (.ag .add (.aa 4) (.ak [(.ar [(.ag .at (.aa 6) (.ao (.int 0))),(.ag .at (.aa 6) (.ao (.int 1)))]),(.ar [(.ag .at (.aa 6) (.ao (.int 2))),(.ag .at (.aa 6) (.ao (.int 3)))])])))] [(.bz 4 (.ag .add (.aa 4) (.ak [(.ar [(.ag .at (.aa 6) (.ao (.int 0))),(.ag .at (.aa 6) (.ao (.int 3)))]),(.ar [(.ag .at (.aa 6) (.ao (.int 1))),(.ag .at (.aa 6) (.ao (.int 2)))])])))])]),(.Eh 2 33 (.ag .sub (.b_ .len (.aa 0)) (.ag .mul (.ao (.int 2)) (.b_ .sum (.aa 3)))) (.ag .add (.aa 1) (.call 31 [(.aa 4)])))]),(.ret (.aa 2))]
noncomputable def nP:List Sm:=[(.ret (.comp .seq [(.b_ .sorted (.aa 0))] [1,2,0] 1 (some (.a_ (.ag .ne (.sf (.aa 3) (.aa 0)) (.ao (.int 0))))) (.ar [(.ag .add (.aa 0) (.aa 1)),(.ag .mul (.aa 2) (.sf (.aa 3) (.aa 0)))])))]
noncomputable def fi:List Sm:=[(.bz 3 (.b_ .len (.ag .at (.aa 0) (.ao (.int 0))))),(.bz 4 (.ag .max (.ao (.int 1)) (.ag .mul (.ao (.int 2)) (.aa 3)))),(.bz 5 (.ag .fdiv (.aa 1) (.ao (.int 10)))),(.bz 6 (.ak [(.ag .mod (.aa 5) (.ag .add (.aa 3) (.ao (.int 1)))),(.ag .mod (.ag .fdiv (.aa 5) (.ao (.int 31))) (.ag .add (.aa 3) (.ao (.int 1)))),(.ag .mod (.ag .fdiv (.aa 5) (.ao (.int 961))) (.ag .add (.aa 3) (.ao (.int 1))))])),(.ite (.a_ (.ag .eq (.ag .mod (.ag .fdiv (.aa 1) (.ao (.int 5))) (.ao (.int 2))) (.ao (.int 0)))) [(.bz 6 (.ak [(.ao (.int 0)),(.ao (.int 1)),(.ao (.int 2))]))] []),(.bz 7 (.aa 0)),(.Gq [(.ite (.and (.a_ (.ag .eq (.ag .mod (.aa 1) (.ao (.int 5))) (.ao (.int 0)))) (.a_ (.ag .lt (.aa 3) (.aa 2)))) [(.bz 7 (.call 9 [(.aa 0),(.ag .mod (.aa 5) (.ag .add (.aa 4) (.ao (.int 1)))),(.ag .mod (.ag .fdiv (.aa 5) (.ao (.int 31))) (.ao (.int 4)))]))] []),(.ite (.a_ (.ag .eq (.ag .mod (.aa 1) (.ao (.int 5))) (.ao (.int 1)))) [(.bz 7 (.call 11 [(.aa 0),(.ag .mod (.aa 5) (.ag .add (.aa 3) (.ao (.int 1))))]))] []),(.ite (.and (.a_ (.ag .eq (.ag .mod (.aa 1) (.ao (.int 5))) (.ao (.int 2)))) (.a_ (.ag .lt (.ag .add (.aa 3) (.ao (.int 1))) (.aa 2)))) [(.bz 7 (.call 12 [(.aa 0),(.ag .mod (.aa 5) (.aa 4)),(.ag .mod (.ag .fdiv (.aa 5) (.ao (.int 31))) (.aa 4)),(.ag .mod (.ag .fdiv (.aa 5) (.ao (.int 961))) (.ao (.int 4)))]))] []),(.ite (.a_ (.ag .eq (.ag .mod (.aa 1) (.ao (.int 5))) (.ao (.int 3)))) [(.bz 7 (.call 14 [(.aa 0),(.ag .max (.ag .at (.aa 6) (.ao (.int 0))) (.ag .sub (.aa 3) (.ao (.int 2)))),(.ag .max (.ag .at (.aa 6) (.ao (.int 1))) (.ag .sub (.aa 3) (.ao (.int 1))))]))] []),(.ite (.a_ (.ag .eq (.ag .mod (.aa 1) (.ao (.int 5))) (.ao (.int 4)))) [(.bz 7 (.call 16 [(.aa 0),(.ag .at (.aa 6) (.ao (.int 0))),(.ag .at (.aa 6) (.ao (.int 1))),(.ag .at (.aa 6) (.ao (.int 2)))]))] [])] [0,1,2] none [(.bz 7 (.aa 0))]),(.ret (.aa 7))]
noncomputable def kK:List Sm:=[(.bz 1 (.call 30 [(.ag .at (.aa 0) (.ao (.int 0)))])),(.bz 2 (.call 36 [(.call 35 [(.ag .at (.aa 0) (.ao (.int 0))),(.ag .at (.aa 0) (.ao (.int 1)))]),(.ag .mul (.b_ .neg (.ao (.int 3))) (.aa 1)),(.ag .sub (.ao (.int 1)) (.ag .mul (.ao (.int 2)) (.ag .mod (.aa 1) (.ao (.int 2)))))])),(.bz 3 (.ak [])),(.loop .seq [(.ag .at (.aa 0) (.ao (.int 0)))] [4] [(.bz 3 (.ag .add (.aa 3) (.ak [(.ar [(.ag .at (.aa 4) (.ao (.int 0))),(.ag .at (.aa 4) (.ao (.int 2)))]),(.ar [(.ag .at (.aa 4) (.ao (.int 1))),(.ag .at (.aa 4) (.ao (.int 3)))])])))]),(.ret (.ar [(.aa 2),(.ag .add (.ag .at (.aa 0) (.ao (.int 1))) (.call 31 [(.aa 3)]))]))]
noncomputable def Jl:List Sm:=[(.bz 1 (.call 28 [(.aa 0),(.ao (.int 3))])),(.bz 2 (.call 38 [(.aa 1)])),(.loop .js [(.ag .add (.ao (.int 1)) (.ag .mod (.ag .fdiv (.call 21 [(.aa 0),(.ao (.int 1))]) (.ao (.int 3))) (.ao (.int 4))))] [3] [(.bz 4 (.call 37 [(.aa 1),(.call 22 [(.aa 0),(.ag .add (.ao (.int 10)) (.aa 3))]),(.ao (.int 4))])),(.ite (.not (.a_ (.call 26 [(.aa 4)]))) [(.ret (.ao (.bl false)))] []),(.ite (.and (.a_ (.ag .ne (.aa 4) (.aa 1))) (.a_ (.ag .ne (.call 38 [(.aa 4)]) (.aa 2)))) [(.ret (.ao (.bl false)))] []),(.bz 1 (.aa 4))]),(.ret (.ao (.bl true)))]
noncomputable def prog:Prog:=⟨[⟨2,6,MB⟩,⟨2,2,kP⟩,⟨2,2,zT⟩,⟨2,2,gK⟩,⟨1,1,eD⟩,⟨2,6,rS⟩,⟨2,2,vR⟩,⟨3,7,zU⟩,⟨3,3,vS⟩,⟨3,7,kF⟩,⟨4,4,kG⟩,⟨2,5,eF⟩,⟨4,9,dC⟩,⟨4,6,gL⟩,⟨3,7,b6⟩,⟨2,3,eG⟩,⟨4,8,rT⟩,⟨3,8,cN⟩,⟨3,4,bY⟩,⟨3,8,kH⟩,⟨3,5,vT⟩,⟨2,2,kQ⟩,⟨2,2,rV⟩,⟨4,9,rW⟩,⟨1,5,kI⟩,⟨1,1,pX⟩,⟨1,4,cO⟩,⟨4,10,b7⟩,⟨2,9,gy⟩,⟨2,5,eI⟩,⟨1,4,dD⟩,⟨1,6,pY⟩,⟨1,3,kJ⟩,⟨1,5,dO⟩,⟨3,6,vU⟩,⟨2,7,hJ⟩,⟨3,3,nP⟩,⟨3,8,fi⟩,⟨1,5,kK⟩,⟨1,5,Jl⟩],[(.int 10),(.ar [(.ar [(.int 0),(.int 0)]),(.ar [(.int 0),(.int 2)]),(.ar [(.int 2),(.int 0)]),(.ar [(.int 2),(.int 2)])])]⟩
noncomputable def lawId:Nat:=39
end L
namespace L
open PySem PySem.Spec PyProof.Rows L2 L2.Snd Py
structure FT(K:W.Frag)(mg:Str->Option Value)(fa:Nat->Addr)(fd:Nat->FuncData)(i:Nat):Prop where
 m:mg (nm i)=some (.ref (fa i))
 b:Binds K (fd i) (Ps i) []
 F:Ge K (nm i) (nm i) (sT i) (fa i) (fd i)
structure Txt(K:W.Frag)(mg:Str->Option Value)(cl fa:Nat->Addr)(fd:Nat->FuncData):Prop where
 n:∀x,bl.contains x=true->mg x=none
 f:∀i,i<40->FT K mg fa fd i
 Di:mg "Crowded"=some (.ref (cl 0))
 Dj:mg "NoPlace"=some (.ref (cl 1))
 EK:mg "NoMove"=some (.ref (cl 2))
 xx:mg "CordError"=some (.ref (cl 3))
 V0:B7 K (cl 0)
 V1:B7 K (cl 1)
 V2:B7 K (cl 2)
 xy:∀c∈([0,1,2]:List Nat),W.exmOne K (.ref (cl c)) (.ref (cl 3))=some true
 CP:∃t,mg "LIMIT"=some (.int 10 t)
 Ac:IX K mg "READINGS" (.ar [(.ar [(.int 0),(.int 0)]),(.ar [(.int 0),(.int 2)]),(.ar [(.int 2),(.int 0)]),(.ar [(.int 2),(.int 2)])])
theorem Txt.m{K:W.Frag}(T:Txt K mg cl fa fd)(h:i<40)(e:nm i=x):mg x=some (.ref (fa i)):=e▸(T.f i h).m
section
variable{P:Program}{w:World}{K:W.Frag}{mg:Str->Option Value}{base:Heap}{cl fa:Nat->Addr}{fd:Nat->FuncData}{j:Nat}
theorem Txt.HQ(T:Txt K mg cl fa fd){X:Cx}{XE:Nat->L2.St->Hp->Prop}{Φ:Nat->List D->R D}{m:Bool}{pos:Pos}(hK:X.K=K:=by rfl)(hM:X.mg=mg:=by rfl)(hg:Gl X "LIMIT":=by rfl):dh X cl XE Φ prog.fk m (.glob 0) (.Name "LIMIT" pos):=by
 obtain⟨t,h⟩:=T.CP;exact sW (v:=.int 10) hg (by rw[hM];exact h) ⟨t,rfl⟩ (by decide) λd e F H=>by cases e;simp[Rep]
theorem Txt.Ci(T:Txt K mg cl fa fd){X:Cx}{XE:Nat->L2.St->Hp->Prop}{Φ:Nat->List D->R D}{m:Bool}{pos:Pos}(hK:X.K=K:=by rfl)(hM:X.mg=mg:=by rfl)(hg:Gl X "READINGS":=by rfl):dh X cl XE Φ prog.fk m (.glob 1) (.Name "READINGS" pos):=by
 obtain⟨v,u,h,r,hr⟩:=T.Ac;exact sW (v:=v) hg (by rw[hM];exact h) r (by decide) λd e F H=>by cases e;rw[hK];exact hr cl F H
noncomputable abbrev xn(i:Nat):Str:=(["Crowded","NoPlace","NoMove"]:List Str).getD i ""
abbrev Cs(P:Program)(w:World)(K:W.Frag)(mg:Str->Option Value)(base:Heap)(cl fa:Nat->Addr)(fd:Nat->FuncData)(j:Nat):Prop:=∀i,i<40->u_ P w K mg base (yu P w) (4*j+4) (fa i) (fd i) (Ps i) (zt K cl (bt prog j) i)
set_option maxHeartbeats 0
abbrev V3(i:Nat):Prop:=(d_ (sT i)).kind=.function/\(d_ (sT i)).isCoroutine=false/\(d_ (sT i)).isGenerator=false/\(Nn i).Nodup/\(∀x∈Ps i,(d_ (sT i)).names.lookup x=some .local\/(d_ (sT i)).names.lookup x=some .cell)/\∀y∈(d_ (sT i)).names,y.2≠.free
theorem sc:∀i,i<40->vw (Nn i) (Ps i) (d_ (sT i)):=λi hi=>
 have ⟨a,b,c,d,e,f⟩:=(by decide+kernel:∀i,i<40->V3 i) i hi
 ⟨a,b,c,d,by simp,e,f⟩
variable{k:Nat}
theorem S1(T:Txt K mg cl fa fd)(C:Cs P w K mg base cl fa fd j):u_ P w K mg base (yu P w) (4*j+5) (fa 34) (fd 34) (Ps 34) (LS (bt prog j) 33):=by
 have nd:=(sc 34 (by decide)).nd;exact SO (t:=λ_=>Ud K cl (bt prog j) 33 (Ne cl)) (T.f 34 (by decide)).F (sc 34 (by decide)) (λvs H Q E h=>by obtain⟨_,_,_,_,_,rfl,_⟩:=h;rfl) (λh=>Hn h) λcd A outer s H E hr=>have hu:=mV hr;bC (lL nd (yD (cl:=cl) (C 33 (by decide)) hr (T.f 33 (by decide)).m (T.f 33 (by decide)).F.kp (T.f 33 (by decide)).b (gz aM mh))) (bZ (yC (yF (T.n _ rfl) (gz (I_ (T.n _ rfl) aM) mh)) (yE nd) (bC (lL nd (cR qE (cR AX aM (cR iX aU aM)) (cR iX aU aM))) (bZ (p8 (cR AX (LV hu aM (gz aM (gz aU mh))) (cR iX (jT aM aM) (cR qE aU (cR iX aU (cR wG aM aU))))) (I0 aM aM (Pt hu)))))))
theorem zV(T:Txt K mg cl fa fd)(O:∀{c x},c<3->xn c=x->OwnCls x (cl c) Qp "ValueError.__new__" mg base):∀j,Cs P w K mg base cl fa fd j
 |0,i,_=>xQ
 |j+1,i,hi=>by
  have C:=zV T O j
  match i,hi with
  |31,_=>exact xP (k:=4*j+7) (T.f _ (by decide)).F (sc _ (by decide)) rfl rfl rfl λcd A outer s H E hr=>have h7:=hr;have hr:=hr.mono (show 4*j+4<=4*j+7 by omega);have hu:=mV hr;have nd:=(sc 31 (by decide)).nd;(Hq (Ha (Φ:=bt prog j) (G:=prog.fk) (["two"]:List Str) (fV (by rfl)) nd (T.n _ rfl) rfl (xJ xS) (λ_ _ _ _ _=>xU (show(["two"]:List Str).Nodup from by decide+kernel)) (λ_ _ _ _ _=>xS) (λ_ _ _ _ _=>⟨by rfl,by rfl⟩)) (lL nd aU) (Hr (mJ (NA (I_ (T.n _ rfl) aM) aU)) (bC (lL nd (jT aM aU)) (bC (lL nd (oB Cy aM (sN aU) sM)) (bC (wB (mJ (v8 (jT aM aU) (jT aM aU))) (bZ (lL nd (cR AX aM aU))) mK) (bZ (yC (sI aM) (yE nd) (bZ (yC (yF (T.n _ rfl) (gz aU mh)) (yE nd) (bZ (wB (mJ (v8 (jT aM aM) (jT aM aU))) (bZ (p8 (jT aM aU) (I0 aM aM oD))) mK)))))))))) (wA aM))
  |34,_=>exact Hs (Ht rfl _)
  |0,h|1,h|2,h|3,h|4,h|5,h|6,h|7,h|8,h|9,h|10,h|11,h|12,h|13,h|14,h|15,h|16,h|17,h|18,h|19,h|20,h|21,h|22,h|23,h|24,h|25,h|26,h|27,h|28,h|29,h|30,h|32,h|33,h|35,h|36,h|37,h|38,h|39,h=>
   refine xP (k:=4*j+7) (T.f _ h).F (sc _ h) rfl rfl rfl λcd A outer s H E hr=>?_;have h7:=hr;have hr:=hr.mono (show 4*j+4<=4*j+7 by omega);have hu:=mV hr;have nd:=(sc _ h).nd
   repeat' first
    |exact xS
    |refine LA ?_ ?_
    |exact KQ
    |refine xM ?_ ?_
    |exact GU
    |exact bT
    |refine x_at ?_ ?_
    |refine Pb nd ?_
    |refine x_call (C _ (by decide)) hr (T.m (by decide) (by rfl)) (T.f _ (by decide)).F.kp (T.f _ (by decide)).b (by first|exact λ_=>jG|exact xW rfl sS|exact xW rfl sU|exact LN hE) ?_
    |refine O1 ?_ ?_
    |refine SF ?_
    |refine O8 ?_
    |refine GX ?_
    |refine Ll ?_ ?_ ?_
    |refine O4 ?_ ?_
    |refine O9 ?_
    |refine LJ ?_ (by first|exact xU nd|exact O_ nd) ?_
    |refine SA hu ?_ ?_
    |refine O3 ?_ ?_
    |refine xJ ?_
    |refine O6 (T.n _ rfl) ?_
    |refine O' (T.n _ rfl) ?_
    |refine Lw ?_ ?_
    |refine O2 ?_ ?_
    |exact G9 (by first|exact sS|exact KH.never|exact sU) (O (by decide) (by rfl)) PySem.F.excBase_ValueError (by decide) PySem.F.excBase_ValueError
    |refine Le ?_ ?_
    |refine w6 ?_
    |refine LG ?_ (λ_ _ _ _ _=>?_) λ_ _ _ _ _=>?_
    |refine SD hu ?_ ?_
    |refine Sw ?_ ?_
    |refine GK ?_
    |refine La ?_ ?_ ?_
    |exact oN
    |refine G6 (T.n _ rfl) ?_
    |refine GL ?_
    |exact Ou
    |exact w5
    |refine Lz (T.n _ rfl) ?_
    |refine GN ?_ ?_
    |refine xG ?_
    |exact KR
    |refine Pd ?_
    |refine Sy ?_ ?_
    |refine Pe ?_ ?_
    |refine Sz ?_ ?_
    |refine O7 (T.n _ rfl) ?_ ?_
    |refine Lx hu ?_ ?_
    |refine xH ?_
    |refine uX ?_ ?_
    |refine SE ?_
    |refine G8 (T.n _ rfl) (T.n _ rfl) ?_
    |refine LC (T.n _ rfl) ?_
    |exact Pc nd
    |refine OY ?_ ?_
    |refine K7 ?_ ?_
    |refine K6 ?_
    |exact T.HQ
    |refine Lv ?_
    |refine OZ ?_
    |refine O5 ?_
    |refine O0 true hu ?_ ?_
    |refine LI hu ?_ ?_
    |refine Ly (T.n _ rfl) ?_
    |refine K8 ?_ ?_ ?_
    |exact T.Ci
    |refine G4 ?_ ?_
    |refine G7 (T.n _ rfl) (T.n _ rfl) ?_
    |refine K5 ?_
    |refine xT (T.n _ rfl) (T.n _ rfl) ?_
    |refine G5 ?_ ?_
    |refine yA ?_ ?_ λ_ _ hp hq=>LW (yD (cl:=cl) (S1 T C) (h7.mono (by omega)) (T.f 34 (by decide)).m (T.f 34 (by decide)).F.kp (T.f 34 (by decide)).b (gz aM (gz hp (gz hq mh))))
    |refine Ph (T.n _ rfl) ?_
    |refine yB vA (T.n _ rfl) ?_
    |refine Pf T.xx T.xy (λ_ _=>?_) λ_=>?_
    |refine LB ?_
    |refine Gs.t ?_
    |refine LM nd Gp ?_ λ_ _ _ _ _ _ hE=>?_
    |refine LH nd ?_ (λ_ _ _ _ _=>?_) λ_ _ _ _ _=>?_
  |n+40,h=>exact absurd h (by omega)
end
abbrev Bn(i:Nat):Prop:=∀(kV dc pm:Value)(an:Option Addr)(cd ct:Value)(us:List Value),us.length=(Ps i).length->bindArgs (W.fnOf (nm i) (nm i) (rn (sT i)) (ng (sT i)) (d_ (sT i)) .none kV dc pm an cd ct) ⟨us,[]⟩=pure ((Ps i).zip us)
theorem bn:∀i,i<40->Bn i:=λi hi=>by
 match i,hi with
 |0,_|1,_|2,_|3,_|4,_|5,_|6,_|7,_|8,_|9,_|10,_|11,_|12,_|13,_|14,_|15,_|16,_|17,_|18,_|19,_|20,_|21,_|22,_|23,_|24,_|25,_|26,_|27,_|28,_|29,_|30,_|31,_|32,_|33,_|34,_|35,_|36,_|37,_|38,_|39,_=>exact λ_ _ _ _ _ _ us hl=>(by first|(obtain⟨_,rfl⟩:=Vr hl;rfl)|(obtain⟨_,_,rfl⟩:=Vs hl;rfl)|(obtain⟨_,_,_,rfl⟩:=Vt hl;rfl)|(obtain⟨_,_,_,_,rfl⟩:=Vu hl;rfl))
 |n+40,h=>exact absurd h (by omega)
theorem Qa{K:W.Frag}(X:K.In h)(G:h.Ns mainGlobals mg)(hF:FH K i)(hb:Bn i):∃(f:Addr)(fd:FuncData),mg (nm i)=some (.ref f)/\Binds K fd (Ps i) []/\Ge K (nm i) (nm i) (sT i) f fd:=by
 obtain⟨f,oc,kV,dc,pm,cd,ct,od,an,sl,a,b,c,k⟩:=hF;have F:=Ko b c k;exact⟨f,_,W.mg_of X G a,F.binds hb,F⟩
set_option maxHeartbeats 0 in
theorem all_mk{l:W.OpenLaw}{K:W.Frag}
  (X:K.In h) (Tp:Top qq loose mean mg mb h) (V4:mg "law"=some (.ref UA)) (fx:Fx K)
  (j:Nat):∃(UB:FuncData)(cl:Nat->Addr),(∀(s:Shared)(v:Value),BindsTo s UB ⟨[v],[]⟩ [("script",v)])/\∀base:Heap,K.In base->base.Ns mainGlobals mg->(∀b o,h.get? b=some o->(∀its n,o.data≠.seq its n)->base.get? b=some o)->
   u_ l.prog w K mg base (yu l.prog w) (4*j+4) UA UB ["script"] (zt K cl (bt prog j) lawId):=by
 obtain⟨C0,C1,C2,C3,Nk,Nl,Nm,Np,V5,V6,V7,hF,hB,⟨AM,AO,BI,BJ,gs,tk,Qb,Qc⟩,⟨Qd,V8,V9,WW,V_,V',WX,Wa⟩,⟨Wb,WY,S4,MC,WZ,S5,S6,S7⟩,qd,⟨Bi,EL⟩,⟨nu,sr,sx,sy,kc,s_,tf,tj,tm,tu,ke,t_,ua,ub,uc,ud,kf,ue,uf,ug,uh,ui,jl,qp,qr,qt,qu,qv,BK,Aq,Ar,As,Au,Ad⟩⟩:=fx;have G:=Tp.g;have hT:∀i,i<40->∃(f:Addr)(fd:FuncData),mg (nm i)=some (.ref f)/\Binds K fd (Ps i) []/\Ge K (nm i) (nm i) (sT i) f fd:=λi hi=>Qa X G (hF i hi) (bn i hi);have hT:∀i,∃(f:Addr)(fd:FuncData),i<40->mg (nm i)=some (.ref f)/\Binds K fd (Ps i) []/\Ge K (nm i) (nm i) (sT i) f fd:=λi=>by
  by_cases h:i<40
  ·obtain⟨f,d,z⟩:=hT i h
   exact⟨f,d,λ_=>z⟩
  ·obtain⟨f,d,_⟩:=hT 0 (by decide)
   exact⟨f,d,λz=>absurd z h⟩
 let fa:Nat->Addr:=λi=>(hT i).choose
 let fd:Nat->FuncData:=λi=>(hT i).choose_spec.choose
 have hf:∀i,i<40->FT K mg fa fd i:=λi hi=>by
  obtain⟨a,b,c⟩:=(hT i).choose_spec.choose_spec hi;exact⟨a,b,c⟩
 have eL:fa 39=UA:=(Value.ref.inj (Aw (V4.symm.trans (hf 39 (by decide)).m))).symm
 let cl:Nat->Addr:=λc=>[C0,C1,C2,C3].getD c C0
 have T:Txt K mg cl fa fd:={
  n:=λx hx=>by
   obtain⟨i,hi,rfl⟩:=List.getElem_of_mem (List.contains_iff_mem.mp hx);have:=hB i hi;rw[List.getD,Ai hi] at this;exact W.mg_none_of X G this
  f:=hf
  Di:=W.mg_of X G AM
  Dj:=W.mg_of X G AO
  EK:=W.mg_of X G BI
  xx:=W.mg_of X G BJ
  V0:=⟨Qb.1.1,Qb.1.2,Qb.2.1,gs,tk,Qb.2.2.1,Qb.2.2.2,⟨_,V8⟩⟩
  V1:=⟨Qc.1.1,Qc.1.2,Qc.2.1,gs,tk,Qc.2.2.1,Qc.2.2.2,⟨_,V_⟩⟩
  V2:=⟨Qd.1.1,Qd.1.2,Qd.2.1,gs,tk,Qd.2.2.1,Qd.2.2.2,⟨_,Wa⟩⟩
  xy:=λc hc=>by
   simp only[qf,BW,BY] at hc;rcases hc with rfl|rfl|rfl
   ·exact qU qd S4 MC S5
   ·exact qU qd S4 MC S6
   ·exact qU qd S4 MC S7
  CP:=⟨_,W.mg_of X G EL⟩
  Ac:=Hb (W.mg_of X G BK) (jH (vs:=[.ref kc,.ref ke,.ref kf,.ref jl]) Aq (.cons rfl (.cons rfl (.cons rfl (.cons rfl .nil)))) (.cons (jH (vs:=[.int (0),.int (0)]) Ar (.cons ⟨_,rfl⟩ (.cons ⟨_,rfl⟩ .nil)) (.cons cW (.cons cW .nil)) (show 2<=sizeLine by decide)) (.cons (jH (vs:=[.int (0),.int (2)]) As (.cons ⟨_,rfl⟩ (.cons ⟨_,rfl⟩ .nil)) (.cons cW (.cons cW .nil)) (show 2<=sizeLine by decide)) (.cons (jH (vs:=[.int (2),.int (0)]) Au (.cons ⟨_,rfl⟩ (.cons ⟨_,rfl⟩ .nil)) (.cons cW (.cons cW .nil)) (show 2<=sizeLine by decide)) (.cons (jH (vs:=[.int (2),.int (2)]) Ad (.cons ⟨_,rfl⟩ (.cons ⟨_,rfl⟩ .nil)) (.cons cW (.cons cW .nil)) (show 2<=sizeLine by decide)) .nil)))) (show 4<=sizeLine by decide))
 }
 refine⟨fd 39,cl,λs v=>?_,λbase kb nb hh=>?_⟩
 ·obtain⟨_,_,_,_,_,_,_,_,_,e,_⟩:=(hf 39 (by decide)).F.ex
  rw[e];exact .of_eq rfl
 rw[←eL];refine zV T (λ{c x} hc e=>e▸?_) j 39 (by decide)
 match c,hc with
 |0,_=>
  obtain⟨D,OD,_⟩:=Tp.ownAt V5;cases OD.bound.symm.trans (W.mg_of X G AM);exact jF OD.own hh
 |1,_=>
  obtain⟨D,OD,_⟩:=Tp.ownAt V6;cases OD.bound.symm.trans (W.mg_of X G AO);exact jF OD.own hh
 |2,_=>
  obtain⟨D,OD,_⟩:=Tp.ownAt V7;cases OD.bound.symm.trans (W.mg_of X G BI);exact jF OD.own hh
 |n+3,h=>exact absurd h (by omega)
end L
namespace L
open Py
noncomputable def depth:Nat:=12
theorem gM(k:Nat)(ns:List Int)(i:Nat):bt prog (k+1) 21 [.ig ns,.int (i:Nat)]=.ok (.int (je ns i)):=by
 show(av (bt prog k) prog.fk 1000 CJ [zs (.ig ns),zi (i:Nat)]).val=_;rw[yH];rfl
theorem rX(k:Nat)(ns:List Int)(i:Nat):bt prog (k+2) 22 [.ig ns,.int (i:Nat)]=.ok (.int (nj ns i)):=by
 show(av (bt prog (k+1)) prog.fk 1000 (CK 21) [zs (.ig ns),zi (i:Nat)]).val=_;rw[pick_run ns i (gM k ns 0)];rfl
theorem S8(k:Nat)(ns:List Int)(start m:Nat)(hm:m<=50):bt prog (k+3) 23 [.ig ns,.int (start:Nat),.int (m:Nat),.ak []]=.ok (.ak ((km m (zx (λk=>nj ns (start+k)) (iw m [])).owner).map af)):=by
 show(av (bt prog (k+2)) prog.fk 1000 (CL 22) [zs (.ig ns),zi (start:Nat),zi (m:Nat),zs (.ak (([]:List (Nat×Nat)).map aj)),none,none,none,none,none]).val=_;rw[pD (by omega) (by simp) (by simp) (rX k ns) (by decide)];rfl
theorem rY(k:Nat){R:List (List Int)}(h4:∀r∈R,r.length=4)(hL:R.length<=50):bt prog (k+1) 24 [.ak (R.map af)]=.ok (.ar ((dz R).map af)):=by
 show(av (bt prog k) prog.fk 1000 oj [zs (.ak (R.map af)),none,none,none,none]).val=_;have hf:=iJ h4;rw[eY (bH (by simp;omega)) (λr hr=>by rw[h4 r hr];decide) (by omega) (by omega)];rfl
theorem HR(k:Nat)(x:Int):bt prog (k+1) 25 [.int x]=.ok (.bl true):=by
 show(av (bt prog k) prog.fk 1000 Ce [zi x]).val=_;rw[vD];rfl
theorem t6(k:Nat){R:List (List Int)}(h4:∀r∈R,r.length=4)(hL:R.length<=50):bt prog (k+1) 5 [.ak (R.map af),.int g]=.ok (da (dz R) g):=by
 show(av (bt prog k) prog.fk 1000 L6 [zs (.ak (R.map af)),zi g,none,none,none,none]).val=_;have hf:=iJ h4;rw[yN (bH (by simp;omega)) (λr hr=>by rw[h4 r hr];decide) (by omega) (by omega)];rfl
theorem rZ(k:Nat)(h4:∀r∈Q,r.length=4)(hQ:Q.length<=50):bt prog (k+1) 0 [da Q g,.int line]=if bw Q line=[] then .exc 1 else .ok (.ar ((bw Q line).map aj)):=by
 show(av (bt prog k) prog.fk 1000 (EB 1) [zs (.ar [.ar (Q.map af),.int g]),zi line,none,none,none,none]).val=_;exact yK h4 (by omega)
theorem bJ(k:Nat)(hl:b_ .list d0=.ok (.ak (Q.map af)))(h4:∀r∈Q,r.length=4)(hp:p.1<Q.length/\p.2<4):bt prog (k+1) 20 [d0,aj p,.int v]=.ok (.ak ((dn Q p v).map af)):=by
 show(av (bt prog k) prog.fk 1000 zy [zs d0,zs (aj p),zi v,none,none]).val=_;rw[pJ hl h4 hp.1 hp.2];rfl
theorem HS(k:Nat)(ns:List Int)(start m:Nat)(hm:m<=50)(hl:fx.length<=1000)(hf:∀x∈fx,x.1<4*m/\x.2<4*m):bt prog (k+3) 23 [.ig ns,.int (start:Nat),.int (m:Nat),.ak (fx.map aj)]=.ok (.ak ((km m (zx (λk=>nj ns (start+k)) (iw m fx)).owner).map af)):=by
 show(av (bt prog (k+2)) prog.fk 1000 (CL 22) [zs (.ig ns),zi (start:Nat),zi (m:Nat),zs (.ak (fx.map aj)),none,none,none,none,none]).val=_;rw[pD (by omega) hl hf (rX k ns) (by decide)];rfl
theorem pZ(k:Nat)(h4:∀r∈L,r.length=4)(h2:∀r∈P,r.length=2)(hL:L.length<=50)(hP:P.length<=50):bt prog (k+2) 7 [.ak (L.map af),.int g,.ak (P.map af)]=.ok (da (dz (gx L g P).1) (gx L g P).2):=by
 show(av (bt prog (k+1)) prog.fk 1000 (A6 8 5) [zs (.ak (L.map af)),zi g,zs (.ak (P.map af)),none,none,none,none]).val=_;rw[rH (λR old new hR hr=>by
  show(av (bt prog k) prog.fk 1000 z_ [zs (.ak (R.map af)),zi old,zi new]).val=_;rw[pK hR hr];rfl) (λR g h4 hL=>t6 k h4 hL) h4 h2 hL hP (by decide)];rfl
theorem mE(k:Nat)(hQ:Q.length<=50):bt prog (k+1) 6 [.ar (Q.map af),.ar (az ks)]=.ok (.ak ((bu Q ks).map af)):=by
 show(av (bt prog k) prog.fk 1000 Aa [zs (.ar (Q.map af)),zs (.ar (az ks))]).val=_;rw[pL (by omega)];rfl
theorem Dk(k:Nat):bt prog (k+1) 1 [da Q g,.int x]=if x<0\/(Q.length:Int)<=x then .exc 1 else .ok (af (Q.getD x.toNat [])):=by
 show(av (bt prog k) prog.fk 1000 (SU 1) [zs (da Q g),zi x]).val=_;exact Ma
theorem t7(k:Nat)(a b c:Int)(hw:w<2):bt prog (k+1) 10 [.int a,.int b,.int c,.int (w:Nat)]=.ok (af (jw a b c w)):=by
 show(av (bt prog k) prog.fk 1000 kG [zi a,zi b,zi c,zi (w:Nat)]).val=_;unfold kG;have q:decide ((2:Int)<=(w:Nat))=false:=wt (by omega);have:w=0\/w=1:=by omega
 rcases this with rfl|rfl
 ·have z:(((0:Nat):Int)==0)=true:=rfl
  simp only[av,bp,du,ev,ck,bf,cf,au,ai,aq,cj,cg,Za,Zc,Zf,Zk,Zl,Zo,Zp,Zq,cw,dq,gV,ZB,ZF,ZG,q,z];rfl
 ·have z:(((1:Nat):Int)==0)=false:=rfl
  simp only[av,bp,du,ev,ck,bf,cf,au,ai,aq,cj,cg,Za,Zc,Zf,Zk,Zl,Zo,Zp,Zq,cw,dq,gV,ZB,ZF,ZG,q,z];rfl
theorem MD(k:Nat)(a b c:Int)(hw:w<4):bt prog (k+2) 10 [.int a,.int b,.int c,.int (w:Nat)]=.ok (af (jw a b c w)):=by
 by_cases h:w<2
 ·exact t7 (k+1) a b c h
 ·have r:=t7 k b a c (w:=w-2) (by omega)
  have e:((w:Nat):Int)-2=((w-2:Nat):Int):=by omega
  have q:decide ((2:Int)<=(w:Nat))=true:=ya (by omega);show(av (bt prog (k+1)) prog.fk 1000 kG [zi a,zi b,zi c,zi (w:Nat)]).val=_;unfold kG;simp only[av,bp,du,ev,ck,bf,cf,au,ai,aq,cj,cg,Za,Zc,Zf,Zk,Zl,Zo,Zp,Zq,cw,dq,gV,ZB,ZF,q,e,r];have:w=2\/w=3:=by omega
  rcases this with rfl|rfl<;>rfl
noncomputable def rh(Q:List (List Int))(x:Int):List (List Int):=if x<(2*Q.length:Nat) then dn Q (aw Q x) (2*Q.length:Nat) else Q
noncomputable def A8(Q:List (List Int))(x:Int)(w:Nat):List (List Int):=rh Q x++[jw x (2*Q.length:Nat) ((2*Q.length:Nat)+1) w]
theorem zW(Q:List (List Int))(x:Int):(rh Q x).length=Q.length:=by
 unfold rh;split<;>simp[aH]
theorem vV(h4:∀r∈Q,r.length=4):∀r∈rh Q x,r.length=4:=by
 unfold rh;split
 ·exact aE h4
 ·exact h4
theorem HU(Q:List (List Int))(x:Int)(w:Nat):(A8 Q x w).length=Q.length+1:=by simp[A8,zW]
theorem zX(h4:∀r∈Q,r.length=4):∀r∈A8 Q x w,r.length=4:=by
 intro r hr;rcases List.mem_append.mp hr with h|h
 ·exact vV h4 r h
 ·rw[List.mem_singleton.mp h];exact gH _ _ _ _
def EM(x g:Int)(m:Nat):Prop:=x<0\/(2*m:Nat)<x\/(x=(2*m:Nat)/\g=0)
theorem zY(k:Nat)(sh:bc Q m)(hm:m<=10)(hg:0<=g)(hw:w<4):
  (EM x g m->bt prog (k+3) 9 [da Q g,.int x,.int (w:Nat)]=.exc 1)/\(¬EM x g m->m=10->bt prog (k+3) 9 [da Q g,.int x,.int (w:Nat)]=.exc 0)/\
  (¬EM x g m->m≠10->bt prog (k+3) 9 [da Q g,.int x,.int (w:Nat)]=.ok (da (dz (A8 Q x w)) (if x=(2*m:Nat) then g-1 else g))):=by
 have di:=sh.len;subst di;have hQ:Q.length<=50:=by omega
 have a0:ag .at (da Q g) (.int 0)=.ok (.ar (Q.map af)):=rfl;have a1:ag .at (da Q g) (.int 1)=.ok (.int g):=rfl;have gl:wm prog.fk[0]?=.ok (.int 10):=rfl;have eN:(2*((Q.map af).length:Int))=((2*Q.length:Nat):Int):=by rw[gh];omega
 obtain⟨N,hN⟩:∃N:Int,N=((2*Q.length:Nat):Int):=⟨_,rfl⟩
 have e1:bp (bt prog (k+2)) prog.fk 1000 (.bz 3 (.b_ .list (.ag .at (.aa 0) (.ao (.int 0))))) [zs (da Q g),zi x,zi (w:Nat),none,none,none,none]=.nx [zs (da Q g),zi x,zi (w:Nat),some (true,(.ak (Q.map af))),none,none,none]:=by
  simp only[bp,ev,bf,ai,cj,cg,Zc,ba,bq,Zf,Zi,Zj,Zk,Zq,cw,Zt,ZS,a0]
 have e2:bp (bt prog (k+2)) prog.fk 1000 (.bz 4 (.ag .mul (.ao (.int 2)) (.b_ .len (.aa 3)))) [zs (da Q g),zi x,zi (w:Nat),some (true,(.ak (Q.map af))),none,none,none]=.nx [zs (da Q g),zi x,zi (w:Nat),some (true,(.ak (Q.map af))),zi N,none,none]:=by
  simp only[bp,ev,bf,ai,cj,cg,Zc,ba,bq,Zf,Zi,Zj,Zk,Zl,Zq,cw,Zu,ZL,BC,eN,hN]
 have e3:bp (bt prog (k+2)) prog.fk 1000 (.bz 5 (.and (.ag .eq (.aa 1) (.aa 4)) (.ag .gt (.ag .at (.aa 0) (.ao (.int 1))) (.ao (.int 0))))) [zs (da Q g),zi x,zi (w:Nat),some (true,(.ak (Q.map af))),zi N,none,none]=.nx [zs (da Q g),zi x,zi (w:Nat),some (true,(.ak (Q.map af))),zi N,zs (.bl (x==N&&decide (0<g))),none]:=by
  by_cases h:(x==N)=true<;>simp only[bp,ev,bf,ai,cj,cg,Zc,Eg,ba,bq,Zf,Zi,Zj,Zk,Zl,Zq,cw,dq,gV,Zt,Zu,ZE,ZG,h,a1]
 have start:bt prog (k+3) 9 [da Q g,.int x,.int (w:Nat)]=(av (bt prog (k+2)) prog.fk 1000 [(.ite (.and (.not (.a_ (.aa 5))) (.or (.a_ (.ag .lt (.aa 1) (.ao (.int 0)))) (.a_ (.ag .ge (.aa 1) (.aa 4))))) [(.yi 1)] []),(.ite (.a_ (.ag .ge (.b_ .len (.aa 3)) (.glob 0))) [(.yi 0)] []),(.ite (.a_ (.aa 5)) [(.ret (.call 5 [(.ag .add (.aa 3) (.ak [(.call 10 [(.aa 4),(.aa 4),(.ag .add (.aa 4) (.ao (.int 1))),(.aa 2)])])),(.ag .sub (.ag .at (.aa 0) (.ao (.int 1))) (.ao (.int 1)))]))] []),(.bz 6 (.call 20 [(.aa 3),(.ag .at (.call 0 [(.aa 0),(.aa 1)]) (.ao (.int 1))),(.aa 4)])),(.ret (.call 5 [(.ag .add (.aa 6) (.ak [(.call 10 [(.aa 1),(.aa 4),(.ag .add (.aa 4) (.ao (.int 1))),(.aa 2)])])),(.ag .at (.aa 0) (.ao (.int 1)))]))] [zs (da Q g),zi x,zi (w:Nat),some (true,(.ak (Q.map af))),zi N,zs (.bl (x==N&&decide (0<g))),none]).val:=by
  show(av (bt prog (k+2)) prog.fk 1000 kF [zs (da Q g),zi x,zi (w:Nat),none,none,none,none]).val=_;unfold kF;rw[aA e1,aA e2,aA e3]
 refine⟨λho=>?_,λho Wc=>?_,λho Wc=>?_⟩
 ·rw[start]
  have hb:(x==N&&decide (0<g))=false:=by
   rcases ho with h|h|⟨h,h'⟩
   ·have:(x==N)=false:=by simp;omega
    rw[this];rfl
   ·have:(x==N)=false:=by simp;omega
    rw[this];rfl
   ·have:decide (0<g)=false:=wt (by omega)
    rw[this,Bool.and_false]
  by_cases h0:decide (x<0)=true
  ·simp only[av,bp,du,ev,bf,au,ai,cj,cg,Za,Zc,Zf,Zk,Zl,Zq,cw,Zw,ZC,ZF,hb,h0];rfl
  ·have h1:decide (N<=x)=true:=ya (by
    rcases ho with h|h|⟨h,_⟩
    ·exact absurd (ya h) h0
    ·omega
    ·omega)
   simp only[av,bp,du,ev,bf,au,ai,cj,cg,Za,Zc,Zf,Zk,Zl,Zq,cw,dq,gV,Zw,ZC,ZF,hb,h0,h1];rfl
 ·rw[start]
  have hl:decide ((10:Int)<=((Q.map af).length:Int))=true:=ya (by simp only[gh];omega);by_cases hb:(x==N&&decide (0<g))=true
  ·simp only[av,bp,du,ev,bf,au,ai,cj,cg,Za,Zc,Zf,Zk,Zl,Zq,cw,dq,gV,Zv,ZC,ZF,ZL,hb,gl,hl];rfl
  ·have IK:(x==N&&decide (0<g))=false:=by simpa using hb
   have W0:x≠N:=λh=>hb (by rw[h];simp;exact Ie λhc=>ho (.inr (.inr ⟨by omega,by omega⟩)));have h0:decide (x<0)=false:=wt λh=>ho (.inl h);have h1:decide (N<=x)=false:=wt λh=>ho (.inr (.inl (by omega)));simp only[av,bp,du,ev,bf,au,ai,cj,cg,Za,Zc,Zf,Zk,Zl,Zq,cw,dq,gV,Zw,ZC,ZF,ZL,IK,h0,h1,gl,hl];rfl
 ·rw[start]
  have hl:decide ((10:Int)<=((Q.map af).length:Int))=false:=wt (by simp only[gh];omega);have hn:=t6 (k+1) (R:=A8 Q x w) (g:=if x=(2*Q.length:Nat) then g-1 else g) (zX sh.four) (by rw[HU];omega);have cv:=MD k x N (N+1) hw;rw[A8,wj,←hN,j_,A'] at hn;rw[A8,←hN];have ad:∀(Y:List (List Int))(r:List Int),Y.length=Q.length->ag .add (.ak (Y.map af)) (.ak [af r])=.ok (.ak (Y.map af++[af r])):=λY r hY=>mX _ _ (by
   have:jj=100000:=rfl;simp only[gh,ja,ou];omega)
  by_cases hx:x=N
  ·have hb:(x==N&&decide (0<g))=true:=by
    rw[hx];simp;exact Ie λhc=>ho (.inr (.inr ⟨by omega,by omega⟩))
   have bs:rh Q x=Q:=by rw[rh,bh (by omega)]
   rw[bs] at hn⊢;rw[bg hx] at hn⊢;rw[hx] at cv hn⊢;rw[hx] at hb;simp only[av,bp,du,ev,ck,bf,cf,au,ai,aq,cj,cg,Za,Zc,Zf,Zk,Zl,Zo,Zp,Zq,cw,dq,gV,Zv,ZA,ZB,ZC,ZF,ZL,hb,gl,hl,cv,ad Q _ rfl,a1,hn];rfl
  ·have hb:(x==N&&decide (0<g))=false:=by
    have:(x==N)=false:=by simpa using hx
    rw[this];rfl
   have hr:0<=x/\x<N:=⟨Ie λh=>ho (.inl (by omega)),Ie λh=>ho (.inr (.inl (by omega)))⟩
   have h0:decide (x<0)=false:=wt (by omega);have h1:decide (N<=x)=false:=wt (by omega);have hp:=sh.in_of (x:=x) (by omega);obtain⟨_,a,b,pw⟩:=sh.vk hp;have sb:b=aw Q x:=by rw[aw,pw];rfl
   have el:=rZ (k+1) (g:=g) (line:=x) sh.four hQ;rw[bh hp,pw,j_,j_,A',sb] at el;have rl:=bJ (k+1) (v:=N) (fZ (Q.map af)) sh.four (aY hp);have bs:rh Q x=dn Q (aw Q x) N:=by rw[rh,bg (by omega),hN]
   rw[bh hx] at hn⊢;rw[bs] at hn⊢;have e6:bp (bt prog (k+2)) prog.fk 1000 (.bz 6 (.call 20 [(.aa 3),(.ag .at (.call 0 [(.aa 0),(.aa 1)]) (.ao (.int 1))),(.aa 4)])) [zs (da Q g),zi x,zi (w:Nat),some (true,(.ak (Q.map af))),zi N,zs (.bl false),none]=.nx [zs (da Q g),zi x,zi (w:Nat),zs (.ak (Q.map af)),zi N,zs (.bl false),zs (.ak ((dn Q (aw Q x) N).map af))]:=by
    simp only[bp,ev,ck,bf,cf,ai,aq,cj,cg,Zc,ba,bq,Ze,Zf,Zi,Zj,Zk,Zl,Zo,Zp,Zq,dq,gV,Zu,ZJ,el,lS,rl]
   have Wd:bp (bt prog (k+2)) prog.fk 1000 (.ite (.and (.not (.a_ (.aa 5))) (.or (.a_ (.ag .lt (.aa 1) (.ao (.int 0)))) (.a_ (.ag .ge (.aa 1) (.aa 4))))) [(.yi 1)] []) [zs (da Q g),zi x,zi (w:Nat),some (true,(.ak (Q.map af))),zi N,zs (.bl false),none]=.nx [zs (da Q g),zi x,zi (w:Nat),some (true,(.ak (Q.map af))),zi N,zs (.bl false),none]:=by
    simp only[av,bp,du,ev,bf,au,ai,cj,cg,Za,Zc,Zf,Zk,Zl,Zq,cw,dq,gV,Zw,ZC,ZF,h0,h1]
   have We:bp (bt prog (k+2)) prog.fk 1000 (.ite (.a_ (.ag .ge (.b_ .len (.aa 3)) (.glob 0))) [(.yi 0)] []) [zs (da Q g),zi x,zi (w:Nat),some (true,(.ak (Q.map af))),zi N,zs (.bl false),none]=.nx [zs (da Q g),zi x,zi (w:Nat),some (true,(.ak (Q.map af))),zi N,zs (.bl false),none]:=by
    simp only[av,bp,du,ev,bf,au,ai,cj,cg,Za,Zc,Zf,Zk,Zl,Zq,cw,dq,gV,ZF,ZL,gl,hl]
   have Wf:bp (bt prog (k+2)) prog.fk 1000 (.ite (.a_ (.aa 5)) [(.ret (.call 5 [(.ag .add (.aa 3) (.ak [(.call 10 [(.aa 4),(.aa 4),(.ag .add (.aa 4) (.ao (.int 1))),(.aa 2)])])),(.ag .sub (.ag .at (.aa 0) (.ao (.int 1))) (.ao (.int 1)))]))] []) [zs (da Q g),zi x,zi (w:Nat),some (true,(.ak (Q.map af))),zi N,zs (.bl false),none]=.nx [zs (da Q g),zi x,zi (w:Nat),some (true,(.ak (Q.map af))),zi N,zs (.bl false),none]:=by
    simp only[av,bp,du,ev,ck,bf,cf,au,ai,aq,cj,cg,Za,Zc,Zf,Zk,Zl,Zo,Zp,Zq,cw,dq,gV,ZA]
   rw[hb,aA Wd,aA We,aA Wf,aA e6];simp only[av,bp,ev,ck,bf,cf,ai,aq,cj,cg,Zc,Zf,Zk,Zl,Zo,Zp,Zq,cw,dq,gV,ZA,cv,ad _ _ (aH _ _ _),a1,hn];rfl
theorem Q5(a b c d:D):my [a,b,c,d] 0=some a/\my [a,b,c,d] 1=some b/\my [a,b,c,d] 2=some c/\my [a,b,c,d] 3=some d:=⟨rfl,rfl,rfl,rfl⟩
theorem cH{Q:List (List Int)}(h4:∀r∈Q,r.length=4)(hx:¬(x<0\/(Q.length:Int)<=x)):(Q.getD x.toNat []).length=4:=by
 have h:x.toNat<Q.length:=by omega
 have e:Q.getD x.toNat []=Q[x.toNat]:=by simp[h]
 rw[e];exact h4 _ (xk h)
noncomputable def Q6(Q:List (List Int))(g x:Int)(P:List Int):D:=da (dz (gx (bu Q [x]) g [P]).1) (gx (bu Q [x]) g [P]).2
theorem iR(k:Nat)(h4:∀r∈Q,r.length=4)(hQ:Q.length<=50)(h0:ag .at (af r) (.int e)=.ok (.int a))(h1:ag .at (af r) (.int ((e+1)%4))=.ok (.int b))(h2:ag .at (af r) (.int ((e+2)%4))=.ok (.int p))(h3:ag .at (af r) (.int ((e+3)%4))=.ok (.int q)):
  dm (bt prog (k+2)) prog.fk 1000 [3] [(.ite (.a_ (.ag .eq (.ag .at (.aa 2) (.aa 3)) (.ag .at (.aa 2) (.ag .mod (.ag .add (.aa 3) (.ao (.int 1))) (.ao (.int 4)))))) [(.bz 4 (.ar [(.ag .at (.aa 2) (.ag .mod (.ag .add (.aa 3) (.ao (.int 2))) (.ao (.int 4)))),(.ag .at (.aa 2) (.ag .mod (.ag .add (.aa 3) (.ao (.int 3))) (.ao (.int 4))))])),(.ret (.call 7 [(.call 6 [(.ag .at (.aa 0) (.ao (.int 0))),(.ar [(.aa 1)])]),(.ag .at (.aa 0) (.ao (.int 1))),(.ak [(.aa 4)])]))] [])] (.int e) [zs (da Q g),zi x,zs (af r),c3,c4]=if a=b then .rt (Q6 Q g x [p,q]) else .nx [zs (da Q g),zi x,zs (af r),zi e,c4]:=by
 have m4:∀x:Int,ag .mod (.int x) (.int 4)=.ok (.int (x%4)):=λx=>cY _ _ (by decide);have a0:ag .at (da Q g) (.int 0)=.ok (.ar (Q.map af)):=rfl;have a1:ag .at (da Q g) (.int 1)=.ok (.int g):=rfl;have w2:=g6 Q [x];have hj:=pZ k (g:=g) (P:=[[p,q]]) (bE (ks:=[x]) h4) (by simp) (by omega) (by simp);have hj:bt prog (k+2) 7 [.ak ((bu Q [x]).map af),.int g,.ak [.ar [.int p,.int q]]]=.ok (Q6 Q g x [p,q]):=hj;have hw:bt prog (k+2) 6 [.ar (Q.map af),.ar [.int x]]=.ok (.ak ((bu Q [x]).map af)):=mE (k+1) (ks:=[x]) hQ;generalize af r=R at*;by_cases h:a=b
 ·have z:(a==b)=true:=by simpa using h
  rw[bg h];simp only[dm,av,bp,du,ev,ck,bf,cf,au,ai,aq,cj,cg,Za,Zc,Py.sets,br,ba,bq,Zf,Zi,Zj,Zk,Zl,Zo,Zp,Zq,cw,dq,gV,Zu,ZA,ZG,m4,h0,h1,h2,h3,z,a0,a1,hw,hj,ja,ou,jr]
 ·have z:(a==b)=false:=by simpa using h
  rw[bh h];simp only[dm,av,bp,du,ev,ck,bf,cf,au,ai,aq,cj,cg,Za,Zc,Py.sets,br,ba,bq,Zf,Zi,Zj,Zk,Zl,Zo,Zp,Zq,cw,dq,gV,Zu,ZA,ZG,m4,h0,h1,z,ja,ou,jr]
theorem r8(k:Nat){Q:List (List Int)}{g x:Int}(h4:∀r∈Q,r.length=4)(hQ:Q.length<=50):
  bt prog (k+3) 11 [da Q g,.int x]=if x<0\/(Q.length:Int)<=x then .exc 1 else match CO (Q.getD x.toNat []) with
   |none=>.exc 2
   |some e=>.ok (Q6 Q g x (Dh (Q.getD x.toNat []) e)):=by
 show(av (bt prog (k+2)) prog.fk 1000 eF [zs (da Q g),zi x,none,none,none]).val=_;have ha:=Dk (k+1) (Q:=Q) (g:=g) (x:=x);unfold eF;by_cases hx:x<0\/(Q.length:Int)<=x
 ·rw[bg hx] at ha⊢
  simp only[av,bp,ev,ck,bf,cf,ai,aq,cj,cg,Zd,ba,bq,Zf,Zi,Zj,Zk,Zl,Zo,Zp,Zq,dq,gV,Zu,ha];rfl
 rw[bh hx] at ha⊢;have hr:=cH h4 hx;generalize Q.getD x.toNat []=r at*;have e1:bp (bt prog (k+2)) prog.fk 1000 (.bz 2 (.call 1 [(.aa 0),(.aa 1)])) [zs (da Q g),zi x,none,none,none]=.nx [zs (da Q g),zi x,zs (af r),none,none]:=by simp only[bp,ev,ck,bf,cf,ai,aq,cj,cg,Zc,ba,bq,Zf,Zi,Zj,Zk,Zl,Zo,Zp,Zq,dq,gV,Zu,ha]
 rw[aA e1];have el:=bD (Φ:=bt prog (k+2)) (G:=prog.fk) (n:=1000) (k:=.js) (its:=[(.ao (.int 4))]) (tg:=[3]) (body:=[(.ite (.a_ (.ag .eq (.ag .at (.aa 2) (.aa 3)) (.ag .at (.aa 2) (.ag .mod (.ag .add (.aa 3) (.ao (.int 1))) (.ao (.int 4)))))) [(.bz 4 (.ar [(.ag .at (.aa 2) (.ag .mod (.ag .add (.aa 3) (.ao (.int 2))) (.ao (.int 4)))),(.ag .at (.aa 2) (.ag .mod (.ag .add (.aa 3) (.ao (.int 3))) (.ao (.int 4))))])),(.ret (.call 7 [(.call 6 [(.ag .at (.aa 0) (.ao (.int 0))),(.ar [(.aa 1)])]),(.ag .at (.aa 0) (.ao (.int 1))),(.ak [(.aa 4)])]))] [])]) (δ:=[zs (da Q g),zi x,zs (af r),none,none]) (xs:=[.int 0,.int 1,.int 2,.int 3]) rfl;have fr:bf (aq false [(.ao (.int 4))]) [zs (da Q g),zi x,zs (af r),none,none]=[zs (da Q g),zi x,zs (af r),none,none]:=rfl;rw[fr] at el;obtain⟨a,b,c,d,rfl⟩:=lh hr;have t0:=λc3 c4=>iR k (g:=g) (x:=x) (e:=0) (a:=a) (b:=b) (p:=c) (q:=d) (r:=[a,b,c,d]) (c3:=c3) (c4:=c4) h4 hQ rfl rfl rfl rfl;have t1:=λc3 c4=>iR k (g:=g) (x:=x) (e:=1) (a:=b) (b:=c) (p:=d) (q:=a) (r:=[a,b,c,d]) (c3:=c3) (c4:=c4) h4 hQ rfl rfl rfl rfl;have t2:=λc3 c4=>iR k (g:=g) (x:=x) (e:=2) (a:=c) (b:=d) (p:=a) (q:=b) (r:=[a,b,c,d]) (c3:=c3) (c4:=c4) h4 hQ rfl rfl rfl rfl;have t3:=λc3 c4=>iR k (g:=g) (x:=x) (e:=3) (a:=d) (b:=a) (p:=b) (q:=c) (r:=[a,b,c,d]) (c3:=c3) (c4:=c4) h4 hQ rfl rfl rfl rfl;have et:CO [a,b,c,d]=if a=b then some 0 else if b=c then some 1 else if c=d then some 2 else if d=a then some 3 else none:=rfl;rw[et];by_cases h0:a=b
 ·simp only[bg h0] at t0
  rw[bg h0];rw[aI (el.trans (by rw[Py.forM,t0]))];rfl
 simp only[bh h0] at t0;rw[bh h0];by_cases h1:b=c
 ·simp only[bg h1] at t1
  rw[bg h1];rw[aI (el.trans (by rw[Py.forM,t0];dsimp only;rw[Py.forM,t1]))];rfl
 simp only[bh h1] at t1;rw[bh h1];by_cases h2:c=d
 ·simp only[bg h2] at t2
  rw[bg h2];rw[aI (el.trans (by rw[Py.forM,t0];dsimp only;rw[Py.forM,t1];dsimp only;rw[Py.forM,t2]))];rfl
 simp only[bh h2] at t2;rw[bh h2];by_cases h3:d=a
 ·simp only[bg h3] at t3
  rw[bg h3];rw[aI (el.trans (by rw[Py.forM,t0];dsimp only;rw[Py.forM,t1];dsimp only;rw[Py.forM,t2];dsimp only;rw[Py.forM,t3]))];rfl
 simp only[bh h3] at t3;rw[bh h3];rw[aA (el.trans (by rw[Py.forM,t0];dsimp only;rw[Py.forM,t1];dsimp only;rw[Py.forM,t2];dsimp only;rw[Py.forM,t3];dsimp only;rw[Py.forM]))];simp only[av,bp];rfl
theorem vW(k:Nat)(s0 s1 l x f:Int)(hw:w<4):bt prog (k+1) 13 [.ar [.int s0,.int s1],.ar [.int l,.int x],.int f,.int (w:Nat)]=.ok (.ak ((BS s0 s1 l x f w).map af)):=by
 show(av (bt prog k) prog.fk 1000 gL [zs (.ar [.int s0,.int s1]),zs (.ar [.int l,.int x]),zi f,zi (w:Nat),none,none]).val=_;unfold gL;by_cases h:w<2
 ·have q2:decide ((w:Int)<2)=true:=ya (by omega)
  rw[BS,bg h];simp only[av,bp,du,ev,ck,bf,cf,au,ai,aq,cj,cg,Za,Zc,ba,bq,Ze,Zf,Zi,Zj,Zk,Zl,Zm,Zn,Zo,Zp,Zq,cw,dq,gV,Zt,Zu,ZA,ZC,ZJ,q2,pI,lS];rfl
 ·have q2:decide ((w:Int)<2)=false:=wt (by omega)
  rw[BS,bh h];simp only[av,bp,du,ev,ck,bf,cf,au,ai,aq,cj,cg,Za,Zc,ba,bq,Ze,Zf,Zi,Zj,Zk,Zl,Zm,Zn,Zo,Zp,Zq,cw,dq,gV,Zt,Zu,ZA,ZC,ZJ,q2,pI,lS];rfl
theorem ME(k:Nat)(sh:bc Q m)(hm:m<=10)(hw:w<4):bt prog (k+2) 12 [da Q g,.int u,.int l,.int (w:Nat)]=if bw Q u=[]\/bw Q l=[] then .exc 1 else if u=l then .exc 2 else if 8<m then .exc 0 else .ok (da (dz (nk Q u l w)) g):=by
 have hQ:Q.length<=50:=by rw[sh.len];omega
 have eu:=rZ k (g:=g) (line:=u) sh.four hQ;have el:=rZ k (g:=g) (line:=l) sh.four hQ;show(av (bt prog (k+1)) prog.fk 1000 dC [zs (da Q g),zi u,zi l,zi (w:Nat),none,none,none,none,none]).val=_;unfold dC;by_cases hu:bw Q u=[]
 ·rw[bg (.inl hu)]
  rw[bg hu] at eu;simp only[av,bp,ev,ck,bf,cf,ai,aq,cj,cg,Zd,ba,bq,Zf,Zg,Zi,Zj,Zk,Zl,Zo,Zp,Zq,dq,gV,Zu,eu];rfl
 rw[bh hu] at eu;obtain⟨ru,a,b,pw⟩:=sh.vk hu;have sb:b=aw Q u:=by rw[aw,pw];rfl
 have ib:=aY hu;rw[pw] at eu;have e1:bp (bt prog (k+1)) prog.fk 1000 (.bz 4 (.ag .at (.call 0 [(.aa 0),(.aa 1)]) (.ao (.int 1)))) [zs (da Q g),zi u,zi l,zi (w:Nat),none,none,none,none,none]=.nx [zs (da Q g),zi u,zi l,zi (w:Nat),zs (aj b),none,none,none,none]:=by
  have:ag .at (.ar [aj a,aj b]) (.int 1)=.ok (aj b):=rfl;rw[j_,j_,A'] at eu;rw[aT (v:=aj b) rfl (by rw[ev,ev];simp only[ck,ev,cj,bf,ai,aq,cg,dq,gV,List.getElem?_cons_zero,List.getElem?_cons_succ,aZ,eu,this])];rfl
 rw[aA e1];by_cases hl:bw Q l=[]
 ·rw[bg (.inr hl)]
  rw[bg hl] at el;simp only[av,bp,ev,ck,bf,cf,ai,aq,cj,cg,Zd,ba,bq,Zf,Zg,Zi,Zj,Zk,Zl,Zo,Zp,Zq,dq,gV,Zu,el];rfl
 rw[bh hl] at el;rw[bh (not_or.mpr ⟨hu,hl⟩)];obtain⟨rl,c,d,uj⟩:=sh.vk hl;have sd:d=aw Q l:=by rw[aw,uj];rfl
 have id:=aY hl;rw[uj] at el;have e2:bp (bt prog (k+1)) prog.fk 1000 (.bz 5 (.ag .at (.call 0 [(.aa 0),(.aa 2)]) (.ao (.int 1)))) [zs (da Q g),zi u,zi l,zi (w:Nat),zs (aj b),none,none,none,none]=.nx [zs (da Q g),zi u,zi l,zi (w:Nat),zs (aj b),zs (aj d),none,none,none]:=by
  have:ag .at (.ar [aj c,aj d]) (.int 1)=.ok (aj d):=rfl;rw[j_,j_,A'] at el;rw[aT (v:=aj d) rfl (by rw[ev,ev];simp only[ck,ev,cj,bf,ai,aq,cg,dq,gV,List.getElem?_cons_zero,List.getElem?_cons_succ,aZ,el,this])];rfl
 rw[aA e2];subst sb sd;by_cases Q7:u=l
 ·have:(u==l)=true:=by simpa using Q7
  rw[bg Q7];simp only[av,bp,du,ev,bf,au,ai,cj,cg,Za,Zc,Zf,Zk,Zl,Zq,cw,ZG,this];rfl
 have vd:(u==l)=false:=by simpa using Q7
 rw[bh Q7];have a0:ag .at (da Q g) (.int 0)=.ok (.ar (Q.map af)):=rfl;have a1:ag .at (da Q g) (.int 1)=.ok (.int g):=rfl;have gl:wm prog.fk[0]?=.ok (.int 10):=rfl;by_cases hc:8<m
 ·have hd:decide ((10:Int)-2<((Q.map af).length:Int))=true:=ya (by simp only[gh,sh.len];omega)
  rw[bg hc];simp only[av,bp,du,ev,bf,au,ai,cj,cg,Za,Zc,Zf,Zk,Zl,Zq,cw,dq,gV,ZB,ZE,ZG,ZM,vd,a0,gl,hd];rfl
 have hd:decide ((10:Int)-2<((Q.map af).length:Int))=false:=wt (by simp only[gh,sh.len];omega);rw[bh hc];have eN:(2*((Q.map af).length:Int))=((2*Q.length:Nat):Int):=by rw[gh];omega
 have r1:=bJ k (d0:=.ar (Q.map af)) (v:=(2*Q.length:Nat)) (LX _) sh.four ib;have r2:=bJ k (v:=(2*Q.length:Nat)+1) (fZ ((dn Q (aw Q u) (2*Q.length:Nat)).map af)) (aE sh.four) (by rw[aH];exact id);have ov:=vW k (BG u (2*Q.length:Nat) w) (BH u (2*Q.length:Nat) w) l ((2*Q.length:Nat)+1) ((2*Q.length:Nat)+2) hw;have hn:=t6 k (R:=nk Q u l w) (g:=g) (gI sh.four) (by rw[kB,sh.len];omega);rw[show nk Q u l w=dn (dn Q (aw Q u) (2*Q.length:Nat)) (aw Q l) ((2*Q.length:Nat)+1)++BS (BG u (2*Q.length:Nat) w) (BH u (2*Q.length:Nat) w) l ((2*Q.length:Nat)+1) ((2*Q.length:Nat)+2) w from rfl] at*;rw[wj] at hn;have di:((dn (dn Q (aw Q u) (2*Q.length:Nat)) (aw Q l) ((2*Q.length:Nat)+1)).map af).length+((BS (BG u (2*Q.length:Nat) w) (BH u (2*Q.length:Nat) w) l ((2*Q.length:Nat)+1) ((2*Q.length:Nat)+2) w).map af).length<=jj:=by
  have:jj=100000:=rfl;simp only[gh,aH,tV];omega
 generalize dn (dn Q (aw Q u) (2*Q.length:Nat)) (aw Q l) ((2*Q.length:Nat)+1)=Y,(dn Q (aw Q u) (2*Q.length:Nat)).map af=X at*;generalize ((2*Q.length:Nat):Int)=N at*;have m2:∀x:Int,ag .mod (.int x) (.int 2)=.ok (.int (x%2)):=λx=>cY _ _ (by decide);have e7:∀st,st=Sm.ite (.a_ (.ag .eq (.ag .mod (.aa 3) (.ao (.int 2))) (.ao (.int 0)))) [(.bz 8 (.ar [(.aa 1),(.aa 6)]))] [(.bz 8 (.ar [(.aa 6),(.aa 1)]))]->bp (bt prog (k+1)) prog.fk 1000 st [zs (da Q g),zi u,zi l,zi (w:Nat),zs (aj (aw Q u)),zs (aj (aw Q l)),zi N,zs (.ak (Y.map af)),none]=.nx [zs (da Q g),zi u,zi l,zi (w:Nat),zs (aj (aw Q u)),zs (aj (aw Q l)),zi N,zs (.ak (Y.map af)),zs (.ar [.int (BG u N w),.int (BH u N w)])]:=by
  rintro st rfl;by_cases hp:w%2=0
  ·have:((w:Int)%2==0)=true:=by simp;omega
   simp only[av,bp,du,ev,ck,bf,cf,au,ai,aq,cj,cg,Za,Zc,ba,bq,Zf,Zi,Zj,Zk,Zl,Zo,Zp,Zq,cw,dq,gV,Zu,ZG,m2,this,BG,BH,bg hp]
  ·have:((w:Int)%2==0)=false:=by simp;omega
   simp only[av,bp,du,ev,ck,bf,cf,au,ai,aq,cj,cg,Za,Zc,ba,bq,Zf,Zi,Zj,Zk,Zl,Zo,Zp,Zq,cw,dq,gV,Zu,ZG,m2,this,BG,BH,bh hp]
 have e3:bp (bt prog (k+1)) prog.fk 1000 (.ite (.a_ (.ag .eq (.aa 1) (.aa 2))) [(.yi 2)] []) [zs (da Q g),zi u,zi l,zi (w:Nat),zs (aj (aw Q u)),zs (aj (aw Q l)),none,none,none]=.nx [zs (da Q g),zi u,zi l,zi (w:Nat),zs (aj (aw Q u)),zs (aj (aw Q l)),none,none,none]:=by
  simp only[av,bp,du,ev,bf,au,ai,cj,cg,Za,Zc,Zf,Zk,Zl,Zq,cw,dq,gV,ZG,vd]
 have e4:bp (bt prog (k+1)) prog.fk 1000 (.ite (.a_ (.ag .gt (.b_ .len (.ag .at (.aa 0) (.ao (.int 0)))) (.ag .sub (.glob 0) (.ao (.int 2))))) [(.yi 0)] []) [zs (da Q g),zi u,zi l,zi (w:Nat),zs (aj (aw Q u)),zs (aj (aw Q l)),none,none,none]=.nx [zs (da Q g),zi u,zi l,zi (w:Nat),zs (aj (aw Q u)),zs (aj (aw Q l)),none,none,none]:=by
  simp only[av,bp,du,ev,bf,au,ai,cj,cg,Za,Zc,Zf,Zk,Zq,cw,dq,gV,ZB,ZE,ZM,a0,gl,hd]
 have e5:bp (bt prog (k+1)) prog.fk 1000 (.bz 6 (.ag .mul (.ao (.int 2)) (.b_ .len (.ag .at (.aa 0) (.ao (.int 0)))))) [zs (da Q g),zi u,zi l,zi (w:Nat),zs (aj (aw Q u)),zs (aj (aw Q l)),none,none,none]=.nx [zs (da Q g),zi u,zi l,zi (w:Nat),zs (aj (aw Q u)),zs (aj (aw Q l)),zi N,none,none]:=by
  simp only[bp,ev,bf,ai,cj,cg,Zc,ba,bq,Zf,Zi,Zj,Zk,Zq,cw,Zu,ZM,a0,BC,eN]
 have e6:bp (bt prog (k+1)) prog.fk 1000 (.bz 7 (.call 20 [(.call 20 [(.ag .at (.aa 0) (.ao (.int 0))),(.aa 4),(.aa 6)]),(.aa 5),(.ag .add (.aa 6) (.ao (.int 1)))])) [zs (da Q g),zi u,zi l,zi (w:Nat),zs (aj (aw Q u)),zs (aj (aw Q l)),zi N,none,none]=.nx [zs (da Q g),zi u,zi l,zi (w:Nat),zs (aj (aw Q u)),zs (aj (aw Q l)),zi N,zs (.ak (Y.map af)),none]:=by
  simp only[bp,ev,ck,bf,cf,ai,aq,cj,cg,Zc,ba,bq,Zf,Zi,Zj,Zk,Zl,Zo,Zp,Zq,cw,dq,gV,Zu,ZA,a0,r1,r2]
 rw[aA e3,aA e4,aA e5,aA e6,aA (e7 _ rfl)];simp only[av,bp,ev,ck,bf,cf,ai,aq,cj,cg,Zc,Zf,Zk,Zl,Zo,Zp,Zq,cw,dq,gV,ZA,a1,ov,mX _ _ di,hn];rfl
theorem nQ(h:r.length=4):(r2 r).length=4:=by
 obtain⟨a,b,c,d,rfl⟩:=lh h;rfl
theorem rj(h:kz x y=some P):∃a b c d,P=[[a,b],[c,d]]:=by
 unfold kz at h;split at h
 ·split at h
  ·cases h;exact⟨_,_,_,_,rfl⟩
  ·split at h
   ·cases h;exact⟨_,_,_,_,rfl⟩
   ·cases h
 ·cases h
noncomputable def S9:Option (List (List Int))->D
 |none=>.de
 |some P=>.ak (P.map af)
theorem sA(k:Nat)(hx:x.length=4)(hy:y.length=4):bt prog (k+1) 15 [af x,af y]=.ok (S9 (kz x y)):=by
 obtain⟨x0,x1,x2,x3,rfl⟩:=lh hx;obtain⟨y0,y1,y2,y3,rfl⟩:=lh hy;show(av (bt prog k) prog.fk 1000 eG [zs (.ar [.int x0,.int x1,.int x2,.int x3]),zs (.ar [.int y0,.int y1,.int y2,.int y3]),none]).val=_;have hit:bo .seq [.ar [.int 1,.int 3]]=.ok [.int 1,.int 3]:=rfl;unfold eG;have Wg:kz [x0,x1,x2,x3] [y0,y1,y2,y3]=if x2=y0 then(if x1=y1 then some [[x0,y2],[x3,y3]] else if x3=y3 then some [[x0,y2],[x1,y1]] else none) else none:=rfl;rw[Wg];by_cases h1:x2=y0
 ·have q1:(x2==y0)=true:=by simpa using h1
  rw[bg h1];by_cases h2:x1=y1
  ·have q2:(x1==y1)=true:=by simpa using h2
   rw[bg h2];simp only[av,bp,du,ev,ck,bf,au,ai,aq,cj,cg,Za,Zc,Py.sets,br,Ze,Zf,Zh,Zi,Zj,Zk,Zl,Zq,cw,dq,gV,Zv,ZB,ZG,ZH,ZJ,hit,Py.forM,Q5,q1,q2,ja,ou,jr,Int.reduceSub];rfl
  ·have q2:(x1==y1)=false:=by simpa using h2
   rw[bh h2];by_cases h3:x3=y3
   ·have q3:(x3==y3)=true:=by simpa using h3
    rw[bg h3];simp only[av,bp,du,ev,ck,bf,au,ai,aq,cj,cg,Za,Zc,Py.sets,br,Ze,Zf,Zh,Zi,Zj,Zk,Zl,Zq,cw,dq,gV,Zv,ZB,ZG,ZH,ZJ,hit,Py.forM,Q5,q1,q2,q3,ja,ou,jr,Int.reduceSub];rfl
   ·have q3:(x3==y3)=false:=by simpa using h3
    rw[bh h3];simp only[av,bp,du,ev,ck,bf,au,ai,aq,cj,cg,Za,Zc,Py.sets,br,Ze,Zf,Zh,Zi,Zj,Zk,Zl,Zq,cw,dq,gV,Zv,ZB,ZG,ZH,ZJ,hit,Py.forM,Q5,q1,q2,q3,ja,ou,jr,Int.reduceSub];rfl
 ·have q1:(x2==y0)=false:=by simpa using h1
  rw[bh h1];simp only[av,bp,du,ev,bf,au,ai,cj,cg,Za,Zc,Ze,Zf,Zk,Zl,Zq,cw,Zw,ZH,ZJ,Q5,q1];rfl
theorem Qe(h:AK x y=some P):∃a b c d,P=[[a,b],[c,d]]:=by
 unfold AK at h;split at h
 ·cases h;rename_i e;exact rj e
 ·split at h
  ·cases h;rename_i e;exact rj e
  ·split at h
   ·cases h;rename_i e;exact rj e
   ·exact rj h
theorem iS(k:Nat)(h:r.length=4):bt prog (k+1) 2 [af r,.int 0]=.ok (af r):=by
 obtain⟨a,b,c,d,rfl⟩:=lh h;rfl
theorem iT(k:Nat)(h:r.length=4):bt prog (k+1) 2 [af r,.int 2]=.ok (af (r2 r)):=by
 obtain⟨a,b,c,d,rfl⟩:=lh h;rfl
theorem MF(P:List (List Int)):b_ .isNotNone (.ak (P.map af))=.ok (.bl true):=by
 show(if dr 1000 (.ak (P.map af)) then R.ok (D.bl true) else R.bad)=_;have h:=bQ 998 P;rw[bg (show dr 1000 (.ak (P.map af))=true by simpa[dr] using h)]
noncomputable def EN(Q:List (List Int))(g x y:Int)(P:List (List Int)):D:=da (dz (gx (bu Q [x,y]) g P).1) (gx (bu Q [x,y]) g P).2
theorem cP(k:Nat){Q:List (List Int)}{g x y b c:Int}{r s r' s':List Int}{c5 c6:Slot}(h4:∀r∈Q,r.length=4)(hQ:Q.length<=50)(h1:bt prog (k+2) 2 [af r,.int b]=.ok (af r'))(h2:bt prog (k+2) 2 [af s,.int c]=.ok (af s'))(hr:r'.length=4)(hs:s'.length=4):
  dm (bt prog (k+2)) prog.fk 1000 [5] [(.bz 6 (.call 15 [(.call 2 [(.aa 3),(.ag .at (.aa 5) (.ao (.int 0)))]),(.call 2 [(.aa 4),(.ag .at (.aa 5) (.ao (.int 1)))])])),(.ite (.a_ (.b_ .isNotNone (.aa 6))) [(.ret (.call 7 [(.call 6 [(.ag .at (.aa 0) (.ao (.int 0))),(.ar [(.aa 1),(.aa 2)])]),(.ag .at (.aa 0) (.ao (.int 1))),(.aa 6)]))] [])] (.ar [.int b,.int c]) [zs (da Q g),zi x,zi y,zs (af r),zs (af s),c5,c6]=match kz r' s' with
   |none=>.nx [some (false,da Q g),some (false,.int x),some (false,.int y),some (false,af r),some (false,af s),some (false,.ar [.int b,.int c]),some (false,.de)]
   |some P=>.rt (EN Q g x y P):=by
 have hl:=sA (k+1) hr hs;have a0:ag .at (da Q g) (.int 0)=.ok (.ar (Q.map af)):=rfl;have a1:ag .at (da Q g) (.int 1)=.ok (.int g):=rfl;have nn:b_ .isNotNone .de=.ok (.bl false):=rfl
 cases e:kz r' s' with
 |none=>
  rw[e] at hl;have hl:bt prog (k+2) 15 [af r',af s']=.ok .de:=hl;simp only[dm,av,bp,du,ev,ck,bf,cf,au,ai,aq,cj,cg,Za,Zc,Py.sets,br,ba,bq,Ze,Zf,Zi,Zj,Zk,Zl,Zo,Zp,Zq,cw,dq,gV,Zu,ZJ,h1,h2,pI,lS,hl,nn,ja,ou,jr]
 |some P=>
  rw[e] at hl;have hl:bt prog (k+2) 15 [af r',af s']=.ok (.ak (P.map af)):=hl;obtain⟨_,_,_,_,ep⟩:=rj e;have w2:=g6 Q [x,y];have hj:=pZ k (g:=g) (P:=P) (bE (ks:=[x,y]) h4) (by rw[ep];simp) (by omega) (by rw[ep];simp);have hw:bt prog (k+2) 6 [.ar (Q.map af),.ar [.int x,.int y]]=.ok (.ak ((bu Q [x,y]).map af)):=mE (k+1) (ks:=[x,y]) hQ;have nl:=MF P;simp only[dm,av,bp,du,ev,ck,bf,cf,au,ai,aq,cj,cg,Za,Zc,Py.sets,br,ba,bq,Ze,Zf,Zi,Zj,Zk,Zl,Zo,Zp,Zq,cw,dq,gV,Zu,ZJ,h1,h2,pI,lS,hl,nl,a0,a1,hw,hj,ja,ou,jr];rfl
theorem HV(k:Nat){Q:List (List Int)}{g x y:Int}(h4:∀r∈Q,r.length=4)(hQ:Q.length<=50):
  bt prog (k+3) 14 [da Q g,.int x,.int y]=if(x<0\/(Q.length:Int)<=x)\/(y<0\/(Q.length:Int)<=y) then .exc 1 else if x=y then .exc 2 else match AK (Q.getD x.toNat []) (Q.getD y.toNat []) with
   |none=>.exc 2
   |some P=>.ok (EN Q g x y P):=by
 show(av (bt prog (k+2)) prog.fk 1000 b6 [zs (da Q g),zi x,zi y,none,none,none,none]).val=_;have ha:=Dk (k+1) (Q:=Q) (g:=g) (x:=x);have hb:=Dk (k+1) (Q:=Q) (g:=g) (x:=y);unfold b6;by_cases hx:x<0\/(Q.length:Int)<=x
 ·rw[bg hx] at ha
  rw[bg (.inl hx)];simp only[av,bp,ev,ck,bf,cf,ai,aq,cj,cg,Zd,ba,bq,Zf,Zi,Zj,Zk,Zl,Zo,Zp,Zq,dq,gV,Zu,ha];rfl
 rw[bh hx] at ha;by_cases hy:y<0\/(Q.length:Int)<=y
 ·rw[bg hy] at hb
  rw[bg (.inr hy)];simp only[av,bp,ev,ck,bf,cf,ai,aq,cj,cg,Zc,Zd,ba,bq,Zf,Zi,Zj,Zk,Zl,Zo,Zp,Zq,dq,gV,Zu,ha,hb];rfl
 rw[bh hy] at hb;rw[bh (by omega)];by_cases zk:x=y
 ·have q:(x==y)=true:=by simpa using zk
  rw[bg zk];simp only[av,bp,du,ev,ck,bf,cf,au,ai,aq,cj,cg,Za,Zc,ba,bq,Zf,Zi,Zj,Zk,Zl,Zo,Zp,Zq,cw,dq,gV,Zu,ZG,ha,hb,q];rfl
 have q:(x==y)=false:=by simpa using zk
 rw[bh zk];have hr:=cH h4 hx;have hs:=cH h4 hy;have gl:wm prog.fk[1]?=.ok (.ar [.ar [.int 0,.int 0],.ar [.int 0,.int 2],.ar [.int 2,.int 0],.ar [.int 2,.int 2]]):=rfl;generalize Q.getD x.toNat []=r,Q.getD y.toNat []=s at*;have e1:bp (bt prog (k+2)) prog.fk 1000 (.bz 3 (.call 1 [(.aa 0),(.aa 1)])) [zs (da Q g),zi x,zi y,none,none,none,none]=.nx [zs (da Q g),zi x,zi y,zs (af r),none,none,none]:=by simp only[bp,ev,ck,bf,cf,ai,aq,cj,cg,Zc,ba,bq,Zf,Zi,Zj,Zk,Zl,Zo,Zp,Zq,dq,gV,Zu,ha]
 have e2:bp (bt prog (k+2)) prog.fk 1000 (.bz 4 (.call 1 [(.aa 0),(.aa 2)])) [zs (da Q g),zi x,zi y,zs (af r),none,none,none]=.nx [zs (da Q g),zi x,zi y,zs (af r),zs (af s),none,none]:=by simp only[bp,ev,ck,bf,cf,ai,aq,cj,cg,Zc,ba,bq,Zf,Zi,Zj,Zk,Zl,Zo,Zp,Zq,dq,gV,Zu,hb]
 have e3:bp (bt prog (k+2)) prog.fk 1000 (.ite (.a_ (.ag .eq (.aa 1) (.aa 2))) [(.yi 2)] []) [zs (da Q g),zi x,zi y,zs (af r),zs (af s),none,none]=.nx [zs (da Q g),zi x,zi y,zs (af r),zs (af s),none,none]:=by simp only[av,bp,du,ev,bf,au,ai,cj,cg,Za,Zc,Zf,Zk,Zl,Zq,cw,dq,gV,ZG,q]
 rw[aA e1,aA e2,aA e3];have el:=bD (Φ:=bt prog (k+2)) (G:=prog.fk) (n:=1000) (k:=.seq) (its:=[(.glob 1)]) (tg:=[5]) (body:=[(.bz 6 (.call 15 [(.call 2 [(.aa 3),(.ag .at (.aa 5) (.ao (.int 0)))]),(.call 2 [(.aa 4),(.ag .at (.aa 5) (.ao (.int 1)))])])),(.ite (.a_ (.b_ .isNotNone (.aa 6))) [(.ret (.call 7 [(.call 6 [(.ag .at (.aa 0) (.ao (.int 0))),(.ar [(.aa 1),(.aa 2)])]),(.ag .at (.aa 0) (.ao (.int 1))),(.aa 6)]))] [])]) (δ:=[zs (da Q g),zi x,zi y,zs (af r),zs (af s),none,none]) (xs:=[.ar [.int 0,.int 0],.ar [.int 0,.int 2],.ar [.int 2,.int 0],.ar [.int 2,.int 2]]) (by simp only[ev,ck,Zf,gl];rfl);have t1:=λc5 c6=>cP k (g:=g) (x:=x) (y:=y) (c5:=c5) (c6:=c6) h4 hQ (iS (k+1) hr) (iS (k+1) hs) hr hs;have t2:=λc5 c6=>cP k (g:=g) (x:=x) (y:=y) (c5:=c5) (c6:=c6) h4 hQ (iS (k+1) hr) (iT (k+1) hs) hr (nQ hs);have t3:=λc5 c6=>cP k (g:=g) (x:=x) (y:=y) (c5:=c5) (c6:=c6) h4 hQ (iT (k+1) hr) (iS (k+1) hs) (nQ hr) hs;have t4:=λc5 c6=>cP k (g:=g) (x:=x) (y:=y) (c5:=c5) (c6:=c6) h4 hQ (iT (k+1) hr) (iT (k+1) hs) (nQ hr) (nQ hs);have fr:bf (aq false [(.glob 1)]) [zs (da Q g),zi x,zi y,zs (af r),zs (af s),none,none]=[zs (da Q g),zi x,zi y,zs (af r),zs (af s),none,none]:=rfl;rw[fr] at el;unfold AK
 cases a1:kz r s with
 |some P=>
  rw[a1] at t1;rw[aI (el.trans (by rw[Py.forM,t1]))];rfl
 |none=>
  rw[a1] at t1
  cases a2:kz r (r2 s) with
  |some P=>
   rw[a2] at t2;rw[aI (el.trans (by rw[Py.forM,t1];dsimp only;rw[Py.forM,t2]))];rfl
  |none=>
   rw[a2] at t2
   cases a3:kz (r2 r) s with
   |some P=>
    rw[a3] at t3;rw[aI (el.trans (by rw[Py.forM,t1];dsimp only;rw[Py.forM,t2];dsimp only;rw[Py.forM,t3]))];rfl
   |none=>
    rw[a3] at t3
    cases a4:kz (r2 r) (r2 s) with
    |some P=>
     rw[a4] at t4;rw[aI (el.trans (by rw[Py.forM,t1];dsimp only;rw[Py.forM,t2];dsimp only;rw[Py.forM,t3];dsimp only;rw[Py.forM,t4]))];rfl
    |none=>
     rw[a4] at t4;rw[aA (el.trans (by rw[Py.forM,t1];dsimp only;rw[Py.forM,t2];dsimp only;rw[Py.forM,t3];dsimp only;rw[Py.forM,t4];dsimp only;rw[Py.forM]))];simp only[av,bp];rfl
noncomputable def MG:Option Nat->D
 |none=>.de
 |some e=>.int (e:Nat)
theorem eJ(h:r.length=4)(he:e<4):ag .at (af r) (.int (e:Nat))=.ok (.int (r.getD e 0)):=by
 show wm (my (az r) _)=_;rw[j4 (by omega)];rfl
theorem Jm(k:Nat)(h:r.length=4)(ha:a<4)(hb:b<4):bt prog (k+1) 18 [af r,.ar [.int (a:Nat),.int (b:Nat)],.int t]=.ok (MG (sk r a b t)):=by
 show(av (bt prog k) prog.fk 1000 bY [zs (af r),zs (.ar [.int (a:Nat),.int (b:Nat)]),zi t,none]).val=_;have a1:=eJ h ha;have a2:=eJ h hb;have hi:bo .seq [.ar [.int ((a:Nat):Int),.int ((b:Nat):Int)]]=.ok [.int ((a:Nat):Int),.int ((b:Nat):Int)]:=aX (by simp);unfold sk;generalize r.getD a 0=u,r.getD b 0=v,af r=R at*;have oa:MG (some a)=.int ((a:Nat):Int):=rfl;have ob:MG (some b)=.int ((b:Nat):Int):=rfl;by_cases h1:u=t
 ·have e1:(u==t)=true:=by simpa using h1
  rw[bg h1,oa];generalize ((a:Nat):Int)=A,((b:Nat):Int)=B at*;simp only[bY,av,bp,du,ev,ck,bf,cf,au,ai,aq,cj,cg,Za,Zc,Py.sets,br,Zf,Zh,Zi,Zj,Zk,Zl,Zq,cw,dq,gV,ZG,hi,Py.forM,a1,e1,ja,ou,jr];rfl
 ·have e1:(u==t)=false:=by simpa using h1
  rw[bh h1];by_cases h2:v=t
  ·have e2:(v==t)=true:=by simpa using h2
   rw[bg h2,ob];generalize ((a:Nat):Int)=A,((b:Nat):Int)=B at*;simp only[bY,av,bp,du,ev,ck,bf,cf,au,ai,aq,cj,cg,Za,Zc,Py.sets,br,Zf,Zh,Zi,Zj,Zk,Zl,Zq,cw,dq,gV,ZG,hi,Py.forM,a1,a2,e1,e2,ja,ou,jr];rfl
  ·have e2:(v==t)=false:=by simpa using h2
   rw[bh h2];generalize ((a:Nat):Int)=A,((b:Nat):Int)=B at*;simp only[bY,av,bp,du,ev,ck,bf,cf,au,ai,aq,cj,cg,Za,Zc,Py.sets,br,Zf,Zh,Zi,Zj,Zk,Zl,Zq,cw,dq,gV,ZG,hi,Py.forM,a1,a2,e1,e2,ja,ou,jr];rfl
noncomputable def EO:Option (List Nat)->D
 |some [p,i,j,r,q,o]=>.ar [.ar [.int (p:Nat),.int (i:Nat)],.ar [.int (j:Nat),.int (r:Nat)],.ar [.int (q:Nat),.int (o:Nat)]]
 |_=>.de
theorem sB(h:sk r a b t=some e)(ha:a<4)(hb:b<4):e<4:=by
 unfold sk at h;split at h
 ·cases h;exact ha
 ·split at h
  ·cases h;exact hb
  ·cases h
theorem MH(a b:Nat):ag .mod (.int (((a:Nat):Int)+((b:Nat):Int))) (.int 4)=.ok (.int (((a+b)%4:Nat):Int)):=by
 rw[cY _ _ (by decide)]
 congr 2
theorem t8(k:Nat)(hc:c.length=4)(hg:g.length=4)(hh:h.length=4)(hl:low<4):bt prog (k+2) 17 [.ak [af c,af g,af h],.int (low:Nat),.int (step:Nat)]=.ok (EO (ft c g h low step)):=by
 show(av (bt prog (k+1)) prog.fk 1000 cN [zs (.ak [af c,af g,af h]),zi (low:Nat),zi (step:Nat),none,none,none,none,none]).val=_;have l0:my [af c,af g,af h] 0=some (af c):=rfl;have l1:my [af c,af g,af h] 1=some (af g):=rfl;have l2:my [af c,af g,af h] 2=some (af h):=rfl;have s1:=MH low step;have v1:=eJ hc (e:=(low+step)%4) (Nat.mod_lt _ (by decide));have vl:=eJ hc hl;have x1:=Jm k (a:=1) (b:=3) (t:=c.getD ((low+step)%4) 0) hg (by decide) (by decide);have sv:ft c g h low step=match sk g 1 3 (c.getD ((low+step)%4) 0) with
  |none=>none
  |some j=>match sk h 0 2 (g.getD ((j+step)%4) 0) with
   |none=>none
   |some q=>if h.getD ((q+step)%4) 0=c.getD low 0 then some [low,(low+step)%4,j,(j+step)%4,q,(q+step)%4] else none:=rfl
 rw[sv];unfold cN;generalize c.getD ((low+step)%4) 0=t1,c.getD low 0=t0,af c=C at*
 cases e1:sk g 1 3 t1 with
 |none=>
  rw[e1] at x1;have Qf:bt prog (k+1) 18 [af g,.ar [.int 1,.int 3],.int t1]=.ok .de:=x1;generalize (((low+step)%4:Nat):Int)=I,((low:Nat):Int)=P,((step:Nat):Int)=S,af g=GG,af h=HH at*;simp only[av,bp,du,ev,ck,bf,cf,au,ai,aq,cj,cg,Zc,ba,bq,Ze,Zf,Zi,Zj,Zk,Zl,Zo,Zp,Zq,cw,dq,gV,Zu,ZA,ZI,s1,l0,l1,v1,Qf];rfl
 |some j=>
  rw[e1] at x1;have Qf:bt prog (k+1) 18 [af g,.ar [.int 1,.int 3],.int t1]=.ok (.int (j:Nat)):=x1;have hj:=sB e1 (by decide) (by decide);have s2:=MH j step;have v2:=eJ hg (e:=(j+step)%4) (Nat.mod_lt _ (by decide));have x2:=Jm k (a:=0) (b:=2) (t:=g.getD ((j+step)%4) 0) hh (by decide) (by decide);dsimp only;generalize g.getD ((j+step)%4) 0=t2,af g=GG at*;have nn:∀x:Int,b_ .isNone (.int x)=.ok (.bl false):=λ_=>rfl
  cases e2:sk h 0 2 t2 with
  |none=>
   rw[e2] at x2;have Q8:bt prog (k+1) 18 [af h,.ar [.int 0,.int 2],.int t2]=.ok .de:=x2;generalize (((low+step)%4:Nat):Int)=I,(((j+step)%4:Nat):Int)=RR,((j:Nat):Int)=J,((low:Nat):Int)=P,((step:Nat):Int)=S,af h=HH at*;simp only[av,bp,du,ev,ck,bf,cf,au,ai,aq,cj,cg,Za,Zc,ba,bq,Ze,Zf,Zi,Zj,Zk,Zl,Zo,Zp,Zq,cw,dq,gV,Zu,ZA,ZI,s1,s2,l0,l1,l2,v1,v2,Qf,Q8,nn];rfl
  |some q=>
   rw[e2] at x2;have Q8:bt prog (k+1) 18 [af h,.ar [.int 0,.int 2],.int t2]=.ok (.int (q:Nat)):=x2;have s3:=MH q step;have v3:=eJ hh (e:=(q+step)%4) (Nat.mod_lt _ (by decide));dsimp only;generalize h.getD ((q+step)%4) 0=t3 at*;have fd:EO (some [low,(low+step)%4,j,(j+step)%4,q,(q+step)%4])=.ar [.ar [.int (low:Nat),.int ((low+step)%4:Nat)],.ar [.int (j:Nat),.int ((j+step)%4:Nat)],.ar [.int (q:Nat),.int ((q+step)%4:Nat)]]:=rfl;by_cases h3:t3=t0
   ·have q3:(t3==t0)=true:=by simpa using h3
    rw[bg h3,fd];generalize (((low+step)%4:Nat):Int)=I,(((j+step)%4:Nat):Int)=RR,(((q+step)%4:Nat):Int)=O,((j:Nat):Int)=J,((q:Nat):Int)=QQ,((low:Nat):Int)=P,((step:Nat):Int)=S,af h=HH at*;simp only[av,bp,du,ev,ck,bf,cf,au,ai,aq,cj,cg,Za,Zc,ba,bq,Ze,Zf,Zi,Zj,Zk,Zl,Zo,Zp,Zq,cw,dq,gV,Zu,Zv,ZA,ZH,ZI,s1,s2,s3,l0,l1,l2,v1,v2,v3,vl,Qf,Q8,nn,q3];rfl
   ·have q3:(t3==t0)=false:=by simpa using h3
    rw[bh h3];generalize (((low+step)%4:Nat):Int)=I,(((j+step)%4:Nat):Int)=RR,(((q+step)%4:Nat):Int)=O,((j:Nat):Int)=J,((q:Nat):Int)=QQ,((low:Nat):Int)=P,((step:Nat):Int)=S,af h=HH at*;simp only[av,bp,du,ev,ck,bf,au,ai,aq,cj,cg,Za,Zc,ba,bq,Ze,Zf,Zi,Zj,Zk,Zl,Zq,cw,dq,gV,Zu,Zw,ZA,ZH,ZI,s1,s2,s3,l0,l1,l2,v1,v2,v3,vl,Qf,Q8,nn,q3];rfl
theorem sE(k:Nat)(h4:∀r∈Q,r.length=4)(hp:lr Q.length p):bt prog (k+1) 3 [.ar (Q.map af),aj p]=.ok (.int (ay Q p)):=by
 show(av (bt prog k) prog.fk 1000 gK [zs (.ar (Q.map af)),zs (aj p)]).val=_;have a0:ag .at (aj p) (.int 0)=.ok (.int (p.1:Nat)):=rfl;have a1:ag .at (aj p) (.int 1)=.ok (.int (p.2:Nat)):=rfl;have h1:=dH hp.1;have hr:(Q.getD p.1 []).length=4:=by
  have hl:p.1<Q.length:=hp.1;have hq:Q.getD p.1 []=Q[p.1]:=by simp[hl]
  rw[hq];exact h4 _ (xk hl)
 have h2:=eJ hr hp.2;unfold ay;generalize (Q.getD p.1 []).getD p.2 0=t,af (Q.getD p.1 [])=RR,aj p=PP,Q.map af=QQ at*;simp only[gK,av,bp,ev,bf,ai,cj,cg,Zc,Ze,Zf,Zk,Zl,Zq,cw,ZJ,a0,a1,h1,h2];rfl
theorem Jn(k:Nat)(p:Nat×Nat):bt prog (k+1) 4 [aj p]=.ok (aj (fe p)):=by
 show(av (bt prog k) prog.fk 1000 eD [zs (aj p)]).val=_;have a0:ag .at (aj p) (.int 0)=.ok (.int (p.1:Nat)):=rfl;have a1:ag .at (aj p) (.int 1)=.ok (.int (p.2:Nat)):=rfl;have m4:ag .mod (.int (((p.2:Nat):Int)+2)) (.int 4)=.ok (.int (((p.2+2)%4:Nat):Int)):=MH p.2 2;have e:aj (fe p)=.ar [.int (p.1:Nat),.int ((p.2+2)%4:Nat)]:=rfl;rw[e];generalize (((p.2+2)%4:Nat):Int)=B,((p.1:Nat):Int)=A,((p.2:Nat):Int)=C,aj p=PP at*;simp only[eD,av,bp,ev,ck,bf,ai,aq,cj,cg,Zc,Zf,Zk,Zq,cw,ZA,a0,a1,m4];rfl
theorem bR(Q L:List (List Int))(a b:Nat×Nat):(jk Q L a b).length=L.length:=by simp[jk,aH]
theorem bK(h:∀r∈L,r.length=4):∀r∈jk Q L a b,r.length=4:=aE (aE (aE (aE h)))
theorem gN(k:Nat)(h4:∀r∈Q,r.length=4)(Q9:∀r∈L,r.length=4)(hL:L.length=Q.length)(ha:lr Q.length a)(hb:lr Q.length b):
  dm (bt prog (k+1)) prog.fk 1000 [5,6] [(.bz 7 (.call 3 [(.aa 0),(.aa 5)])),(.bz 4 (.call 20 [(.aa 4),(.aa 5),(.call 3 [(.aa 0),(.call 4 [(.aa 6)])])])),(.bz 4 (.call 20 [(.aa 4),(.aa 6),(.call 3 [(.aa 0),(.call 4 [(.aa 5)])])])),(.bz 4 (.call 20 [(.aa 4),(.call 4 [(.aa 5)]),(.aa 7)])),(.bz 4 (.call 20 [(.aa 4),(.call 4 [(.aa 6)]),(.aa 7)]))] (.ar [aj a,aj b]) [zs (.ar (Q.map af)),d1,d2,d3,some (b4,.ak (L.map af)),c5,c6,c7]=
   .nx [zs (.ar (Q.map af)),d1,d2,d3,zs (.ak ((jk Q L a b).map af)),zs (aj a),zs (aj b),zi (ay Q a)]:=by
 have oa:=bI ha;have ob:=bI hb;have q1:=sE k h4 ha;have q2:=sE k h4 oa;have q3:=sE k h4 ob;have o1:=Jn k a;have o2:=Jn k b;have r1:=bJ k (v:=ay Q (fe b)) (fZ (L.map af)) Q9 (p:=a) (by rw[hL];exact ha);have r2:=bJ k (v:=ay Q (fe a)) (fZ ((dn L a (ay Q (fe b))).map af)) (aE Q9) (p:=b) (by rw[aH,hL];exact hb);have r3:=bJ k (v:=ay Q a) (fZ ((dn (dn L a (ay Q (fe b))) b (ay Q (fe a))).map af)) (aE (aE Q9)) (p:=fe a) (by rw[aH,aH,hL];exact oa);have r4:=bJ k (v:=ay Q a) (fZ ((dn (dn (dn L a (ay Q (fe b))) b (ay Q (fe a))) (fe a) (ay Q a)).map af)) (aE (aE (aE Q9))) (p:=fe b) (by rw[aH,aH,aH,hL];exact ob);unfold jk;generalize (dn (dn (dn (dn L a (ay Q (fe b))) b (ay Q (fe a))) (fe a) (ay Q a)) (fe b) (ay Q a)).map af=L4,(dn (dn (dn L a (ay Q (fe b))) b (ay Q (fe a))) (fe a) (ay Q a)).map af=L3,(dn (dn L a (ay Q (fe b))) b (ay Q (fe a))).map af=L2,(dn L a (ay Q (fe b))).map af=L1,L.map af=L0,ay Q (fe b)=tb,ay Q (fe a)=ta,ay Q a=t,aj (fe a)=OA,aj (fe b)=OB,aj a=PA,aj b=PB,Q.map af=QQ at*;cases b4<;>simp only[dm,av,bp,ev,ck,bf,cf,ai,aq,cj,cg,Zc,Py.sets,br,ba,bq,Zf,Zi,Zj,Zk,Zl,Zo,Zp,Zq,cw,dq,gV,Zu,q1,q2,q3,o1,o2,r1,r2,r3,r4,ja,ou,jr]
theorem zZ(k:Nat)(h4:∀r∈Q,r.length=4)(hx:x<Q.length)(hy:y<Q.length)(hz:z<Q.length)(hp:p<4)(hi:i<4)(hj:j<4)(hr:r<4)(hq:q<4)(ho:o<4):
  bt prog (k+2) 19 [.ar (Q.map af),.ar [.int (x:Nat),.int (y:Nat),.int (z:Nat)],.ar [.ar [.int (p:Nat),.int (i:Nat)],.ar [.int (j:Nat),.int (r:Nat)],.ar [.int (q:Nat),.int (o:Nat)]]]=.ok (.ak ((rf Q x y z p i j r q o).map af)):=by
 show(av (bt prog (k+1)) prog.fk 1000 kH [zs (.ar (Q.map af)),zs (.ar [.int (x:Nat),.int (y:Nat),.int (z:Nat)]),zs (.ar [.ar [.int (p:Nat),.int (i:Nat)],.ar [.int (j:Nat),.int (r:Nat)],.ar [.int (q:Nat),.int (o:Nat)]]),none,none,none,none,none]).val=_;have n3:∀a b c:D,my [a,b,c] 0=some a/\my [a,b,c] 1=some b/\my [a,b,c] 2=some c:=λa b c=>⟨rfl,rfl,rfl⟩
 have t1:=λc5 c6 c7 d1 d2 d3 b4=>gN k (Q:=Q) (L:=Q) (a:=(x,i)) (b:=(y,j)) (d1:=d1) (d2:=d2) (d3:=d3) (b4:=b4) (c5:=c5) (c6:=c6) (c7:=c7) h4 h4 rfl ⟨hx,hi⟩ ⟨hy,hj⟩;have t2:=λc5 c6 c7 d1 d2 d3 b4=>gN k (Q:=Q) (L:=jk Q Q (x,i) (y,j)) (a:=(x,p)) (b:=(z,o)) (d1:=d1) (d2:=d2) (d3:=d3) (b4:=b4) (c5:=c5) (c6:=c6) (c7:=c7) h4 (bK h4) (bR _ _ _ _) ⟨hx,hp⟩ ⟨hz,ho⟩;have t3:=λc5 c6 c7 d1 d2 d3 b4=>gN k (Q:=Q) (L:=jk Q (jk Q Q (x,i) (y,j)) (x,p) (z,o)) (a:=(y,r)) (b:=(z,q)) (d1:=d1) (d2:=d2) (d3:=d3) (b4:=b4) (c5:=c5) (c6:=c6) (c7:=c7) h4 (bK (bK h4)) (by rw[bR,bR]) ⟨hy,hr⟩ ⟨hz,hq⟩;have i3:bo .seq [.ar [.ar [aj (x,i),aj (y,j)],.ar [aj (x,p),aj (z,o)],.ar [aj (y,r),aj (z,q)]]]=.ok [.ar [aj (x,i),aj (y,j)],.ar [aj (x,p),aj (z,o)],.ar [aj (y,r),aj (z,q)]]:=aX (by simp);have e1:bp (bt prog (k+1)) prog.fk 1000 (.bz 3 (.ar [(.ar [(.ar [(.ag .at (.aa 1) (.ao (.int 0))),(.ag .at (.ag .at (.aa 2) (.ao (.int 0))) (.ao (.int 1)))]),(.ar [(.ag .at (.aa 1) (.ao (.int 1))),(.ag .at (.ag .at (.aa 2) (.ao (.int 1))) (.ao (.int 0)))])]),(.ar [(.ar [(.ag .at (.aa 1) (.ao (.int 0))),(.ag .at (.ag .at (.aa 2) (.ao (.int 0))) (.ao (.int 0)))]),(.ar [(.ag .at (.aa 1) (.ao (.int 2))),(.ag .at (.ag .at (.aa 2) (.ao (.int 2))) (.ao (.int 1)))])]),(.ar [(.ar [(.ag .at (.aa 1) (.ao (.int 1))),(.ag .at (.ag .at (.aa 2) (.ao (.int 1))) (.ao (.int 1)))]),(.ar [(.ag .at (.aa 1) (.ao (.int 2))),(.ag .at (.ag .at (.aa 2) (.ao (.int 2))) (.ao (.int 0)))])])])) [zs (.ar (Q.map af)),zs (.ar [.int (x:Nat),.int (y:Nat),.int (z:Nat)]),zs (.ar [.ar [.int (p:Nat),.int (i:Nat)],.ar [.int (j:Nat),.int (r:Nat)],.ar [.int (q:Nat),.int (o:Nat)]]),none,none,none,none,none]=
   .nx [zs (.ar (Q.map af)),zs (.ar [.int (x:Nat),.int (y:Nat),.int (z:Nat)]),zs (.ar [.ar [.int (p:Nat),.int (i:Nat)],.ar [.int (j:Nat),.int (r:Nat)],.ar [.int (q:Nat),.int (o:Nat)]]),zs (.ar [.ar [aj (x,i),aj (y,j)],.ar [aj (x,p),aj (z,o)],.ar [aj (y,r),aj (z,q)]]),none,none,none,none]:=by
  simp only[aj];generalize ((x:Nat):Int)=X,((y:Nat):Int)=Y,((z:Nat):Int)=Z,((p:Nat):Int)=P,((i:Nat):Int)=I,((j:Nat):Int)=J,((r:Nat):Int)=RR,((q:Nat):Int)=QQ,((o:Nat):Int)=O,Q.map af=W at*;simp only[bp,ev,ck,bf,ai,aq,cj,cg,Zc,ba,bq,Ze,Zf,Zi,Zj,Zk,Zl,Zq,cw,Zu,ZJ,n3,pI,lS]
 generalize D.ar [.int (x:Nat),.int (y:Nat),.int (z:Nat)]=D1,D.ar [.ar [.int (p:Nat),.int (i:Nat)],.ar [.int (j:Nat),.int (r:Nat)],.ar [.int (q:Nat),.int (o:Nat)]]=D2 at*;unfold rf;generalize jk Q (jk Q (jk Q Q (x,i) (y,j)) (x,p) (z,o)) (y,r) (z,q)=W3 at*;generalize jk Q (jk Q Q (x,i) (y,j)) (x,p) (z,o)=W2 at*;generalize jk Q Q (x,i) (y,j)=W1 at*;have e2:bp (bt prog (k+1)) prog.fk 1000 (.bz 4 (.b_ .list (.aa 0))) [zs (.ar (Q.map af)),zs D1,zs D2,zs (.ar [.ar [aj (x,i),aj (y,j)],.ar [aj (x,p),aj (z,o)],.ar [aj (y,r),aj (z,q)]]),none,none,none,none]=.nx [zs (.ar (Q.map af)),zs D1,zs D2,zs (.ar [.ar [aj (x,i),aj (y,j)],.ar [aj (x,p),aj (z,o)],.ar [aj (y,r),aj (z,q)]]),some (true,.ak (Q.map af)),none,none,none]:=by
  simp only[bp,ev,bf,ai,cj,cg,Zc,ba,bq,Zf,Zi,Zj,Zk,cw,Zt,ZS]
 have e3:=bD (Φ:=bt prog (k+1)) (G:=prog.fk) (n:=1000) (k:=.seq) (its:=[(.aa 3)]) (tg:=[5,6]) (body:=[(.bz 7 (.call 3 [(.aa 0),(.aa 5)])),(.bz 4 (.call 20 [(.aa 4),(.aa 5),(.call 3 [(.aa 0),(.call 4 [(.aa 6)])])])),(.bz 4 (.call 20 [(.aa 4),(.aa 6),(.call 3 [(.aa 0),(.call 4 [(.aa 5)])])])),(.bz 4 (.call 20 [(.aa 4),(.call 4 [(.aa 5)]),(.aa 7)])),(.bz 4 (.call 20 [(.aa 4),(.call 4 [(.aa 6)]),(.aa 7)]))]) (δ:=[zs (.ar (Q.map af)),zs D1,zs D2,zs (.ar [.ar [aj (x,i),aj (y,j)],.ar [aj (x,p),aj (z,o)],.ar [aj (y,r),aj (z,q)]]),some (true,.ak (Q.map af)),none,none,none]) (by simp only[ev,ck,bf,cf,ai,aq,cj,cg,Zf,Zk,Zl,Zq,dq,gV];exact i3);have fz:bf (aq false [(.aa 3)]) [zs (.ar (Q.map af)),zs D1,zs D2,zs (.ar [.ar [aj (x,i),aj (y,j)],.ar [aj (x,p),aj (z,o)],.ar [aj (y,r),aj (z,q)]]),some (true,.ak (Q.map af)),none,none,none]=[zs (.ar (Q.map af)),zs D1,zs D2,zs (.ar [.ar [aj (x,i),aj (y,j)],.ar [aj (x,p),aj (z,o)],.ar [aj (y,r),aj (z,q)]]),some (true,.ak (Q.map af)),none,none,none]:=rfl;rw[fz,Py.forM,t1] at e3;dsimp only at e3;rw[Py.forM,t2] at e3;dsimp only at e3;rw[Py.forM,t3] at e3;dsimp only at e3;rw[Py.forM] at e3;unfold kH;rw[aA e1,aA e2,aA e3];simp only[av,bp,ev,bf,cf,ai,cj,cg,Zc,Zk,Zl,dq,gV];rfl
def six(f:List Nat):Prop:=∃p i j r q o,f=[p,i,j,r,q,o]/\p<4/\i<4/\j<4/\r<4/\q<4/\o<4
theorem vX(hl:low<4)(e:ft c g h low step=some f):six f:=by
 unfold ft at e
 cases e1:sk g 1 3 (c.getD ((low+step)%4) 0) with
 |none=>rw[e1] at e;cases e
 |some j=>
  rw[e1] at e;dsimp only at e
  cases e2:sk h 0 2 (g.getD ((j+step)%4) 0) with
  |none=>rw[e2] at e;cases e
  |some q=>
   rw[e2] at e;dsimp only at e;split at e
   ·cases e
    exact⟨_,_,_,_,_,_,rfl,hl,Nat.mod_lt _ (by decide),sB e1 (by decide) (by decide),Nat.mod_lt _ (by decide),sB e2 (by decide) (by decide),Nat.mod_lt _ (by decide)⟩
   ·cases e
noncomputable abbrev SB:List Sm:=[(.bz 7 (.call 17 [(.aa 4),(.aa 6),(.aa 5)])),(.ite (.a_ (.b_ .isNotNone (.aa 7))) [(.ret (.call 5 [(.call 19 [(.ag .at (.aa 0) (.ao (.int 0))),(.ar [(.aa 1),(.aa 2),(.aa 3)]),(.aa 7)]),(.ag .at (.aa 0) (.ao (.int 1)))]))] [])]
theorem mF(k:Nat)(hc:c.length=4)(hg:gg.length=4)(hh:h.length=4)(hl:low<4)(e:ft c gg h low step=none):
  dm (bt prog (k+2)) prog.fk 1000 [6] SB (.int (low:Nat)) [zs (da Q g),zi (x:Nat),zi (y:Nat),zi (z:Nat),some (b4,.ak [af c,af gg,af h]),zi (step:Nat),c6,c7]=.nx [zs (da Q g),zi (x:Nat),zi (y:Nat),zi (z:Nat),zs (.ak [af c,af gg,af h]),zi (step:Nat),zi (low:Nat),zs .de]:=by
 have q:=t8 k (low:=low) (step:=step) hc hg hh hl;rw[e] at q;have q':bt prog (k+2) 17 [.ak [af c,af gg,af h],.int (low:Nat),.int (step:Nat)]=.ok .de:=q;have nn:b_ .isNotNone .de=.ok (.bl false):=rfl;generalize [af c,af gg,af h]=RR,da Q g=S,((low:Nat):Int)=LL,((step:Nat):Int)=TT,((x:Nat):Int)=X,((y:Nat):Int)=Y,((z:Nat):Int)=Z at*;cases b4<;>simp only[dm,SB,av,bp,du,ev,ck,bf,cf,au,ai,aq,cj,cg,Za,Zc,Py.sets,br,ba,bq,Zf,Zi,Zj,Zk,Zl,Zo,Zp,Zq,cw,dq,gV,Zu,q',nn,ja,ou,jr]
theorem mG(k:Nat)(h4:∀r∈Q,r.length=4)(hQ:Q.length<=50)(hx:x<Q.length)(hy:y<Q.length)(hz:z<Q.length)(hc:c.length=4)(hg:gg.length=4)(hh:h.length=4)(hl:low<4)(e:ft c gg h low step=some f):
  dm (bt prog (k+2)) prog.fk 1000 [6] SB (.int (low:Nat)) [zs (da Q g),zi (x:Nat),zi (y:Nat),zi (z:Nat),some (b4,.ak [af c,af gg,af h]),zi (step:Nat),c6,c7]=.rt (da (dz (AL Q x y z f)) g):=by
 have q:=t8 k (low:=low) (step:=step) hc hg hh hl;obtain⟨p,i,j,r,qq,o,rfl,l1,l2,l3,l4,l5,l6⟩:=vX hl e;rw[e] at q;have q':bt prog (k+2) 17 [.ak [af c,af gg,af h],.int (low:Nat),.int (step:Nat)]=.ok (.ar [.ar [.int (p:Nat),.int (i:Nat)],.ar [.int (j:Nat),.int (r:Nat)],.ar [.int (qq:Nat),.int (o:Nat)]]):=q;have ps:=zZ k (Q:=Q) h4 hx hy hz l1 l2 l3 l4 l5 l6;have f4:∀w∈rf Q x y z p i j r qq o,w.length=4:=bK (bK (bK h4));have fl:(rf Q x y z p i j r qq o).length=Q.length:=by rw[rf,bR,bR,bR]
 have hn:=t6 (k+1) (g:=g) f4 (by rw[fl];exact hQ);have nn:b_ .isNotNone (.ar [.ar [.int (p:Nat),.int (i:Nat)],.ar [.int (j:Nat),.int (r:Nat)],.ar [.int (qq:Nat),.int (o:Nat)]])=.ok (.bl true):=rfl;show _=Out.rt (da (dz (rf Q x y z p i j r qq o)) g);have a0:ag .at (da Q g) (.int 0)=.ok (.ar (Q.map af)):=rfl;have a1:ag .at (da Q g) (.int 1)=.ok (.int g):=rfl;generalize da (dz (rf Q x y z p i j r qq o)) g=W4,(rf Q x y z p i j r qq o).map af=PV,D.ar [.ar [.int (p:Nat),.int (i:Nat)],.ar [.int (j:Nat),.int (r:Nat)],.ar [.int (qq:Nat),.int (o:Nat)]]=FF,[af c,af gg,af h]=RR,da Q g=S,((low:Nat):Int)=LL,((step:Nat):Int)=TT,((x:Nat):Int)=X,((y:Nat):Int)=Y,((z:Nat):Int)=Z at*;cases b4<;>simp only[dm,SB,av,bp,du,ev,ck,bf,cf,au,ai,aq,cj,cg,Za,Zc,Py.sets,br,ba,bq,Zf,Zi,Zj,Zk,Zl,Zo,Zp,Zq,cw,dq,gV,Zu,q',nn,a0,a1,ps,hn,ja,ou,jr]
theorem p0(k:Nat){Q:List (List Int)}{g:Int}{c gg h:List Int}{step x y z:Nat}{b4:Bool}{c6 c7:Slot}(h4:∀r∈Q,r.length=4)(hQ:Q.length<=50)(hx:x<Q.length)(hy:y<Q.length)(hz:z<Q.length)(hc:c.length=4)(hg:gg.length=4)(hh:h.length=4):
  bp (bt prog (k+2)) prog.fk 1000 (.loop .seq [(.ar [(.ao (.int 0)),(.ao (.int 2))])] [6] SB) [zs (da Q g),zi (x:Nat),zi (y:Nat),zi (z:Nat),some (b4,.ak [af c,af gg,af h]),zi (step:Nat),c6,c7]=match Cg [ft c gg h 0 step,ft c gg h 2 step] with
   |some f=>.rt (da (dz (AL Q x y z f)) g)
   |none=>.nx [some (false,da Q g),some (false,.int (x:Nat)),some (false,.int (y:Nat)),some (false,.int (z:Nat)),some (false,.ak [af c,af gg,af h]),some (false,.int (step:Nat)),some (false,.int 2),some (false,.de)]:=by
 have el:=bD (Φ:=bt prog (k+2)) (G:=prog.fk) (n:=1000) (k:=.seq) (its:=[(.ar [(.ao (.int 0)),(.ao (.int 2))])]) (tg:=[6]) (body:=SB) (δ:=[zs (da Q g),zi (x:Nat),zi (y:Nat),zi (z:Nat),some (b4,.ak [af c,af gg,af h]),zi (step:Nat),c6,c7]) (xs:=[.int ((0:Nat):Int),.int ((2:Nat):Int)]) rfl;have fz:bf (aq false [(.ar [(.ao (.int 0)),(.ao (.int 2))])]) [zs (da Q g),zi (x:Nat),zi (y:Nat),zi (z:Nat),some (b4,.ak [af c,af gg,af h]),zi (step:Nat),c6,c7]=[zs (da Q g),zi (x:Nat),zi (y:Nat),zi (z:Nat),some (b4,.ak [af c,af gg,af h]),zi (step:Nat),c6,c7]:=rfl;rw[el,fz,Py.forM]
 cases e1:ft c gg h 0 step with
 |some f=>
  rw[mG k h4 hQ hx hy hz hc hg hh (by decide) e1];rfl
 |none=>
  rw[mF k hc hg hh (by decide) e1];dsimp only;rw[Py.forM]
  cases e2:ft c gg h 2 step with
  |some f=>
   rw[mG k h4 hQ hx hy hz hc hg hh (by decide) e2];rfl
  |none=>
   rw[mF k hc hg hh (by decide) e2];dsimp only;rw[Py.forM];rfl
abbrev Cj(Q:List (List Int))(x:Int):Prop:=x<0\/(Q.length:Int)<=x
theorem z0(k:Nat):ev (bt prog (k+1)) prog.fk false (.Am (.ar [(.aa 1),(.aa 2),(.aa 3)]) [0] 1 [(.aa 1),(.aa 0)]) [zs (da Q g),zi x,zi y,zi z,none,none,none,none]=
  (bt prog (k+1) 1 [da Q g,.int x]).bind λa=>(bt prog (k+1) 1 [da Q g,.int y]).bind λb=>(bt prog (k+1) 1 [da Q g,.int z]).bind λc=>.ok (.ak [a,b,c]):=by
 have hi:bo .seq [.ar [.int x,.int y,.int z]]=.ok [.int x,.int y,.int z]:=aX (by simp);generalize da Q g=S;simp only[ev,ck,cj,cg,eh,Zf,Zk,Zl,Zm,Zn,dq,gV,Zx,hi,h_]
 cases bt prog (k+1) 1 [S,.int x] with
 |exc c=>rfl
 |bad=>rfl
 |ok a=>
  simp only[aZ]
  cases bt prog (k+1) 1 [S,.int y] with
  |exc c=>rfl
  |bad=>rfl
  |ok b=>
   simp only[aZ]
   cases bt prog (k+1) 1 [S,.int z] with
   |exc c=>rfl
   |bad=>rfl
   |ok c=>rfl
noncomputable def Qg(Q:List (List Int))(g:Int)(x y z:Nat):Option (List Nat)->R D
 |some f=>.ok (da (dz (AL Q x y z f)) g)
 |none=>.exc 2
theorem MI(k:Nat)(h4:∀r∈Q,r.length=4)(hQ:Q.length<=50):
  bt prog (k+3) 16 [da Q g,.int x,.int y,.int z]=if Cj Q x\/Cj Q y\/Cj Q z then .exc 1 else if x=y\/x=z\/y=z then .exc 2 else Qg Q g x.toNat y.toNat z.toNat (se (Q.getD x.toNat []) (Q.getD y.toNat []) (Q.getD z.toNat [])):=by
 show(av (bt prog (k+2)) prog.fk 1000 rT [zs (da Q g),zi x,zi y,zi z,none,none,none,none]).val=_;have ex:=Dk (k+1) (Q:=Q) (g:=g) (x:=x);have ey:=Dk (k+1) (Q:=Q) (g:=g) (x:=y);have ez:=Dk (k+1) (Q:=Q) (g:=g) (x:=z);have tr:=z0 (k+1) (Q:=Q) (g:=g) (x:=x) (y:=y) (z:=z);have fz:bf (ai false (.Am (.ar [(.aa 1),(.aa 2),(.aa 3)]) [0] 1 [(.aa 1),(.aa 0)])) [zs (da Q g),zi x,zi y,zi z,none,none,none,none]=[zs (da Q g),zi x,zi y,zi z,none,none,none,none]:=rfl;have st:bp (bt prog (k+2)) prog.fk 1000 (.bz 4 (.Am (.ar [(.aa 1),(.aa 2),(.aa 3)]) [0] 1 [(.aa 1),(.aa 0)])) [zs (da Q g),zi x,zi y,zi z,none,none,none,none]=Out.of ((bt prog (k+2) 1 [da Q g,.int x]).bind λa=>(bt prog (k+2) 1 [da Q g,.int y]).bind λb=>(bt prog (k+2) 1 [da Q g,.int z]).bind λc=>.ok (.ak [a,b,c])) [zs (da Q g),zi x,zi y,zi z,none,none,none,none] λd=>.nx [zs (da Q g),zi x,zi y,zi z,some (true&&ba d,d),none,none,none]:=by
  rw[bp,fz,tr];rfl
 unfold rT;by_cases hx:Cj Q x
 ·rw[bg (.inl hx)]
  rw[bg hx] at ex;rw[ex,R.zl] at st;rw[iK st];rfl
 rw[bh hx] at ex;by_cases hy:Cj Q y
 ·rw[bg (.inr (.inl hy))]
  rw[bg hy] at ey;rw[ex,ey,R.g_,R.zl] at st;rw[iK st];rfl
 rw[bh hy] at ey;by_cases hz:Cj Q z
 ·rw[bg (.inr (.inr hz))]
  rw[bg hz] at ez;rw[ex,ey,ez,R.g_,R.g_,R.zl] at st;rw[iK st];rfl
 rw[bh hz] at ez;rw[bh (λw=>w.elim hx λw=>w.elim hy hz)];rw[ex,ey,ez,R.g_,R.g_,R.g_,of_ok] at st;have fc:=cH h4 hx;have fg:=cH h4 hy;have fh:=cH h4 hz;have Dq:bp (bt prog (k+2)) prog.fk 1000 (.bz 4 (.Am (.ar [(.aa 1),(.aa 2),(.aa 3)]) [0] 1 [(.aa 1),(.aa 0)])) [zs (da Q g),zi x,zi y,zi z,none,none,none,none]=.nx [zs (da Q g),zi x,zi y,zi z,some (true,.ak [af (Q.getD x.toNat []),af (Q.getD y.toNat []),af (Q.getD z.toNat [])]),none,none,none]:=st;rw[aA Dq];generalize Q.getD x.toNat []=c,Q.getD y.toNat []=gg,Q.getD z.toNat []=h at*;by_cases hs:x=y\/x=z\/y=z
 ·rw[bg hs]
  have e2:bp (bt prog (k+2)) prog.fk 1000 (.ite (.or (.a_ (.ag .eq (.aa 1) (.aa 2))) (.or (.a_ (.ag .eq (.aa 1) (.aa 3))) (.a_ (.ag .eq (.aa 2) (.aa 3))))) [(.yi 2)] []) [zs (da Q g),zi x,zi y,zi z,some (true,.ak [af c,af gg,af h]),none,none,none]=.xc 2 [zs (da Q g),zi x,zi y,zi z,some (true,.ak [af c,af gg,af h]),none,none,none]:=by
   generalize [af c,af gg,af h]=RR;by_cases h1:x=y
   ·have q1:(x==y)=true:=by simpa using h1
    simp only[av,bp,du,ev,bf,au,ai,cj,cg,Za,Zc,Zf,Zk,Zl,Zq,cw,ZG,q1]
   ·have q1:(x==y)=false:=by simpa using h1
    by_cases h2:x=z
    ·have q2:(x==z)=true:=by simpa using h2
     simp only[av,bp,du,ev,bf,au,ai,cj,cg,Za,Zc,Zf,Zk,Zl,Zq,cw,dq,gV,ZG,q1,q2]
    ·have q2:(x==z)=false:=by simpa using h2
     have q3:(y==z)=true:=by simpa using(hs.resolve_left h1).resolve_left h2
     simp only[av,bp,du,ev,bf,au,ai,cj,cg,Za,Zc,Zf,Zk,Zl,Zq,cw,dq,gV,ZG,q1,q2,q3]
  rw[iK e2];rfl
 ·rw[bh hs]
  have q1:(x==y)=false:=by simpa using λe=>hs (.inl e)
  have q2:(x==z)=false:=by simpa using λe=>hs (.inr (.inl e))
  have q3:(y==z)=false:=by simpa using λe=>hs (.inr (.inr e))
  have e2:bp (bt prog (k+2)) prog.fk 1000 (.ite (.or (.a_ (.ag .eq (.aa 1) (.aa 2))) (.or (.a_ (.ag .eq (.aa 1) (.aa 3))) (.a_ (.ag .eq (.aa 2) (.aa 3))))) [(.yi 2)] []) [zs (da Q g),zi x,zi y,zi z,some (true,.ak [af c,af gg,af h]),none,none,none]=.nx [zs (da Q g),zi x,zi y,zi z,some (true,.ak [af c,af gg,af h]),none,none,none]:=by
   generalize [af c,af gg,af h]=RR;simp only[av,bp,du,ev,bf,au,ai,cj,cg,Za,Zc,Zf,Zk,Zl,Zq,cw,dq,gV,ZG,q1,q2,q3]
  rw[aA e2];obtain⟨X,rfl⟩:∃X:Nat,x=(X:Nat):=⟨x.toNat,by omega⟩
  obtain⟨Y,rfl⟩:∃Y:Nat,y=(Y:Nat):=⟨y.toNat,by omega⟩
  obtain⟨Z,rfl⟩:∃Z:Nat,z=(Z:Nat):=⟨z.toNat,by omega⟩
  simp only[BO];have l1:=λb4 c6 c7=>p0 k (Q:=Q) (g:=g) (c:=c) (gg:=gg) (h:=h) (step:=1) (x:=X) (y:=Y) (z:=Z) (b4:=b4) (c6:=c6) (c7:=c7) h4 hQ (by omega) (by omega) (by omega) fc fg fh;have l3:=λb4 c6 c7=>p0 k (Q:=Q) (g:=g) (c:=c) (gg:=gg) (h:=h) (step:=3) (x:=X) (y:=Y) (z:=Z) (b4:=b4) (c6:=c6) (c7:=c7) h4 hQ (by omega) (by omega) (by omega) fc fg fh;have el:=bD (Φ:=bt prog (k+2)) (G:=prog.fk) (n:=1000) (k:=.seq) (its:=[(.ar [(.ao (.int 1)),(.ao (.int 3))])]) (tg:=[5]) (body:=[(.loop .seq [(.ar [(.ao (.int 0)),(.ao (.int 2))])] [6] SB)]) (δ:=[zs (da Q g),zi (X:Nat),zi (Y:Nat),zi (Z:Nat),some (true,.ak [af c,af gg,af h]),none,none,none]) (xs:=[.int ((1:Nat):Int),.int ((3:Nat):Int)]) rfl;have Wh:bf (aq false [(.ar [(.ao (.int 1)),(.ao (.int 3))])]) [zs (da Q g),zi (X:Nat),zi (Y:Nat),zi (Z:Nat),some (true,.ak [af c,af gg,af h]),none,none,none]=[zs (da Q g),zi (X:Nat),zi (Y:Nat),zi (Z:Nat),some (true,.ak [af c,af gg,af h]),none,none,none]:=rfl;have b1:∀(t:Nat)(b4:Bool)(c5 c6 c7:Slot),dm (bt prog (k+2)) prog.fk 1000 [5] [(.loop .seq [(.ar [(.ao (.int 0)),(.ao (.int 2))])] [6] SB)] (.int (t:Nat)) [zs (da Q g),zi (X:Nat),zi (Y:Nat),zi (Z:Nat),some (b4,.ak [af c,af gg,af h]),c5,c6,c7]=av (bt prog (k+2)) prog.fk 1000 [(.loop .seq [(.ar [(.ao (.int 0)),(.ao (.int 2))])] [6] SB)] [zs (da Q g),zi (X:Nat),zi (Y:Nat),zi (Z:Nat),some (b4,.ak [af c,af gg,af h]),zi (t:Nat),c6,c7]:=λ_ _ _ _ _=>rfl;rw[Wh,Py.forM,b1] at el;unfold se
  cases a1:ft c gg h 0 1 with
  |some f=>
   rw[a1] at l1;rw[aI (l1 _ _ _)] at el;rw[aI el];rfl
  |none=>
   cases a2:ft c gg h 2 1 with
   |some f=>
    rw[a1,a2] at l1;rw[aI (l1 _ _ _)] at el;rw[aI el];rfl
   |none=>
    rw[a1,a2] at l1;rw[aA (l1 _ _ _),av] at el;dsimp only at el;rw[Py.forM,b1] at el
    cases a3:ft c gg h 0 3 with
    |some f=>
     rw[a3] at l3;rw[aI (l3 _ _ _)] at el;rw[aI el];rfl
    |none=>
     cases a4:ft c gg h 2 3 with
     |some f=>
      rw[a3,a4] at l3;rw[aI (l3 _ _ _)] at el;rw[aI el];rfl
     |none=>
      rw[a3,a4] at l3;rw[aA (l3 _ _ _),av] at el;dsimp only at el;rw[Py.forM] at el;rw[aA el];rfl
noncomputable def AQ(c g h s p j q:Nat):List (Nat×Nat):=[(4*c+(p+s)%4,4*g+j),(4*g+(j+s)%4,4*h+q),(4*h+(q+s)%4,4*c+p)]
theorem HW(x:Int):∃p:Nat,(p=0\/p=2)/\2*(x%2)=(p:Int):=by
 rcases Fm x with h|h<;>rw[h]
 ·exact⟨0,.inl rfl,rfl⟩
 ·exact⟨2,.inr rfl,rfl⟩
theorem MJ(x:Int):∃p:Nat,(p=1\/p=3)/\1+2*(x%2)=(p:Int):=by
 rcases Fm x with h|h<;>rw[h]
 ·exact⟨1,.inl rfl,rfl⟩
 ·exact⟨3,.inr rfl,rfl⟩
theorem vY(k:Nat)(c g h:Nat)(w:Int):∃s p j q:Nat,(s=1\/s=3)/\(p=0\/p=2)/\(j=1\/j=3)/\(q=0\/q=2)/\bt prog (k+1) 27 [.int (c:Nat),.int (g:Nat),.int (h:Nat),.int w]=.ok (.ak ((AQ c g h s p j q).map aj)):=by
 have m2:∀x:Int,ag .mod (.int x) (.int 2)=.ok (.int (x%2)):=λx=>cY _ _ (by decide);have d2:∀x:Int,ag .fdiv (.int x) (.int 2)=.ok (.int (x/2)):=λx=>dY _ _ (by decide);have d4:∀x:Int,ag .fdiv (.int x) (.int 4)=.ok (.int (x/4)):=λx=>dY _ _ (by decide);have d8:∀x:Int,ag .fdiv (.int x) (.int 8)=.ok (.int (x/8)):=λx=>dY _ _ (by decide);obtain⟨s,hs,es⟩:=MJ (w);obtain⟨p,hp,ep⟩:=HW (w/2);obtain⟨j,hj,ej⟩:=MJ (w/4);obtain⟨q,hq,eq⟩:=HW (w/8);refine⟨s,p,j,q,hs,hp,hj,hq,?_⟩;show(av (bt prog k) prog.fk 1000 b7 [zi (c:Nat),zi (g:Nat),zi (h:Nat),zi w,none,none,none,none,none,none]).val=_;have r1:=MH p s;have r2:=MH j s;have r3:=MH q s;have fx:(AQ c g h s p j q).map aj=[.ar [.int (4*(c:Int)+((p+s)%4:Nat)),.int (4*(g:Int)+(j:Nat))],.ar [.int (4*(g:Int)+((j+s)%4:Nat)),.int (4*(h:Int)+(q:Nat))],.ar [.int (4*(h:Int)+((q+s)%4:Nat)),.int (4*(c:Int)+(p:Nat))]]:=by
  simp only[AQ,j_,A',aj,Int.natCast_add,Int.natCast_mul];rfl
 rw[fx];generalize (((p+s)%4:Nat):Int)=I,(((j+s)%4:Nat):Int)=RR,(((q+s)%4:Nat):Int)=O,((s:Nat):Int)=S,((p:Nat):Int)=P,((j:Nat):Int)=J,((q:Nat):Int)=QQ,((c:Nat):Int)=C,((g:Nat):Int)=G,((h:Nat):Int)=H at*;have Wi:∀x:Int,ag .mul (.int 4) (.int x)=.ok (.int (4*x)):=λx=>jV _ _ (.inl (by decide));simp only[b7,av,bp,ev,ck,bf,cf,ai,aq,cj,cg,Zc,ba,bq,Zf,Zi,Zj,Zk,Zl,Zo,Zp,Zq,cw,dq,gV,Zt,Zu,ZA,BC,Wi,m2,d2,d4,d8,es,ep,ej,eq,r1,r2,r3];rfl
theorem mH(a b:Nat×Nat):f_ (aj a) (aj b)=decide (a=b):=by
 obtain⟨a1,a2⟩:=a;obtain⟨b1,b2⟩:=b;have:f_ (aj (a1,a2)) (aj (b1,b2))=(((a1:Nat):Int)==(b1:Nat)&&(((a2:Nat):Int)==(b2:Nat)&&true)):=by simp[aj,f_,ju]
 rw[this,Bool.eq_iff_iff];simp;omega
theorem Ni(r:List Int)(x:Int):az (r++[x])=az r++[.int x]:=by simp[az]
theorem p4(a b:Nat×Nat):ag .ne (aj a) (aj b)=.ok (.bl (!decide (a=b))):=by
 show(if(dr 9 (aj a)&&dr 9 (aj b)&&AU (aj a) (aj b))=true then Py.R.ok (D.bl (!f_ (aj a) (aj b))) else Py.R.bad)=_;rw[mH];rfl
theorem Qh(a b:Nat×Nat):ag .eq (aj a) (aj b)=.ok (.bl (decide (a=b))):=by
 show(if(dr 9 (aj a)&&dr 9 (aj b)&&AU (aj a) (aj b))=true then Py.R.ok (D.bl (f_ (aj a) (aj b))) else Py.R.bad)=_;rw[mH];rfl
theorem t9(p:Nat×Nat):ag .at (aj p) (.int 0)=.ok (.int (p.1:Nat)):=rfl
theorem p5(p:Nat×Nat):ag .at (aj p) (.int 1)=.ok (.int (p.2:Nat)):=rfl
theorem nR(s:bc Q m)(h:lr m p):ag .at (.ar (Q.map af)) (.int (p.1:Nat))=.ok (af (Q.getD p.1 [])):=by
 rw[Ja,dH (by rw[s.len];exact h.1),pA]
theorem z6(s:bc Q m)(h:lr m p):ag .at (af (Q.getD p.1 [])) (.int (p.2:Nat))=.ok (.int (ay Q p)):=by
 have h1:p.1<Q.length:=by rw[s.len];exact h.1
 have:(Q.getD p.1 []).length=4:=by
  rw[show Q.getD p.1 []=Q[p.1] by simp[h1]];exact s.four _ (xk h1)
 rw[af,Ja,j4 (by rw[this];exact h.2),pA];rfl
theorem m4(x:Int):ag .mod (.int x) (.int 4)=.ok (.int (x%4)):=cY _ _ (by decide)
theorem HX(p:Nat×Nat):D.ar [.int (p.1:Nat),.int ((((p.2:Nat):Int)+2)%4)]=aj (fe p):=by
 rw[show((((p.2:Nat):Int)+2)%4)=(((p.2+2)%4:Nat):Int) by omega];rfl
theorem uA(n:Nat)(I:Nat->iy->Prop)(j:Nat)(hj:j<n)(h:∀i,i<j->∀δ,I i δ->∃δ',f (.int (i:Nat)) δ=.nx δ'/\I (i+1) δ')(hr:∀δ,I j δ->f (.int (j:Nat)) δ=.rt d)(δ:iy)(q:I 0 δ):forM f (dg 0 n) δ=.rt d:=by
 have gen:∀(xs:List D)(a:Nat) δ,a<=j->I a δ->(∀i,a<=i->i<=j->∃h:i-a<xs.length,xs[i-a]=.int (i:Nat))->forM f xs δ=.rt d:=by
  intro xs
  induction xs with
  |nil=>intro a δ ha _ hx;obtain⟨h,_⟩:=hx j ha (ji _);cases h
  |cons x r ih=>
   intro a δ ha ia hx;obtain⟨_,e⟩:=hx a (ji _) ha;have e:x=.int (a:Nat):=by simpa using e
   rw[Py.forM.eq_2,e];by_cases Wj:a=j
   ·subst Wj
    rw[hr δ ia]
   ·obtain⟨δ',e',i'⟩:=h a (by omega) δ ia
    rw[e'];refine ih (a+1) δ' (by omega) i' λi h1 h2=>?_;obtain⟨hh,ee⟩:=hx i (by omega) h2;obtain⟨c,hc⟩:∃c,i-a=c+1:=⟨i-a-1,by omega⟩
    refine⟨by simp only[ja] at hh;omega,?_⟩;simp only[hc,List.getElem_cons_succ] at ee;simp only[show i-(a+1)=c by omega];exact ee
 refine gen (dg 0 n) 0 δ (E3 _) q λi _ hi=>⟨by rw[dX];omega,?_⟩
 simp[dg]
theorem HY(k:Nat)(s:bc Q m)(hm:m<=10)(h:lr m p):bt prog (k+1) 29 [.ar (Q.map af),aj p]=.ok (aj (gf Q p)):=by
 show(av (bt prog k) prog.fk 1000 eI [zs (.ar (Q.map af)),zs (aj p),none,none,none]).val=_;have cell:∀a b:Nat,a<m->b<4->ag .at (.ar (Q.map af)) (.int (a:Nat))=.ok (af (Q.getD a []))/\ag .at (af (Q.getD a [])) (.int (b:Nat))=.ok (.int (ay Q (a,b))):=λa b ha hb=>⟨nR s (p:=(a,b)) ⟨ha,hb⟩,z6 s (p:=(a,b)) ⟨ha,hb⟩⟩
 have di:b_ .len (.ar (Q.map af))=.ok (.int (m:Nat)):=by rw[jW,gh,s.len]
 have r0:=nR s h;have r1:=z6 s h;have mo:=s.yz h;have ml:=s.r_ h;have mn:=s.y_ h;have only:=λa b (ha:a<m)(hb:b<4)=>s.om (q:=(a,b)) h ⟨ha,hb⟩;generalize gf Q p=q,D.ar (Q.map af)=T at*;have e1:bp (bt prog k) prog.fk 1000 (.bz 2 (.ag .at (.ag .at (.aa 0) (.ag .at (.aa 1) (.ao (.int 0)))) (.ag .at (.aa 1) (.ao (.int 1))))) [zs T,zs (aj p),none,none,none]=.nx [zs T,zs (aj p),zi (ay Q p),none,none]:=by
  generalize af (Q.getD p.1 [])=W at*;simp only[bp,ev,bf,ai,cj,cg,Zc,ba,bq,Zf,Zi,Zj,Zk,Zl,Zq,cw,Zu,t9,p5,r0,r1]
 have Qi:∀a b:Nat,D.ar [.int (a:Nat),.int (b:Nat)]=aj (a,b):=λ_ _=>rfl;have miss:∀a b:Nat,a<m->b<4->(a,b)≠q->∀c4,dm (bt prog k) prog.fk 1000 [4] [(.ite (.and (.a_ (.ag .eq (.ag .at (.ag .at (.aa 0) (.aa 3)) (.aa 4)) (.aa 2))) (.a_ (.ag .ne (.ar [(.aa 3),(.aa 4)]) (.aa 1)))) [(.ret (.ar [(.aa 3),(.aa 4)]))] [])] (.int (b:Nat)) [zs T,zs (aj p),zi (ay Q p),zi (a:Nat),c4]=.nx [zs T,zs (aj p),zi (ay Q p),zi (a:Nat),zi (b:Nat)]:=by
  intro a b ha hb hq c4;obtain⟨ca,cb⟩:=cell a b ha hb;generalize af (Q.getD a [])=W at*;by_cases hl:ay Q (a,b)=ay Q p
  ·have hp:(a,b)=p:=(only a b ha hb hl).resolve_right hq
   have z1:(ay Q (a,b)==ay Q p)=true:=by simpa using hl
   have z2:decide ((a,b)=p)=true:=ya hp;simp only[dm,av,bp,du,ev,ck,bf,cf,au,ai,aq,cj,cg,Za,Zc,Py.sets,br,Zf,Zi,Zj,Zk,Zl,Zo,Zp,Zq,cw,dq,gV,Zv,ZG,ca,cb,z1,Qi,p4,z2,ja,ou,jr]
  ·have z1:(ay Q (a,b)==ay Q p)=false:=by simpa using hl
   simp only[dm,av,bp,du,ev,ck,bf,cf,au,ai,aq,cj,cg,Za,Zc,Py.sets,br,Zf,Zi,Zj,Zk,Zl,Zo,Zp,Zq,cw,dq,gV,ZG,ca,cb,z1,ja,ou,jr]
 have hit:∀c4,dm (bt prog k) prog.fk 1000 [4] [(.ite (.and (.a_ (.ag .eq (.ag .at (.ag .at (.aa 0) (.aa 3)) (.aa 4)) (.aa 2))) (.a_ (.ag .ne (.ar [(.aa 3),(.aa 4)]) (.aa 1)))) [(.ret (.ar [(.aa 3),(.aa 4)]))] [])] (.int (q.2:Nat)) [zs T,zs (aj p),zi (ay Q p),zi (q.1:Nat),c4]=.rt (aj q):=by
  intro c4;obtain⟨ca,cb⟩:=cell q.1 q.2 mo.1 mo.2;have z1:(ay Q (q.1,q.2)==ay Q p)=true:=by simpa using ml
  have z2:decide ((q.1,q.2)=p)=false:=wt mn;generalize af (Q.getD q.1 [])=W at*;simp only[dm,av,bp,du,ev,ck,bf,cf,au,ai,aq,cj,cg,Za,Zc,Py.sets,br,Zf,Zi,Zj,Zk,Zl,Zo,Zp,Zq,cw,dq,gV,Zw,ZG,ca,cb,z1,Qi,p4,z2,ja,ou,jr]
 have e2:bp (bt prog k) prog.fk 1000 (.loop .js [(.b_ .len (.aa 0))] [3] [(.loop .js [(.ao (.int 4))] [4] [(.ite (.and (.a_ (.ag .eq (.ag .at (.ag .at (.aa 0) (.aa 3)) (.aa 4)) (.aa 2))) (.a_ (.ag .ne (.ar [(.aa 3),(.aa 4)]) (.aa 1)))) [(.ret (.ar [(.aa 3),(.aa 4)]))] [])])]) [zs T,zs (aj p),zi (ay Q p),none,none]=.rt (aj q):=by
  rw[bD (xs:=dg 0 m) (by simp only[ev,ck,bf,ai,aq,cj,cg,Zf,Zk,Zq,cw,di];exact aL (by omega))];refine uA m (λ_ δ=>∃c3 c4,δ=[zs T,zs (aj p),zi (ay Q p),c3,c4]) q.1 mo.1 ?_ ?_ _ ⟨none,none,by rfl⟩
  ·rintro a ha δ ⟨c3,c4,rfl⟩
   obtain⟨δ',e,c,rfl⟩:=cD (Φ:=bt prog k) (G:=prog.fk) (n:=1000) (its:=[(.ao (.int 4))]) (tg:=[4]) (body:=[(.ite (.and (.a_ (.ag .eq (.ag .at (.ag .at (.aa 0) (.aa 3)) (.aa 4)) (.aa 2))) (.a_ (.ag .ne (.ar [(.aa 3),(.aa 4)]) (.aa 1)))) [(.ret (.ar [(.aa 3),(.aa 4)]))] [])]) (δ:=[some (false,T),some (false,aj p),some (false,.int (ay Q p)),some (false,.int (a:Nat)),c4]) (m:=4) (by simp only[ev,ck,Zf];exact aL (by decide))
    (λ_ δ=>∃c,δ=[zs T,zs (aj p),zi (ay Q p),zi (a:Nat),c]) ⟨c4,rfl⟩ (by
     rintro b hb δ ⟨c,rfl⟩;exact⟨_,miss a b (by have:=mo.1;omega) hb (λe=>by have:=congrArg Prod.fst e;simp only at this;omega) c,_,rfl⟩)
   refine⟨_,?_,zi (a:Nat),c,rfl⟩;simp only[dm,br,ja,ou,jr,cw,Py.sets,Ff,Fg];rw[aA e];rfl
  ·rintro δ ⟨c3,c4,rfl⟩
   have:bp (bt prog k) prog.fk 1000 (.loop .js [(.ao (.int 4))] [4] [(.ite (.and (.a_ (.ag .eq (.ag .at (.ag .at (.aa 0) (.aa 3)) (.aa 4)) (.aa 2))) (.a_ (.ag .ne (.ar [(.aa 3),(.aa 4)]) (.aa 1)))) [(.ret (.ar [(.aa 3),(.aa 4)]))] [])]) [zs T,zs (aj p),zi (ay Q p),zi (q.1:Nat),c4]=.rt (aj q):=by
    rw[bD (xs:=dg 0 4) (by simp only[ev,ck,Zf];exact aL (by decide))];refine uA 4 (λ_ δ=>∃c,δ=[zs T,zs (aj p),zi (ay Q p),zi (q.1:Nat),c]) q.2 mo.2 ?_ ?_ _ ⟨c4,by rfl⟩
    ·rintro b hb δ ⟨c,rfl⟩
     exact⟨_,miss q.1 b mo.1 (by have:=mo.2;omega) (λe=>by have:=congrArg Prod.snd e;simp only at this;omega) c,_,rfl⟩
    ·rintro δ ⟨c,rfl⟩
     exact hit c
   simp only[dm,br,ja,ou,jr,cw,Py.sets,Ff,Fg];exact aI this
 unfold eI;rw[aA e1,aI e2];rfl
theorem MK(s:bc Q m)(h:lr m a):∃z:Nat×(Nat×Nat),z.1<4*m/\ED Q m a z.2 z.1:=by
 obtain⟨t,c,h1,h2⟩:=s.ret h;exact⟨(t,c),h1,h2⟩
open Classical in
noncomputable def Fb(Q:List (List Int))(m:Nat)(a:Nat×Nat):Nat×(Nat×Nat):=if h:∃z:Nat×(Nat×Nat),z.1<4*m/\ED Q m a z.2 z.1 then h.choose else(0,a)
theorem uB(s:bc Q m)(h:lr m a):(Fb Q m a).1<4*m/\ED Q m a (Fb Q m a).2 (Fb Q m a).1:=by
 have hx:=MK s h;unfold Fb;rw[dif_pos hx];exact hx.choose_spec
noncomputable def Jo(Q:List (List Int))(m i:Nat):Int:=uo (Fb Q m (i,2)).2.2
theorem HZ(i:Nat):D.ar [.int (i:Nat),.int 2]=aj (i,2):=rfl
theorem z7(h:i<m):lr m (i,2):=⟨h,show 2<4 by decide⟩
noncomputable def UC(Q:List (List Int))(m:Nat):Int:=((List.range m).map (Jo Q m)).sum
theorem z8(k:Nat)(s:bc Q m)(hm:m<=10):bt prog (k+2) 30 [.ar (Q.map af)]=.ok (.int (UC Q m)):=by
 show(av (bt prog (k+1)) prog.fk 1000 dD [zs (.ar (Q.map af)),none,none,none]).val=_;have di:b_ .len (.ar (Q.map af))=.ok (.int (m:Nat)):=by rw[jW,gh,s.len]
 have lm:=λ(p:Nat×Nat)(h:lr m p)=>HY k s hm h;generalize D.ar (Q.map af)=T at*;have e1:bp (bt prog (k+1)) prog.fk 1000 (.bz 1 (.ao (.int 0))) [zs T,none,none,none]=.nx [zs T,zi 0,none,none]:=by
  simp only[bp,ev,bf,ai,Zc,ba,bq,Zi,Zj,Zu]
 have step:∀i,i<m->∀δ,(∃c2 c3,δ=[zs T,zi (((List.range i).map (Jo Q m)).sum),c2,c3])->∃δ',dm (bt prog (k+1)) prog.fk 1000 [2] [(.bz 3 (.call 29 [(.aa 0),(.ar [(.aa 2),(.ao (.int 2))])])),(.Dx (.a_ (.ag .ne (.ag .at (.aa 3) (.ao (.int 0))) (.aa 2))) [(.bz 3 (.call 29 [(.aa 0),(.ar [(.ag .at (.aa 3) (.ao (.int 0))),(.ag .mod (.ag .add (.ag .at (.aa 3) (.ao (.int 1))) (.ao (.int 2))) (.ao (.int 4)))])]))]),(.ite (.a_ (.ag .eq (.ag .at (.aa 3) (.ao (.int 1))) (.ao (.int 3)))) [(.bz 1 (.ag .add (.aa 1) (.ao (.int 1))))] []),(.ite (.a_ (.ag .eq (.ag .at (.aa 3) (.ao (.int 1))) (.ao (.int 1)))) [(.bz 1 (.ag .sub (.aa 1) (.ao (.int 1))))] [])] (.int (i:Nat)) δ=.nx δ'/\∃c2 c3,δ'=[zs T,zi (((List.range (i+1)).map (Jo Q m)).sum),c2,c3]:=by
  rintro i hi δ ⟨c2,c3,rfl⟩;have ok:=z7 hi;obtain⟨ht,r⟩:=uB s ok;have al:bt prog (k+1) 29 [T,.ar [.int (i:Nat),.int 2]]=.ok (aj (q_ Q (i,2) 0)):=by
   have z:=lm _ ok;rw[s.EF ok,HZ];exact z
  have on:∀j,bt prog (k+1) 29 [T,aj (fe (q_ Q (i,2) j))]=.ok (aj (q_ Q (i,2) (j+1))):=λj=>lm _ (bI (s.L9 ok j));have es:((List.range (i+1)).map (Jo Q m)).sum=((List.range i).map (Jo Q m)).sum+uo (Fb Q m (i,2)).2.2:=by
   rw[DI,wj,List.sum_append];simp[Jo]
  rw[es];generalize ((List.range i).map (Jo Q m)).sum=F,(Fb Q m (i,2)).2=w at*;generalize (Fb Q m (i,2)).1=t at*;have f1:bp (bt prog (k+1)) prog.fk 1000 (.bz 3 (.call 29 [(.aa 0),(.ar [(.aa 2),(.ao (.int 2))])])) [zs T,zi F,zi (i:Nat),c3]=.nx [zs T,zi F,zi (i:Nat),zs (aj (q_ Q (i,2) 0))]:=by
   simp only[bp,ev,ck,bf,cf,ai,aq,cj,cg,Zc,ba,bq,Zf,Zi,Zj,Zk,Zl,Zo,Zp,Zq,dq,gV,Zu,al]
  have f2:bp (bt prog (k+1)) prog.fk 1000 (.Dx (.a_ (.ag .ne (.ag .at (.aa 3) (.ao (.int 0))) (.aa 2))) [(.bz 3 (.call 29 [(.aa 0),(.ar [(.ag .at (.aa 3) (.ao (.int 0))),(.ag .mod (.ag .add (.ag .at (.aa 3) (.ao (.int 1))) (.ao (.int 2))) (.ao (.int 4)))])]))]) [zs T,zi F,zi (i:Nat),zs (aj (q_ Q (i,2) 0))]=.nx [zs T,zi F,zi (i:Nat),zs (aj (q_ Q (i,2) t))]:=by
   rw[bp];refine iI (c:=du (bt prog (k+1)) prog.fk (.a_ (.ag .ne (.ag .at (.aa 3) (.ao (.int 0))) (.aa 2)))) (fz:=bf (au (.a_ (.ag .ne (.ag .at (.aa 3) (.ao (.int 0))) (.aa 2))))) (b:=av (bt prog (k+1)) prog.fk 1000 [(.bz 3 (.call 29 [(.aa 0),(.ar [(.ag .at (.aa 3) (.ao (.int 0))),(.ag .mod (.ag .add (.ag .at (.aa 3) (.ao (.int 1))) (.ao (.int 2))) (.ao (.int 4)))])]))]) t 1000 (λj=>[zs T,zi F,zi (i:Nat),zs (aj (q_ Q (i,2) j))]) (by omega) (λj hj=>?_) ?_
   ·have z:((((q_ Q (i,2) j).1:Nat):Int)==(i:Nat))=false:=by
     have:(q_ Q (i,2) j).1≠i:=r.first j hj;simp;omega
    have o1:=on j;exact⟨by simp only[du,ev,bf,au,ai,cj,cg,Za,Zf,Zk,Zl,Zq,cw,Zw,ZH,t9,z],by simp only[av,bp,ev,ck,bf,cf,au,ai,aq,cj,cg,Zc,ba,bq,Zf,Zi,Zj,Zk,Zl,Zq,cw,dq,gV,Zu,ZA,t9,p5,m4,HX,o1]⟩
   ·have z:((((q_ Q (i,2) t).1:Nat):Int)==(i:Nat))=true:=by
     have:(q_ Q (i,2) t).1=i:=by rw[r.hit];exact r.Df
     simp;omega
    simp only[du,ev,bf,au,ai,cj,cg,Za,Zf,Zk,Zl,Zq,cw,Zv,ZH,t9,z]
  have Wl:av (bt prog (k+1)) prog.fk 1000 [(.ite (.a_ (.ag .eq (.ag .at (.aa 3) (.ao (.int 1))) (.ao (.int 3)))) [(.bz 1 (.ag .add (.aa 1) (.ao (.int 1))))] []),(.ite (.a_ (.ag .eq (.ag .at (.aa 3) (.ao (.int 1))) (.ao (.int 1)))) [(.bz 1 (.ag .sub (.aa 1) (.ao (.int 1))))] [])] [zs T,zi F,zi (i:Nat),zs (aj w)]=.nx [zs T,zi (F+uo w.2),zi (i:Nat),zs (aj w)]:=by
   unfold uo;by_cases h3:w.2=3
   ·have z1:(((w.2:Nat):Int)==3)=true:=by simp;omega
    have z2:(((w.2:Nat):Int)==1)=false:=by simp;omega
    rw[bg h3];simp only[av,bp,du,ev,bf,au,ai,cj,cg,Za,Zc,ba,bq,Zf,Zi,Zj,Zk,Zl,Zq,cw,dq,gV,Zt,Zu,ZA,ZB,ZG,p5,z1,z2]
   ·have z1:(((w.2:Nat):Int)==3)=false:=by simp;omega
    rw[bh h3];by_cases h1:w.2=1
    ·have z2:(((w.2:Nat):Int)==1)=true:=by simp;omega
     rw[bg h1,show F+ -1=F-1 by omega];simp only[av,bp,du,ev,bf,au,ai,cj,cg,Za,Zc,ba,bq,Zf,Zi,Zj,Zk,Zl,Zq,cw,dq,gV,Zt,Zu,ZA,ZB,ZG,p5,z1,z2]
    ·have z2:(((w.2:Nat):Int)==1)=false:=by simp;omega
     rw[bh h1,Int.add_zero];simp only[av,bp,du,ev,bf,au,ai,cj,cg,Za,Zc,ba,bq,Zf,Zi,Zj,Zk,Zl,Zq,cw,dq,gV,Zt,Zu,ZA,ZB,ZG,p5,z1,z2]
  refine⟨_,?_,zi (i:Nat),zs (aj w),rfl⟩;simp only[dm,br,ja,ou,jr,cw,Py.sets,Ff,Fg];rw[aA f1,aA f2,r.hit];exact Wl
 obtain⟨δ',e2,c2,c3,rfl⟩:=cD (Φ:=bt prog (k+1)) (G:=prog.fk) (n:=1000) (its:=[(.b_ .len (.aa 0))]) (tg:=[2]) (body:=[(.bz 3 (.call 29 [(.aa 0),(.ar [(.aa 2),(.ao (.int 2))])])),(.Dx (.a_ (.ag .ne (.ag .at (.aa 3) (.ao (.int 0))) (.aa 2))) [(.bz 3 (.call 29 [(.aa 0),(.ar [(.ag .at (.aa 3) (.ao (.int 0))),(.ag .mod (.ag .add (.ag .at (.aa 3) (.ao (.int 1))) (.ao (.int 2))) (.ao (.int 4)))])]))]),(.ite (.a_ (.ag .eq (.ag .at (.aa 3) (.ao (.int 1))) (.ao (.int 3)))) [(.bz 1 (.ag .add (.aa 1) (.ao (.int 1))))] []),(.ite (.a_ (.ag .eq (.ag .at (.aa 3) (.ao (.int 1))) (.ao (.int 1)))) [(.bz 1 (.ag .sub (.aa 1) (.ao (.int 1))))] [])]) (δ:=[some (false,T),some (false,.int 0),none,none]) (m:=m) (by simp only[ev,ck,bf,ai,aq,cj,cg,Zf,Zk,Zq,cw,di];exact aL (by omega))
  (λi δ=>∃c2 c3,δ=[zs T,zi (((List.range i).map (Jo Q m)).sum),c2,c3]) ⟨none,none,rfl⟩ step
 unfold dD;rw[aA e1,aA e2];simp only[av,bp,ev,bf,cf,ai,cj,cg,Zc,Zk,Zl,dq,gV];rfl
theorem p6:∀xs:List Int,Bx (az xs)=some xs.sum
 |[]=>rfl
 |x::r=>by
  show(Bx (az r)).map (x+·)=_;rw[p6 r];simp
theorem gO:∀n,(df n).length=2^n
 |0=>rfl
 |n+1=>by rw[df,vm,gh,gh,gO n,Nat.pow_succ];omega
theorem ML(k:Nat)(hm:m<=9):bt prog (k+1) 32 [.int (m:Nat)]=.ok (.ak ((df m).map xh)):=by
 have c:∀i,i<m->(df i).length<=256:=λi hi=>by rw[gO];exact Nat.pow_le_pow_right (by decide) (by omega:i<=8)
 show(av (bt prog k) prog.fk 1000 kJ [zi (m:Nat),none,none]).val=_;refine c9 rfl (rM (m:=m) (aL (by omega)) (λi δ=>∃c,δ=[zi (m:Nat),some (true,.ak ((df i).map xh)),c]) ⟨_,rfl⟩ ?_ ?_)
 ·rintro i hi δ ⟨c2,rfl⟩
  have e:∀x:Int,ev (bt prog k) prog.fk true (.comp .seq [(.aa 1)] [] 1 none (.ag .add (.aa 0) (.ak [(.ao (.int x))]))) [zi (m:Nat),some (true,.ak ((df i).map xh)),zi (i:Nat)]=.ok (.ak (((df i).map (· ++[x])).map xh)):=λx=>by
   rw[wk];refine j6 (a:=xh) (xh∘(· ++[x])) (bH (by rw[gh];have:=c i hi;omega)) λw hw=>?_;have:=cA _ _ hw;refine(gE (w.map .int) [.int x] (by simp only[gh,ja,ou];omega)).trans ?_;simp[xh]
  refine⟨_,aA (aT (v:=.ak ((df (i+1)).map xh)) rfl (d7 (e 0) (e 1) ?_)),_,rfl⟩;rw[gE _ _ (by simp only[gh];have:=c i hi;omega),←wj];rfl
 ·rintro δ ⟨c2,rfl⟩
  rfl
theorem iU:∀l:List Int,(BR l).length=l.length-1
 |[]=>rfl
 |[_]=>rfl
 |x::y::r=>by simp[BR,iU (y::r)]
theorem p7:∀(l:List Int)(j:Nat),j+1<l.length->(BR l).take (j+1)=(BR l).take j++[l.getD j 0+l.getD (j+1) 0]
 |x::y::r,0,_=>by simp[BR]
 |x::y::r,j+1,h=>by
  have:=p7 (y::r) j (by simpa using h);simp only[BR,Fe,this,E0];rfl
 |[],j,h=>by simp at h
 |[_],j,h=>by simp at h
theorem nS(h:i<l.length):ag .at (.ak (az l)) (.int (i:Nat))=.ok (.int (l.getD i 0)):=by
 rw[Pz,jz (by simpa[az] using h)];simp[az,wm,h]
theorem vZ(k:Nat)(hn:n<=900):bt prog (k+1) 33 [.int (n:Nat)]=.ok (.ak (az (we n))):=by
 show(av (bt prog k) prog.fk 1000 dO [zi (n:Nat),none,none,none,none]).val=_;refine c9 rfl (rM (m:=n) (aL (by omega)) (λi δ=>∃c2 c3 c4,δ=[zi (n:Nat),some (true,.ak (az (we i))),c2,c3,c4]) ⟨_,_,_,rfl⟩ ?_ ?_)
 ·rintro i hi δ ⟨c2,c3,c4,rfl⟩
  have cl:=mW i;obtain⟨δ',e,c,rfl⟩:=cD (Φ:=bt prog k) (G:=prog.fk) (n:=1000) (its:=[(.ag .sub (.b_ .len (.aa 1)) (.ao (.int 1)))]) (tg:=[4]) (body:=[(.app 3 (.ag .add (.ag .at (.aa 1) (.aa 4)) (.ag .at (.aa 1) (.ag .add (.aa 4) (.ao (.int 1))))))]) (δ:=[some (false,.int (n:Nat)),some (true,.ak (az (we i))),some (false,.int (i:Nat)),some (true,.ak [.int 1]),c4]) (m:=i)
   (d6 (by show(((az (we i)).length:Nat):Int)-1=_;simp only[az,gh];omega) (by omega)) (λj δ=>∃c,δ=[zi (n:Nat),some (true,.ak (az (we i))),zi (i:Nat),some (true,.ak (az ([1]++(BR (we i)).take j))),c]) ⟨c4,rfl⟩ (by
    rintro j hj δ ⟨c,rfl⟩;have h1:=nS (l:=we i) (i:=j) (by omega);have h2:=nS (l:=we i) (i:=j+1) (by omega);have nl:=iU (we i);have ht:=p7 (we i) j (by omega);refine⟨_,aA (mY (v:=.int ((we i).getD j 0+(we i).getD (j+1) 0)) rfl ?_ rfl ?_),zi (j:Nat),?_⟩
    ·simp only[ev,cj,cg,Py.sets,Zf,Zi,Zj,Zk,Zl,Zo,Zp,cw,ZA,ZI,h1]
     rw[show((j:Nat):Int)+1=((j+1:Nat):Int) by omega,←ZI,h2];rfl
    ·refine AR (m:=5000) ?_ (by decide)
     simp only[az,gh,vm,ja,ou,Be];omega
    ·show[_,_,_,some (true,D.ak (az ([1]++(BR (we i)).take j)++[_])),_]=_
     rw[ht];simp[az])
  refine⟨_,Me (bN rfl (bN e (bN (aT (v:=.ak (az (we (i+1)))) rfl ?_) rfl))),_,_,_,rfl⟩;rw[Jp (by rw[iU];omega),xX];refine(gE _ [.int 1] (by simp only[az,gh,vm,ja,ou,iU];omega)).trans ?_;simp[az]
 ·rintro δ ⟨c2,c3,c4,rfl⟩
  rfl
theorem uC(k:Nat)(hl:l.length<=900):bt prog (k+1) 31 [.ak (l.map qc)]=.ok (.int (ah l:Nat)):=by
 have e:bp (bt prog k) prog.fk 1000 .Dw [zs (.ak (l.map qc)),none,none,none,none,none]=.rt (.int (ah l:Nat)):=by
  have a0:(qy (cg [zs (.ak (l.map qc)),none,none,none,none,none] 0)).bind jo=some l:=by
   show(kh (l.map qc)).bind jo=_;rw[show l.map qc=(l.map λp=>[p.1,p.2]).map af by rw[wk];rfl,lW];exact j8 l
  show C8 _=_;unfold C8;rw[a0];exact bg ⟨rfl,hl⟩
 exact congrArg Out.val (aI (ss:=[]) e)
theorem z9(k:Nat)(s:bc Q m)(hm:m<=9)(hg:g<=60):bt prog (k+2) 35 [.ar (Q.map af),.int (g:Nat)]=.ok (pj (ltV (Q.map x4) g)):=by
 have wl:=ML k hm;have wc:(df m).length<=512:=by rw[gO];exact Nat.pow_le_pow_right (by decide) hm
 have ex:(Q.map x4).length=m:=by rw[gh,s.len]
 have di:b_ .len (.ar (Q.map af))=.ok (.int (m:Nat)):=by rw[jW,gh,s.len]
 have Wm:∀j,j<m->ag .at (.ar (Q.map af)) (.int (j:Nat))=.ok (af (Q.getD j [])):=λj hj=>nR s (p:=(j,0)) ⟨hj,show 0<4 by decide⟩;have four:∀j,j<m->∃a b c d,Q.getD j []=[a,b,c,d]:=λj hj=>lh (by
  have h:j<Q.length:=by rw[s.len];exact hj
  rw[show Q.getD j []=Q[j] by simp[h]];exact s.four _ (xk h))
 show(av (bt prog (k+1)) prog.fk 1000 hJ [zs (.ar (Q.map af)),zi (g:Nat),none,none,none,none,none]).val=_;generalize D.ar (Q.map af)=T at*;refine c9 (δ':=[zs T,zi (g:Nat),some (true,pj []),none,none,none,none]) rfl ?_;have ti:(ck (bt prog (k+1)) prog.fk false [(.call 32 [(.b_ .len (.aa 0))])] [zs T,zi (g:Nat),some (true,pj []),none,none,none,none]).bind (bo .seq)=.ok ((df m).map xh):=by
  simp only[ev,ck,cj,cg,Zf,Zk,cw,di,wl];exact bH (by rw[gh];omega)
 obtain⟨δ',e,c3,c4,c5,c6,rfl⟩:=bM (n:=1000) (tg:=[3]) (body:=[(.bz 4 (.ak [])),(.loop .js [(.b_ .len (.aa 0))] [5] [(.bz 6 (.ag .at (.aa 0) (.aa 5))),(.ite (.a_ (.ag .eq (.ag .at (.aa 3) (.aa 5)) (.ao (.int 0)))) [(.bz 4 (.ag .add (.aa 4) (.ak [(.ar [(.ag .at (.aa 6) (.ao (.int 0))),(.ag .at (.aa 6) (.ao (.int 1)))]),(.ar [(.ag .at (.aa 6) (.ao (.int 2))),(.ag .at (.aa 6) (.ao (.int 3)))])])))] [(.bz 4 (.ag .add (.aa 4) (.ak [(.ar [(.ag .at (.aa 6) (.ao (.int 0))),(.ag .at (.aa 6) (.ao (.int 3)))]),(.ar [(.ag .at (.aa 6) (.ao (.int 1))),(.ag .at (.aa 6) (.ao (.int 2)))])])))])]),(.Eh 2 33 (.ag .sub (.b_ .len (.aa 0)) (.ag .mul (.ao (.int 2)) (.b_ .sum (.aa 3)))) (.ag .add (.aa 1) (.call 31 [(.aa 4)])))]) ti
  (λi δ=>∃c3 c4 c5 c6,δ=[zs T,zi (g:Nat),some (true,pj (((df m).take i).foldl (EH (Q.map x4) g) [])),c3,c4,c5,c6]) ⟨_,_,_,_,rfl⟩ (by
   rintro i hi δ ⟨c3,c4,c5,c6,rfl⟩;rw[gh] at hi;have hw:=xk hi;have ok:=(yV (X:=Q.map x4) (g:=g) ((df m).take i) [] (λw h=>by rw[ex];exact List.mem_of_mem_take h) ⟨Im,x8 _ _ _⟩).1;rw[Hz hi,Jx];generalize ((df m).take i).foldl (EH (Q.map x4) g) []=t,(df m)[i]=w at*;have lw:=cA _ _ hw;obtain⟨e,he,Wn⟩:=j7 _ _ hw;have Q2:=yU ok (by rw[ex];exact hw);obtain⟨δ',e1,E8,W5,rfl⟩:=cD (Φ:=bt prog (k+1)) (G:=prog.fk) (n:=1000) (its:=[(.b_ .len (.aa 0))]) (tg:=[5]) (body:=[(.bz 6 (.ag .at (.aa 0) (.aa 5))),(.ite (.a_ (.ag .eq (.ag .at (.aa 3) (.aa 5)) (.ao (.int 0)))) [(.bz 4 (.ag .add (.aa 4) (.ak [(.ar [(.ag .at (.aa 6) (.ao (.int 0))),(.ag .at (.aa 6) (.ao (.int 1)))]),(.ar [(.ag .at (.aa 6) (.ao (.int 2))),(.ag .at (.aa 6) (.ao (.int 3)))])])))] [(.bz 4 (.ag .add (.aa 4) (.ak [(.ar [(.ag .at (.aa 6) (.ao (.int 0))),(.ag .at (.aa 6) (.ao (.int 3)))]),(.ar [(.ag .at (.aa 6) (.ao (.int 1))),(.ag .at (.aa 6) (.ao (.int 2)))])])))])]) (δ:=[some (false,T),some (false,.int (g:Nat)),some (true,pj t),some (false,xh w),some (true,.ak []),c5,c6]) (m:=m)
    (by simp only[ev,ck,bf,ai,aq,cj,cg,Zf,Zk,Zq,cw,di];exact aL (by omega)) (λj δ=>∃c5 c6,δ=[zs T,zi (g:Nat),some (true,pj t),zs (xh w),some (true,.ak ((dw ((Q.take j).map x4) (w.take j)).map qc)),c5,c6]) ⟨c5,c6,rfl⟩ (by
     rintro j hj δ ⟨c5,c6,rfl⟩;have hQ:j<Q.length:=by rw[s.len];exact hj
     have hx:=g8 Q w j hQ (by omega);have pl:=cL ((Q.take j).map x4) (w.take j);rw[gh,Be] at pl;have Wo:ag .at (xh w) (.int (j:Nat))=.ok (.int (w.getD j 0)):=nS (by omega);obtain⟨a,b,c,d,hr⟩:=four j hj;have h6:=Wm j hj;rw[hr] at h6 hx;rw[hx,wj];generalize dw ((Q.take j).map x4) (w.take j)=P at*;have ha:∀x y,ag .add (.ak (P.map qc)) (.ak [x,y])=.ok (.ak (P.map qc++[x,y])):=λx y=>gE _ _ (by rw[gh];simp only[ja,ou];omega);refine⟨_,Me (bN (aT (v:=af [a,b,c,d]) rfl h6) (bN (e9 (t:=w.getD j 0==0) ?_ ?_) rfl)),zi (j:Nat),zs (af [a,b,c,d]),rfl⟩
     ·simp only[du,ev,bf,au,ai,cj,cg,Za,ba,bq,Zf,Zi,Zj,Zk,Zl,Zq,cw,Zu,ZG,Wo]
     ·unfold BA
      by_cases h0:w.getD j 0=0
      ·rw[bg h0,h0]
       exact bN (aT rfl (d7 rfl rfl (ha _ _))) rfl
      ·rw[bh h0,show(w.getD j 0==0)=false by simpa using h0]
       exact bN (aT rfl (d7 rfl rfl (ha _ _))) rfl)
   rw[Jp (by rw[s.len];omega),Jp (by omega)] at e1;have pl:=cL (Q.map x4) w;rw[ex] at pl;have rr:=uC k (l:=dw (Q.map x4) w) (by omega);have rl:=nB (dw (Q.map x4) w).length (dw (Q.map x4) w);have ch:=vZ k (n:=ltN (Q.map x4) g w) (rm (Jr rl g) (by omega));have su:b_ .sum (xh w)=.ok (.int w.sum):=by
    show(if(az w).length<=1000/\(az w).all xf=true then wm ((Bx (az w)).map .int) else .bad)=_;rw[bg ⟨by simp only[az,gh];omega,j9 _ _ hw⟩,p6];rfl
   refine⟨_,Me (bN rfl (bN e1 (bN (yX (t:=t) (pv:=(m:Int)-2*w.sum) (rv:=(ltN (Q.map x4) g w:Nat)) (t':=EH (Q.map x4) g t w) rfl rfl ?_ ?_ ?_) rfl))),_,_,_,_,rfl⟩
   ·simp only[ev,bf,cf,ai,aq,cj,cg,Zf,Zi,Zj,Zk,Zl,Zo,Zq,cw,dq,gV,ZB,di,su,BC]
   ·simp only[ev,ck,bf,cf,ai,aq,cj,cg,Zf,Zi,Zj,Zk,Zl,Zo,Zq,cw,dq,gV,ZA,rr];rfl
   ·exact HA ch ok Q2 (by rw[ex]) (by omega) (rm (Jr rl g) (by omega)))
 rw[gh,BV] at e;refine c9 e ?_;unfold ltV;rw[ex];rfl
theorem ER(k:Nat)(nd:gn t)(h:Jc t=true)(hs:s=1\/s= -1):bt prog (k+1) 36 [pj t,.int sh,.int s]=.ok (.ak ((Ab t).map λx=>qc (x.1+sh,s*x.2))):=by
 have mu:∀x:Int,ag .mul (.int s) (.int x)=.ok (.int (s*x)):=λx=>jV _ _ (.inl (by rcases hs with rfl|rfl<;>decide));have e:ev (bt prog k) prog.fk false (.comp .seq [(.b_ .sorted (.aa 0))] [1,2,0] 1 (some (.a_ (.ag .ne (.sf (.aa 3) (.aa 0)) (.ao (.int 0))))) (.ar [(.ag .add (.aa 0) (.aa 1)),(.ag .mul (.aa 2) (.sf (.aa 3) (.aa 0)))])) [zs (pj t),zi sh,zi s]=_:=
  yZ (λx=>qc (x.1+sh,s*x.2)) nd h rfl (λi hi=>Mg (tT nd hi rfl rfl)) λi hi=>HB rfl (d7 rfl (tT nd hi rfl rfl) (mu _))
 exact congrArg Out.val (aI (ss:=[]) (mZ e))
theorem Nj(Q:List (List Int))(g:Int):b_ .isTup (da Q g)=.ok (.bl true):=g5 Q g
theorem sF(x:Int)(xs:List Int):ag .count (.ak (az xs)) (.int x)=.ok (.int (xs.count x:Nat)):=by
 have h:∀xs:List Int,((az xs).countP λy=>f_ y (.int x))=xs.count x:=by
  intro xs
  induction xs with
  |nil=>rfl
  |cons y r ih=>
   show List.countP _ (D.int y::az r)=_;rw[List.countP_cons,ih,Ax];rfl
 show(if(flat (.int x)&&(az xs).all flat)=true then R.ok (D.int ((az xs).countP λy=>f_ y (.int x):Nat)) else R.bad)=_;rw[bg (by rw[gA];rfl),h]
theorem fN:∀(i:Nat){b:List Sm}{δ:iy},av Φ G n (b.take i) δ=.nx δ'->(av Φ G n (b.drop i) δ').val=v->(av Φ G n b δ).val=v
 |0,b,δ,h,k=>by cases h;exact k
 |i+1,[],δ,h,k=>by cases h;exact k
 |i+1,s::b,δ,h,k=>by
  rw[Fe,av] at h;rw[av]
  cases e:bp Φ G n s δ with
  |nx _=>rw[e] at h;exact fN i h k
  |_=>rw[e] at h;cases h
def CQ(Q:List (List Int))(m g room:Nat)(d:D):Prop:=∃Q' m' g',d=da Q' ((g':Nat):Int)/\bc Q' m'/\m'<=room/\dz Q'=Q'/\Kq (Q.map x4) g (Q'.map x4) g'
def Mv(Q:List (List Int))(m g room:Nat)(r:R D):Prop:=(∃d,r=.ok d/\CQ Q m g room d)\/∃c,r=.exc c/\[0,1,2].contains c=true
section
variable{Q:List (List Int)}{m g room:Nat}(s:bc Q m)
include s
theorem H_(k:Nat)(hm:m<room)(hr:room<=10)(hx:0<=x)(hw:w<4):Mv Q m g room (bt prog (k+3) 9 [da Q (g:Int),.int x,.int (w:Nat)]):=by
 obtain⟨h1,_,h3⟩:=zY k (g:=(g:Int)) (x:=x) s (by omega) (by omega) hw;by_cases h:EM x g m
 ·exact .inr ⟨_,h1 h,rfl⟩
 refine .inl ⟨_,h3 h (by omega),?_⟩;unfold EM at h;by_cases e:x=(2*m:Nat)
 ·obtain⟨j,rfl⟩:∃j,g=j+1:=⟨g-1,by omega⟩
  obtain⟨r1,r2⟩:=s.P_ hw j;refine⟨_,_,j,?_,r1,hm,bV _,r2⟩;rw[bg e,show(((j+1:Nat):Int))-1=j by omega];unfold A8 rh;rw[s.len,e,bh (by omega)]
 ·have r1:=s.yk (x:=x) (w:=w) (by omega)
  have r2:=(s.PZ (x:=x) (by omega) hw).q g;refine⟨_,_,g,?_,r1,hm,bV _,r2⟩;rw[bh e];unfold A8 rh Py.yk;rw[s.len,bg (by omega)]
theorem Qj(k:Nat)(hm:m<=room)(hr:room<=10):Mv Q m g room (bt prog (k+3) 11 [da Q (g:Int),.int x]):=by
 rw[r8 k s.four (by rw[s.len];omega)];split
 ·exact .inr ⟨_,rfl,rfl⟩
 rename_i h;rw[s.len] at h;obtain⟨x,rfl⟩:=MR (by omega:0<=x);rw[BO];split
 ·exact .inr ⟨_,rfl,rfl⟩
 rename_i e he;obtain⟨j,h1,h2,h3⟩:=s.unq (by omega) g he;exact .inl ⟨_,rfl,_,_,g+j,by unfold Q6;rw[h1],h2,by omega,bV _,h3⟩
theorem Ia(k:Nat){u l:Int}(hm:m+1<room)(hr:room<=10)(hu:0<=u/\u<(max 1 (2*m):Nat))(hl:0<=l/\l<(max 1 (2*m):Nat))(hw:w<4):Mv Q m g room (bt prog (k+2) 12 [da Q (g:Int),.int u,.int l,.int (w:Nat)]):=by
 rw[ME k s (by omega) hw];split
 ·exact .inr ⟨_,rfl,rfl⟩
 split
 ·exact .inr ⟨_,rfl,rfl⟩
 split
 ·exact .inr ⟨_,rfl,rfl⟩
 rename_i h1 h2 h3;have m0:m≠0:=λe=>h1 (.inl (by
  have:=s.len;rw[e] at this;rw[List.length_eq_zero_iff.mp this];rfl))
 have r1:=s.laid (u:=u) (l:=l) (w:=w) (by omega) (by omega) λe=>h2 e.symm;have r2:=(s.P0 (u:=u) (l:=l) (w:=w) (by omega) (by omega) λe=>h2 e.symm).q g;exact .inl ⟨_,rfl,_,_,g,rfl,r1,by omega,bV _,r2⟩
theorem ES(k:Nat)(hm:m<=room)(hr:room<=10):Mv Q m g room (bt prog (k+3) 14 [da Q (g:Int),.int x,.int y]):=by
 rw[HV k s.four (by rw[s.len];omega)];split
 ·exact .inr ⟨_,rfl,rfl⟩
 split
 ·exact .inr ⟨_,rfl,rfl⟩
 rename_i h e;rw[s.len] at h;obtain⟨x,rfl⟩:=MR (by omega:0<=x);obtain⟨y,rfl⟩:=MR (by omega:0<=y);rw[BO,BO];split
 ·exact .inr ⟨_,rfl,rfl⟩
 rename_i P he;obtain⟨j,h1,h2,h3⟩:=s.Ms (by omega) (by omega) (by omega) g he;exact .inl ⟨_,rfl,_,_,g+j,by unfold EN;rw[h1],h2,rm (Nat.sub_le _ _) hm,bV _,h3⟩
theorem Ib(k:Nat)(hm:m<=room)(hr:room<=10):Mv Q m g room (bt prog (k+3) 16 [da Q (g:Int),.int x,.int y,.int z]):=by
 rw[MI k s.four (by rw[s.len];omega)];split
 ·exact .inr ⟨_,rfl,rfl⟩
 split
 ·exact .inr ⟨_,rfl,rfl⟩
 rename_i h e;unfold Cj at h;rw[s.len] at h;obtain⟨x,rfl⟩:=MR (by omega:0<=x);obtain⟨y,rfl⟩:=MR (by omega:0<=y);obtain⟨z,rfl⟩:=MR (by omega:0<=z);rw[BO,BO,BO]
 cases he:se (Q.getD x []) (Q.getD y []) (Q.getD z []) with
 |none=>exact .inr ⟨_,rfl,rfl⟩
 |some f=>
  obtain⟨h1,h2⟩:=s.P9 (by omega) (by omega) (by omega) (by omega) (by omega) (by omega) he g;exact .inl ⟨_,rfl,_,_,g,rfl,h1,hm,bV _,h2⟩
end
theorem MM(k:Nat){m g room:Nat}(s:bc Q m)(hn:dz Q=Q)(hm:m<=room)(hr:room<=4)(cell:Int):∃d,bt prog (k+4) 37 [da Q (g:Int),.int cell,.int (room:Nat)]=.ok d/\CQ Q m g room d:=by
 have md:∀x y:Int,0<y->ag .mod (.int x) (.int y)=.ok (.int (x%y)):=λx y h=>cY _ _ h;have dv:∀x y:Int,0<y/\y<1073741824->ag .fdiv (.int x) (.int y)=.ok (.int (x/y)):=λx y h=>dY _ _ h;have a0:ag .at (da Q (g:Int)) (.int 0)=.ok (.ar (Q.map af)):=rfl;have a1:b_ .len (.ar (Q.map af))=.ok (.int (m:Nat)):=by rw[jW,gh,s.len]
 have mx:∀x y:Int,ag .max (.int x) (.int y)=.ok (.int (if y>x then y else x)):=λ_ _=>rfl;have l3:(if 2*((m:Nat):Int)>1 then 2*((m:Nat):Int) else 1)=((max 1 (2*m):Nat):Int):=by split<;>omega
 have n3:∀a b c:D,my [a,b,c] 0=some a/\my [a,b,c] 1=some b/\my [a,b,c] 2=some c:=λa b c=>⟨rfl,rfl,rfl⟩
 have S_:=λx=>md x ((m:Nat)+1) (by omega);have ml:=λx=>md x ((max 1 (2*m):Nat):Int) (by omega);have Wq:=λx=>md x (((max 1 (2*m):Nat):Int)+1) (by omega);have m2:=λx=>md x 2 (by decide);have m4:=λx=>md x 4 (by decide);have m5:=λx=>md x 5 (by decide);have d5:=λx=>dv x 5 (by decide);have UD:=λx=>dv x 10 (by decide);have Q_:=λx=>dv x 31 (by decide);have MN:=λx=>dv x 961 (by decide);have ks:CQ Q m g room (da Q (g:Int)):=⟨Q,m,g,rfl,s,hm,hn,Kq.refl _ _⟩
 have Qk:∀x:Int,∃w:Nat,w<4/\x%4=(w:Nat):=λx=>⟨(x%4).toNat,by omega,by omega⟩
 have v0:∀x w,0<=x->w<4->m<room->Mv Q m g room (bt prog (k+3) 9 [da Q (g:Int),.int x,.int ((w:Nat):Int)]):=λx w h1 h2 h=>H_ s k h (by omega) h1 h2;have v1:∀x,Mv Q m g room (bt prog (k+3) 11 [da Q (g:Int),.int x]):=λx=>Qj s k hm (by omega);have v2:∀(u l:Int)(w:Nat),0<=u/\u<(max 1 (2*m):Nat)->0<=l/\l<(max 1 (2*m):Nat)->w<4->m+1<room->Mv Q m g room (bt prog (k+3) 12 [da Q (g:Int),.int u,.int l,.int ((w:Nat):Int)]):=λu l w h1 h2 h3 h=>Ia s (k+1) h (by omega) h1 h2 h3;have v3:∀x y,Mv Q m g room (bt prog (k+3) 14 [da Q (g:Int),.int x,.int y]):=λx y=>ES s k hm (by omega);have v4:∀x y z,Mv Q m g room (bt prog (k+3) 16 [da Q (g:Int),.int x,.int y,.int z]):=λx y z=>Ib s k hm (by omega);show∃d,(av (bt prog (k+3)) prog.fk 1000 fi [zs (da Q (g:Int)),zi cell,zi (room:Nat),none,none,none,none,none]).val=.ok d/\_;generalize da Q (g:Int)=S,D.ar (Q.map af)=U at*;obtain⟨x,y,z,e6⟩:∃x y z:Int,av (bt prog (k+3)) prog.fk 1000 (fi.take 6) [some (false,S),some (false,.int cell),some (false,.int (room:Nat)),none,none,none,none,none]=.nx [some (false,S),some (false,.int cell),some (false,.int (room:Nat)),some (false,.int (m:Nat)),some (false,.int ((max 1 (2*m):Nat):Int)),some (false,.int (cell/10)),some (true,.ak [.int x,.int y,.int z]),some (false,S)]:=by
  generalize max 1 (2*m)=L at*;by_cases h:cell/5%2=0
  ·exact⟨0,1,2,by simp only[fi,Fe,List.take_zero,av,bp,du,ev,ck,bf,cf,au,ai,aq,cj,cg,Za,Zc,ba,bq,Zf,Zi,Zj,Zk,Zl,Zq,cw,dq,gV,Zt,Zu,ZA,ZG,a0,a1,BC,mx,l3,S_,UD,Q_,MN,d5,m2,h,beq_self_eq_true]⟩
  ·exact⟨_,_,_,by simp only[fi,Fe,List.take_zero,av,bp,du,ev,ck,bf,cf,au,ai,aq,cj,cg,Za,Zc,ba,bq,Zf,Zi,Zj,Zk,Zl,Zq,cw,dq,gV,Zt,Zu,ZA,ZG,a0,a1,BC,mx,l3,S_,UD,Q_,MN,d5,m2,beq_false_of_ne h];rfl⟩
 suffices∃d,(av (bt prog (k+3)) prog.fk 1000 (fi.drop 6) [zs S,zi cell,zi (room:Nat),zi (m:Nat),zi ((max 1 (2*m):Nat):Int),zi (cell/10),some (true,.ak [.int x,.int y,.int z]),zs S]).val=.ok d/\CQ Q m g room d from this.imp λd h=>⟨fN 6 e6 h.1,h.2⟩
 generalize max 1 (2*m)=L at*;have m0:(0:Int)<(L:Nat):=by omega
 obtain⟨w,w4,ew⟩:=Qk (cell/10/31);obtain⟨v,Wr,Ws⟩:=Qk (cell/10/961);have b0:decide ((m:Int)<(room:Nat))=decide (m<room):=by simp
 have b1:decide ((m:Int)+1<(room:Nat))=decide (m+1<room):=by simp;omega
 have pos:∀x y:Int,0<y->0<=x%y/\x%y<y:=λx y h=>⟨Int.emod_nonneg _ (by omega),Int.emod_lt_of_pos _ h⟩
 rcases(by omega:cell%5=0\/cell%5=1\/cell%5=2\/cell%5=3\/cell%5=4) with h|h|h|h|h
 ·by_cases hl:m<room
  ·rcases v0 _ w (pos (cell/10) (L+1) (by omega)).1 w4 hl with⟨d,e,hc⟩|⟨c,e,hc⟩<;>(first|refine⟨d,?_,hc⟩|refine⟨S,?_,ks⟩)<;>simp only[fi,EX,DJ,av,bp,du,ev,ck,bf,cf,au,ai,aq,cj,cg,Za,Zc,Zd,ba,bq,Zf,Zi,Zj,Zk,Zl,Zq,cw,dq,gV,Zu,ZA,ZB,ZC,ZG,ZI,m5,h,Int.reduceBEq,b0,ya hl,Wq,ew,Q_,m4,e,hc]<;>rfl
  ·(first|refine⟨d,?_,hc⟩|refine⟨S,?_,ks⟩)<;>simp only[fi,EX,DJ,av,bp,du,ev,ck,bf,cf,au,ai,aq,cj,cg,Za,Zc,ba,bq,Zf,Zi,Zj,Zk,Zl,Zq,cw,dq,gV,Zu,ZA,ZB,ZC,ZG,ZI,m5,h,Int.reduceBEq,b0,wt hl]<;>rfl
 ·rcases v1 (cell/10%(m+1)) with⟨d,e,hc⟩|⟨c,e,hc⟩<;>(first|refine⟨d,?_,hc⟩|refine⟨S,?_,ks⟩)<;>simp only[fi,EX,DJ,av,bp,du,ev,ck,bf,cf,au,ai,aq,cj,cg,Za,Zc,Zd,ba,bq,Zf,Zi,Zj,Zk,Zl,Zq,cw,dq,gV,Zu,ZA,ZB,ZC,ZG,ZI,m5,h,Int.reduceBEq,S_,e,hc]<;>rfl
 ·by_cases hl:m+1<room
  ·rcases v2 _ _ v (pos (cell/10) L m0) (pos (cell/10/31) L m0) Wr hl with⟨d,e,hc⟩|⟨c,e,hc⟩<;>(first|refine⟨d,?_,hc⟩|refine⟨S,?_,ks⟩)<;>simp only[fi,EX,DJ,av,bp,du,ev,ck,bf,cf,au,ai,aq,cj,cg,Za,Zc,Zd,ba,bq,Zf,Zi,Zj,Zk,Zl,Zq,cw,dq,gV,Zu,ZA,ZB,ZC,ZG,ZI,m5,h,Int.reduceBEq,b1,ya hl,ml,Ws,Q_,MN,m4,e,hc]<;>rfl
  ·(first|refine⟨d,?_,hc⟩|refine⟨S,?_,ks⟩)<;>simp only[fi,EX,DJ,av,bp,du,ev,ck,bf,cf,au,ai,aq,cj,cg,Za,Zc,ba,bq,Zf,Zi,Zj,Zk,Zl,Zq,cw,dq,gV,Zu,ZA,ZB,ZC,ZG,ZI,m5,h,Int.reduceBEq,b1,wt hl]<;>rfl
 ·rcases v3 (if((m:Nat):Int)-2>x then((m:Nat):Int)-2 else x) (if((m:Nat):Int)-1>y then((m:Nat):Int)-1 else y) with⟨d,e,hc⟩|⟨c,e,hc⟩<;>(first|refine⟨d,?_,hc⟩|refine⟨S,?_,ks⟩)<;>simp only[fi,EX,DJ,av,bp,du,ev,ck,bf,cf,au,ai,aq,cj,cg,Za,Zc,Zd,ba,bq,Ze,Zf,Zi,Zj,Zk,Zl,Zq,cw,dq,gV,Zu,ZA,ZB,ZC,ZG,ZI,m5,h,Int.reduceBEq,n3,mx,e,hc]<;>rfl
 ·rcases v4 x y z with⟨d,e,hc⟩|⟨c,e,hc⟩<;>(first|refine⟨d,?_,hc⟩|refine⟨S,?_,ks⟩)<;>simp only[fi,EX,DJ,av,bp,du,ev,ck,bf,cf,au,ai,aq,cj,cg,Za,Zc,Zd,ba,bq,Ze,Zf,Zi,Zj,Zk,Zl,Zq,cw,dq,gV,Zu,ZA,ZB,ZC,ZG,ZI,m5,h,Int.reduceBEq,n3,e,hc]<;>rfl
theorem nU(h:(ck Φ G false its (bf (aq false its) δ)).bind (bo k)=.ok xs)(Q:Nat->iy->Prop)(q0:Q 0 (bf (aq false its) δ))
  (st:∀i (h:i<xs.length) δ,Q i δ->∃δ',dm Φ G n tg body xs[i] δ=.nx δ'/\Q (i+1) δ') (f:∀δ',Q xs.length δ'->(av Φ G n ss δ').val=v):(av Φ G n (.loop k its tg body::ss) δ).val=v:=by
 obtain⟨δ',e,q⟩:=bM h Q q0 st;exact c9 e (f δ' q)
theorem uD:∀r:List Int,ju (az r) (az r)=true
 |[]=>rfl
 |x::r=>by show(x==x&&ju (az r) (az r))=true;rw[uD r,beq_self_eq_true];rfl
theorem nV:∀Q:List (List Int),ju (Q.map af) (Q.map af)=true
 |[]=>rfl
 |r::Q=>by show(ju (az r) (az r)&&ju (Q.map af) (Q.map af))=true;rw[uD,nV Q];rfl
theorem MO(k:Nat){m g:Nat}(s:bc Q m)(hn:dz Q=Q)(hm:m<=10):bt prog (k+2) 26 [da Q (g:Int)]=.ok (.bl true):=by
 have hQ:=s.len;have hf:=iJ s.four;have i1:b_ .isTup (da Q (g:Int))=.ok (.bl true):=g5 Q g;have i2:=rF Q;have a0:ag .at (da Q (g:Int)) (.int 0)=.ok (.ar (Q.map af)):=rfl;have a1:ag .at (da Q (g:Int)) (.int 1)=.ok (.int (g:Nat)):=rfl;have l2:b_ .len (da Q (g:Int))=.ok (.int 2):=rfl;have lm:b_ .len (.ar (Q.map af))=.ok (.int (m:Nat)):=by rw[jW,gh,hQ]
 have wh:=HR k;have it:bo .seq [.ar (Q.map af)]=.ok (Q.map af):=aX (by rw[gh];omega);have nb:bt prog (k+1) 24 [.ar (Q.map af)]=.ok (.ar (Q.map af)):=by
  show(av (bt prog k) prog.fk 1000 oj [zs (.ar (Q.map af)),none,none,none,none]).val=_;rw[eY it (λr hr=>by rw[s.four r hr];decide) (by omega) (by omega),hn];rfl
 have qe:ag .eq (.ar (Q.map af)) (.ar (Q.map af))=.ok (.bl true):=by
  show(if(dr 9 (.ar (Q.map af))&&dr 9 (.ar (Q.map af))&&true)=true then R.ok (D.bl (ju (Q.map af) (Q.map af))) else R.bad)=_;rw[show dr 9 (.ar (Q.map af))=true from bQ 7 Q,nV];rfl
 have z1:decide (((g:Nat):Int)<0)=false:=by simp
 have z2:decide (((10:Int))<(m:Nat))=false:=by simp;omega
 show(av (bt prog (k+1)) prog.fk 1000 cO [zs (da Q (g:Int)),none,none,none]).val=_;generalize da Q (g:Int)=S at*;refine fN (δ':=[zs S,some (true,.ak []),none,none]) 3 (by generalize D.ar (Q.map af)=U at*;simp only[cO,Fe,List.take_zero,av,bp,du,ev,ck,bf,au,ai,aq,cj,cg,Za,Zc,ba,bq,Zf,Zi,Zj,Zk,Zq,cw,dq,gV,Zt,Zv,ZC,ZE,ZH,i1,i2,a0,a1,l2,lm,wh,z1,z2,beq_self_eq_true]) ?_;refine nU (xs:=Q.map af) (by generalize D.ar (Q.map af)=U at*;simp only[ev,ck,bf,ai,aq,cj,cg,Zf,Zk,Zq,cw,a0,it]) (λi δ=>∃c2,δ=[zs S,some (true,.ak (az (Q.take i).flatten)),c2,none]) ⟨_,rfl⟩ ?_ ?_
 ·rintro i hi δ ⟨c2,rfl⟩
  rw[gh] at hi;rw[Jx];have h4:=s.four _ (xk hi);have ht:=vF Q[i];have hl:b_ .len (af Q[i])=.ok (.int 4):=by show R.ok (D.int ((az Q[i]).length:Nat))=_;simp[az,h4]
  have hs:b_ .list (af Q[i])=.ok (.ak (az Q[i])):=rfl;have hk:=iJ (R:=Q.take i) λr hr=>s.four r (List.mem_of_mem_take hr);rw[Be] at hk;generalize af Q[i]=T at*;refine⟨_,Me (bN (e9 (t:=false) (by simp only[du,ev,bf,au,ai,cj,cg,Za,Zf,Zi,Zj,Zk,Zl,Zq,cw,dq,gV,Zv,ZH,ht,hl,beq_self_eq_true]) rfl) (bN (aT (v:=.ak (az (Q.take (i+1)).flatten)) rfl (d7 rfl hs ?_)) rfl)),_,rfl⟩;rw[gE _ _ (by simp only[az,gh];omega),DD hi,DG,az,az,←wj];simp only[Cm,List.flatten_nil,A_];rfl
 ·rintro _ ⟨c2,rfl⟩
  rw[gh,BV];have tw:=s.two;generalize Q.flatten=W at*;refine nU (xs:=az W) (bH (by rw[az,gh];omega)) (λ_ δ=>∃b c3,δ=[zs S,some (b,.ak (az W)),c2,c3]) ⟨_,_,rfl⟩ ?_ ?_
  ·rintro i hi δ ⟨b,c3,rfl⟩
   have hi:i<W.length:=by simpa[az] using hi
   rw[show(az W)[i]=.int W[i] by simp[az]];have hr:=tw.js _ (xk hi);have hc:=tw.cnt W[i].toNat (by omega);rw[Int.toNat_of_nonneg hr.1] at hc;have JI:=sF W[i] W;rw[hc] at JI;exact⟨_,Me (bN (e9 (t:=false) (by cases b<;>simp only[du,ev,ck,bf,cf,au,ai,aq,cj,cg,Za,Zf,Zi,Zj,Zk,Zl,Zq,cw,dq,gV,Zv,ZH,wh,JI]<;>rfl) rfl) rfl),_,_,rfl⟩
  ·rintro _ ⟨b,c3,rfl⟩
   generalize D.ar (Q.map af)=U at*;simp only[cO,EX,DJ,av,bp,ev,ck,bf,ai,aq,cj,cg,Zc,Zf,Zk,Zq,cw,a0,nb,qe];rfl
abbrev Ta(m:Nat)(fx:List (Nat×Nat)):Prop:=(∀x∈fx,(x.1<4*m/\x.2<4*m)/\x.1≠x.2)/\∀j,j<fx.length->∀i,i<j->((fx.getD i (0,0)).1≠(fx.getD j (0,0)).1/\(fx.getD i (0,0)).2≠(fx.getD j (0,0)).1)/\((fx.getD i (0,0)).1≠(fx.getD j (0,0)).2/\(fx.getD i (0,0)).2≠(fx.getD j (0,0)).2)
theorem mI(h:Ta m fx):GP (iw m fx)/\∀x∈fx,x.1<4*m/\x.2<4*m:=
 ⟨GP.Mb (λx hx=>(h.1 x hx).1) (λx hx=>(h.1 x hx).2) λi j hi hj=>h.2 j hj i hi,λx hx=>(h.1 x hx).1⟩
theorem BL{a b c:Nat}(h:a=b\/a=c):a∈[b,c]:=by simpa using h
theorem Ic(k:Nat)(ns:List Int)(hr:room=2\/room=3):∃(Q:List (List Int))(m g:Nat),bt prog (k+4) 28 [.ig ns,.int (room:Nat)]=.ok (da Q (g:Int))/\bc Q m/\m<=room/\dz Q=Q/\g<=2:=by
 have md:∀x y:Int,0<y->ag .mod (.int x) (.int y)=.ok (.int (x%y)):=λx y h=>cY _ _ h;have dv:∀x y:Int,0<y/\y<1073741824->ag .fdiv (.int x) (.int y)=.ok (.int (x/y)):=λx y h=>dY _ _ h;have c0:bt prog (k+3) 21 [.ig ns,.int 0]=_:=gM (k+2) ns 0;have c1:bt prog (k+3) 21 [.ig ns,.int 1]=_:=gM (k+2) ns 1;have c2:bt prog (k+3) 21 [.ig ns,.int 2]=_:=gM (k+2) ns 2;have c3:bt prog (k+3) 21 [.ig ns,.int 3]=_:=gM (k+2) ns 3;have m2:=λx=>md x 2 (by decide);have m3:=λx=>md x 3 (by decide);have m4:=λx=>md x 4 (by decide);have Ra:=λx=>md x 16 (by decide);have mr:=λx=>md x ((room:Nat)+1) (by omega);have d2:=λx=>dv x 2 (by decide);have d4:=λx=>dv x 4 (by decide);obtain⟨m0,Tb,em⟩:∃m0:Nat,m0<=room/\je ns 0%((room:Nat)+1)=(m0:Nat):=⟨(je ns 0%((room:Nat)+1)).toNat,by have:=Int.emod_lt_of_pos (je ns 0) (by omega:((room:Nat):Int)+1>0);omega,(Int.toNat_of_nonneg (Int.emod_nonneg _ (by omega))).symm⟩
 obtain⟨g,hg,eg⟩:∃g:Nat,g<=2/\je ns 3%3=(g:Nat):=⟨(je ns 3%3).toNat,by omega,by omega⟩
 obtain⟨W,eW⟩:∃W,je ns 2%16=W:=⟨_,rfl⟩
 obtain⟨fx,m,c,d,b5,c6,c7,c8,hm,⟨gp,hf⟩,hl,e⟩:∃(fx:List (Nat×Nat))(m:Nat)(c d:Slot)(b5:Bool)(c6 c7 c8:Slot),m<=room/\(GP (iw m fx)/\∀x∈fx,x.1<4*m/\x.2<4*m)/\fx.length<=1000/\av (bt prog (k+3)) prog.fk 1000 (gy.take 6) [some (false,.ig ns),some (false,.int (room:Nat)),none,none,none,none,none,none,none]=.nx [some (false,.ig ns),some (false,.int (room:Nat)),c,d,some (false,.int (m:Nat)),some (b5,.ak (fx.map aj)),c6,c7,c8]:=by
  rcases(by omega:je ns 1%3=0\/je ns 1%3=1\/je ns 1%3=2/\room=2\/je ns 1%3=2/\room=3) with h|h|⟨h,z⟩|⟨h,z⟩
  ·refine⟨[],m0,zi 0,zi W,true,none,none,none,Tb,⟨GP.Cd m0,by simp⟩,by simp,?_⟩
   simp only[gy,Fe,List.take_zero,av,bp,du,ev,ck,bf,cf,au,ai,aq,cj,cg,Za,Zc,ba,bq,Zf,Zi,Zj,Zk,Zl,Zn,Zo,Zq,cw,dq,gV,Zt,Zu,ZA,ZE,ZG,c0,c1,c2,m3,Ra,mr,em,eW,h,Int.reduceBEq,A']
  ·obtain⟨A,hA,eA⟩:=HW (W)
   obtain⟨B,hB,eB⟩:=HW (W/2);obtain⟨E,hE,eE⟩:=MJ (W/4);obtain⟨m,hm,h2,e2⟩:∃m:Nat,m<=room/\(m=2\/m=3)/\ag .max (.int 2) (.int (m0:Nat))=.ok (.int (m:Nat)):=by
    rcases(by omega:m0=0\/m0=1\/m0=2\/m0=3) with rfl|rfl|rfl|rfl
    ·exact⟨2,by omega,.inl rfl,rfl⟩
    ·exact⟨2,by omega,.inl rfl,rfl⟩
    ·exact⟨2,by omega,.inl rfl,rfl⟩
    ·exact⟨3,by omega,.inr rfl,rfl⟩
   refine⟨[((A+2)%4,4+B),((A+E)%4,4+(B+E)%4)],m,zi 1,zi W,true,zi (A:Nat),zi (B:Nat),zi (E:Nat),hm,?_,by simp,?_⟩
   ·exact mI ((by decide+kernel:∀A∈[0,2],∀B∈[0,2],∀E∈[1,3],∀m∈[2,3],Ta m [((A+2)%4,4+B),((A+E)%4,4+(B+E)%4)]) A (BL hA) B (BL hB) E (BL hE) m (BL h2))
   ·simp only[gy,Fe,List.take_zero,av,bp,du,ev,ck,bf,cf,au,ai,aq,cj,cg,Za,Zc,ba,bq,Zf,Zi,Zj,Zk,Zl,Zm,Zn,Zo,Zq,cw,dq,gV,Zt,Zu,ZA,ZE,ZG,c0,c1,c2,m2,m3,m4,Ra,mr,em,eW,h,e2,BC,eA,eB,eE,d2,d4,Int.reduceBEq]
    rfl
  ·refine⟨[],m0,zi 2,zi W,true,none,none,none,Tb,⟨GP.Cd m0,by simp⟩,by simp,?_⟩
   simp only[gy,Fe,List.take_zero,av,bp,du,ev,ck,bf,cf,au,ai,aq,cj,cg,Za,Zc,ba,bq,Zf,Zi,Zj,Zk,Zl,Zn,Zo,Zq,cw,dq,gV,Zt,Zu,ZA,ZE,ZG,c0,c1,c2,m3,Ra,mr,em,eW,h,wt (by omega:¬(2:Int)<(room:Nat)),Int.reduceBEq,A']
  ·obtain⟨s,p,j,q,hs,hp,hj,hq,ec⟩:=vY (k+2) 0 1 2 W
   have ec:bt prog (k+3) 27 [.int 0,.int 1,.int 2,.int W]=_:=ec;refine⟨AQ 0 1 2 s p j q,3,zi 2,zi W,false,none,none,none,by omega,?_,by simp[AQ],?_⟩
   ·exact mI ((by decide+kernel:∀s∈[1,3],∀p∈[0,2],∀j∈[1,3],∀q∈[0,2],Ta 3 (AQ 0 1 2 s p j q)) s (BL hs) p (BL hp) j (BL hj) q (BL hq))
   ·simp only[gy,Fe,List.take_zero,av,bp,du,ev,ck,bf,cf,au,ai,aq,cj,cg,Za,Zc,ba,bq,Zf,Zi,Zj,Zk,Zl,Zo,Zq,cw,dq,gV,Zt,Zu,ZA,ZE,ZG,c0,c1,c2,m3,Ra,mr,em,eW,h,ec,ya (by omega:(2:Int)<(room:Nat)),Int.reduceBEq]
    rfl
 have sh:=pM (pk:=λk=>nj ns (4+k)) gp;obtain⟨k1,k2⟩:=j3 m _ (vJ (λk=>nj ns (4+k)) m fx);have hR:bt prog (k+3) 23 [.ig ns,.int 4,.int (m:Nat),.ak (fx.map aj)]=_:=HS k ns 4 m (by omega) hl hf;have hN:bt prog (k+3) 24 [.ak ((km m (zx (λk=>nj ns (4+k)) (iw m fx)).owner).map af)]=_:=rY (k+2) k2 (by omega);refine⟨_,m,g,?_,sh,hm,bV _,hg⟩;show(av (bt prog (k+3)) prog.fk 1000 gy [zs (.ig ns),zi (room:Nat),none,none,none,none,none,none,none]).val=_;refine fN 6 e ?_;unfold da;generalize fx.map aj=FX,((m:Nat):Int)=M at*;cases b5<;>simp only[gy,EX,DJ,av,bp,ev,ck,bf,cf,ai,aq,cj,cg,Zc,Zf,Zi,Zj,Zk,Zl,Zo,Zp,Zq,dq,gV,hR,hN,c3,m3,eg]<;>rfl
theorem ET(Q Q':List (List Int))(g g':Int):∃b,ag .ne (da Q g) (da Q' g')=.ok (.bl b):=by
 have h:∀(Q:List (List Int))(g:Int),dr 9 (da Q g)=true:=λQ g=>by
  show(lg 7 (Q.map af)&&true)=true;rw[bQ 6];rfl
 refine⟨!f_ (da Q g) (da Q' g'),bg ?_⟩;rw[h,h];rfl
theorem Ql(s:bc Q m):UC Q m=tw (Q.map x4):=s.PY (λi=>(Fb Q m (i,2)).2) (λi=>(Fb Q m (i,2)).1) λi hi=>(uB s (z7 hi)).2
noncomputable def EU(X:List X4)(g:Nat):D:=.ar [.ak ((Ab (ltV X g)).map λx=>qc (x.1+ -3*tw X,(1-2*(tw X%2))*x.2)),.int ((g:Nat)+(st X:Nat))]
theorem Qm(k:Kq X g Y h):EU Y h=EU X g:=by
 obtain⟨a,d,b,c⟩:=k;obtain⟨⟨n1,_⟩,v1⟩:=rK X g;obtain⟨⟨n2,_⟩,v2⟩:=rK Y h;unfold EU;rw[vL n1 n2 (d:=3*d) (c:=1-2*(d%2)) (by omega) λi=>by rw[v1,v2];exact c i,wk,show((h:Nat):Int)+(st Y:Nat)=(g:Nat)+(st X:Nat) by omega,b]
 congr 3
 refine Ae λx _=>?_;show qc (x.1+3*d+ -3*(tw X+d),(1-2*((tw X+d)%2))*((1-2*(d%2))*x.2))=_;rw[←Int.mul_assoc,show x.1+3*d+ -3*(tw X+d)=x.1+ -3*tw X by omega]
 congr 3
 rcases Fm (tw X) with h|h<;>rcases Fm d with k|k<;>rw[show(tw X+d)%2=_ from Int.add_emod (tw X) d 2,h,k]<;>decide
theorem EV(k:Nat){m g:Nat}(s:bc Q m)(hm:m<=4)(hg:g<=10):bt prog (k+3) 38 [da Q (g:Int)]=.ok (EU (Q.map x4) g):=by
 obtain⟨⟨nd,lk⟩,_⟩:=rK (Q.map x4) g;rw[gh,s.len] at lk;have gd:Jc (ltV (Q.map x4) g)=true:=by
  have:=x9 (.inl rfl) nd lk;unfold Jc;rw[ya (by omega)];rfl
 have t1:bt prog (k+2) 35 [.ar (Q.map af),.int (g:Nat)]=_:=z9 k s (by omega) (by omega);have t2:bt prog (k+2) 30 [.ar (Q.map af)]=_:=z8 k s (by omega);rw[Ql s] at t2;have t3:∀w:Int,bt prog (k+2) 36 [pj (ltV (Q.map x4) g),.int (-3*w),.int (1-2*(w%2))]=_:=λw=>ER (k+1) nd gd (by omega);have Wt:∀w:Int,ag .mul (.int (-3)) (.int w)=.ok (.int (-3*w)):=λw=>jV _ _ (.inl (by decide));have m2:∀x:Int,ag .mod (.int x) (.int 2)=.ok (.int (x%2)):=λx=>cY _ _ (by decide);have a0:ag .at (da Q (g:Int)) (.int 0)=.ok (.ar (Q.map af)):=rfl;have a1:ag .at (da Q (g:Int)) (.int 1)=.ok (.int (g:Int)):=rfl;have rl:∀j,(((Q.take j).flatMap λr=>p3 (x4 r) 2).map qc).length<=2*j:=λj=>by
  have:∀L:List (List Int),(L.flatMap λr=>p3 (x4 r) 2).length=2*L.length:=λL=>by
   induction L with
   |nil=>rfl
   |cons r L ih=>rw[Ij,vm,ih];show 2+_=_;simp only[ja];omega
  rw[gh,this,Be];omega
 show(av (bt prog (k+2)) prog.fk 1000 kK [zs (da Q (g:Int)),none,none,none,none]).val=_;unfold EU;generalize tw (Q.map x4)=W at*;have t3:=t3 W;generalize (Ab (ltV (Q.map x4) g)).map (λx=>qc (x.1+ -3*W,(1-2*(W%2))*x.2))=L,pj (ltV (Q.map x4) g)=T,da Q (g:Int)=S at*;refine c9 (aT (v:=.int W) rfl (by simp only[ev,ck,cj,cg,Zf,Zk,cw,a0,t2])) (c9 (aT (v:=.ak L) rfl (by simp only[ev,ck,cj,cg,ba,bq,Zf,Zi,Zj,Zk,Zl,cw,Zs,ZB,ZO,a0,a1,t1,Wt,m2,BC,t3])) (c9 rfl ?_));refine nU (by simp only[ev,ck,bf,ai,aq,cj,cg,ba,bq,Zf,Zi,Zj,Zk,Zq,cw,Zr,Zs,a0];exact aX (by rw[gh,s.len];omega)) (λi δ=>∃c4,δ=[zs S,zi W,zs (.ak L),some (true,.ak (((Q.take i).flatMap λr=>p3 (x4 r) 2).map qc)),c4]) ⟨none,rfl⟩ ?_ ?_
 ·rintro i hi δ ⟨c4,rfl⟩
  have hq:i<Q.length:=by simpa using hi
  rw[Jx];have hl:=rl i;have e:(((Q.take (i+1)).flatMap λr=>p3 (x4 r) 2).map qc)=(((Q.take i).flatMap λr=>p3 (x4 r) 2).map qc)++(p3 (x4 Q[i]) 2).map qc:=by
   rw[DD hq,Js,wj,Ij,List.flatMap_nil,A_]
  rw[e];obtain⟨a,b,c,d,Wu⟩:=lh (s.four _ (xk hq));rw[Wu];have ad:=gE (((Q.take i).flatMap λr=>p3 (x4 r) 2).map qc) ((p3 (x4 [a,b,c,d]) 2).map qc) (by show _+2<=_;rw[s.len] at hq;omega);generalize ((Q.take i).flatMap λr=>p3 (x4 r) 2).map qc=P at*;exact⟨_,Me (bN (aT rfl (d7 rfl rfl ad)) rfl),_,rfl⟩
 rintro δ ⟨c4,rfl⟩;rw[gh,BV,←pS];have rg:bt prog (k+2) 31 [.ak ((jb (Q.map x4) (y' Q.length)).map qc)]=.ok (.int (st (Q.map x4):Nat)):=by
  have:=rl Q.length;rw[BV,←pS,gh,s.len] at this;have:=uC (k+1) (l:=jb (Q.map x4) (y' Q.length)) (by rw[s.len];omega);rw[this];unfold st;rw[gh];rfl
 generalize (jb (Q.map x4) (y' Q.length)).map qc=PL at*;simp only[av,bp,ev,ck,bf,cf,ai,aq,cj,cg,Zc,Zf,Zi,Zj,Zk,Zl,Zo,Zp,Zq,cw,dq,gV,ZA,a1,rg];rfl
theorem Qn(X:List X4)(g:Nat):ag .ne (EU X g) (EU X g)=.ok (.bl false):=by
 have h1:∀L:List (Int×Int),lg 7 (L.map qc)=true:=λL=>by
  rw[show L.map qc=(L.map λp=>[p.1,p.2]).map af by rw[wk];rfl];exact bQ 6 _
 have h2:∀L:List (Int×Int),ju (L.map qc) (L.map qc)=true:=λL=>by
  rw[show L.map qc=(L.map λp=>[p.1,p.2]).map af by rw[wk];rfl];exact nV _
 unfold EU;rw[show((Ab (ltV X g)).map λx=>qc (x.1+ -3*tw X,(1-2*(tw X%2))*x.2))=((Ab (ltV X g)).map λx=>(x.1+ -3*tw X,(1-2*(tw X%2))*x.2)).map qc by rw[wk];rfl];generalize (Ab (ltV X g)).map (λx=>(x.1+ -3*tw X,(1-2*(tw X%2))*x.2))=L;have p:dr 9 (D.ar [.ak (L.map qc),.int ((g:Nat)+(st X:Nat))])=true:=by
  show(lg 7 (L.map qc)&&true)=true;rw[h1];rfl
 have q:f_ (D.ar [.ak (L.map qc),.int ((g:Nat)+(st X:Nat))]) (D.ar [.ak (L.map qc),.int ((g:Nat)+(st X:Nat))])=true:=by
  show(ju (L.map qc) (L.map qc)&&(((g:Nat)+(st X:Nat):Int)==_&&true))=true;rw[h2,beq_self_eq_true];rfl
 have r:AU (D.ar [.ak (L.map qc),.int ((g:Nat)+(st X:Nat))]) (D.ar [.ak (L.map qc),.int ((g:Nat)+(st X:Nat))])=true:=rfl;generalize D.ar [.ak (L.map qc),.int ((g:Nat)+(st X:Nat))]=K at*;show(if(dr 9 K&&dr 9 K&&AU K K)=true then R.ok (D.bl (!f_ K K)) else R.bad)=_;rw[p,q,r];rfl
theorem Qo:∀X:List X4,st X<=2*X.length:=λX=>by
 have:∀X:List X4,(tq X).length=2*X.length:=λX=>by
  induction X with
  |nil=>rfl
  |cons r X ih=>show(p3 r 2++tq X).length=_;rw[vm,ih];show 2+_=_;simp only[ja];omega
 rw[hG,←this];exact nB _ _
theorem law_true:∀ns:List Int,ns.length<=63->bt prog depth lawId [.ig ns]=.ok (.bl true):=by
 intro ns _;have c1:bt prog 11 21 [.ig ns,.int 1]=.ok (.int (je ns 1)):=gM 10 ns 1;have md:∀x y:Int,0<y->ag .mod (.int x) (.int y)=.ok (.int (x%y)):=λx y h=>cY _ _ h;have Wv:=λx=>md x 4 (by decide);have d3:∀x:Int,ag .fdiv (.int x) (.int 3)=.ok (.int (x/3)):=λx=>dY _ _ (by decide);obtain⟨Q0,m0,g0,e2,s0,Tb,n0,W6⟩:=Ic 7 ns (room:=3) (.inr rfl);have e2:bt prog 11 28 [.ig ns,.int 3]=_:=e2;have a0:bt prog 11 38 [da Q0 (g0:Int)]=_:=EV 8 s0 (by omega) (by omega);have sl:=Qo (Q0.map x4);rw[gh,s0.len] at sl;show(av (bt prog 11) prog.fk 1000 Jl [zs (.ig ns),none,none,none,none]).val=_;refine c9 (aT (v:=da Q0 (g0:Int)) rfl (by simp only[ev,ck,cj,cg,Zf,Zk,dq,gV,e2])) (c9 (aT (v:=EU (Q0.map x4) g0) rfl (by simp only[ev,ck,cj,cg,ba,bq,Zf,Zi,Zj,Zk,Zl,dq,gV,Zu,a0])) ?_);obtain⟨n,hn,en⟩:∃n:Nat,n<=4/\1+je ns 1/3%4=(n:Nat):=⟨(1+je ns 1/3%4).toNat,by omega,by omega⟩
 refine rM (m:=n) (by simp only[ev,ck,bf,cf,ai,aq,cj,cg,ba,bq,Zf,Zi,Zj,Zk,Zo,Zq,dq,gV,Zu,ZA,c1,d3,Wv,en];exact aL (by omega)) (λ_ δ=>∃(Q:List (List Int))(m g:Nat)(c3 c4:Slot),δ=[zs (.ig ns),zs (da Q (g:Int)),zs (EU (Q0.map x4) g0),c3,c4]/\bc Q m/\m<=4/\dz Q=Q/\Kq (Q0.map x4) g0 (Q.map x4) g) ⟨Q0,m0,g0,none,none,rfl,s0,by omega,n0,Kq.refl _ _⟩ ?_ ?_
 ·rintro i hi δ ⟨Q,m,g,c3,c4,rfl,s,hm,hq,kq⟩
  obtain⟨_,e3,Q',m',g',rfl,s',M0,Q1,Ww⟩:=MM 7 s hq hm (by omega) (nj ns (10+i)) (g:=g);have e3:bt prog 11 37 [da Q (g:Int),.int (nj ns (10+i)),.int 4]=_:=e3;have kk:=kq.trans Ww;have gb:=kk.1;have a1:bt prog 11 38 [da Q' (g':Int)]=_:=EV 8 s' M0 (by omega);rw[Qm kk] at a1;have e4:bt prog 11 26 [da Q' (g':Int)]=_:=MO 9 s' Q1 (by omega);have e5:bt prog 11 22 [.ig ns,.int (10+(i:Nat))]=_:=rX 9 ns (10+i);obtain⟨b,e6⟩:=ET Q' Q g' g;have kn:=Qn (Q0.map x4) g0;refine⟨_,?_,Q',m',g',zi (i:Nat),zs (da Q' g'),rfl,s',M0,Q1,kk⟩;generalize EU (Q0.map x4) g0=KD,da Q (g:Int)=S,da Q' (g':Int)=S',((i:Nat):Int)=I at*;refine Me (bN (aT (v:=S') rfl ?_) (bN (e9 (t:=false) ?_ rfl) (bN (e9 (t:=false) ?_ rfl) rfl)))
  ·simp only[ev,ck,cj,cg,Zf,Zi,Zj,Zk,Zl,cw,dq,gV,ZA,e5,e3]
  ·simp only[du,ev,ck,bf,cf,au,ai,aq,cj,cg,Za,ba,bq,Zf,Zi,Zj,Zk,Zl,Zq,dq,gV,Zu,Zv,e4]
  ·cases b<;>simp only[du,ev,ck,bf,cf,au,ai,aq,cj,cg,Za,ba,bq,Zf,Zi,Zj,Zk,Zl,Zo,Zq,cw,dq,gV,Zu,e6,a1,kn]
 ·rintro δ ⟨Q,m,g,c3,c4,rfl,s,hm,hq,kq⟩
  rfl
end L
theorem PySem.Challenge.cw_cordbook_k14_whole_moves_keep_the_sum_holds : PySem.Challenge.rw_cordbook_k14_whole_moves_keep_the_sum.Holds :=
 L.beg fun hn hd hY hf => L2.Snd.walk_law4 (l := PySem.Challenge.rw_cordbook_k14_whole_moves_keep_the_sum) (Pg := L.prog) (f := L.lawId) (j := L.depth) L.law_true rfl hd hY (fun _ _ _ _ _ _ KX Tp hmg => L.all_mk KX Tp (hn ▸ hmg) (hf _) L.depth) (by decide)
